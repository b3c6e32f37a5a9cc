package carry_test

import (
	"fmt"
	"strconv"
	"strings"
	"testing"

	"hexapla/api"
)

// attrs writes n attributes, k0 and so on, of which the first ones have this many
// different namespaces.
func attrs(n, spaces int) string {
	out := ""
	for i := range n {
		if i < spaces {
			out += fmt.Sprintf(`@{u%d}k%d="" `, i, i)
		} else {
			out += fmt.Sprintf(`@k%d="" `, i)
		}
	}
	return out
}

func TestAngle(t *testing.T) {
	good(t, api.Angle, "<e >", "<{u}e >", `<e @k="v" >`, `<e @k="" @{u}k="<>&\"" "x" <e > " \x7fé" <{v}f @k="1" > >`, "<e <e <e <e <e <e > > > > > >", `<e "\t\n\r" >`, `<e @k="\t\n\r" >`,
		`<xmlns >`, `<e <xmlns > >`, `<e @xmlns1="" @Xmlns="" @xmln="" @xmlns.="" >`, `<e @{u}xmlns="" >`, "<e "+attrs(10, 0)+">", `<e @k="`+strings.Repeat("\x7f", 48)+`" >`)
}

// TestAngleRoot holds that the root must be an Elem, whatever is in it.
func TestAngleRoot(t *testing.T) {
	bad(t, api.Angle, "^null", "^true", "^1", `^""`, `^"x"`, `^"\x01"`, "^[ ]", "^[ <e > ]", "^{ }", `^{ "a": <e > }`, `^[ <e "\x01" > ]`)
}

// TestAngleControls holds each byte below 32, in a Text and in an Attr.
func TestAngleControls(t *testing.T) {
	for b := range byte(33) {
		for _, around := range []string{"%s", "a%s", "%sa", "é%sé", "\t%s\n"} {
			text := strconv.Quote(fmt.Sprintf(around, string([]byte{b})))
			for _, marked := range []string{"<e ^" + text + " >", "<e ^@k=" + text + " >", `<e "x" <e > ^` + text + " <e > >", `<e @k="v" ^@{u}k=` + text + ` "x" >`, "<{u}e <e ^" + text + " > >", `<e <e ^@k=` + text + " > >"} {
				if b >= 32 || b == 9 || b == 10 || b == 13 {
					good(t, api.Angle, strings.Replace(marked, "^", "", 1))
				} else {
					bad(t, api.Angle, marked)
				}
			}
		}
	}
}

func TestAngleXmlns(t *testing.T) {
	bad(t, api.Angle, `<e ^@xmlns="" >`, `<e ^@xmlns="u" >`, `<{u}e ^@xmlns="u" >`, `<e @k="" ^@xmlns="\x01" "\x01" >`, `<e @{u}xmlns="" ^@xmlns="" <e @xmlns="" > >`, `<e "x" <e ^@xmlns="" > <e @xmlns="" > >`)
}

// TestAngleBindings holds elements that need ten bindings, and eleven.
func TestAngleBindings(t *testing.T) {
	for n := 8; n <= 10; n++ {
		good(t, api.Angle, "<e "+attrs(10, n)+">", "<e "+attrs(n, n)+`"x" >`, "<e <e "+attrs(10, n)+"> >", "<{u}e <{u}e "+attrs(10, n)+"> >", "<{u}e "+attrs(9, n)+">")
	}
	good(t, api.Angle, "<{u}e "+attrs(10, 9)+">", "<{u0}e "+attrs(10, 9)+">", "<e <{u}e "+attrs(10, 9)+"> >", "<{u}e <e "+attrs(10, 9)+"> >", "<{u}e <{v}e "+attrs(10, 9)+"> >",
		"<{u}e "+attrs(10, 9)+"<{u}e "+attrs(10, 10)+"> >", "<e "+attrs(10, 10)+"<e "+attrs(10, 10)+"> <{u}e "+attrs(10, 9)+"> >")
	bad(t, api.Angle, "^<{u}e "+attrs(10, 10)+">", "^<{u0}e "+attrs(10, 10)+">", "<e ^<{u}e "+attrs(10, 10)+"> >", "<{u}e ^<e "+attrs(10, 10)+"> >", "<{u}e ^<{v}e "+attrs(10, 10)+"> >",
		"<{u}e <{u}e "+attrs(10, 10)+"^<e "+attrs(10, 10)+"> > >", "<e <{u}e > ^<{u}e "+attrs(10, 10)+"> >", "<{u}e <e > <{u}e "+attrs(10, 10)+"> ^<e "+attrs(10, 10)+"> >",
		"<{u}e <e ^<{u}e "+attrs(10, 10)+"> > >", "<{u}e <e <e "+attrs(10, 10)+"> > ^<{v}e "+attrs(10, 10)+"> >")
	same := `@{u}a="" @{u}b="" @{v}a="" @{v}b="" @{u}c="" `
	good(t, api.Angle, "<{u}e "+same+attrs(5, 5)+">", "<{u}e "+same+`@{w}a="" @{x}a="" @{y}a="" @{u}d="" @{u}f="" >`)
	long := "{" + strings.Repeat("u", 45) + "}"
	good(t, api.Angle, "<"+long+"e @"+long+"k=\"\" "+attrs(9, 8)+">", "<"+long+"e @"+long+"k=\"\" <"+long+"e "+attrs(10, 10)+"> >")
	bad(t, api.Angle, "^<"+long+"e @"+long+"k=\"\" "+attrs(9, 9)+">")
}

// TestAngleOrder holds that an Elem comes ahead of what is in it, and that ahead
// of what follows it.
func TestAngleOrder(t *testing.T) {
	many := attrs(9, 9) + `@{u}k="\x01" "\x01" `
	bad(t, api.Angle, "^<{u}e "+many+">", "<e ^<{u}e "+many+"> >", `<e ^@k="\x01" <{u}e `+many+"> >", `<e ^"\x01" <{u}e `+many+"> >", "<e "+strings.Replace(many, "@{u}k", "^@{u}k", 1)+">",
		`<e @k="" ^@l="\x02" @m="\x01" "\x01" >`, `<e @k="" ^@xmlns="" @m="\x01" >`, `<e @k="" ^@m="\x01" @xmlns="" >`, `<e <e <e ^"\x01" > "\x01" > "\x01" >`, `<e "x" <e > <e ^@xmlns="" "\x01" > >`)
}
