package checks

import "strconv"

// Faults is a T that counts what is wrong.
type Faults int

// Helper does nothing.
func (f *Faults) Helper() {}

// Error counts a fault.
func (f *Faults) Error(...any) { *f++ }

// Fatal does so, too, and lets the check go on.
func (f *Faults) Fatal(...any) { *f++ }

// Expect runs a check, and holds whether it finds a fault.
func Expect(t T, name string, faulty bool, check func(t T)) {
	t.Helper()
	f := new(Faults)
	if check(f); (*f > 0) != faulty {
		t.Error(name+":", strconv.Itoa(int(*f)), "faults")
	}
}
