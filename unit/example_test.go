package unit_test

import (
	"fmt"

	"bolthole/unit"
)

// Example is README.md's.
func Example() {
	u := unit.New("x\nvar a int\nfunc f() { 1 2 }\n")
	for _, d := range u.Decls() {
		fmt.Println(d.From, d.To, d.Part.Kind, d.Part.Text, d.At, d.E)
	}
	fmt.Println(u.Junk(), u.Kept())
	v := u.Again("var b T\n" + u.Text()[2:])
	fmt.Println(v.Kept(), v.Decls()[1].From, len(v.Junk()))
	fmt.Println(unit.Same(v.Decls(), unit.New(v.Text()).Decls()), unit.Same(u.Decls(), v.Decls()))
	// Output:
	// 2 12 var a 0 error 0
	// 12 29   13 error 101
	// [[0 2]] 0
	// 2 8 0
	// true false
}
