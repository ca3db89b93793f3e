package calls_test

import (
	"fmt"

	"bolthole/calls"
	"bolthole/parse"
)

// Example is README.md's.
func Example() {
	f, _, _ := parse.Decl("func f(n int) {\n\tif n > g(h(n)) {\n\t\tf(g(1))\n\t}\n}")
	c := calls.Of(f)
	fmt.Println(c)
	l := []calls.Node{{Name: "f", Calls: c}, {Name: "g", Calls: []string{"f", "k", "print"}}, {Name: "k"}, {Name: "a"}}
	fmt.Println(calls.Groups(l...))
	fmt.Println(calls.Users(l, "k"))
	fmt.Println(calls.Round(l, "f"), calls.Round(l, "k"))
	// Output:
	// [f g h]
	// [[a] [k] [f g]]
	// [f g k]
	// true false
}
