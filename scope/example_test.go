package scope_test

import (
	"fmt"

	"bolthole/scope"
	"bolthole/unit"
)

// Example is README.md's.
func Example() {
	a := scope.File{Name: "a", Decls: unit.New("type T struct {\n\tu U\n}\nvar x *T\nvar nil T\n").Decls()}
	b := scope.File{Name: "b", Decls: unit.New("func x() {}\ntype U struct {\n\tp []int\n}\n").Decls()}
	s := scope.New(a, b)
	x, ok := s.Find("x")
	fmt.Println(x.Kind, x.Name, x.File, x.Index, x.Part.Kids[0].Kind, ok)
	for _, l := range [][]scope.Entry{s.All(), s.All("type"), s.Twice()} {
		fmt.Print(len(l), ":")
		for _, e := range l {
			fmt.Print(" ", e.Kind, " ", e.Name, " of ", e.File)
		}
		fmt.Println()
	}
	fmt.Println(s.Type("[]*T"), s.Type("*x"))
	fmt.Println(s.Field("*T", "u"))
	fmt.Println(s.Points("T"), s.Points("int"))
	// Output:
	// var x a 1 star true
	// 3: type T of a type U of b var x of a
	// 2: type T of a type U of b
	// 2: var nil of a func x of b
	// true false
	// U true
	// true false
}
