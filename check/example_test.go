package check_test

import (
	"fmt"

	"bolthole/api"
	"bolthole/check"
	"bolthole/parse"
	"bolthole/scope"
	"bolthole/unit"
)

// Example is README.md's.
func Example() {
	s := scope.New(scope.File{Name: "a", Decls: unit.New("type T struct {\n\tn *T\n}\nvar g *T\n").Decls()})
	f, _, _ := parse.Decl("func f(t T, n int) {\n\tfor n > 0 {\n\t\tp := &t\n\t\tp.n = nil\n\t}\n\tg = p\n}")
	vars, faults := check.Func(s, f)
	for _, v := range vars {
		fmt.Println(v.Name, v.Type, v.From, v.Loop)
	}
	for _, x := range faults {
		fmt.Println(x.Kind, x.From, x.To)
	}
	e := api.Part{Kind: "field", Text: "n", Kids: []api.Part{{Kind: "id", Text: "p"}}}
	fmt.Println(check.Types(s, vars, e))
	fmt.Println(check.Types(s, nil, e))
	fmt.Println(check.Goes("nil", "*T"), check.Goes("nil", "int"))
	// Output:
	// t T 7 0
	// n int 12 0
	// p *T 36 1
	// assign 60 65
	// *T true
	//  false
	// true false
}
