package parse_test

import (
	"fmt"

	"bolthole/parse"
)

// Example is README.md's.
func Example() {
	p, at, e := parse.Decl("var x []*T")
	fmt.Println(p, at, e)
	fmt.Println(parse.Deep(p))
	fmt.Println(parse.Shift(p, 20).Kids[0].From)
	for _, q := range parse.All(p) {
		fmt.Println(q.Kind, q.From, q.To)
	}
	_, at, e = parse.Decl("var x = 1")
	fmt.Println(at, e)
	_, at, e = parse.Decl("func f() { return")
	fmt.Println(at, e)
	// Output:
	// {var x 0 10 [{slice  6 10 [{star  8 10 [{name T 9 10 []}]}]}]} 0 error 0
	// 4
	// 26
	// var 0 10
	// slice 6 10
	// star 8 10
	// name 9 10
	// 6 error 101
	// 17 error 101
}
