package show_test

import (
	"fmt"

	"bolthole/parse"
	"bolthole/show"
)

// Example is README.md's.
func Example() {
	p, _, _ := parse.Decl("func f(a int,b []T){if a<(1){b[0]=(&x).y}}")
	fmt.Println(show.Show(p))
	q := p.Kids[0].Kids[1]
	fmt.Println(show.Shape(q))
	other, _, _ := parse.Decl("func g(b []T) {}")
	fmt.Println(show.Alike(q, other.Kids[0].Kids[0]), show.Alike(p, other))
	// Output:
	// func f(a int, b []T) {
	// 	if a < 1 {
	// 		b[0] = (&x).y
	// 	}
	// }
	// param:b(slice:(name:T()))
	// true false
}
