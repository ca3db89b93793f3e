package edits_test

import (
	"fmt"

	"bolthole/api"
	"bolthole/edits"
)

// Example is README.md's.
func Example() {
	e := api.Edit{From: api.Place{Line: 0, Unit: 1}, To: api.Place{Line: 1, Unit: 0}, Text: "XYZ"}
	s, err := edits.Apply("ab\ncd", e, api.Edit{Text: "_"})
	fmt.Println(s, err)
	fmt.Println(edits.Move("ab\ncd", e, 3))
	d, err := edits.Between("abcd", "abXd")
	fmt.Println(d, err)
	e.Text = "\xff"
	_, err = edits.Apply("ab\ncd", e)
	fmt.Println(err)
	// Output:
	// _aXYZcd error 0
	// 4 error 0
	// {{0 2} {0 3} X} error 0
	// error 11
}
