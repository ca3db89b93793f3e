package lines_test

import (
	"fmt"

	"bolthole/api"
	"bolthole/lines"
)

// Example is README.md's.
func Example() {
	x, e := lines.New("ab\n\U0001f600c")
	fmt.Println(x.Lines(), e)
	line, e := x.Line(1)
	fmt.Println(line == "\U0001f600c", e)
	fmt.Println(x.Offset(api.Place{Line: 1, Unit: 2}))
	fmt.Println(x.Place(7))
	_, e = x.Offset(api.Place{Line: 1, Unit: 1})
	fmt.Println(e)
	// Output:
	// 2 error 0
	// true error 0
	// 7 error 0
	// {1 2} error 0
	// error 51
}
