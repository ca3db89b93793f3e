package utf_test

import (
	"fmt"

	"bolthole/utf"
)

// Example is README.md's.
func Example() {
	s := "a\U0001f600z"
	fmt.Println(utf.Units(s))
	fmt.Println(utf.Offset(s, 3))
	fmt.Println(utf.Offset(s, 2))
	fmt.Println(utf.Unit(s, 5))
	fmt.Println(utf.Cut(s, 4))
	// Output:
	// 4 error 0
	// 5 error 0
	// 0 error 12
	// 3 error 0
	// a
}
