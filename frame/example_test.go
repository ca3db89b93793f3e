package frame_test

import (
	"fmt"

	"bolthole/frame"
)

// Example is README.md's.
func Example() {
	s, e := frame.Encode("hi", "")
	fmt.Printf("%q %v\n", s, e)
	d := frame.New()
	fmt.Printf("%q\n", d.Feed("junk"+s+"Content-Len"))
	fmt.Println(d.Lost(), d.Left())
	fmt.Printf("%q\n", d.Feed("gth: 3\r\n\r\nabc"))
	// Output:
	// "Content-Length: 2\r\n\r\nhiContent-Length: 0\r\n\r\n" error 0
	// ["hi" ""]
	// 4 11
	// ["abc"]
}
