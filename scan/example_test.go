package scan_test

import (
	"fmt"

	"bolthole/scan"
)

// Example is README.md's.
func Example() {
	l := scan.Scan("x := &y // of y\n")
	fmt.Println(len(l), l[1], l[4])
	fmt.Println(scan.Brief(l))
	fmt.Println(scan.Key("return"), scan.Key("x"))
	fmt.Println(scan.Ends(l[0]), scan.Ends(l[1]))
	// Output:
	// 5 {4 := 2 4} {5  15 16}
	// x := & y ;
	// true false
	// true false
}
