package split_test

import (
	"fmt"

	"bolthole/split"
)

// Example is README.md's.
func Example() {
	l := split.Pieces("// of x\nvar x int\nfunc f() {\n}\n")
	fmt.Println(l)
	fmt.Println(split.Of(l, 17), split.Of(l, 31), split.Of(l, 32))
	fmt.Println(split.Touched(l, 18, 20))
	fmt.Println(split.Pieces("x\n"))
	// Output:
	// [{0 8 false false} {8 18 true false} {18 31 true false}]
	// 1 2 -1
	// 1 3
	// [{0 2 false true}]
}
