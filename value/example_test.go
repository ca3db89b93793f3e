package value_test

import (
	"fmt"

	"bolthole/api"
	"bolthole/value"
)

// Example is README.md's.
func Example() {
	v, e := value.Read(`{ "a" : {"b": [1, -20]} }`)
	fmt.Println(value.Right(v), e)
	fmt.Println(value.Write(v))
	b, ok := value.Get(v, "a", "b")
	fmt.Println(len(b.List), ok)
	one := value.Value{Sort: api.Number, N: 1}
	fmt.Println(value.Same(b.List[0], one))
	_, e = value.Read("[1,]")
	fmt.Println(e)
	// Output:
	// true error 0
	// {"a":{"b":[1,-20]}} error 0
	// 2 true
	// true
	// error 21
}
