package docs_test

import (
	"fmt"

	"bolthole/api"
	"bolthole/docs"
)

// Example is README.md's.
func Example() {
	s := docs.New()
	fmt.Println(s.Open(api.Doc{Name: "b", Version: 2, Text: "hey"}))
	fmt.Println(s.Open(api.Doc{Name: "a", Version: -5}))
	fmt.Println(s.Change("b", 3, api.Edit{Text: "X"}, api.Edit{Text: "Y"}))
	fmt.Println(s.Whole("a", -5, "new"))
	fmt.Println(s.Get("b"))
	fmt.Println(s.All(), s.Size())
	fmt.Println(s.Close("a"), s.Close("a"))
	// Output:
	// error 0
	// error 0
	// error 0
	// error 71
	// {b 3 YXhey} true
	// [{a -5 } {b 3 YXhey}] 5
	// error 0 error 72
}
