package rpc_test

import (
	"fmt"

	"bolthole/api"
	"bolthole/rpc"
	"bolthole/value"
)

// Example is README.md's.
func Example() {
	v, _ := value.Read(`{"jsonrpc":"2.0","id":7,"method":"textDocument/hover",
		"params":{"textDocument":{"uri":"a"},"position":{"line":1,"character":2}}}`)
	c, e := rpc.Read(v)
	fmt.Println(c.Kind == rpc.Hover, c.ID.N, c.Name, c.Place, e)
	back, e := rpc.Write(c)
	fmt.Println(value.Same(back, v), e)
	fmt.Println(value.Write(rpc.Reply(c.ID, value.Value{})))
	fmt.Println(value.Write(rpc.Fail(c.ID, api.ErrVersion)))
	fmt.Println(value.Write(rpc.Note("m", value.Value{Sort: api.List})))
	_, e = rpc.Write(rpc.Call{Kind: rpc.Exit, ID: c.ID})
	fmt.Println(e)
	// Output:
	// true 7 a {1 2} error 0
	// true error 0
	// {"jsonrpc":"2.0","id":7,"result":null} error 0
	// {"jsonrpc":"2.0","id":7,"error":{"code":-32801,"message":"ContentModified"}} error 0
	// {"jsonrpc":"2.0","method":"m","params":[]} error 0
	// error 42
}
