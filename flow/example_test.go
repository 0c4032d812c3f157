package flow_test

import (
	"fmt"

	"downpour/api"
	"downpour/encode"
	"downpour/flow"
	"downpour/receiver"
)

// The example that README.md shows.
func Example() {
	text := "rain falls on all alike"
	blocks, _ := encode.Cut(text, 4)
	ids := []uint64{1, 2, 3, 4, 5, 6, 7, 8, 9, 10, 11, 12}
	sent, _ := flow.Send(7, blocks, ids)

	open := api.Call{What: api.COpen, Object: 7, K: len(blocks), Size: 4, Cap: 64}
	r, _ := receiver.Do(api.Receiver{}, open)
	r, tally, _ := flow.Feed(r, sent)
	_, reply := receiver.Do(r, api.Call{What: api.CResult, Object: 7})
	if reply.Why != api.OK {
		fmt.Println("too little came")
		return
	}
	back, _ := encode.Join(reply.Blocks, len(text))
	fmt.Println(tally.Taken, back)
	// Output: 12 rain falls on all alike
}
