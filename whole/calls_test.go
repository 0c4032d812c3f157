package whole

import (
	"math"
	"reflect"
	"strings"
	"testing"

	"downpour/api"
	"downpour/backsub"
	"downpour/bitrow"
	"downpour/block"
	"downpour/crc"
	"downpour/datagram"
	"downpour/degree"
	"downpour/encode"
	"downpour/equations"
	"downpour/flow"
	"downpour/history"
	"downpour/inactive"
	"downpour/linear"
	"downpour/machine"
	"downpour/matrix"
	"downpour/neighbours"
	"downpour/object"
	"downpour/peel"
	"downpour/random"
	"downpour/receiver"
	"downpour/reduce"
	"downpour/ripple"
	"downpour/sample"
	"downpour/sched"
	"downpour/shard"
	"downpour/solve"
)

// calls are all that the chapters list.
var calls = map[string]any{
	"bitrow.New": bitrow.New, "bitrow.Right": bitrow.Right, "bitrow.Of": bitrow.Of, "bitrow.Places": bitrow.Places, "bitrow.Get": bitrow.Get,
	"bitrow.Xor": bitrow.Xor, "bitrow.And": bitrow.And, "bitrow.First": bitrow.First, "bitrow.Count": bitrow.Count, "bitrow.Like": bitrow.Like,
	"block.Zero": block.Zero, "block.Xor": block.Xor, "block.Sum": block.Sum, "block.Pick": block.Pick, "block.Nought": block.Nought,
	"matrix.Right": matrix.Right, "matrix.One": matrix.One, "matrix.Turn": matrix.Turn, "matrix.Mul": matrix.Mul, "matrix.Apply": matrix.Apply, "matrix.Like": matrix.Like,
	"reduce.Echelon": reduce.Echelon, "reduce.Rank": reduce.Rank, "reduce.Spans": reduce.Spans,
	"backsub.Solve": backsub.Solve, "backsub.Known": backsub.Known, "backsub.Fits": backsub.Fits,
	"random.Start": random.Start, "random.Next": random.Next, "random.Below": random.Below, "random.Shuffle": random.Shuffle, "random.Some": random.Some,
	"degree.Root": degree.Root, "degree.Weights": degree.Weights, "degree.Table": degree.Table, "degree.Pick": degree.Pick,
	"neighbours.Places": neighbours.Places, "neighbours.Row": neighbours.Row, "neighbours.Rows": neighbours.Rows,
	"encode.Cut": encode.Cut, "encode.Join": encode.Join, "encode.Make": encode.Make, "encode.Many": encode.Many,
	"crc.Sum": crc.Sum, "crc.More": crc.More, "crc.Seal": crc.Seal, "crc.Open": crc.Open,
	"datagram.Right": datagram.Right, "datagram.Put": datagram.Put, "datagram.Get": datagram.Get,
	"equations.New": equations.New, "equations.Right": equations.Right, "equations.Add": equations.Add, "equations.Rows": equations.Rows,
	"equations.Sums": equations.Sums, "equations.Rank": equations.Rank, "equations.Bytes": equations.Bytes, "equations.Like": equations.Like,
	"shard.New": shard.New, "shard.Right": shard.Right, "shard.Of": shard.Of, "shard.Add": shard.Add, "shard.All": shard.All, "shard.Locks": shard.Locks, "shard.Like": shard.Like,
	"ripple.Before": ripple.Before, "ripple.Sorted": ripple.Sorted, "ripple.Run": ripple.Run, "ripple.First": ripple.First,
	"peel.Step": peel.Step, "peel.Peel": peel.Peel, "peel.Of": peel.Of,
	"inactive.Make": inactive.Make, "inactive.Choose": inactive.Choose, "inactive.Right": inactive.Right,
	"solve.Core": solve.Core, "solve.Solve": solve.Solve, "solve.Progress": solve.Progress, "solve.Cost": solve.Cost,
	"object.Open": object.Open, "object.Do": object.Do, "object.Right": object.Right, "object.Like": object.Like,
	"receiver.Right": receiver.Right, "receiver.Do": receiver.Do, "receiver.Take": receiver.Take, "receiver.Bytes": receiver.Bytes, "receiver.Like": receiver.Like,
	"sched.New": sched.New, "sched.Right": sched.Right, "sched.Enabled": sched.Enabled, "sched.Step": sched.Step, "sched.Run": sched.Run, "sched.Done": sched.Done, "sched.Like": sched.Like,
	"machine.New": machine.New, "machine.Enabled": machine.Enabled, "machine.Step": machine.Step, "machine.Run": machine.Run, "machine.Done": machine.Done,
	"history.Right": history.Right, "history.Spans": history.Spans, "history.Before": history.Before, "history.Alone": history.Alone, "history.Open": history.Open,
	"linear.Accepts": linear.Accepts, "linear.Order": linear.Order, "linear.Replay": linear.Replay,
	"flow.Send": flow.Send, "flow.Run": flow.Run, "flow.Feed": flow.Feed, "flow.Whole": flow.Whole,
}

var ints = []int{0, 0, 0, 1, 1, 1, 2, 2, 3, 4, 5, 8, 16, 63, 64, 65, 512, 513, -1, -2, 1 << 30, math.MinInt, math.MaxInt}

// anything is a value of a type: often one that may be, and often not.
func anything(s *sample.Seed, t reflect.Type) reflect.Value {
	v := reflect.New(t).Elem()
	if t == reflect.TypeFor[api.Row]() && s.Below(4) > 0 {
		v.Set(reflect.ValueOf(s.Row(s.Below(4), 2)))
		return v
	}
	if t == reflect.TypeFor[api.Matrix]() && s.Below(4) > 0 {
		v.Set(reflect.ValueOf(s.Matrix(s.Below(4), s.Below(4), 2)))
		return v
	}
	switch t.Kind() {
	case reflect.Bool:
		v.SetBool(s.Below(2) == 1)
	case reflect.Int:
		v.SetInt(int64(ints[s.Below(len(ints))]))
	case reflect.Uint32, reflect.Uint64:
		v.SetUint(uint64(ints[s.Below(len(ints))]))
	case reflect.String:
		v.SetString(strings.Repeat("a", []int{0, 0, 1, 1, 1, 2, 64, 65}[s.Below(8)]))
	case reflect.Slice:
		many := []int{0, 1, 1, 2, 2, 3, 4, 9, 17, 65, 257}[s.Below(11)]
		if t.Elem().Kind() == reflect.Slice || t.Elem().Kind() == reflect.Struct {
			many = min(many, 9)
		}
		for range many {
			v.Set(reflect.Append(v, anything(s, t.Elem())))
		}
	case reflect.Struct:
		for i := range t.NumField() {
			v.Field(i).Set(anything(s, t.Field(i).Type))
		}
	}
	return v
}

// told is the error among the results, if there is one, and whether it is in a reply.
func told(out []reflect.Value) (api.Errno, bool) {
	for _, v := range out {
		switch x := v.Interface().(type) {
		case api.Errno:
			return x, false
		case api.Reply:
			return x.Why, true
		}
	}
	return api.OK, false
}

// isNothing tells whether a value is zero, a list without elements counting as none.
func isNothing(v reflect.Value) bool {
	switch v.Kind() {
	case reflect.Slice:
		return v.Len() == 0
	case reflect.Struct:
		for i := range v.NumField() {
			if !isNothing(v.Field(i)) {
				return false
			}
		}
		return true
	}
	return v.IsZero()
}

// TestRules: whatever a call is given, it ends and does not panic (P1), tells the same again (R1), tells nothing beside an error (R2), and changes no list (R4).
func TestRules(t *testing.T) {
	for name, f := range calls {
		s, same := sample.Seed(1), sample.Seed(1)
		call := reflect.ValueOf(f)
		do := call.Call
		if call.Type().IsVariadic() {
			do = call.CallSlice
		}
		for range 400 {
			var in, kept []reflect.Value
			for i := range call.Type().NumIn() {
				in = append(in, anything(&s, call.Type().In(i)))
				kept = append(kept, anything(&same, call.Type().In(i)))
			}
			out := do(in)
			for i := range in {
				if !reflect.DeepEqual(in[i].Interface(), kept[i].Interface()) {
					t.Fatal(name, "changed an argument", in[i], kept[i])
				}
			}
			for i, v := range do(in) {
				if !reflect.DeepEqual(v.Interface(), out[i].Interface()) {
					t.Fatal(name, "told another answer", v, out[i])
				}
			}
			checkBeside(t, name, out)
		}
	}
}

func checkBeside(t *testing.T, name string, out []reflect.Value) {
	t.Helper()
	why, inReply := told(out)
	if why == api.OK {
		return
	}
	for _, v := range out {
		switch x := v.Interface().(type) {
		case api.Errno:
		case api.Reply:
			if x.N != 0 || len(x.Blocks) != 0 {
				t.Fatal(name, "told something beside an error", x)
			}
		default:
			if !inReply && !isNothing(v) {
				t.Fatal(name, "told something beside an error", why, v)
			}
		}
	}
}
