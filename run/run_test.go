package run

import (
	"bytes"
	"fmt"
	"math"
	"slices"
	"testing"

	"splice/api"
	"splice/code"
	"splice/cpu"
)

// base is the first byte's address, full is -1 as a word, and most is the most steps of a run.
const (
	base = 65536
	full = 0xffffffff
	most = 10000000
)

// put answers the instructions' words.
func put(l ...api.Ins) []uint32 {
	var words []uint32
	for _, i := range l {
		w, e := code.Put(i)
		if e != api.OK {
			panic(fmt.Sprintf("%+v is no instruction", i))
		}
		words = append(words, w)
	}
	return words
}

// plain answers the state behind so many steps, done one by one, and how many were done.
func plain(words []uint32, s api.State, fuel int) (api.State, int) {
	n := 0
	for n < fuel && !s.Ended {
		s = cpu.Step(words, s)
		n++
	}
	return s, n
}

// trace answers what a state came to.
func trace(s api.State, n int) api.Trace {
	return api.Trace{Out: s.Out, Ended: s.Ended, Code: s.Code, Fault: s.Fault, Mem: s.Mem.Bytes, Steps: n}
}

// text tells all of a state or a trace; nil and empty lists are told alike.
func text(x any) string { return fmt.Sprintf("%+v", x) }

// whole answers the list and the room behind it.
func whole[T any](l []T) []T { return l[:cap(l)] }

// ownList answers a list that has the same, and the same room behind it, in memory of its own.
func ownList[T any](l []T) []T { return slices.Clone(whole(l))[:len(l)] }

// copied answers the state with lists of its own, which have the room behind their lengths, too.
func copied(s api.State) api.State {
	s.Back, s.Mem.Bytes, s.In, s.Out = ownList(s.Back), ownList(s.Mem.Bytes), ownList(s.In), ownList(s.Out)
	return s
}

// withRoom tells all of a state, and the room behind its lists' lengths.
func withRoom(s api.State) string {
	return text(s) + text([]any{whole(s.Back), whole(s.Mem.Bytes), whole(s.In), whole(s.Out)})
}

// program is an image with an input, and the trace of its run to the end.
type program struct {
	name string
	m    api.Image
	in   []byte
	want api.Trace
}

// ends are programs of a few words, one for each end that there is.
func ends() []program {
	none, trap := api.Ins{Op: api.OpNone}, api.Ins{Op: api.OpTrap}
	high := api.Ins{Op: api.OpHigh, A: 1, Imm: 1}
	halt := api.Ins{Op: api.OpHalt, A: 1}
	four := []byte{1, 2, 3, 4}
	fault := func(which, steps int, mem ...byte) api.Trace {
		return api.Trace{Ended: true, Fault: which, Mem: mem, Steps: steps}
	}
	return []program{
		{"Halt 0", api.Image{Code: put(api.Ins{Op: api.OpHalt})}, nil, fault(0, 1)},
		{"Halt 1", api.Image{Code: put(api.Ins{Op: api.OpAddi, A: 1, Imm: -7}, halt)}, nil, api.Trace{Ended: true, Code: 0xfffffff9, Steps: 2}},
		{"Trap", api.Image{Code: put(trap)}, nil, fault(api.FaultTrap, 1)},
		{"None, Trap", api.Image{Code: put(none, trap), Data: four}, nil, fault(api.FaultTrap, 2, four...)},
		{"no code", api.Image{}, nil, fault(api.FaultCode, 1)},
		{"no code, but data", api.Image{Data: four, More: 1}, nil, fault(api.FaultCode, 1, 1, 2, 3, 4, 0)},
		{"behind the code", api.Image{Code: put(none)}, nil, fault(api.FaultCode, 2)},
		{"entry behind the code", api.Image{Code: put(none), Entry: 1}, nil, fault(api.FaultCode, 1)},
		{"the greatest entry", api.Image{Code: put(none), Entry: 1 << 20}, nil, fault(api.FaultCode, 1)},
		{"ahead of the code", api.Image{Code: put(none, api.Ins{Op: api.OpJump, Imm: -3})}, nil, fault(api.FaultCode, 3)},
		{"no instruction", api.Image{Code: []uint32{0x18000000, 0x1a000000}}, nil, fault(api.FaultCode, 2)},
		{"Load of 0", api.Image{Code: put(api.Ins{Op: api.OpLoad, A: 2}), Data: four}, nil, fault(api.FaultLoad, 1, four...)},
		{"Load not aligned", api.Image{Code: put(high, api.Ins{Op: api.OpLoad, A: 2, B: 1, Imm: 2}), Data: four, More: 4}, nil, fault(api.FaultLoad, 2, 1, 2, 3, 4, 0, 0, 0, 0)},
		{"Ldb behind the end", api.Image{Code: put(high, api.Ins{Op: api.OpLdb, A: 2, B: 1, Imm: 4}), Data: four}, nil, fault(api.FaultLoad, 2, four...)},
		{"Save ahead of Write", api.Image{Code: put(high, api.Ins{Op: api.OpSave, A: 1, B: 1}), Data: four, Write: 1}, nil, fault(api.FaultSave, 2, four...)},
		{"Stb ahead of Write", api.Image{Code: put(high, api.Ins{Op: api.OpStb, A: 1, B: 1, Imm: 3}), Data: four, Write: 4, More: 1}, nil, fault(api.FaultSave, 2, 1, 2, 3, 4, 0)},
		{"Ret of none", api.Image{Code: put(api.Ins{Op: api.OpRet})}, nil, fault(api.FaultRet, 1)},
		{"Ret of none behind a call", api.Image{Code: put(api.Ins{Op: api.OpCall}, api.Ins{Op: api.OpRet})}, nil, fault(api.FaultRet, 3)},
		{"entry behind a Trap", api.Image{Code: put(trap, none, halt), Entry: 1}, nil, fault(0, 2)},
	}
}

// works are programs with loops, calls, loads and saves, input and output.
func works() []program {
	sum := put(
		api.Ins{Op: api.OpAddi, A: 1, Imm: 10},
		api.Ins{Op: api.OpAdd, A: 2, B: 2, C: 1},
		api.Ins{Op: api.OpAddi, A: 1, B: 1, Imm: -1},
		api.Ins{Op: api.OpBne, A: 1, Imm: -3},
		api.Ins{Op: api.OpHalt, A: 2},
	)
	// Each byte of input but the last is put out twice, by a function: it and 1, and it times 2.
	twice := put(
		api.Ins{Op: api.OpIn, A: 1},
		api.Ins{Op: api.OpBlt, A: 1, Imm: 2},
		api.Ins{Op: api.OpCall, Imm: 2},
		api.Ins{Op: api.OpJump, Imm: -4},
		api.Ins{Op: api.OpHalt, A: 1},
		api.Ins{Op: api.OpAddi, A: 2, B: 1, Imm: 1},
		api.Ins{Op: api.OpOut, A: 2},
		api.Ins{Op: api.OpAdd, A: 2, B: 1, C: 1},
		api.Ins{Op: api.OpOut, A: 2},
		api.Ins{Op: api.OpRet},
	)
	// The words of the fixed data are summed up behind it, the sum's lowest byte once more behind that; then there is a Trap.
	sums := put(
		api.Ins{Op: api.OpHigh, A: 1, Imm: 1},
		api.Ins{Op: api.OpLoad, A: 2, B: 1},
		api.Ins{Op: api.OpLoad, A: 3, B: 1, Imm: 4},
		api.Ins{Op: api.OpAdd, A: 2, B: 2, C: 3},
		api.Ins{Op: api.OpSave, A: 2, B: 1, Imm: 8},
		api.Ins{Op: api.OpLdb, A: 4, B: 1, Imm: 8},
		api.Ins{Op: api.OpStb, A: 4, B: 1, Imm: 13},
		api.Ins{Op: api.OpOut, A: 4},
		api.Ins{Op: api.OpTrap},
	)
	// A function that calls itself once a byte of input, and puts the bytes out on its ways back; the entry stands behind it.
	turned := put(
		api.Ins{Op: api.OpIn, A: 1},
		api.Ins{Op: api.OpBlt, A: 1, Imm: 6},
		api.Ins{Op: api.OpStb, A: 1, B: 2},
		api.Ins{Op: api.OpAddi, A: 2, B: 2, Imm: 1},
		api.Ins{Op: api.OpCall, Imm: -5},
		api.Ins{Op: api.OpAddi, A: 2, B: 2, Imm: -1},
		api.Ins{Op: api.OpLdb, A: 1, B: 2},
		api.Ins{Op: api.OpOut, A: 1},
		api.Ins{Op: api.OpRet},
		api.Ins{Op: api.OpHigh, A: 2, Imm: 1},
		api.Ins{Op: api.OpCall, Imm: -11},
		api.Ins{Op: api.OpHalt, A: 2},
	)
	return []program{
		{"sum", api.Image{Code: sum}, nil, api.Trace{Ended: true, Code: 55, Steps: 32}},
		{"twice", api.Image{Code: twice, Data: []byte{5}}, []byte{3, 200}, api.Trace{Out: []byte{4, 6, 201, 144}, Ended: true, Code: full, Mem: []byte{5}, Steps: 21}},
		{"twice, of nothing", api.Image{Code: twice}, nil, api.Trace{Ended: true, Code: full, Steps: 3}},
		{"sums", api.Image{Code: sums, Data: []byte{1, 2, 3, 4, 0xff, 0xff, 0, 0}, Write: 8, More: 6}, []byte{9},
			api.Trace{Out: []byte{0}, Ended: true, Fault: api.FaultTrap, Mem: []byte{1, 2, 3, 4, 0xff, 0xff, 0, 0, 0, 2, 4, 4, 0, 0}, Steps: 9}},
		{"turned", api.Image{Code: turned, Entry: 9, More: 4}, []byte{7, 8, 9}, api.Trace{Out: []byte{9, 8, 7}, Ended: true, Code: base, Mem: []byte{7, 8, 9, 0}, Steps: 33}},
		{"turned, of too much", api.Image{Code: turned, Entry: 9, More: 2}, []byte{7, 8, 9}, api.Trace{Ended: true, Fault: api.FaultSave, Mem: []byte{7, 8}, Steps: 15}},
	}
}

// programs are all of these.
func programs() []program { return append(ends(), works()...) }

// P7.1: the trace of each program's run with just enough fuel, one more, and much more.
func TestDo(t *testing.T) {
	for _, p := range programs() {
		n := p.want.Steps
		for _, fuel := range []int{n, n + 1, n + 2, 3 * n, most - 1, most, most + 1, math.MaxInt32, math.MaxInt} {
			if got := Do(p.m, p.in, fuel); text(got) != text(p.want) {
				t.Errorf("%s, %d: %+v, want %+v", p.name, fuel, got, p.want)
			}
		}
	}
}

// P7.1: with less fuel than it needs a run isn't ended, and its trace is as far as it came; of fuel below 0 that is nowhere.
func TestDoOfLessFuel(t *testing.T) {
	for _, p := range programs() {
		for _, fuel := range []int{math.MinInt, math.MinInt32, -most, -2, -1, 0} {
			want := api.Trace{Mem: cpu.New(p.m, p.in).Mem.Bytes}
			if got := Do(p.m, p.in, fuel); text(got) != text(want) {
				t.Errorf("%s, %d: %+v, want %+v", p.name, fuel, got, want)
			}
		}
		for fuel := range p.want.Steps {
			got, want := Do(p.m, p.in, fuel), trace(plain(p.m.Code, cpu.New(p.m, p.in), fuel))
			if text(got) != text(want) || got.Ended || got.Code != 0 || got.Fault != 0 || got.Steps != fuel {
				t.Errorf("%s, %d: %+v, want %+v", p.name, fuel, got, want)
			}
		}
	}
}

// P7.1: fuel that ends amid output and saves: what is done is told, and no more.
func TestDoAmid(t *testing.T) {
	for _, x := range []struct {
		name string
		fuel int
		out  string
		mem  string
	}{
		{"twice", 4, "[]", "[5]"}, {"twice", 5, "[4]", "[5]"}, {"twice", 6, "[4]", "[5]"}, {"twice", 7, "[4 6]", "[5]"}, {"twice", 13, "[4 6]", "[5]"}, {"twice", 14, "[4 6 201]", "[5]"},
		{"turned", 4, "[]", "[0 0 0 0]"}, {"turned", 5, "[]", "[7 0 0 0]"}, {"turned", 10, "[]", "[7 8 0 0]"}, {"turned", 22, "[]", "[7 8 9 0]"}, {"turned", 23, "[9]", "[7 8 9 0]"}, {"turned", 27, "[9 8]", "[7 8 9 0]"},
	} {
		for _, p := range works() {
			if p.name != x.name {
				continue
			}
			if got := Do(p.m, p.in, x.fuel); text(got.Out) != x.out || text(got.Mem) != x.mem || got.Ended || got.Steps != x.fuel {
				t.Errorf("%s, %d: %+v", x.name, x.fuel, got)
			}
		}
	}
}

// P7.1: the chapter's example, and the least image there is.
func TestDoOfLeast(t *testing.T) {
	for _, m := range []api.Image{{}, {Code: []uint32{}, Data: []byte{}}} {
		for _, in := range [][]byte{nil, {}, {1}} {
			for fuel, want := range []string{text(api.Trace{}), text(api.Trace{Ended: true, Fault: api.FaultCode, Steps: 1})} {
				if got := Do(m, in, fuel); text(got) != want {
					t.Errorf("%d: %+v, want %s", fuel, got, want)
				}
			}
		}
	}
}

// amid is a right state amid a run, whose lists have room behind their lengths: no two of its lists and registers are alike.
func amid() api.State {
	s := api.State{
		At:   0,
		Back: []int{5, 6, 1, -7, -8}[:3],
		Mem:  api.Mem{Write: 4, Bytes: []byte{1, 2, 3, 4, 5, 6, 7, 8, 0xe1, 0xe2, 0xe3, 0xe4}[:8]},
		In:   []byte{0xc1, 0xc2, 0xc3, 0xe5, 0xe6}[:3],
		Out:  []byte{9, 8, 0xe7, 0xe8, 0xe9}[:2],
	}
	for k := range s.R {
		s.R[k] = uint32(k) * 0x01010203
	}
	s.R[5] = base + 4
	return s
}

// all is a program in which each of a state's lists gets more, or less, in turn.
func all() []uint32 {
	return put(
		api.Ins{Op: api.OpRet},
		api.Ins{Op: api.OpIn, A: 1},
		api.Ins{Op: api.OpOut, A: 1},
		api.Ins{Op: api.OpSave, A: 1, B: 5},
		api.Ins{Op: api.OpCall, Imm: -5},
		api.Ins{Op: api.OpAddi, A: 2, B: 2, Imm: 1},
		api.Ins{Op: api.OpCall, Imm: 1},
		api.Ins{Op: api.OpTrap},
		api.Ins{Op: api.OpStb, A: 2, B: 5, Imm: 1},
		api.Ins{Op: api.OpCall},
		api.Ins{Op: api.OpRet},
	)
}

// P7.1: the state behind the steps from one amid a run, written out: its lists, places to go back to among them.
func TestFrom(t *testing.T) {
	s := amid()
	want := copied(s)
	for _, x := range []struct {
		steps  int
		change func()
	}{
		{0, func() {}},
		{1, func() { want.At, want.Back = 1, []int{5, 6} }},
		{2, func() { want.At, want.R[1], want.In = 2, 0xc1, []byte{0xc2, 0xc3} }},
		{3, func() { want.At, want.Out = 3, []byte{9, 8, 0xc1} }},
		{4, func() { want.At, want.Mem.Bytes = 4, []byte{1, 2, 3, 4, 0xc1, 0, 0, 0} }},
		{5, func() { want.At, want.Back = 0, []int{5, 6, 5} }},
		{6, func() { want.At, want.Back = 5, []int{5, 6} }},
		{7, func() { want.At, want.R[2] = 6, 0x02020407 }},
		{8, func() { want.At, want.Back = 8, []int{5, 6, 7} }},
		{9, func() { want.At, want.Mem.Bytes = 9, []byte{1, 2, 3, 4, 0xc1, 7, 0, 0} }},
		{10, func() { want.At, want.Back = 10, []int{5, 6, 7, 10} }},
		{11, func() { want.Back = []int{5, 6, 7} }},
		{12, func() { want.At, want.Back = 7, []int{5, 6} }},
		{13, func() { want.Ended, want.Fault = true, api.FaultTrap }},
	} {
		x.change()
		if got, n := From(all(), s, x.steps); n != x.steps || text(got) != text(want) {
			t.Errorf("%d: %d, %s, want %s", x.steps, n, text(got), text(want))
		}
	}
	for _, fuel := range []int{14, 15, 1000, most, most + 1, math.MaxInt} {
		if got, n := From(all(), s, fuel); n != 13 || text(got) != text(want) {
			t.Errorf("%d: %d, %s, want %s", fuel, n, text(got), text(want))
		}
	}
}

// P7.1: with no fuel, or less, no step is done.
func TestFromOfNoFuel(t *testing.T) {
	for _, fuel := range []int{math.MinInt, math.MinInt32, -most - 1, -most, -1, 0} {
		for _, s := range []api.State{amid(), {}, {At: 5}} {
			if got, n := From(all(), s, fuel); n != 0 || text(got) != text(s) {
				t.Errorf("%d: %d, %s, want %s", fuel, n, text(got), text(s))
			}
		}
	}
}

// P7.1: of a state that ended no step is done, whatever it ended with, and whatever stands at its place.
func TestFromOfEnded(t *testing.T) {
	for fault := range api.FaultRet + 1 {
		for _, words := range [][]uint32{nil, all(), put(api.Ins{Op: api.OpHalt}), put(api.Ins{Op: api.OpJump, Imm: -1})} {
			for _, fuel := range []int{math.MinInt, -1, 0, 1, 2, 100, most, math.MaxInt} {
				s := amid()
				s.Ended, s.Code, s.Fault = true, 77, fault
				if got, n := From(words, s, fuel); n != 0 || text(got) != text(s) {
					t.Errorf("%d: %d, %s, want %s", fuel, n, text(got), text(s))
				}
				if got, n := From(words, api.State{Ended: true, Fault: fault}, fuel); n != 0 || text(got) != text(api.State{Ended: true, Fault: fault}) {
					t.Errorf("%d: %d, %s", fuel, n, text(got))
				}
			}
		}
	}
}

// P7.1: the least state there is.
func TestFromOfLeast(t *testing.T) {
	for _, words := range [][]uint32{nil, {}} {
		for _, s := range []api.State{{}, {Back: []int{}, Mem: api.Mem{Bytes: []byte{}}, In: []byte{}, Out: []byte{}}} {
			for _, fuel := range []int{1, 2, math.MaxInt} {
				want := api.State{Ended: true, Fault: api.FaultCode}
				if got, n := From(words, s, fuel); n != 1 || text(got) != text(want) {
					t.Errorf("%d: %d, %s, want %s", fuel, n, text(got), text(want))
				}
			}
		}
	}
}

// count answers a program that ends with its last step of steps (from 6 on), which are even: 3 are no part of its loop.
func count(steps int) []uint32 {
	k := (steps - 4) / 2
	return put(
		api.Ins{Op: api.OpNone},
		api.Ins{Op: api.OpHigh, A: 1, Imm: k >> 16},
		api.Ins{Op: api.OpOri, A: 1, B: 1, Imm: k & 0xffff},
		api.Ins{Op: api.OpAddi, A: 1, B: 1, Imm: -1},
		api.Ins{Op: api.OpBne, A: 1, Imm: -2},
		api.Ins{Op: api.OpHalt, A: 1},
	)
}

// P7.1: fuel above 10000000 is that many: who ends with the step 10000000 ends, and who ends with the next one doesn't.
func TestMostFuel(t *testing.T) {
	just, over := count(most), append(put(api.Ins{Op: api.OpNone}), count(most)...)
	for _, x := range []struct {
		words []uint32
		fuel  int
		steps int
		ended bool
	}{
		{just, most - 1, most - 1, false},
		{just, most, most, true},
		{just, math.MaxInt, most, true},
		{over, most, most, false},
		{over, most + 1, most, false},
		{over, math.MaxInt, most, false},
	} {
		if got := Do(api.Image{Code: x.words}, nil, x.fuel); got.Steps != x.steps || got.Ended != x.ended {
			t.Errorf("%d words, %d: %+v", len(x.words), x.fuel, got)
		}
	}
	s, n := From(over, api.State{}, math.MaxInt)
	if n != most || s.Ended {
		t.Errorf("%d, %s", n, text(s))
	}
	if s, n = From(over, s, math.MaxInt); n != 1 || !s.Ended || s.At != 6 {
		t.Errorf("behind that: %d, %s", n, text(s))
	}
}

// P1: a function that calls itself without end needs no more time for a call where it is deep.
func TestDeepCalls(t *testing.T) {
	const deep = 1000000
	words := put(api.Ins{Op: api.OpIn, A: 1}, api.Ins{Op: api.OpBlt, A: 1, Imm: 2}, api.Ins{Op: api.OpCall, Imm: -3}, api.Ins{Op: api.OpOut, A: 0}, api.Ins{Op: api.OpRet})
	s, n := From(words, api.State{In: make([]byte, deep)}, 3*deep)
	if n != 3*deep || s.Ended || len(s.Back) != deep || len(s.In) != 0 || s.At != 0 {
		t.Fatalf("%d steps, %d places, %d bytes, at %d", n, len(s.Back), len(s.In), s.At)
	}
	for k, x := range s.Back {
		if x != 3 {
			t.Fatalf("the place %d is %d", k, x)
		}
	}
	s, n = From(words, s, most)
	if n != 2+2*deep+1 || !s.Ended || s.Fault != api.FaultRet || len(s.Back) != 0 || len(s.Out) != api.MaxOut {
		t.Errorf("%d steps, fault %d, %d places, %d bytes", n, s.Fault, len(s.Back), len(s.Out))
	}
}

// chance is a row of numbers, the same in every run of the tests.
type chance uint64

func (c *chance) below(n int) int {
	*c = *c*6364136223846793005 + 1442695040888963407
	return int(uint64(*c)>>33) % n
}

// instruction answers one of some operation, that mostly stays within the code and the memory.
func (c *chance) instruction() api.Ins {
	for {
		i := api.Ins{Op: c.below(api.Ops), A: c.below(5), B: c.below(5), C: c.below(5), Imm: c.below(14) - 6}
		for _, x := range []api.Ins{i, {Op: i.Op, A: i.A, B: i.B, Imm: i.Imm}, {Op: i.Op, A: i.A, B: i.B, C: i.C}, {Op: i.Op, A: i.A, Imm: i.Imm}, {Op: i.Op, A: i.A}, {Op: i.Op, Imm: i.Imm}, {Op: i.Op}} {
			if code.Right(x) {
				return x
			}
		}
	}
}

// made answers a program of a few words, and a state for it; a few of its words are no instructions.
func (c *chance) made() ([]uint32, api.State) {
	var words []uint32
	for range 3 + c.below(20) {
		if c.below(40) == 0 {
			words = append(words, full)
			continue
		}
		words = append(words, put(c.instruction())...)
	}
	s := api.State{At: c.below(3), Mem: api.Mem{Write: c.below(5)}}
	for k := 1; k < 5; k++ {
		s.R[k] = []uint32{0, 1, 3, base, base + 4, base + 8, full}[c.below(7)]
	}
	for range c.below(4) {
		s.Back = append(s.Back, c.below(len(words)))
	}
	for k := range c.below(20) {
		s.Mem.Bytes = append(s.Mem.Bytes, byte(k*3+1))
	}
	for k := range c.below(6) {
		s.In = append(s.In, byte(k*5+1))
	}
	return words, s
}

// P7.1, P7.3: made programs: the run is the steps one by one, whatever its fuel; none panics, and each end is met.
func TestMadePrograms(t *testing.T) {
	c := chance(1)
	met := [api.FaultRet + 1]int{}
	going := 0
	for range 20000 {
		words, s := c.made()
		for _, fuel := range []int{0, 1, 2, 3, 5, 10, 60} {
			want, steps := plain(words, s, fuel)
			got, n := From(words, s, fuel)
			if n != steps || !cpu.Same(got, want) {
				t.Fatalf("%x of %s, %d: %d, %s, want %d, %s", words, text(s), fuel, n, text(got), steps, text(want))
			}
			if got.Ended {
				met[got.Fault]++
			} else {
				going++
			}
		}
	}
	for fault, n := range met {
		if n == 0 || going == 0 {
			t.Errorf("the fault %d is met %d times", fault, n)
		}
	}
}

// P7.3: steps behind one another are as all at once, wherever a run is parted, and whether it has ended by then.
func TestInParts(t *testing.T) {
	part := func(name string, words []uint32, s api.State, fuel int) {
		want, steps := From(words, s, fuel)
		one, ones := s, 0
		for first := range fuel + 1 {
			u, n := From(words, s, first)
			u, k := From(words, u, fuel-first)
			if n+k != steps || text(u) != text(want) {
				t.Errorf("%s, %d of %d: %d and %d, %s, want %d, %s", name, first, fuel, n, k, text(u), steps, text(want))
			}
			if first < fuel {
				one, n = From(words, one, 1)
				ones += n
			}
		}
		if ones != steps || text(one) != text(want) {
			t.Errorf("%s, one by one: %d, %s, want %d, %s", name, ones, text(one), steps, text(want))
		}
	}
	for _, p := range programs() {
		for _, fuel := range []int{p.want.Steps - 1, p.want.Steps, p.want.Steps + 3} {
			part(p.name, p.m.Code, cpu.New(p.m, p.in), fuel)
		}
	}
	part("all", all(), amid(), 15)
	c := chance(2)
	for range 300 {
		words, s := c.made()
		part("made", words, s, 30)
	}
}

// P7.3: who ended with less fuel ends alike with more, with as many steps; and so goes From's state into Do's trace.
func TestMoreFuel(t *testing.T) {
	c := chance(3)
	list := programs()
	for range 500 {
		words, s := c.made()
		list = append(list, program{"made", api.Image{Code: words, Entry: s.At, Data: s.Mem.Bytes, Write: s.Mem.Write, More: c.below(4)}, s.In, api.Trace{}})
	}
	for _, p := range list {
		var last api.Trace
		for fuel := range 50 {
			x := Do(p.m, p.in, fuel)
			if want := trace(From(p.m.Code, cpu.New(p.m, p.in), fuel)); text(x) != text(want) {
				t.Errorf("%s, %d: %+v, want %+v", p.name, fuel, x, want)
			}
			if last.Ended && (!Alike(last, x) || text(last) != text(x)) {
				t.Errorf("%s, %d: %+v, with less %+v", p.name, fuel, x, last)
			}
			last = x
		}
	}
}

// traces are such that no two of them are alike: they differ in one thing alone from the first, each of a trace's fields but Steps at least once.
func traces(from api.Trace) []api.Trace {
	l := []api.Trace{from}
	vary := func(change func(x *api.Trace)) {
		x := from
		x.Out, x.Mem = slices.Clone(x.Out), slices.Clone(x.Mem)
		change(&x)
		l = append(l, x)
	}
	vary(func(x *api.Trace) { x.Ended = !x.Ended })
	vary(func(x *api.Trace) { x.Code++ })
	vary(func(x *api.Trace) { x.Code += 1 << 31 })
	vary(func(x *api.Trace) { x.Fault++ })
	vary(func(x *api.Trace) { x.Fault = -1 })
	vary(func(x *api.Trace) { x.Fault += 1 << 32 })
	vary(func(x *api.Trace) { x.Out = append(x.Out, 0) })
	vary(func(x *api.Trace) { x.Mem = append(x.Mem, 0) })
	if len(from.Out) == 0 {
		return l
	}
	vary(func(x *api.Trace) { x.Out = nil })
	vary(func(x *api.Trace) { x.Out = x.Out[:1] })
	vary(func(x *api.Trace) { x.Out[0]++ })
	vary(func(x *api.Trace) { x.Out[2]++ })
	vary(func(x *api.Trace) { slices.Reverse(x.Out) })
	vary(func(x *api.Trace) { x.Mem = nil })
	vary(func(x *api.Trace) { x.Mem = x.Mem[1:] })
	vary(func(x *api.Trace) { x.Mem[0]++ })
	vary(func(x *api.Trace) { x.Mem[2]++ })
	vary(func(x *api.Trace) { slices.Reverse(x.Mem) })
	vary(func(x *api.Trace) { x.Out, x.Mem = x.Mem, x.Out })
	return l
}

// P7.2: traces are alike, if and only if they differ in nothing but Steps.
func TestAlike(t *testing.T) {
	for _, from := range []api.Trace{
		{},
		{Ended: true, Fault: api.FaultCode, Steps: 1},
		{Out: []byte{1, 2, 3}, Ended: true, Code: 5, Fault: 3, Mem: []byte{4, 5, 6}, Steps: 7},
	} {
		l := traces(from)
		for j, a := range l {
			for k, b := range l {
				for _, steps := range []int{0, 1, 7, most, -1, math.MaxInt, math.MinInt} {
					b.Steps = steps
					if got := Alike(a, b); got != (j == k) {
						t.Errorf("Alike(%+v, %+v) = %v", a, b, got)
					}
				}
			}
		}
	}
}

// P7.2: nil and empty lists are alike, and the room behind lists' lengths doesn't count; the lists may be one memory, or two.
func TestAlikeOfLists(t *testing.T) {
	room := []byte{1, 2, 3, 4, 5}
	for _, l := range [][]api.Trace{
		{{}, {Out: []byte{}}, {Mem: []byte{}}, {Out: []byte{}, Mem: []byte{}, Steps: 3}, {Out: room[:0], Mem: room[2:2]}},
		{{Out: []byte{1, 2}, Mem: []byte{3}}, {Out: room[:2], Mem: room[2:3]}, {Out: room[:2:2], Mem: room[2:3:3]}},
		{{Out: []byte{1}, Mem: []byte{1}}, {Out: room[:1], Mem: room[:1]}},
	} {
		for _, a := range l {
			for _, b := range l {
				if !Alike(a, b) {
					t.Errorf("%+v isn't %+v", a, b)
				}
			}
		}
	}
	if text(room) != "[1 2 3 4 5]" {
		t.Errorf("the lists became %v", room)
	}
}

// spoil changes all of the list, and the room behind it.
func spoil[T int | byte | uint32](l []T) {
	for k := range whole(l) {
		whole(l)[k] += 101
	}
}

// spoilState changes all of the state's lists, and the room behind them.
func spoilState(s api.State) {
	spoil(s.Back)
	spoil(s.Mem.Bytes)
	spoil(s.In)
	spoil(s.Out)
}

// P7.4: the code and the state's lists stay, and the room behind them, however far the run goes; what comes is new memory.
func TestFromStays(t *testing.T) {
	for _, ended := range []bool{false, true} {
		for fuel := -1; fuel < 16; fuel++ {
			s := amid()
			s.Ended = ended
			words := append(all(), 1, 2, 3)[:len(all())]
			stood, room := withRoom(s), text(whole(words))
			first, _ := From(words, s, fuel)
			second, _ := From(words, s, fuel)
			if withRoom(s) != stood || text(whole(words)) != room {
				t.Fatalf("%d: what was handed in became %s, %x", fuel, withRoom(s), whole(words))
			}
			want := text(second)
			spoilState(first)
			if withRoom(s) != stood || text(whole(words)) != room || text(second) != want {
				t.Errorf("%d: of a changed answer came %s and %s", fuel, withRoom(s), text(second))
			}
			spoilState(s)
			spoil(words)
			if text(second) != want {
				t.Errorf("%d: of a changed state came %s, want %s", fuel, text(second), want)
			}
		}
	}
}

// P7.4: no two lists of an answer are one memory, though those of the state handed in are.
func TestFromApart(t *testing.T) {
	for fuel := range 15 {
		s := amid()
		one := []byte{0xc1, 0xc2, 0xc3, 4, 5, 6, 7, 8}
		s.In, s.Out, s.Mem.Bytes = one[:3], one[:2], one
		u, _ := From(all(), s, fuel)
		mem, in, back := text(u.Mem.Bytes), text(u.In), text(u.Back)
		spoil(u.Out)
		if text(u.In) != in || text(u.Mem.Bytes) != mem {
			t.Errorf("%d: behind a changed Out %s", fuel, text(u))
		}
		spoil(u.In)
		if text(u.Mem.Bytes) != mem || text(u.Back) != back {
			t.Errorf("%d: behind a changed In %s", fuel, text(u))
		}
	}
}

// P7.4: runs that go on from one state don't meet in one memory.
func TestFromTwice(t *testing.T) {
	for fuel := range 13 {
		s, _ := From(all(), amid(), fuel)
		one, other := s, s
		one.R[2], other.R[2] = 1, 2
		first, _ := From(all(), one, 20)
		told := text(first)
		From(all(), other, 20)
		From(put(api.Ins{Op: api.OpCall, Imm: -1}, api.Ins{Op: api.OpOut}), api.State{Back: s.Back, Out: s.Out}, 20)
		if text(first) != told {
			t.Errorf("behind %d steps: %s became %s", fuel, told, text(first))
		}
	}
}

// P7.4: an image's lists and the input stay, and the room behind them, however far the run goes; what comes is new memory.
func TestDoStays(t *testing.T) {
	for _, p := range works() {
		for fuel := -1; fuel < p.want.Steps+2; fuel++ {
			m := p.m
			m.Code, m.Data = append(slices.Clone(m.Code), 1, 2, 3)[:len(m.Code)], append(slices.Clone(m.Data), 1, 2, 3)[:len(m.Data)]
			in := append(slices.Clone(p.in), 4, 5, 6)[:len(p.in)]
			handed := func() string { return text([]any{whole(m.Code), whole(m.Data), whole(in), m}) }
			stood := handed()
			first, second := Do(m, in, fuel), Do(m, in, fuel)
			if handed() != stood {
				t.Fatalf("%s, %d: what was handed in became %s", p.name, fuel, handed())
			}
			want := text(second)
			spoil(first.Out)
			if !bytes.Equal(first.Mem, second.Mem) {
				t.Errorf("%s, %d: behind a changed Out %+v", p.name, fuel, first)
			}
			spoil(first.Mem)
			if handed() != stood || text(second) != want {
				t.Errorf("%s, %d: of a changed answer came %s and %+v", p.name, fuel, handed(), second)
			}
			spoil(m.Code)
			spoil(m.Data)
			spoil(in)
			if text(second) != want {
				t.Errorf("%s, %d: of a changed image came %+v, want %s", p.name, fuel, second, want)
			}
		}
	}
}

// P1: images and states of which nothing is promised make no call panic, and it ends.
func TestWrongOnes(t *testing.T) {
	loop := put(api.Ins{Op: api.OpAddi, A: 1, B: 1, Imm: 1}, api.Ins{Op: api.OpJump, Imm: -2})
	for _, x := range []int{math.MinInt, math.MinInt32, -1, 1, 1<<20 + 1, 1<<30 + 1, math.MaxInt32, math.MaxInt} {
		if got := Do(api.Image{Code: loop, Entry: x, Write: x}, nil, 100); got.Ended != (x != 1) || got.Ended && (got.Fault != api.FaultCode || got.Steps != 1) {
			t.Errorf("an image of %d: %+v", x, got)
		}
		Do(api.Image{Code: loop, More: x}, nil, 100)
		for op := range api.Ops {
			words := put(api.Ins{Op: op}, api.Ins{Op: op}, api.Ins{Op: api.OpRet})
			for _, at := range []int{x, 0} {
				s := amid()
				s.R[0], s.At, s.Mem.Write, s.Fault, s.Back = 7, at, x, x, []int{x}
				From(words, s, 100)
			}
		}
	}
}
