package cpu

import (
	"bytes"
	"fmt"
	"math"
	"slices"
	"testing"

	"splice/api"
	"splice/code"
)

// base is the first byte's address, and full is -1 as a word.
const (
	base = 65536
	full = 0xffffffff
)

// edges are words at the ends of what is signed and what isn't, small ones, and addresses.
var edges = []uint32{0, 1, 2, 4, 7, 0x7fff, 0x8000, 0xffff, base, base + 4, base + 8, base + 9, 0x7fffffff, 0x80000000, 0x80000001, 0xfffffffe, full}

// put answers the instructions' words.
func put(l ...api.Ins) []uint32 {
	var words []uint32
	for _, i := range l {
		w, e := code.Put(i)
		if e != api.OK {
			panic(fmt.Sprintf("%+v is no instruction", i))
		}
		words = append(words, w)
	}
	return words
}

// start is a right state amid a run: no two of its lists and registers are alike.
func start() api.State {
	s := api.State{
		At:   1,
		Back: []int{3, 7},
		Mem:  api.Mem{Write: 4, Bytes: []byte{0x11, 0x22, 0x33, 0x44, 0x55, 0x66, 0x77, 0x88, 0x99, 0xaa}},
		In:   []byte{0xc1, 2, 3},
		Out:  []byte{9, 8},
	}
	for k := range s.R {
		s.R[k] = uint32(k) * 0x01010203
	}
	return s
}

// behind answers the state behind a step of the instruction, which stands at the state's place.
func behind(i api.Ins, s api.State) api.State {
	words := make([]uint32, s.At+1)
	words[s.At] = put(i)[0]
	return Step(words, s)
}

// text tells all of a state; nil and empty lists are told alike.
func text(s api.State) string { return fmt.Sprintf("%+v", s) }

// clone answers the state with lists of its own, which have the room behind their lengths, too.
func clone(s api.State) api.State {
	s.Back, s.Mem.Bytes, s.In, s.Out = own(s.Back), own(s.Mem.Bytes), own(s.In), own(s.Out)
	return s
}

// own answers a list that has the same, and the same room behind it.
func own[T any](l []T) []T {
	n := make([]T, cap(l))
	copy(n, whole(l))
	return n[:len(l)]
}

// whole answers the list and the room behind it.
func whole[T any](l []T) []T { return l[:cap(l)] }

// check tells where the state isn't as it has to be.
func check(t *testing.T, what any, got, want api.State) {
	t.Helper()
	if text(got) != text(want) {
		t.Errorf("%+v: %s, want %s", what, text(got), text(want))
	}
}

// P6.1: pure instructions, written out: the register A, and nothing else but the place.
func TestPure(t *testing.T) {
	for _, x := range []struct {
		i    api.Ins
		b, c uint32
		want uint32
	}{
		{api.Ins{Op: api.OpAdd, A: 1, B: 2, C: 3}, full, 3, 2},
		{api.Ins{Op: api.OpSub, A: 1, B: 2, C: 3}, 3, 5, 0xfffffffe},
		{api.Ins{Op: api.OpAnd, A: 1, B: 2, C: 3}, 12, 10, 8},
		{api.Ins{Op: api.OpOr, A: 1, B: 2, C: 3}, 12, 10, 14},
		{api.Ins{Op: api.OpXor, A: 1, B: 2, C: 3}, 12, 10, 6},
		{api.Ins{Op: api.OpLess, A: 1, B: 2, C: 3}, full, 1, 1},
		{api.Ins{Op: api.OpLess, A: 1, B: 2, C: 3}, 1, full, 0},
		{api.Ins{Op: api.OpMul, A: 1, B: 2, C: 3}, 0x10001, 0x10001, 0x20001},
		{api.Ins{Op: api.OpAddi, A: 1, B: 2, Imm: -3}, 1, 9, 0xfffffffe},
		{api.Ins{Op: api.OpHigh, A: 1, Imm: 0x8001}, 7, 9, 0x80010000},
		{api.Ins{Op: api.OpOri, A: 1, B: 2, Imm: 0xff00}, 0x1234, 9, 0xff34},
		{api.Ins{Op: api.OpAdd, A: 2, B: 2, C: 2}, 21, 0, 42},
		{api.Ins{Op: api.OpSub, A: 15, B: 2, C: 3}, 21, 1, 20},
		{api.Ins{Op: api.OpAddi, A: 14, B: 0, Imm: -32768}, 9, 9, 0xffff8000},
	} {
		s := start()
		s.R[2], s.R[3] = x.b, x.c
		want := clone(s)
		want.R[x.i.A], want.At = x.want, 2
		check(t, x.i, behind(x.i, s), want)
	}
	want := start()
	want.At = 2
	check(t, "None", behind(api.Ins{Op: api.OpNone}, start()), want)
}

// P6.1: loads of words and bytes, by an address and an Imm; those that may not be loaded end, and nothing else changes.
func TestLoads(t *testing.T) {
	for _, x := range []struct {
		op   int
		b    uint32
		imm  int
		want uint32
		ok   bool
	}{
		{api.OpLoad, base, 0, 0x44332211, true},
		{api.OpLoad, base + 8, -4, 0x88776655, true},
		{api.OpLoad, 4, 0, 0, false},
		{api.OpLoad, base + 8, 0, 0, false},
		{api.OpLoad, base, 2, 0, false},
		{api.OpLoad, base, -4, 0, false},
		{api.OpLoad, base - 32767, 32767, 0x44332211, true},
		{api.OpLoad, base + 32768, -32768, 0x44332211, true},
		{api.OpLoad, 0xfffffffc, 4, 0, false},
		{api.OpLoad, 0, -4, 0, false},
		{api.OpLdb, base, 0, 0x11, true},
		{api.OpLdb, base, 9, 0xaa, true},
		{api.OpLdb, base + 12, -3, 0xaa, true},
		{api.OpLdb, base, 10, 0, false},
		{api.OpLdb, base, -1, 0, false},
		{api.OpLdb, full, 1, 0, false},
		{api.OpLdb, 0, -1, 0, false},
	} {
		s := start()
		s.R[5] = x.b
		want := clone(s)
		if x.ok {
			want.R[4], want.At = x.want, 2
		} else {
			want.Ended, want.Fault = true, api.FaultLoad
		}
		check(t, x, behind(api.Ins{Op: x.op, A: 4, B: 5, Imm: x.imm}, s), want)
	}
}

// P6.1: the register of the address is the one that is loaded into.
func TestLoadOverAddress(t *testing.T) {
	s := start()
	s.R[5] = base
	want := clone(s)
	want.R[5], want.At = 0x88776655, 2
	check(t, "Load 5, 5, 4", behind(api.Ins{Op: api.OpLoad, A: 5, B: 5, Imm: 4}, s), want)
}

// P6.1: saves of words and bytes; those that may not be saved end, and nothing else changes.
func TestSaves(t *testing.T) {
	const w = 0xa1b2c3d4
	for _, x := range []struct {
		op   int
		b    uint32
		imm  int
		want []byte
	}{
		{api.OpSave, base + 4, 0, []byte{0x11, 0x22, 0x33, 0x44, 0xd4, 0xc3, 0xb2, 0xa1, 0x99, 0xaa}},
		{api.OpSave, base + 8, -4, []byte{0x11, 0x22, 0x33, 0x44, 0xd4, 0xc3, 0xb2, 0xa1, 0x99, 0xaa}},
		{api.OpSave, base, 0, nil},
		{api.OpSave, base, 5, nil},
		{api.OpSave, base, 8, nil},
		{api.OpSave, base, -4, nil},
		{api.OpSave, 0, -4, nil},
		{api.OpSave, 0, 4, nil},
		{api.OpSave, 0xfffffffc, 4, nil},
		{api.OpStb, base, 4, []byte{0x11, 0x22, 0x33, 0x44, 0xd4, 0x66, 0x77, 0x88, 0x99, 0xaa}},
		{api.OpStb, base + 10, -1, []byte{0x11, 0x22, 0x33, 0x44, 0x55, 0x66, 0x77, 0x88, 0x99, 0xd4}},
		{api.OpStb, base + 32767, -32758, []byte{0x11, 0x22, 0x33, 0x44, 0x55, 0x66, 0x77, 0x88, 0x99, 0xd4}},
		{api.OpStb, base, 3, nil},
		{api.OpStb, base, 10, nil},
		{api.OpStb, base, -1, nil},
		{api.OpStb, full, 1, nil},
		{api.OpStb, 0, -1, nil},
	} {
		s := start()
		s.R[5], s.R[4] = x.b, w
		want := clone(s)
		if x.want != nil {
			want.Mem.Bytes, want.At = x.want, 2
		} else {
			want.Ended, want.Fault = true, api.FaultSave
		}
		check(t, x, behind(api.Ins{Op: x.op, A: 4, B: 5, Imm: x.imm}, s), want)
	}
}

// P6.1: addresses go round at 2^32 from either end; about the ends of a memory of the most bytes none is taken for another.
func TestAddressesGoRound(t *testing.T) {
	const n = 1 << 20
	for _, x := range []struct {
		b   uint32
		imm int
		at  uint32
		ok  bool
	}{
		{0x0000ffff, 1, base, true},
		{0x00017fff, -32767, base, true},
		{0xffff8000, 32767, full, false},
		{0xffff8001, 32767, 0, false},
		{0xffffffff, 32767, 0x7ffe, false},
		{0x00007fff, -32768, full, false},
		{0x80010000, 0, 0x80010000, false},
		{base + n - 1, 0, base + n - 1, true},
		{base + n, -1, base + n - 1, true},
		{base + n - 1, 1, base + n, false},
	} {
		s := api.State{Mem: api.Mem{Bytes: make([]byte, n)}}
		for k := range s.Mem.Bytes {
			s.Mem.Bytes[k] = byte(k*7 + 1)
		}
		s.R[1], s.R[2] = x.b, 0x1234
		l := behind(api.Ins{Op: api.OpLdb, A: 3, B: 1, Imm: x.imm}, s)
		b := behind(api.Ins{Op: api.OpStb, A: 2, B: 1, Imm: x.imm}, s)
		if !x.ok {
			if !l.Ended || l.Fault != api.FaultLoad || l.R[3] != 0 || !b.Ended || b.Fault != api.FaultSave || !bytes.Equal(b.Mem.Bytes, s.Mem.Bytes) {
				t.Errorf("%+v: %v, %d and %v, %d", x, l.Ended, l.Fault, b.Ended, b.Fault)
			}
			continue
		}
		k := x.at - base
		if l.Ended || l.R[3] != uint32(byte(k*7+1)) || b.Ended || b.Mem.Bytes[k] != 0x34 {
			t.Errorf("%+v: %v, %d, %#x and %v, %d", x, l.Ended, l.Fault, l.R[3], b.Ended, b.Fault)
		}
	}
}

// P6.1: of no byte of input, of one, of more; into the register 0 the byte is taken all the same.
func TestIn(t *testing.T) {
	for _, x := range []struct {
		in   []byte
		want uint32
		left []byte
	}{
		{nil, full, nil},
		{[]byte{}, full, nil},
		{[]byte{5, 6}[:0], full, nil},
		{[]byte{0}, 0, nil},
		{[]byte{0xff}, 0xff, nil},
		{[]byte{0x80, 1}, 0x80, []byte{1}},
		{[]byte{1, 2, 3, 4}, 1, []byte{2, 3, 4}},
	} {
		for a := range api.Regs {
			s := start()
			s.In = x.in
			want := clone(s)
			want.In, want.At = x.left, 2
			if a != 0 {
				want.R[a] = x.want
			}
			check(t, x, behind(api.Ins{Op: api.OpIn, A: a}, s), want)
		}
	}
}

// P6.1: the lowest byte is put out, behind what is there, while that has fewer than 4096 bytes.
func TestOut(t *testing.T) {
	for _, n := range []int{0, 1, 2, 100, 4094, 4095, 4096, 4097, 5000} {
		for _, w := range []uint32{0, 1, 0xff, 0x100, 0x1234, full} {
			s := start()
			s.Out = bytes.Repeat([]byte{0x5a}, n)
			s.R[6] = w
			want := clone(s)
			want.At = 2
			if n < 4096 {
				want.Out = append(want.Out, byte(w%256))
			}
			check(t, fmt.Sprintf("Out of %#x behind %d bytes", w, n), behind(api.Ins{Op: api.OpOut, A: 6}, s), want)
		}
	}
	want := start()
	want.At, want.Out = 2, []byte{9, 8, 0}
	check(t, "Out 0", behind(api.Ins{Op: api.OpOut}, start()), want)
}

// P6.1: branches, taken and not taken, to either side.
func TestBranches(t *testing.T) {
	for _, x := range []struct {
		op    int
		a, b  uint32
		taken bool
	}{
		{api.OpBeq, 5, 5, true}, {api.OpBeq, 5, 4, false}, {api.OpBeq, full, full, true}, {api.OpBeq, 0, 0x80000000, false},
		{api.OpBne, 5, 5, false}, {api.OpBne, 5, 4, true}, {api.OpBne, 0, 0x10000, true}, {api.OpBne, full, full, false},
		{api.OpBlt, 4, 5, true}, {api.OpBlt, 5, 4, false}, {api.OpBlt, 5, 5, false}, {api.OpBlt, full, 0, true}, {api.OpBlt, 0, full, false}, {api.OpBlt, 0x80000000, 0x7fffffff, true},
		{api.OpBge, 4, 5, false}, {api.OpBge, 5, 4, true}, {api.OpBge, 5, 5, true}, {api.OpBge, full, 0, false}, {api.OpBge, 0, full, true}, {api.OpBge, 0x80000000, 0x7fffffff, false},
	} {
		for _, imm := range []int{-128, -2, -1, 0, 1, 2, 127} {
			s := start()
			s.At = 200
			s.R[8], s.R[9] = x.a, x.b
			want := clone(s)
			want.At = 201
			if x.taken {
				want.At = 201 + imm
			}
			check(t, fmt.Sprint(x, imm), behind(api.Ins{Op: x.op, A: 8, B: 9, Imm: imm}, s), want)
		}
	}
}

// P6.1: jumps and calls; a call's place behind it is the last to go back to.
func TestJumpsAndCalls(t *testing.T) {
	for _, imm := range []int{-8388608, -300, -202, -201, -200, -1, 0, 1, 2, 300, 8388607} {
		for _, back := range [][]int{nil, {}, {0}, {1 << 30}, {3, 7, 3}} {
			s := start()
			s.At, s.Back = 200, back
			want := clone(s)
			want.At = 201 + imm
			check(t, fmt.Sprint("Jump ", imm, back), behind(api.Ins{Op: api.OpJump, Imm: imm}, s), want)
			want.Back = append(slices.Clone(back), 201)
			check(t, fmt.Sprint("Call ", imm, back), behind(api.Ins{Op: api.OpCall, Imm: imm}, s), want)
		}
	}
}

// P6.1: back to the last place, which goes; of none it ends.
func TestRet(t *testing.T) {
	for _, x := range []struct {
		back []int
		at   int
		left []int
		ok   bool
	}{
		{nil, 1, nil, false},
		{[]int{}, 1, nil, false},
		{[]int{5, 6}[:0], 1, nil, false},
		{[]int{0}, 0, nil, true},
		{[]int{1}, 1, nil, true},
		{[]int{1 << 30}, 1 << 30, nil, true},
		{[]int{4, 9}, 9, []int{4}, true},
		{[]int{9, 4, 4}, 4, []int{9, 4}, true},
	} {
		s := start()
		s.Back = x.back
		want := clone(s)
		want.At, want.Back = x.at, x.left
		if !x.ok {
			want.Ended, want.Fault = true, api.FaultRet
		}
		check(t, x, behind(api.Ins{Op: api.OpRet}, s), want)
	}
}

// P6.1: Halt ends with its register's word and without a fault, whatever Code and Fault were; Trap leaves Code.
func TestHaltAndTrap(t *testing.T) {
	for _, fault := range []int{api.FaultNone, api.FaultTrap, api.FaultRet, 77} {
		for _, number := range []uint32{0, 5, full} {
			for a := range api.Regs {
				s := start()
				s.Fault, s.Code = fault, number
				want := clone(s)
				want.Ended, want.Code, want.Fault = true, s.R[a], 0
				check(t, "Halt", behind(api.Ins{Op: api.OpHalt, A: a}, s), want)
			}
			s := start()
			s.Fault, s.Code = fault, number
			want := clone(s)
			want.Ended, want.Fault = true, 1
			check(t, "Trap", behind(api.Ins{Op: api.OpTrap}, s), want)
		}
	}
}

// P6.1: Code and Fault of a state that hasn't ended are left alone by what doesn't end it, and Code by a fault.
func TestCodeAndFaultStay(t *testing.T) {
	for op := range api.Ops {
		s := start()
		s.Code, s.Fault = 0x12345678, 4321
		u := behind(api.Ins{Op: op}, s)
		if op == api.OpHalt {
			continue
		}
		if u.Code != s.Code || !u.Ended && u.Fault != s.Fault {
			t.Errorf("the operation %d made %#x, %d of %#x, %d", op, u.Code, u.Fault, s.Code, s.Fault)
		}
	}
}

// P6.1: where there is no word, or it is no instruction, it ends; the last word is one, that behind it isn't, though its array has it.
func TestNoInstruction(t *testing.T) {
	none := put(api.Ins{Op: api.OpNone})[0]
	room := []uint32{none, none, none, none}
	for _, x := range []struct {
		words []uint32
		at    int
		ok    bool
	}{
		{nil, 0, false},
		{[]uint32{}, 0, false},
		{nil, -1, false},
		{nil, 1 << 30, false},
		{room[:3], -1, false},
		{room[:3], -2, false},
		{room[:3], math.MinInt, false},
		{room[:3], 0, true},
		{room[:3], 2, true},
		{room[:3], 3, false},
		{room[:3], 4, false},
		{room[:3], 1 << 30, false},
		{room[:3], 1<<32 + 1, false},
		{room[:3], math.MaxInt, false},
		{[]uint32{0x1a000000}, 0, false},
		{[]uint32{full}, 0, false},
		{[]uint32{0x18000001}, 0, false},
		{[]uint32{0x15100000, none}, 0, false},
		{[]uint32{0x15100000, none}, 1, true},
		{[]uint32{none, 0x07008000}, 1, false},
	} {
		s := start()
		s.At = x.at
		want := clone(s)
		if x.ok {
			want.At++
		} else {
			want.Ended, want.Fault = true, api.FaultCode
		}
		check(t, fmt.Sprintf("%#x at %d", x.words, x.at), Step(x.words, s), want)
	}
}

// P6.1: where a branch, a jump, a call, the way back, or the word that is last leads out of the code, the next step ends there.
func TestOutOfCode(t *testing.T) {
	for _, x := range []struct {
		i  api.Ins
		at int
	}{
		{api.Ins{Op: api.OpBeq, Imm: -3}, -1},
		{api.Ins{Op: api.OpBge, Imm: -128}, -126},
		{api.Ins{Op: api.OpBeq, Imm: 1}, 3},
		{api.Ins{Op: api.OpBeq, Imm: 127}, 129},
		{api.Ins{Op: api.OpBlt, Imm: -128}, 2},
		{api.Ins{Op: api.OpJump, Imm: -3}, -1},
		{api.Ins{Op: api.OpJump, Imm: -8388608}, -8388606},
		{api.Ins{Op: api.OpJump, Imm: 8388607}, 8388609},
		{api.Ins{Op: api.OpCall, Imm: -3}, -1},
		{api.Ins{Op: api.OpCall, Imm: 0}, 2},
		{api.Ins{Op: api.OpRet}, 7},
		{api.Ins{Op: api.OpOut}, 2},
		{api.Ins{Op: api.OpNone}, 2},
	} {
		words := put(api.Ins{Op: api.OpNone}, x.i)
		u := Step(words, start())
		if u.At != x.at || u.Ended {
			t.Errorf("%+v: at %d, ended: %v, want %d", x.i, u.At, u.Ended, x.at)
		}
		want := clone(u)
		want.Ended, want.Fault = true, api.FaultCode
		check(t, x.i, Step(words, u), want)
	}
}

// P6.1, P6.3: a state that ended stays, wherever it is, whatever it ended by, and whatever word is there.
func TestEndedStays(t *testing.T) {
	for op := range api.Ops {
		for _, at := range []int{-1, 0, 1, 2, 1 << 30} {
			for fault := range 6 {
				s := start()
				s.At, s.Ended, s.Code, s.Fault = at, true, 77, fault
				words := put(api.Ins{Op: api.OpNone}, api.Ins{Op: op})
				check(t, fmt.Sprint(op, at, fault), Step(words, s), clone(s))
				check(t, fmt.Sprint("nothing", at, fault), Step(nil, s), clone(s))
				check(t, fmt.Sprint("none", at, fault), Step([]uint32{full, full}, s), clone(s))
			}
		}
	}
}

// P6.1, P6.3: what is written to the register 0 is lost, by each instruction that writes; all else is done, and a fault is one.
func TestRegisterZero(t *testing.T) {
	for _, i := range []api.Ins{
		{Op: api.OpAdd, B: 2, C: 3}, {Op: api.OpSub, B: 2, C: 3}, {Op: api.OpAnd, B: 7, C: 7}, {Op: api.OpOr, B: 2, C: 3}, {Op: api.OpXor, B: 2, C: 3}, {Op: api.OpLess, B: 0, C: 3}, {Op: api.OpMul, B: 2, C: 3},
		{Op: api.OpAddi, B: 2, Imm: 5}, {Op: api.OpAddi, Imm: -1}, {Op: api.OpHigh, Imm: 65535}, {Op: api.OpOri, B: 2, Imm: 65535},
		{Op: api.OpLoad, B: 5}, {Op: api.OpLdb, B: 5},
	} {
		s := start()
		s.R[5] = base
		want := clone(s)
		want.At = 2
		check(t, i, behind(i, s), want)
	}
	want := start()
	want.At, want.In = 2, []byte{2, 3}
	check(t, "In 0", behind(api.Ins{Op: api.OpIn}, start()), want)
	want = start()
	want.Ended, want.Fault = true, api.FaultLoad
	check(t, "Load 0, 0", behind(api.Ins{Op: api.OpLoad}, start()), want)
	check(t, "Ldb 0, 0", behind(api.Ins{Op: api.OpLdb}, start()), want)
}

// model answers what Step has to of the instruction, in the chapter's words, reckoned by wide numbers.
func model(i api.Ins, s api.State) api.State {
	s = clone(s)
	a, b, c, imm := int64(s.R[i.A]), int64(s.R[i.B]), int64(s.R[i.C]), int64(i.Imm)
	wrote, got := true, int64(0)
	switch i.Op {
	case api.OpAdd:
		got = b + c
	case api.OpSub:
		got = b - c
	case api.OpAnd, api.OpOr, api.OpXor:
		got = int64(each(i.Op, uint64(b), uint64(c)))
	case api.OpLess:
		if signed(b) < signed(c) {
			got = 1
		}
	case api.OpMul:
		got = int64(uint64(b) * uint64(c) & full)
	case api.OpAddi:
		got = b + imm
	case api.OpHigh:
		got = imm * 65536
	case api.OpOri:
		got = int64(each(api.OpOr, uint64(b), uint64(imm)))
	case api.OpIn:
		got = -1
		if len(s.In) > 0 {
			got, s.In = int64(s.In[0]), s.In[1:]
		}
	case api.OpLoad, api.OpLdb:
		places := touched(i.Op == api.OpLoad, b+imm, s.Mem, false)
		if places == nil {
			s.Ended, s.Fault = true, 3
			return s
		}
		for k, p := range places {
			got += int64(s.Mem.Bytes[p]) << (8 * k)
		}
	default:
		wrote = false
	}
	if wrote {
		s.At++
		if i.A != 0 {
			s.R[i.A] = uint32(got & full)
		}
		return s
	}
	return modelOthers(i, s, a, b, imm)
}

// modelOthers answers it of the instructions that write no register.
func modelOthers(i api.Ins, s api.State, a, b, imm int64) api.State {
	taken := false
	switch i.Op {
	case api.OpSave, api.OpStb:
		places := touched(i.Op == api.OpSave, b+imm, s.Mem, true)
		if places == nil {
			s.Ended, s.Fault = true, 4
			return s
		}
		for k, p := range places {
			s.Mem.Bytes[p] = byte(a >> (8 * k))
		}
	case api.OpOut:
		if len(s.Out) < 4096 {
			s.Out = append(s.Out, byte(a%256))
		}
	case api.OpBeq:
		taken = a == b
	case api.OpBne:
		taken = a != b
	case api.OpBlt:
		taken = signed(a) < signed(b)
	case api.OpBge:
		taken = signed(a) >= signed(b)
	case api.OpJump:
		taken = true
	case api.OpCall:
		taken = true
		s.Back = append(s.Back, s.At+1)
	case api.OpRet:
		if n := len(s.Back); n > 0 {
			s.At, s.Back = s.Back[n-1], s.Back[:n-1]
		} else {
			s.Ended, s.Fault = true, 5
		}
		return s
	case api.OpHalt:
		s.Ended, s.Code, s.Fault = true, uint32(a), 0
		return s
	case api.OpTrap:
		s.Ended, s.Fault = true, 1
		return s
	}
	s.At++
	if taken {
		s.At += int(imm)
	}
	return s
}

// each answers and, or, xor, bit by bit.
func each(op int, b, c uint64) uint64 {
	var w uint64
	for k := range 32 {
		ones := b>>k%2 + c>>k%2
		if op == api.OpAnd && ones == 2 || op == api.OpOr && ones > 0 || op == api.OpXor && ones == 1 {
			w += 1 << k
		}
	}
	return w
}

// signed answers the signed number that the word w is.
func signed(w int64) int64 {
	if w >= 1<<31 {
		return w - 1<<32
	}
	return w
}

// touched answers the places among the memory's bytes of those at the address, which goes round; none, if they may not be loaded, or saved.
func touched(wide bool, at int64, m api.Mem, saved bool) []int64 {
	at = (at + 1<<32) % (1 << 32)
	n := int64(1)
	if wide {
		n = 4
	}
	if at%n != 0 {
		return nil
	}
	var places []int64
	for k := range n {
		p := at - base + k
		if p < 0 || p >= int64(len(m.Bytes)) || saved && p < int64(m.Write) {
			return nil
		}
		places = append(places, p)
	}
	return places
}

// some are right instructions of the operation: with registers alike and unlike, and Imm at its ends and between.
func some(op int) []api.Ins {
	var l []api.Ins
	for _, r := range [][3]int{{0, 0, 0}, {1, 2, 3}, {2, 1, 0}, {3, 3, 3}, {0, 1, 2}, {1, 0, 15}, {15, 1, 1}, {3, 15, 2}} {
		for _, imm := range []int{0, 1, -1, 2, 4, -4, 7, 127, -128, 255, 32767, -32768, 65535, 8388607, -8388608} {
			i := api.Ins{Op: op, A: r[0], B: r[1], C: r[2], Imm: imm}
			for _, x := range []api.Ins{i, {Op: op, A: i.A, B: i.B, Imm: imm}, {Op: op, A: i.A, B: i.B, C: i.C}, {Op: op, A: i.A, Imm: imm}, {Op: op, A: i.A}, {Op: op, Imm: imm}, {Op: op}} {
				if code.Right(x) && !slices.Contains(l, x) {
					l = append(l, x)
				}
			}
		}
	}
	return l
}

// states are right ones whose registers 1, 2, 3 and 15 have words that are edges.
func states() []api.State {
	var l []api.State
	for k, w := range edges {
		for d := range edges {
			s := start()
			s.At = k % 3
			s.R[1], s.R[2], s.R[3], s.R[15] = w, edges[d], edges[(k+d)%len(edges)], edges[(k*3+d)%len(edges)]
			s.In = s.In[:(k+d)%4]
			s.Back = s.Back[:(k+d)%3]
			s.Mem.Write = k % 11
			l = append(l, s)
		}
	}
	return l
}

// P6.1, P6.3, P6.4: steps of every operation against the model; the register 0 is 0, memory changes by Save and Stb alone, and what is handed in stays.
func TestSteps(t *testing.T) {
	for op := range api.Ops {
		all := some(op)
		if len(all) == 0 {
			t.Fatalf("no instruction of the operation %d", op)
		}
		for _, s := range states() {
			for _, i := range all {
				old := clone(s)
				u := behind(i, s)
				if want := model(i, s); !alike(u, want) {
					t.Fatalf("%+v of %s: %s, want %s", i, text(s), text(u), text(want))
				}
				if u.R[0] != 0 {
					t.Errorf("%+v makes the register 0 %#x", i, u.R[0])
				}
				if op != api.OpSave && op != api.OpStb && (!bytes.Equal(u.Mem.Bytes, s.Mem.Bytes) || u.Mem.Write != s.Mem.Write) {
					t.Errorf("%+v makes %v of memory", i, u.Mem)
				}
				if !stays(old, s) {
					t.Fatalf("%+v made %s of what was handed in, %s", i, text(s), text(old))
				}
			}
		}
	}
}

// alike tells whether two states are, list by list, apart from the call that is tested.
func alike(a, b api.State) bool {
	return a.At == b.At && a.R == b.R && a.Mem.Write == b.Mem.Write && a.Ended == b.Ended && a.Code == b.Code && a.Fault == b.Fault &&
		slices.Equal(a.Back, b.Back) && bytes.Equal(a.Mem.Bytes, b.Mem.Bytes) && bytes.Equal(a.In, b.In) && bytes.Equal(a.Out, b.Out)
}

// stays tells whether a state is what it was, and the room behind its lists' lengths, too.
func stays(old, s api.State) bool {
	return alike(old, s) && slices.Equal(whole(old.Back), whole(s.Back)) && bytes.Equal(whole(old.Mem.Bytes), whole(s.Mem.Bytes)) &&
		bytes.Equal(whole(old.In), whole(s.In)) && bytes.Equal(whole(old.Out), whole(s.Out))
}

// run answers the state behind at most so many steps, and how many were done.
func run(words []uint32, s api.State, most int) (api.State, int) {
	for n := range most {
		if s.Ended {
			return s, n
		}
		s = Step(words, s)
	}
	return s, most
}

// P6.1, P6.3: a program of calls within calls, bytes in and out, and memory: the sum of its input's bytes, by a function that calls itself.
func TestProgram(t *testing.T) {
	words := put(
		api.Ins{Op: api.OpHigh, A: 1, Imm: 1},
		api.Ins{Op: api.OpCall, Imm: 3},
		api.Ins{Op: api.OpLoad, A: 4, B: 1, Imm: 4},
		api.Ins{Op: api.OpOut, A: 4},
		api.Ins{Op: api.OpHalt, A: 4},
		api.Ins{Op: api.OpIn, A: 2},
		api.Ins{Op: api.OpBlt, A: 2, B: 0, Imm: 5},
		api.Ins{Op: api.OpLoad, A: 3, B: 1, Imm: 4},
		api.Ins{Op: api.OpAdd, A: 3, B: 3, C: 2},
		api.Ins{Op: api.OpSave, A: 3, B: 1, Imm: 4},
		api.Ins{Op: api.OpOut, A: 2},
		api.Ins{Op: api.OpCall, Imm: -7},
		api.Ins{Op: api.OpRet},
	)
	first := New(api.Image{Data: []byte{1, 2, 3, 4}, Write: 4, More: 4}, []byte{200, 100, 50})
	s, n := run(words, first, 1000)
	want := api.State{
		At:    4,
		Mem:   api.Mem{Write: 4, Bytes: []byte{1, 2, 3, 4, 0x5e, 1, 0, 0}},
		Out:   []byte{200, 100, 50, 0x5e},
		Ended: true,
		Code:  350,
	}
	want.R[1], want.R[2], want.R[3], want.R[4] = base, full, 350, 350
	check(t, n, s, want)
	if n != 32 {
		t.Errorf("%d steps", n)
	}
	check(t, "the beginning", first, New(api.Image{Data: []byte{1, 2, 3, 4}, Write: 4, More: 4}, []byte{200, 100, 50}))
}

// P6.1: output goes on to 4096 bytes, and the program with it.
func TestMuchOutput(t *testing.T) {
	words := put(
		api.Ins{Op: api.OpOut, A: 1},
		api.Ins{Op: api.OpAddi, A: 1, B: 1, Imm: 1},
		api.Ins{Op: api.OpBlt, A: 1, B: 2, Imm: -3},
		api.Ins{Op: api.OpHalt, A: 1},
	)
	s := New(api.Image{}, nil)
	s.R[2] = 4200
	s, _ = run(words, s, 20000)
	if !s.Ended || s.Code != 4200 || len(s.Out) != 4096 {
		t.Fatalf("ended: %v with %d, %d bytes", s.Ended, s.Code, len(s.Out))
	}
	for k, b := range s.Out {
		if b != byte(k%256) {
			t.Fatalf("the byte %d is %d", k, b)
		}
	}
}

// P6.2: the state at an image's beginning.
func TestNew(t *testing.T) {
	for _, x := range []struct {
		m    api.Image
		in   []byte
		want api.State
	}{
		{api.Image{}, nil, api.State{}},
		{api.Image{Data: []byte{}, Code: []uint32{}}, []byte{}, api.State{}},
		{api.Image{Entry: 5}, nil, api.State{At: 5}},
		{api.Image{Entry: 1 << 20}, nil, api.State{At: 1 << 20}},
		{api.Image{Write: 9}, nil, api.State{Mem: api.Mem{Write: 9}}},
		{api.Image{Write: 1 << 20}, nil, api.State{Mem: api.Mem{Write: 1 << 20}}},
		{api.Image{More: 3}, nil, api.State{Mem: api.Mem{Bytes: []byte{0, 0, 0}}}},
		{api.Image{Data: []byte{7, 0, 255}}, nil, api.State{Mem: api.Mem{Bytes: []byte{7, 0, 255}}}},
		{api.Image{Data: []byte{7, 8}, More: 1}, nil, api.State{Mem: api.Mem{Bytes: []byte{7, 8, 0}}}},
		{api.Image{Data: []byte{7, 8, 9, 10}[:2], More: 2}, nil, api.State{Mem: api.Mem{Bytes: []byte{7, 8, 0, 0}}}},
		{api.Image{Data: []byte{7, 8, 9, 10}[:2]}, nil, api.State{Mem: api.Mem{Bytes: []byte{7, 8}}}},
		{api.Image{}, []byte{0}, api.State{In: []byte{0}}},
		{api.Image{}, []byte{4, 5, 6}[:2], api.State{In: []byte{4, 5}}},
		{api.Image{Code: []uint32{1, 2}, Entry: 1, Data: []byte{1, 2, 3, 4, 5}, Write: 4, More: 2}, []byte{9, 8},
			api.State{At: 1, Mem: api.Mem{Write: 4, Bytes: []byte{1, 2, 3, 4, 5, 0, 0}}, In: []byte{9, 8}}},
	} {
		check(t, x, New(x.m, x.in), x.want)
	}
}

// P6.2: of the most zeros; and those ahead of them.
func TestNewOfMost(t *testing.T) {
	const most = 1 << 20
	for _, n := range []int{0, 1, 65536} {
		for _, more := range []int{0, 1, 256, most - 1, most} {
			s := New(api.Image{Data: bytes.Repeat([]byte{3}, n), More: more}, nil)
			if want := append(bytes.Repeat([]byte{3}, n), make([]byte, more)...); !bytes.Equal(s.Mem.Bytes, want) {
				t.Errorf("%d bytes and %d more: %d bytes", n, more, len(s.Mem.Bytes))
			}
		}
	}
}

// P6.2: states alike, their lists not one memory, or one; nil and empty alike, and the room behind lists' lengths doesn't count.
func TestSameOfAlike(t *testing.T) {
	s := start()
	s.Ended, s.Code, s.Fault = true, 5, 3
	bare := api.State{At: 1}
	empty := api.State{At: 1, Back: []int{}, Mem: api.Mem{Bytes: []byte{}}, In: []byte{}, Out: []byte{}}
	room := api.State{At: 1, Back: []int{1}[:0], Mem: api.Mem{Bytes: []byte{1}[:0]}, In: []byte{1}[:0], Out: []byte{1}[:0]}
	long := clone(s)
	long.Back, long.In, long.Out, long.Mem.Bytes = append(long.Back, 1), append(long.In, 1), append(long.Out, 1), append(long.Mem.Bytes, 1)
	long.Back, long.In, long.Out, long.Mem.Bytes = long.Back[:2], long.In[:3], long.Out[:2], long.Mem.Bytes[:10]
	for _, l := range [][]api.State{{s, clone(s), long}, {bare, empty, room}, {api.State{}}, {New(api.Image{}, nil), New(api.Image{}, []byte{})}} {
		for _, a := range l {
			for _, b := range l {
				if !Same(a, b) {
					t.Errorf("%s isn't %s", text(a), text(b))
				}
			}
		}
	}
}

// others are states that differ from the one in one thing alone; each of a state's fields, and each register, at least once.
func others(from api.State) []api.State {
	var l []api.State
	vary := func(change func(s *api.State)) {
		s := clone(from)
		change(&s)
		l = append(l, s)
	}
	vary(func(s *api.State) { s.At++ })
	vary(func(s *api.State) { s.At = -1 })
	vary(func(s *api.State) { s.At += 1 << 32 })
	for k := range from.R {
		vary(func(s *api.State) { s.R[k]++ })
	}
	vary(func(s *api.State) { s.Back = append(s.Back, 0) })
	vary(func(s *api.State) { s.Back = append([]int{0}, s.Back...) })
	vary(func(s *api.State) { s.Mem.Write++ })
	vary(func(s *api.State) { s.Mem.Bytes = append(s.Mem.Bytes, 0) })
	vary(func(s *api.State) { s.In = append(s.In, 0) })
	vary(func(s *api.State) { s.Out = append(s.Out, 0) })
	vary(func(s *api.State) { s.Ended = !s.Ended })
	vary(func(s *api.State) { s.Code++ })
	vary(func(s *api.State) { s.Fault++ })
	if len(from.Back) == 0 {
		return l
	}
	vary(func(s *api.State) { s.Back = nil })
	vary(func(s *api.State) { s.Back = s.Back[:1] })
	vary(func(s *api.State) { s.Back[0]++ })
	vary(func(s *api.State) { s.Back[1]++ })
	vary(func(s *api.State) { slices.Reverse(s.Back) })
	vary(func(s *api.State) { s.Mem.Bytes = nil })
	vary(func(s *api.State) { s.Mem.Bytes[0]++ })
	vary(func(s *api.State) { s.Mem.Bytes[9]++ })
	vary(func(s *api.State) { s.Mem.Bytes = s.Mem.Bytes[:9] })
	vary(func(s *api.State) { s.In = s.In[1:] })
	vary(func(s *api.State) { s.In[2]++ })
	vary(func(s *api.State) { s.Out = s.Out[:1] })
	vary(func(s *api.State) { s.Out[0]++ })
	return l
}

// P6.2: states that differ in one thing alone aren't alike, and none of two that differ in two.
func TestSameOfOthers(t *testing.T) {
	for _, s := range []api.State{start(), {}} {
		l := append(others(s), s)
		for j, a := range l {
			for k, b := range l {
				if got := Same(a, b); got != (text(a) == text(b)) || j == k && !got {
					t.Errorf("Same(%s, %s) = %v", text(a), text(b), got)
				}
			}
		}
	}
}

// P6.2: an In that is In's of one and Out's of another isn't alike.
func TestSameOfSwapped(t *testing.T) {
	a := api.State{In: []byte{1}}
	b := api.State{Out: []byte{1}}
	c := api.State{Mem: api.Mem{Bytes: []byte{1}}}
	for j, x := range []api.State{a, b, c} {
		for k, y := range []api.State{a, b, c} {
			if Same(x, y) != (j == k) {
				t.Errorf("Same(%s, %s) isn't %v", text(x), text(y), j == k)
			}
		}
	}
}

// roomy is a state whose lists have room behind their lengths, with something in it.
func roomy() api.State {
	s := start()
	s.Back = []int{3, 7, -5, -6, -7}[:2]
	s.In = []byte{0xc1, 2, 3, 0xe1, 0xe2}[:3]
	s.Out = []byte{9, 8, 0xe3, 0xe4, 0xe5}[:2]
	s.Mem.Bytes = append(s.Mem.Bytes, 0xe6, 0xe7, 0xe8)[:10]
	s.R[5] = base + 4
	return s
}

// P6.4: what is handed in stays, and so do the room behind its lists' lengths and the words; Same changes nothing either.
func TestHandedInStays(t *testing.T) {
	for op := range api.Ops {
		i := api.Ins{Op: op, A: 5}
		if w := (api.Ins{Op: op, A: 5, B: 5}); code.Right(w) {
			i = w
		}
		if !code.Right(i) {
			i = api.Ins{Op: op}
		}
		s := roomy()
		words := put(api.Ins{Op: api.OpNone}, i, api.Ins{Op: api.OpTrap})[:2]
		old := slices.Clone(whole(words))
		u := Step(words, s)
		Same(u, s)
		Same(s, u)
		if !stays(roomy(), s) || !slices.Equal(whole(words), old) {
			t.Errorf("%+v made %s of what was handed in", i, text(s))
		}
	}
}

// P6.4: an image's lists and the input stay, and the room behind them; the state has memory of its own.
func TestNewLeavesImage(t *testing.T) {
	data, in, words := []byte{1, 2, 3, 4, 5, 6}, []byte{7, 8, 9, 10}, []uint32{1, 2, 3}
	m := api.Image{Code: words[:2], Data: data[:3], More: 2}
	want := api.State{Mem: api.Mem{Bytes: []byte{1, 2, 3, 0, 0}}, In: []byte{7, 8}}
	first, second := New(m, in[:2]), New(m, in[:2])
	bare := New(api.Image{Data: data[:3]}, in[:2])
	if !bytes.Equal(data, []byte{1, 2, 3, 4, 5, 6}) || !bytes.Equal(in, []byte{7, 8, 9, 10}) || !slices.Equal(words, []uint32{1, 2, 3}) {
		t.Errorf("what was handed in became %v, %v, %v", data, in, words)
	}
	spoil(first.Mem.Bytes)
	spoil(first.In)
	check(t, "behind a changed answer", second, want)
	spoil(bare.Mem.Bytes)
	spoil(bare.In)
	if !bytes.Equal(data, []byte{1, 2, 3, 4, 5, 6}) || !bytes.Equal(in, []byte{7, 8, 9, 10}) {
		t.Errorf("of changed answers came %v, %v", data, in)
	}
	spoil(data)
	spoil(in)
	check(t, "behind a changed image", second, want)
	check(t, "a third", New(api.Image{Data: []byte{1, 2, 3}, More: 2}, []byte{7, 8}), want)
}

// spoil changes all of the bytes, and the room behind them.
func spoil(b []byte) {
	for k := range whole(b) {
		whole(b)[k] ^= 0xa5
	}
}

// P6.4: the list that a step changed is new memory, the room behind it too: it shares none with what was handed in, nor with another answer.
func TestChangedIsNew(t *testing.T) {
	for _, i := range []api.Ins{
		{Op: api.OpSave, A: 6, B: 5}, {Op: api.OpStb, A: 6, B: 5},
		{Op: api.OpIn, A: 1}, {Op: api.OpIn}, {Op: api.OpOut, A: 1}, {Op: api.OpCall, Imm: 2}, {Op: api.OpRet},
	} {
		s := roomy()
		first, second := behind(i, s), behind(i, s)
		want := text(second)
		spoilChanged(i.Op, first)
		if !stays(roomy(), s) || text(second) != want {
			t.Errorf("%+v: of a changed answer came %s and %s", i, text(s), text(second))
		}
		spoilChanged(i.Op, s)
		if text(second) != want {
			t.Errorf("%+v: of a changed state came %s, want %s", i, text(second), want)
		}
	}
}

// spoilChanged changes all of the list that the operation changes.
func spoilChanged(op int, s api.State) {
	switch op {
	case api.OpSave, api.OpStb:
		spoil(s.Mem.Bytes)
	case api.OpIn:
		spoil(s.In)
	case api.OpOut:
		spoil(s.Out)
	case api.OpCall, api.OpRet:
		for k := range whole(s.Back) {
			whole(s.Back)[k] += 1000
		}
	}
}

// P6.4: steps from one state don't meet in one memory, several steps on either.
func TestStepsApart(t *testing.T) {
	words := put(
		api.Ins{Op: api.OpCall, Imm: 0},
		api.Ins{Op: api.OpOut, A: 1},
		api.Ins{Op: api.OpCall, Imm: 0},
		api.Ins{Op: api.OpOut, A: 1},
		api.Ins{Op: api.OpIn, A: 2},
		api.Ins{Op: api.OpSave, A: 1, B: 5},
		api.Ins{Op: api.OpRet},
	)
	for n := range 7 {
		s := roomy()
		s.At = 0
		s, _ = run(words, s, n)
		one, other := s, s
		one.R[1], other.R[1] = 1, 2
		first, _ := run(words, one, 12)
		told := text(first)
		run(words, other, 12)
		if text(first) != told {
			t.Errorf("behind %d steps: %s became %s", n, told, text(first))
		}
	}
}

// P1: no call panics, of states, images and words of which nothing is promised either.
func TestWrongOnes(t *testing.T) {
	ends := []int{math.MinInt, math.MinInt32, -1, 0, 1, math.MaxInt32, math.MaxInt}
	for _, x := range ends {
		for op := range api.Ops {
			for _, at := range ends {
				s := start()
				s.R[0], s.At, s.Mem.Write, s.Fault, s.Back = 7, at, x, x, []int{x}
				Same(Step(put(api.Ins{Op: op}, api.Ins{Op: op}), s), s)
			}
		}
		s := New(api.Image{Entry: x, Write: x, More: x}, nil)
		if s.At != x || s.Mem.Write != x {
			t.Errorf("an image of %d: at %d, from %d on", x, s.At, s.Mem.Write)
		}
	}
}
