package flow

import (
	"math"
	"slices"
	"testing"

	"splice/api"
)

// fields is what the chapter says of an operation: its kind, whether it writes A, and which of A, B and C it reads.
type fields struct {
	kind    int
	writes  bool
	a, b, c bool
}

// says answers what the chapter says of each operation, one by one.
func says() [api.Ops]fields {
	three := fields{kind: 0, writes: true, b: true, c: true}
	return [api.Ops]fields{
		api.OpHalt: {kind: 5, a: true},
		api.OpAdd:  three,
		api.OpSub:  three,
		api.OpAnd:  three,
		api.OpOr:   three,
		api.OpXor:  three,
		api.OpLess: three,
		api.OpMul:  three,
		api.OpAddi: {kind: 0, writes: true, b: true},
		api.OpHigh: {kind: 0, writes: true},
		api.OpOri:  {kind: 0, writes: true, b: true},
		api.OpLoad: {kind: 1, writes: true, b: true},
		api.OpSave: {kind: 1, a: true, b: true},
		api.OpLdb:  {kind: 1, writes: true, b: true},
		api.OpStb:  {kind: 1, a: true, b: true},
		api.OpBeq:  {kind: 2, a: true, b: true},
		api.OpBne:  {kind: 2, a: true, b: true},
		api.OpBlt:  {kind: 2, a: true, b: true},
		api.OpBge:  {kind: 2, a: true, b: true},
		api.OpJump: {kind: 3},
		api.OpCall: {kind: 4},
		api.OpRet:  {kind: 5},
		api.OpIn:   {kind: 1, writes: true},
		api.OpOut:  {kind: 1, a: true},
		api.OpNone: {kind: 0},
		api.OpTrap: {kind: 5},
	}
}

// most answers the greatest A, B and C that the operation may have, and some Imms that it may have, its ends among them.
func most(op int) (regs [3]int, imms []int) {
	switch {
	case op >= api.OpAdd && op <= api.OpMul:
		return [3]int{15, 15, 15}, []int{0}
	case op == api.OpOri:
		return [3]int{15, 15, 0}, []int{0, 1, 65535}
	case op == api.OpHigh:
		return [3]int{15, 0, 0}, []int{0, 1, 65535}
	case op >= api.OpAddi && op <= api.OpStb:
		return [3]int{15, 15, 0}, []int{-32768, -1, 0, 7, 32767}
	case op >= api.OpBeq && op <= api.OpBge:
		return [3]int{15, 15, 0}, []int{-128, -1, 0, 7, 127}
	case op == api.OpJump || op == api.OpCall:
		return [3]int{}, []int{-8388608, -1, 0, 7, 8388607}
	case op == api.OpHalt || op == api.OpIn || op == api.OpOut:
		return [3]int{15, 0, 0}, []int{0}
	}
	return [3]int{}, []int{0}
}

// rightOnes are right instructions: each operation, with all the registers that it may have.
func rightOnes() []api.Ins {
	var l []api.Ins
	for op := range api.Ops {
		regs, imms := most(op)
		for a := range regs[0] + 1 {
			for b := range regs[1] + 1 {
				for c := range regs[2] + 1 {
					for _, imm := range imms {
						l = append(l, api.Ins{Op: op, A: a, B: b, C: c, Imm: imm})
					}
				}
			}
		}
	}
	return l
}

// reads answers which registers the chapter says that i reads: by asking each register, in order.
func reads(i api.Ins) []int {
	f := says()[i.Op]
	var l []int
	for r := 1; r < api.Regs; r++ {
		if f.a && i.A == r || f.b && i.B == r || f.c && i.C == r {
			l = append(l, r)
		}
	}
	return l
}

// P3.1: each operation's kind, whatever its registers and its Imm are.
func TestKind(t *testing.T) {
	for _, i := range rightOnes() {
		if got, want := Kind(i), says()[i.Op].kind; got != want {
			t.Errorf("Kind(%+v) = %d, want %d", i, got, want)
		}
	}
}

// P3.1: the register A of what writes one, but the register 0; else none.
func TestWrites(t *testing.T) {
	for _, i := range rightOnes() {
		want := -1
		if says()[i.Op].writes && i.A != 0 {
			want = i.A
		}
		if got := Writes(i); got != want {
			t.Errorf("Writes(%+v) = %d, want %d", i, got, want)
		}
	}
}

// P3.1: the register 0 is written by none, and what has A without writing it writes none.
func TestWritesNone(t *testing.T) {
	for _, i := range []api.Ins{
		{Op: api.OpAdd, B: 1, C: 2}, {Op: api.OpMul, B: 3, C: 3}, {Op: api.OpAddi, B: 4, Imm: 5}, {Op: api.OpHigh, Imm: 6},
		{Op: api.OpOri, B: 7}, {Op: api.OpLoad, B: 8}, {Op: api.OpLdb, B: 9}, {Op: api.OpIn},
		{Op: api.OpSave, A: 1, B: 2}, {Op: api.OpStb, A: 3, B: 4}, {Op: api.OpBeq, A: 5, B: 6}, {Op: api.OpBge, A: 7, B: 8},
		{Op: api.OpHalt, A: 9}, {Op: api.OpOut, A: 10},
		{Op: api.OpJump, Imm: 1}, {Op: api.OpCall, Imm: 1}, {Op: api.OpRet}, {Op: api.OpNone}, {Op: api.OpTrap},
	} {
		if got := Writes(i); got != -1 {
			t.Errorf("Writes(%+v) = %d, want -1", i, got)
		}
	}
}

// P3.1: what is read, of all registers that each operation may have.
func TestReads(t *testing.T) {
	for _, i := range rightOnes() {
		if got, want := Reads(i), reads(i); !slices.Equal(got, want) {
			t.Errorf("Reads(%+v) = %v, want %v", i, got, want)
		}
	}
}

// P3.1: the edges, written out: rising, each once, without the register 0.
func TestReadsEdges(t *testing.T) {
	for _, x := range []struct {
		i    api.Ins
		want []int
	}{
		{api.Ins{Op: api.OpAdd, A: 1, B: 2, C: 2}, []int{2}},
		{api.Ins{Op: api.OpAdd, A: 3, B: 3, C: 3}, []int{3}},
		{api.Ins{Op: api.OpSub, A: 1, B: 2, C: 15}, []int{2, 15}},
		{api.Ins{Op: api.OpSub, A: 1, B: 15, C: 2}, []int{2, 15}},
		{api.Ins{Op: api.OpAnd, A: 9, B: 0, C: 4}, []int{4}},
		{api.Ins{Op: api.OpOr, A: 9, B: 4, C: 0}, []int{4}},
		{api.Ins{Op: api.OpXor, A: 9}, nil},
		{api.Ins{Op: api.OpLess, A: 1, B: 10, C: 9}, []int{9, 10}},
		{api.Ins{Op: api.OpMul, A: 0, B: 1, C: 2}, []int{1, 2}},
		{api.Ins{Op: api.OpAddi, A: 5, B: 5, Imm: 3}, []int{5}},
		{api.Ins{Op: api.OpAddi, A: 5, Imm: 3}, nil},
		{api.Ins{Op: api.OpHigh, A: 5, Imm: 3}, nil},
		{api.Ins{Op: api.OpOri, A: 5, B: 6, Imm: 3}, []int{6}},
		{api.Ins{Op: api.OpLoad, A: 7, B: 15}, []int{15}},
		{api.Ins{Op: api.OpLoad, A: 7}, nil},
		{api.Ins{Op: api.OpLdb, A: 7, B: 1}, []int{1}},
		{api.Ins{Op: api.OpSave, A: 7, B: 1}, []int{1, 7}},
		{api.Ins{Op: api.OpSave, A: 1, B: 7}, []int{1, 7}},
		{api.Ins{Op: api.OpSave, A: 7}, []int{7}},
		{api.Ins{Op: api.OpStb, B: 7}, []int{7}},
		{api.Ins{Op: api.OpStb, A: 7, B: 7}, []int{7}},
		{api.Ins{Op: api.OpStb}, nil},
		{api.Ins{Op: api.OpBeq, A: 2, B: 1, Imm: 5}, []int{1, 2}},
		{api.Ins{Op: api.OpBne, A: 1, B: 2, Imm: -5}, []int{1, 2}},
		{api.Ins{Op: api.OpBlt, A: 2, B: 2}, []int{2}},
		{api.Ins{Op: api.OpBge, B: 14}, []int{14}},
		{api.Ins{Op: api.OpBge, A: 14}, []int{14}},
		{api.Ins{Op: api.OpBeq, Imm: 1}, nil},
		{api.Ins{Op: api.OpHalt, A: 15}, []int{15}},
		{api.Ins{Op: api.OpHalt}, nil},
		{api.Ins{Op: api.OpOut, A: 1}, []int{1}},
		{api.Ins{Op: api.OpOut}, nil},
		{api.Ins{Op: api.OpIn, A: 1}, nil},
		{api.Ins{Op: api.OpJump, Imm: 2}, nil},
		{api.Ins{Op: api.OpCall, Imm: 2}, nil},
		{api.Ins{Op: api.OpRet}, nil},
		{api.Ins{Op: api.OpNone}, nil},
		{api.Ins{Op: api.OpTrap}, nil},
	} {
		if got := Reads(x.i); !slices.Equal(got, x.want) {
			t.Errorf("Reads(%+v) = %v, want %v", x.i, got, x.want)
		}
	}
}

// P3.1: what stands behind a Jump or an end doesn't come next; behind all else it may.
func TestFalls(t *testing.T) {
	stops := []int{api.OpJump, api.OpHalt, api.OpRet, api.OpTrap}
	for _, i := range rightOnes() {
		if got, want := Falls(i), !slices.Contains(stops, i.Op); got != want {
			t.Errorf("Falls(%+v) = %v, want %v", i, got, want)
		}
	}
}

// P3.2: each branch's contrary; -1 of any other operation, and of numbers that are none.
func TestFlip(t *testing.T) {
	contrary := map[int]int{
		api.OpBeq: api.OpBne,
		api.OpBne: api.OpBeq,
		api.OpBlt: api.OpBge,
		api.OpBge: api.OpBlt,
	}
	ops := []int{math.MinInt, math.MinInt + 15, math.MinInt32, math.MaxInt32, math.MaxInt - 15, math.MaxInt, 1<<32 + api.OpBeq, 1<<16 + api.OpBge}
	for op := -300; op <= 300; op++ {
		ops = append(ops, op)
	}
	for _, op := range ops {
		want, is := contrary[op]
		if !is {
			want = -1
		}
		if got := Flip(op); got != want {
			t.Errorf("Flip(%d) = %d, want %d", op, got, want)
		}
	}
}

// P3.3: two answers share no memory, the room behind them neither, and none is kept.
func TestReadsIsNew(t *testing.T) {
	for op := range api.Ops {
		regs, _ := most(op)
		i := api.Ins{Op: op, A: min(regs[0], 9), B: min(regs[1], 4), C: min(regs[2], 6)}
		want := reads(i)
		first, second := Reads(i), Reads(i)
		all := first[:cap(first)]
		for k := range all {
			all[k] = 99
		}
		_ = append(first[:0], 77)
		if !slices.Equal(second, want) {
			t.Errorf("the second answer for %+v became %v, want %v", i, second, want)
		}
		if third := Reads(i); !slices.Equal(third, want) {
			t.Errorf("a third answer for %+v is %v, want %v", i, third, want)
		}
	}
}

// P1: no call panics, of instructions that aren't right either.
func TestWrongOnes(t *testing.T) {
	odd := []int{math.MinInt, -17, -1, 16, 64, math.MaxInt}
	for _, x := range odd {
		for op := -2; op < api.Ops+2; op++ {
			callAll(api.Ins{Op: op, A: x, B: x, C: x, Imm: x})
			callAll(api.Ins{Op: op, A: x, B: -x, C: 1})
		}
		callAll(api.Ins{Op: x, A: 1, B: 2, C: 3})
	}
}

// callAll has each call answer for the instruction.
func callAll(i api.Ins) {
	Kind(i)
	Writes(i)
	Reads(i)
	Falls(i)
	Flip(i.Op)
}
