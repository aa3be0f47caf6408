package alu

import (
	"math"
	"slices"
	"testing"

	"splice/api"
	"splice/code"
	"splice/flow"
)

// words are words with bits at both ends, in the middle, and all over, and those about the ends of 16 bits.
func words() []uint32 {
	return []uint32{
		0, 1, 2, 3, 10, 12, 0xff, 0x7ffe, 0x7fff, 0x8000, 0x8001, 0xffff, 0x10000, 0x10001, 0x18000, 0x70000,
		0x12340000, 0x12345678, 0x55555555, 0x7fff0000, 0x7fff8000, 0x7ffffffe, 0x7fffffff,
		0x80000000, 0x80000001, 0x80008000, 0xaaaaaaaa, 0xdeadbeef, 0xfffeffff, 0xffff0000, 0xffff0001,
		0xffff7fff, 0xffff8000, 0xffff8001, 0xfffffffe, 0xffffffff,
	}
}

// odd are numbers that are no operation's and no register's.
func odd() []int {
	return []int{math.MinInt, math.MinInt32, -65536, -256, -17, -16, -15, -2, -1, 26, 27, 32, 64, 255, 256, 65536, math.MaxInt32, 1 << 32, 1<<32 + 1, 1<<32 + 15, math.MaxInt}
}

// number answers the signed number that the word is, by subtraction.
func number(w uint32) int64 {
	if w >= 1<<31 {
		return int64(w) - 1<<32
	}
	return int64(w)
}

// round answers the word that x is, going round at 2^32.
func round(x int64) uint32 {
	const all = 1 << 32
	return uint32((x%all + all) % all)
}

// bitwise answers the word whose bits are f's of the bits of b and c.
func bitwise(b, c uint32, f func(x, y bool) bool) uint32 {
	var w uint32
	for k := range 32 {
		if f(b>>k&1 == 1, c>>k&1 == 1) {
			w += 1 << k
		}
	}
	return w
}

// or answers b or c, bit by bit.
func or(b, c uint32) uint32 {
	return bitwise(b, c, func(x, y bool) bool { return x || y })
}

// writes answers what the chapter says that the instruction writes, reckoned in wider numbers.
func writes(i api.Ins, b, c uint32) uint32 {
	switch i.Op {
	case api.OpAdd:
		return round(int64(b) + int64(c))
	case api.OpSub:
		return round(int64(b) - int64(c))
	case api.OpAnd:
		return bitwise(b, c, func(x, y bool) bool { return x && y })
	case api.OpOr:
		return or(b, c)
	case api.OpXor:
		return bitwise(b, c, func(x, y bool) bool { return x != y })
	case api.OpLess:
		if number(b) < number(c) {
			return 1
		}
		return 0
	case api.OpMul:
		return round(number(b) * number(c))
	case api.OpAddi:
		return round(int64(b) + int64(i.Imm))
	case api.OpHigh:
		return round(int64(i.Imm) * 65536)
	case api.OpOri:
		return or(b, round(int64(i.Imm)))
	}
	return 0
}

// imms are the ends of the Imm that the operation may have, what is next to them, and some between.
func imms(op int) []int {
	switch op {
	case api.OpAddi, api.OpLoad, api.OpSave, api.OpLdb, api.OpStb:
		return []int{-32768, -32767, -256, -2, -1, 0, 1, 2, 255, 32766, 32767}
	case api.OpHigh, api.OpOri:
		return []int{0, 1, 2, 255, 256, 32767, 32768, 32769, 65534, 65535}
	case api.OpBeq, api.OpBne, api.OpBlt, api.OpBge:
		return []int{-128, -1, 0, 1, 127}
	case api.OpJump, api.OpCall:
		return []int{-8388608, -1, 0, 1, 8388607}
	}
	return []int{0}
}

// P4.1: each pure operation, written out, with its edges.
func TestDo(t *testing.T) {
	for _, x := range []struct {
		op, imm    int
		b, c, want uint32
	}{
		{api.OpAdd, 0, 2, 3, 5},
		{api.OpAdd, 0, 0xffffffff, 1, 0},
		{api.OpAdd, 0, 0xffffffff, 0xffffffff, 0xfffffffe},
		{api.OpAdd, 0, 0x80000000, 0x80000000, 0},
		{api.OpAdd, 0, 0x7fffffff, 1, 0x80000000},
		{api.OpSub, 0, 5, 3, 2},
		{api.OpSub, 0, 3, 5, 0xfffffffe},
		{api.OpSub, 0, 0, 1, 0xffffffff},
		{api.OpSub, 0, 0, 0x80000000, 0x80000000},
		{api.OpSub, 0, 0x80000000, 1, 0x7fffffff},
		{api.OpSub, 0, 7, 7, 0},
		{api.OpAnd, 0, 0xff00ff00, 0xf0f0f0f0, 0xf000f000},
		{api.OpOr, 0, 0xff00ff00, 0xf0f0f0f0, 0xfff0fff0},
		{api.OpXor, 0, 0xff00ff00, 0xf0f0f0f0, 0x0ff00ff0},
		{api.OpXor, 0, 0xdeadbeef, 0xdeadbeef, 0},
		{api.OpLess, 0, 1, 2, 1},
		{api.OpLess, 0, 2, 1, 0},
		{api.OpLess, 0, 0, 0, 0},
		{api.OpLess, 0, 0xffffffff, 1, 1},
		{api.OpLess, 0, 1, 0xffffffff, 0},
		{api.OpLess, 0, 0xffffffff, 0, 1},
		{api.OpLess, 0, 0xfffffffe, 0xffffffff, 1},
		{api.OpLess, 0, 0xffffffff, 0xfffffffe, 0},
		{api.OpLess, 0, 0x80000000, 0x7fffffff, 1},
		{api.OpLess, 0, 0x7fffffff, 0x80000000, 0},
		{api.OpLess, 0, 0x80000000, 0x80000000, 0},
		{api.OpMul, 0, 6, 7, 42},
		{api.OpMul, 0, 0x10000, 0x10000, 0},
		{api.OpMul, 0, 0x10001, 0x10001, 0x20001},
		{api.OpMul, 0, 0xffffffff, 0xffffffff, 1},
		{api.OpMul, 0, 0xffffffff, 5, 0xfffffffb},
		{api.OpMul, 0, 0x80000000, 3, 0x80000000},
		{api.OpMul, 0, 0x80000000, 2, 0},
		{api.OpMul, 0, 0, 0xffffffff, 0},
		{api.OpAddi, 5, 3, 9, 8},
		{api.OpAddi, 0, 3, 9, 3},
		{api.OpAddi, -1, 3, 9, 2},
		{api.OpAddi, -1, 0, 9, 0xffffffff},
		{api.OpAddi, 1, 0xffffffff, 9, 0},
		{api.OpAddi, 32767, 0, 9, 0x7fff},
		{api.OpAddi, 32767, 0xffffffff, 9, 0x7ffe},
		{api.OpAddi, -32768, 0, 9, 0xffff8000},
		{api.OpAddi, -32768, 0x8000, 9, 0},
		{api.OpAddi, -32768, 0x80000000, 9, 0x7fff8000},
		{api.OpHigh, 0, 7, 9, 0},
		{api.OpHigh, 1, 7, 9, 0x10000},
		{api.OpHigh, 0x7fff, 7, 9, 0x7fff0000},
		{api.OpHigh, 0x8000, 7, 9, 0x80000000},
		{api.OpHigh, 0xffff, 7, 9, 0xffff0000},
		{api.OpOri, 0, 0x12345678, 9, 0x12345678},
		{api.OpOri, 1, 0x10000, 9, 0x10001},
		{api.OpOri, 0x8000, 0, 9, 0x8000},
		{api.OpOri, 0xffff, 0, 9, 0xffff},
		{api.OpOri, 0xffff, 0x12345678, 9, 0x1234ffff},
		{api.OpOri, 0xf0, 0x80000f0f, 9, 0x80000fff},
		{api.OpNone, 0, 0xffffffff, 0xffffffff, 0},
	} {
		if got := Do(api.Ins{Op: x.op, A: 1, Imm: x.imm}, x.b, x.c); got != x.want {
			t.Errorf("Do of operation %d, Imm %d, of %#x and %#x = %#x, want %#x", x.op, x.imm, x.b, x.c, got, x.want)
		}
	}
}

// P4.1: every operation, its Imm's ends, and every pair of words; what isn't pure writes 0.
func TestDoOfAll(t *testing.T) {
	for op := range api.Ops {
		for _, imm := range imms(op) {
			i := api.Ins{Op: op, Imm: imm}
			if !code.Right(i) {
				t.Errorf("%+v isn't right", i)
			}
			for _, b := range words() {
				for _, c := range words() {
					if got, want := Do(i, b, c), writes(i, b, c); got != want {
						t.Errorf("Do(%+v, %#x, %#x) = %#x, want %#x", i, b, c, got, want)
					}
				}
			}
		}
	}
}

// P4.1: which registers they are doesn't matter, the register 0 neither: their words are handed in.
func TestDoOfRegisters(t *testing.T) {
	const b, c = 0x80000001, 5
	for op := api.OpAdd; op <= api.OpMul; op++ {
		want := writes(api.Ins{Op: op}, b, c)
		for r := range api.Regs * api.Regs * api.Regs {
			i := api.Ins{Op: op, A: r % 16, B: r / 16 % 16, C: r / 256}
			if got := Do(i, b, c); got != want {
				t.Errorf("Do(%+v, ..) = %#x, want %#x", i, got, want)
			}
		}
	}
	for _, op := range []int{api.OpAddi, api.OpOri} {
		want := writes(api.Ins{Op: op, Imm: 6}, b, c)
		for r := range api.Regs * api.Regs {
			i := api.Ins{Op: op, A: r % 16, B: r / 16, Imm: 6}
			if got := Do(i, b, c); got != want {
				t.Errorf("Do(%+v, ..) = %#x, want %#x", i, got, want)
			}
		}
	}
}

// P4.1: what isn't pure answers 0, whatever its registers, its Imm and the words are.
func TestDoOfOthers(t *testing.T) {
	for _, i := range []api.Ins{
		{Op: api.OpHalt, A: 3},
		{Op: api.OpLoad, A: 3, B: 4, Imm: 8}, {Op: api.OpSave, A: 3, B: 4, Imm: -8},
		{Op: api.OpLdb, A: 3, B: 4, Imm: 1}, {Op: api.OpStb, A: 3, B: 4, Imm: -1},
		{Op: api.OpBeq, A: 3, B: 4, Imm: 2}, {Op: api.OpBne, A: 3, B: 4, Imm: -2},
		{Op: api.OpBlt, A: 3, B: 4, Imm: 127}, {Op: api.OpBge, A: 3, B: 4, Imm: -128},
		{Op: api.OpJump, Imm: 100000}, {Op: api.OpCall, Imm: -100000},
		{Op: api.OpRet}, {Op: api.OpIn, A: 3}, {Op: api.OpOut, A: 3}, {Op: api.OpTrap},
	} {
		if got := Do(i, 0xffffffff, 0x12345678); got != 0 {
			t.Errorf("Do(%+v, ..) = %#x, want 0", i, got)
		}
	}
	for _, op := range odd() {
		if got := Do(api.Ins{Op: op, A: 1, B: 2, C: 3, Imm: 4}, 5, 6); got != 0 {
			t.Errorf("Do of operation %d = %#x, want 0", op, got)
		}
	}
}

// P4.1: each branch, written out, with its edges.
func TestTaken(t *testing.T) {
	for _, x := range []struct {
		a, b               uint32
		beq, bne, blt, bge bool
	}{
		{0, 0, true, false, false, true},
		{1, 1, true, false, false, true},
		{0xffffffff, 0xffffffff, true, false, false, true},
		{0x80000000, 0x80000000, true, false, false, true},
		{1, 2, false, true, true, false},
		{2, 1, false, true, false, true},
		{0x80000000, 0, false, true, true, false},
		{0, 0x80000000, false, true, false, true},
		{0xffffffff, 0, false, true, true, false},
		{0, 0xffffffff, false, true, false, true},
		{0x80000000, 0x7fffffff, false, true, true, false},
		{0x7fffffff, 0x80000000, false, true, false, true},
		{0x80000000, 0xffffffff, false, true, true, false},
		{0xffffffff, 0x80000000, false, true, false, true},
		{0x7ffffffe, 0x7fffffff, false, true, true, false},
		{0x00010000, 0x00000001, false, true, false, true},
	} {
		for op, want := range map[int]bool{api.OpBeq: x.beq, api.OpBne: x.bne, api.OpBlt: x.blt, api.OpBge: x.bge} {
			if got := Taken(op, x.a, x.b); got != want {
				t.Errorf("Taken(%d, %#x, %#x) = %v, want %v", op, x.a, x.b, got, want)
			}
		}
	}
}

// P4.1: each branch of every pair of words.
func TestTakenOfAll(t *testing.T) {
	for _, a := range words() {
		for _, b := range words() {
			x, y := number(a), number(b)
			for op, want := range map[int]bool{api.OpBeq: x == y, api.OpBne: x != y, api.OpBlt: x < y, api.OpBge: x >= y} {
				if got := Taken(op, a, b); got != want {
					t.Errorf("Taken(%d, %#x, %#x) = %v, want %v", op, a, b, got, want)
				}
			}
		}
	}
}

// P4.1: what is no branch isn't taken, whatever the words are; numbers that are no operation neither.
func TestTakenOfOthers(t *testing.T) {
	ops := append(odd(), 1<<32+api.OpBeq, 1<<32+api.OpBge, 256+api.OpBne, -api.OpBlt)
	for op := range api.Ops {
		if flow.Flip(op) == -1 {
			ops = append(ops, op)
		}
	}
	if want := api.Ops - 4 + len(odd()) + 4; len(ops) != want {
		t.Errorf("%d numbers that are no branch, want %d", len(ops), want)
	}
	for _, op := range ops {
		for _, x := range [][2]uint32{{1, 1}, {1, 2}, {2, 1}, {0xffffffff, 0}, {0, 0xffffffff}} {
			if Taken(op, x[0], x[1]) {
				t.Errorf("Taken(%d, %#x, %#x) = true", op, x[0], x[1])
			}
		}
	}
}

// P4.2: the instructions, written out, at both ends of 16 bits and next to them, and with lower halves that are 0 and aren't.
func TestConst(t *testing.T) {
	for _, x := range []struct {
		w         uint32
		addi      bool
		first     int
		high, ori int
	}{
		{w: 0, addi: true, first: 0},
		{w: 1, addi: true, first: 1},
		{w: 0x7ffe, addi: true, first: 32766},
		{w: 0x7fff, addi: true, first: 32767},
		{w: 0xffffffff, addi: true, first: -1},
		{w: 0xffff8001, addi: true, first: -32767},
		{w: 0xffff8000, addi: true, first: -32768},
		{w: 0x8000, high: 0, ori: 0x8000},
		{w: 0x8001, high: 0, ori: 0x8001},
		{w: 0xffff, high: 0, ori: 0xffff},
		{w: 0xffff7fff, high: 0xffff, ori: 0x7fff},
		{w: 0xffff0001, high: 0xffff, ori: 1},
		{w: 0xffff0000, high: 0xffff},
		{w: 0xfffeffff, high: 0xfffe, ori: 0xffff},
		{w: 0x10000, high: 1},
		{w: 0x10001, high: 1, ori: 1},
		{w: 0x7fff0000, high: 0x7fff},
		{w: 0x7fffffff, high: 0x7fff, ori: 0xffff},
		{w: 0x80000000, high: 0x8000},
		{w: 0x80000001, high: 0x8000, ori: 1},
		{w: 0x12345678, high: 0x1234, ori: 0x5678},
		{w: 0x1234fffe, high: 0x1234, ori: 0xfffe},
	} {
		for a := 1; a <= 15; a++ {
			want := []api.Ins{{Op: api.OpHigh, A: a, Imm: x.high}, {Op: api.OpOri, A: a, B: a, Imm: x.ori}}
			if x.ori == 0 {
				want = want[:1]
			}
			if x.addi {
				want = []api.Ins{{Op: api.OpAddi, A: a, Imm: x.first}}
			}
			if got := Const(a, x.w); !slices.Equal(got, want) {
				t.Errorf("Const(%d, %#x) = %+v, want %+v", a, x.w, got, want)
			}
		}
	}
}

// P4.2: of the register 0 and of numbers that are no register, none.
func TestConstOfNoRegister(t *testing.T) {
	for _, a := range append(odd(), 0, 16, 17) {
		for _, w := range words() {
			if got := Const(a, w); len(got) != 0 {
				t.Errorf("Const(%d, %#x) = %+v, want none", a, w, got)
			}
		}
	}
}

// done answers the registers behind the instructions, done one behind the other.
func done(l []api.Ins, r [api.Regs]uint32) [api.Regs]uint32 {
	for _, i := range l {
		if a := flow.Writes(i); a != -1 {
			r[a] = Do(i, r[i.B], r[i.C])
		}
	}
	return r
}

// holds tells whether Const's instructions are right and pure, read no other register, and write w into a alone, whatever the registers had.
func holds(t *testing.T, a int, w uint32) {
	t.Helper()
	l := Const(a, w)
	for _, i := range l {
		if !code.Right(i) || flow.Kind(i) != 0 {
			t.Errorf("Const(%d, %#x) has %+v", a, w, i)
		}
		if read := flow.Reads(i); len(read) > 1 || len(read) == 1 && read[0] != a {
			t.Errorf("Const(%d, %#x) has %+v, which reads %v", a, w, i, read)
		}
	}
	for _, had := range []uint32{0, 0xffffffff, 0x12345678, w, ^w} {
		var r [api.Regs]uint32
		for k := 1; k < api.Regs; k++ {
			r[k] = had
		}
		want := r
		want[a] = w
		if got := done(l, r); got != want {
			t.Errorf("Const(%d, %#x) makes %#x of %#x", a, w, got, r)
		}
	}
}

// P4.3: what Const answers writes w, for every register.
func TestConstWrites(t *testing.T) {
	for a := 1; a <= 15; a++ {
		for _, w := range words() {
			holds(t, a, w)
		}
	}
}

// P4.2, P4.3: every lower half, below upper halves at the ends and between; as few instructions as the chapter says.
func TestConstOfLowerHalves(t *testing.T) {
	for _, upper := range []uint32{0, 1, 0x1234, 0x7fff, 0x8000, 0xfffe, 0xffff} {
		for low := range uint32(1 << 16) {
			w := upper<<16 | low
			if low%61 == 0 || low < 3 || low > 0xfffd {
				holds(t, 7, w)
			}
			want := 2
			if x := number(w); low == 0 || x >= -32768 && x <= 32767 {
				want = 1
			}
			if l := Const(7, w); len(l) != want || done(l, [api.Regs]uint32{7: ^w})[7] != w {
				t.Errorf("Const(7, %#x) = %+v, want %d of them", w, l, want)
			}
		}
	}
}

// P4.3: of a branch and its contrary just one is taken.
func TestContrary(t *testing.T) {
	for _, op := range []int{api.OpBeq, api.OpBne, api.OpBlt, api.OpBge} {
		for _, a := range words() {
			for _, b := range words() {
				if Taken(op, a, b) == Taken(flow.Flip(op), a, b) {
					t.Errorf("%d and its contrary are one of %#x and %#x", op, a, b)
				}
			}
		}
	}
}

// P4.4: two answers share no memory, the room behind them neither, and none is kept.
func TestConstIsNew(t *testing.T) {
	for _, w := range []uint32{5, 0xffffffff, 0x70000, 0x12345678} {
		want := slices.Clone(Const(4, w))
		first, second := Const(4, w), Const(4, w)
		all := first[:cap(first)]
		for k := range all {
			all[k] = api.Ins{Op: 99, A: 99, B: 99, C: 99, Imm: 99}
		}
		_ = append(first[:0], api.Ins{Op: 77})
		if !slices.Equal(second, want) {
			t.Errorf("the second answer for %#x became %+v, want %+v", w, second, want)
		}
		if third := Const(4, w); !slices.Equal(third, want) {
			t.Errorf("a third answer for %#x is %+v, want %+v", w, third, want)
		}
	}
}

// P1: no call panics, of instructions that aren't right either.
func TestWrongOnes(t *testing.T) {
	for _, x := range odd() {
		for op := -2; op < api.Ops+2; op++ {
			Do(api.Ins{Op: op, A: x, B: x, C: x, Imm: x}, 0xffffffff, 1)
			Do(api.Ins{Op: op, A: x, B: -x, C: 1}, 0, 0x80000000)
		}
		Do(api.Ins{Op: x, A: 1, B: 2, C: 3}, 1, 2)
		Taken(x, 1, 2)
		Const(x, 0xffffffff)
	}
}
