package code

import (
	"math"
	"slices"
	"testing"

	"splice/api"
)

// fields are what the chapter says that an operation has: how many of A, B, C; the ends of Imm; and in how many bits of the word Imm stands.
type fields struct {
	regs      int
	low, high int
	width     int
}

// has answers what each operation has, in the chapter's words.
func has(op int) fields {
	switch op {
	case api.OpAdd, api.OpSub, api.OpAnd, api.OpOr, api.OpXor, api.OpLess, api.OpMul:
		return fields{regs: 3}
	case api.OpAddi, api.OpLoad, api.OpSave, api.OpLdb, api.OpStb:
		return fields{2, -32768, 32767, 16}
	case api.OpOri:
		return fields{2, 0, 65535, 16}
	case api.OpHigh:
		return fields{1, 0, 65535, 16}
	case api.OpBeq, api.OpBne, api.OpBlt, api.OpBge:
		return fields{2, -128, 127, 8}
	case api.OpJump, api.OpCall:
		return fields{0, -8388608, 8388607, 24}
	case api.OpHalt, api.OpIn, api.OpOut:
		return fields{regs: 1}
	}
	return fields{}
}

// word pairs an instruction with its word.
type word struct {
	i api.Ins
	w uint32
}

// words has every operation, and the ends of every field, worked out by hand.
func words() []word {
	return []word{
		{api.Ins{}, 0},
		{api.Ins{Op: api.OpHalt, A: 9}, 0x00900000},
		{api.Ins{Op: api.OpHalt, A: 15}, 0x00f00000},
		{api.Ins{Op: api.OpAdd, A: 1, B: 2, C: 3}, 0x01120003},
		{api.Ins{Op: api.OpSub, A: 15, B: 15, C: 15}, 0x02ff000f},
		{api.Ins{Op: api.OpAnd, A: 15}, 0x03f00000},
		{api.Ins{Op: api.OpOr, B: 15}, 0x040f0000},
		{api.Ins{Op: api.OpXor, C: 15}, 0x0500000f},
		{api.Ins{Op: api.OpLess}, 0x06000000},
		{api.Ins{Op: api.OpMul, A: 8, B: 4, C: 2}, 0x07840002},
		{api.Ins{Op: api.OpAddi, A: 1, Imm: -1}, 0x0810ffff},
		{api.Ins{Op: api.OpAddi, A: 1, B: 2, Imm: 32767}, 0x08127fff},
		{api.Ins{Op: api.OpHigh, A: 15, Imm: 0xffff}, 0x09f0ffff},
		{api.Ins{Op: api.OpHigh}, 0x09000000},
		{api.Ins{Op: api.OpOri, A: 1, B: 1, Imm: 0x8000}, 0x0a118000},
		{api.Ins{Op: api.OpOri, A: 1, B: 15, Imm: 0xffff}, 0x0a1fffff},
		{api.Ins{Op: api.OpLoad, A: 2, B: 3, Imm: -32768}, 0x0b238000},
		{api.Ins{Op: api.OpSave, A: 2, B: 3, Imm: 4}, 0x0c230004},
		{api.Ins{Op: api.OpLdb, A: 4, B: 5, Imm: -2}, 0x0d45fffe},
		{api.Ins{Op: api.OpStb, A: 4, B: 5, Imm: 0x1234}, 0x0e451234},
		{api.Ins{Op: api.OpBeq, A: 1, B: 2, Imm: 127}, 0x0f12007f},
		{api.Ins{Op: api.OpBne, A: 4, B: 5, Imm: -128}, 0x10450080},
		{api.Ins{Op: api.OpBlt, A: 6, B: 7, Imm: -1}, 0x116700ff},
		{api.Ins{Op: api.OpBge, A: 15, B: 15}, 0x12ff0000},
		{api.Ins{Op: api.OpJump, Imm: -1}, 0x13ffffff},
		{api.Ins{Op: api.OpJump, Imm: 0x123456}, 0x13123456},
		{api.Ins{Op: api.OpCall, Imm: 1<<23 - 1}, 0x147fffff},
		{api.Ins{Op: api.OpCall, Imm: -(1 << 23)}, 0x14800000},
		{api.Ins{Op: api.OpRet}, 0x15000000},
		{api.Ins{Op: api.OpIn, A: 10}, 0x16a00000},
		{api.Ins{Op: api.OpOut, A: 1}, 0x17100000},
		{api.Ins{Op: api.OpNone}, 0x18000000},
		{api.Ins{Op: api.OpTrap}, 0x19000000},
	}
}

// numbers are numbers about 0, about the ends of every Imm, of registers, and of int.
func numbers() []int {
	l := []int{math.MinInt, math.MinInt + 1, math.MaxInt - 1, math.MaxInt, 14, 15, 16, 17}
	for _, n := range []int{0, 4, 7, 8, 15, 16, 23, 24, 31, 32} {
		for d := -1; d <= 1; d++ {
			l = append(l, 1<<n+d, -(1<<n)+d)
		}
	}
	return l
}

// ops are the operations, and numbers that are none.
func ops() []int {
	l := []int{math.MinInt, -256, -26, -1, api.Ops, api.Ops + 1, 31, 32, 255, 256, 1 << 32, math.MaxInt}
	for op := range api.Ops {
		l = append(l, op)
	}
	return l
}

// one answers whether op is an operation's number.
func one(op int) bool { return op >= 0 && op <= 25 }

// tell tells whether Right and Put hold the instruction for right just where want says so.
func tell(t *testing.T, i api.Ins, want bool) {
	t.Helper()
	if got := Right(i); got != want {
		t.Errorf("Right(%+v) = %v, want %v", i, got, want)
	}
	w, e := Put(i)
	if want && e != api.OK || !want && (w != 0 || e != api.ErrCode) {
		t.Errorf("Put(%+v) = %#x, %d, though right is %v", i, w, e, want)
	}
}

// P2.1: Imm of each operation, at its ends and just beyond them.
func TestRightImm(t *testing.T) {
	for op := range api.Ops {
		f := has(op)
		for _, x := range append(numbers(), f.low-1, f.low, f.low+1, f.high-1, f.high, f.high+1) {
			tell(t, api.Ins{Op: op, Imm: x}, x >= f.low && x <= f.high)
		}
	}
}

// P2.1: registers that an operation has are 0 to 15; those that it hasn't are 0.
func TestRightRegisters(t *testing.T) {
	for op := range api.Ops {
		f := has(op)
		for k := range 3 {
			for _, r := range append(numbers(), -15, -16, -17, 1, 7, 8) {
				var regs [3]int
				regs[k] = r
				want := r == 0 || k < f.regs && r >= 0 && r <= 15
				tell(t, api.Ins{Op: op, A: regs[0], B: regs[1], C: regs[2]}, want)
			}
		}
	}
}

// P2.1: numbers that are no operation's.
func TestRightOperation(t *testing.T) {
	for _, op := range ops() {
		tell(t, api.Ins{Op: op}, one(op))
	}
}

// P2.1: one wrong field is enough, whatever the others are.
func TestRightAllFields(t *testing.T) {
	for _, x := range words() {
		tell(t, x.i, true)
		for _, bad := range []func(*api.Ins){
			func(i *api.Ins) { i.Op = -1 },
			func(i *api.Ins) { i.A = 16 },
			func(i *api.Ins) { i.B = 16 },
			func(i *api.Ins) { i.C = 16 },
			func(i *api.Ins) { i.A = -1 },
			func(i *api.Ins) { i.B = -1 },
			func(i *api.Ins) { i.C = -1 },
			func(i *api.Ins) { i.Imm = 1 << 24 },
			func(i *api.Ins) { i.Imm = -(1 << 24) },
		} {
			i := x.i
			bad(&i)
			tell(t, i, false)
		}
	}
}

// P2.1
func TestPut(t *testing.T) {
	for _, x := range words() {
		if w, e := Put(x.i); w != x.w || e != api.OK {
			t.Errorf("Put(%+v) = %#x, %d, want %#x", x.i, w, e, x.w)
		}
	}
}

// P2.1: a word is the sum of its fields, for all registers and the ends of Imm.
func TestPutIsSum(t *testing.T) {
	for _, x := range rightOnes() {
		f := has(x.Op)
		imm := x.Imm
		if imm < 0 {
			imm += 1 << f.width
		}
		want := uint32(x.Op*(1<<24) + x.A*(1<<20) + x.B*(1<<16) + x.C + imm)
		if w, e := Put(x); w != want || e != api.OK {
			t.Errorf("Put(%+v) = %#x, %d, want %#x", x, w, e, want)
		}
	}
}

// P2.1
func TestGet(t *testing.T) {
	for _, x := range words() {
		if i, e := Get(x.w); i != x.i || e != api.OK {
			t.Errorf("Get(%#x) = %+v, %d, want %+v", x.w, i, e, x.i)
		}
	}
}

// P2.1: words of no instruction.
func TestGetOfNone(t *testing.T) {
	for _, w := range []uint32{
		0x1a000000, 0x1b000000, 0x20000000, 0x80000000, 0xff000000, 0xffffffff,
		0x00000001, 0x00010000, 0x00001000, 0x01120013, 0x01121003, 0x07008000, 0x09f10000, 0x090f0000,
		0x0f000100, 0x10450180, 0x12008000, 0x1100ff00, 0x15000001, 0x15100000, 0x15010000, 0x16010000,
		0x16000001, 0x17000100, 0x18100000, 0x18000001, 0x19800000, 0x19000001, 0x190f0000,
	} {
		if i, e := Get(w); i != (api.Ins{}) || e != api.ErrCode {
			t.Errorf("Get(%#x) = %+v, %d, want ErrCode", w, i, e)
		}
	}
}

// P2.1: a bit may be set just where the operation has a field.
func TestGetBits(t *testing.T) {
	for op := range uint32(256) {
		for k := range 24 {
			w := op<<24 | 1<<k
			want := one(int(op)) && mask(int(op))&(1<<k) != 0
			i, e := Get(w)
			if (e == api.OK) != want {
				t.Errorf("Get(%#x) = %+v, %d, want right: %v", w, i, e, want)
			}
		}
	}
}

// mask answers the bits of the operation's fields.
func mask(op int) uint32 {
	f := has(op)
	m := uint32(1)<<f.width - 1
	for k, at := range []int{20, 16, 0} {
		if k < f.regs {
			m |= 15 << at
		}
	}
	return m
}

// rightOnes are right instructions: each operation with all its registers, and with many an Imm that it may have.
func rightOnes() []api.Ins {
	var l []api.Ins
	for op := range api.Ops {
		f := has(op)
		most := [3]int{1, 1, 1}
		for k := range f.regs {
			most[k] = 16
		}
		for a := range most[0] {
			for b := range most[1] {
				for c := range most[2] {
					for _, x := range imms(f) {
						l = append(l, api.Ins{Op: op, A: a, B: b, C: c, Imm: x})
					}
				}
			}
		}
	}
	return l
}

// imms are the ends of what Imm may be, and what of the numbers lies within them; each once.
func imms(f fields) []int {
	l := []int{f.low, f.high}
	for _, x := range numbers() {
		if x > f.low && x < f.high {
			l = append(l, x)
		}
	}
	slices.Sort(l)
	return slices.Compact(l)
}

// P2.2
func TestAll(t *testing.T) {
	var l []uint32
	var want []api.Ins
	for _, x := range words() {
		l = append(l, x.w)
		want = append(want, x.i)
	}
	for n := range len(l) + 1 {
		if got, at := All(l[:n]); at != -1 || !slices.Equal(got, want[:n]) {
			t.Errorf("All of %d words = %+v, %d", n, got, at)
		}
	}
}

// P2.2
func TestAllOfNothing(t *testing.T) {
	for _, l := range [][]uint32{nil, {}} {
		if got, at := All(l); len(got) != 0 || at != -1 {
			t.Errorf("All(%v) = %+v, %d", l, got, at)
		}
	}
}

// P2.2: the place is that of the first word that is none, wherever it is and whatever follows it.
func TestAllOfNone(t *testing.T) {
	const none, wrong, wrong2 = 0x18000000, 0x15000001, 0xffffffff
	for _, x := range []struct {
		l  []uint32
		at int
	}{
		{[]uint32{wrong}, 0},
		{[]uint32{wrong, none}, 0},
		{[]uint32{none, wrong}, 1},
		{[]uint32{none, wrong, none}, 1},
		{[]uint32{none, none, wrong2, wrong}, 2},
		{[]uint32{wrong, wrong2}, 0},
	} {
		if got, at := All(x.l); len(got) != 0 || at != x.at {
			t.Errorf("All(%#x) = %+v, %d, want nothing, %d", x.l, got, at, x.at)
		}
	}
}

// P2.2: words beyond the list's length aren't there, though its array has them.
func TestAllOfPiece(t *testing.T) {
	l := []uint32{0x18000000, 0x15000000, 0x15000001}
	if got, at := All(l[:2]); len(got) != 2 || at != -1 {
		t.Error(got, at)
	}
	if got, at := All(l[1:]); len(got) != 0 || at != 1 {
		t.Error(got, at)
	}
}

// P2.3: what is written is read as it was.
func TestPutIsGot(t *testing.T) {
	for _, x := range rightOnes() {
		w, e := Put(x)
		if e != api.OK {
			t.Errorf("Put(%+v) = %#x, %d", x, w, e)
		}
		if i, e := Get(w); i != x || e != api.OK {
			t.Errorf("%+v is got as %+v, %d", x, i, e)
		}
	}
}

// P2.3: what is read is right, and written as it stood.
func TestGetIsPut(t *testing.T) {
	for op := range uint32(256) {
		for high := range uint32(256) {
			for _, low := range []uint32{0, 1, 0xf, 0x10, 0x7f, 0x80, 0xff, 0x100, 0x1ff, 0x7fff, 0x8000, 0xfffe, 0xffff} {
				w := op<<24 | high<<16 | low
				i, e := Get(w)
				if e != api.OK {
					continue
				}
				if own, e := Put(i); own != w || e != api.OK || !Right(i) {
					t.Errorf("%#x is read as %+v, and put as %#x, %d", w, i, own, e)
				}
			}
		}
	}
}

// P2.4: what is handed in stays, and so does the room behind it.
func TestAllLeavesWords(t *testing.T) {
	for _, l := range [][]uint32{{0x18000000, 0x0810ffff, 0x15000000, 7}, {0x18000000, 0x15000001, 0x15000000, 7}} {
		own := slices.Clone(l)
		All(l[:3])
		if !slices.Equal(l, own) {
			t.Errorf("%#x became %#x", own, l)
		}
	}
}

// P2.4: what is answered is new memory: two answers share none, and none is kept.
func TestAllIsNew(t *testing.T) {
	l := []uint32{0x18000000, 0x0810ffff}
	want := []api.Ins{{Op: api.OpNone}, {Op: api.OpAddi, A: 1, Imm: -1}}
	first, _ := All(l)
	second, _ := All(l)
	for k := range first {
		first[k] = api.Ins{Op: 99}
	}
	if !slices.Equal(second, want) {
		t.Errorf("the second answer became %+v", second)
	}
	if third, at := All(l); !slices.Equal(third, want) || at != -1 {
		t.Errorf("a third answer is %+v, %d", third, at)
	}
	l[0] = 0x19000000
	if !slices.Equal(second, want) {
		t.Errorf("the answer went with the words: %+v", second)
	}
}
