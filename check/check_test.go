package check

import (
	"fmt"
	"math"
	"slices"
	"strings"
	"testing"

	"splice/api"
	"splice/code"
	"splice/cpu"
	"splice/object"
)

// Words of instructions, written out.
const (
	ret     = 0x15000000
	none    = 0x18000000
	trap    = 0x19000000
	halt    = 0x00100000
	call0   = 0x14000000
	jump0   = 0x13000000
	high0   = 0x09100000
	ori0    = 0x0a110000
	addi    = 0x0810ffff
	branch0 = 0x0f120000
)

// huge are numbers whose sums and differences go round, or that are right but for higher bits.
var huge = []int{math.MinInt, math.MinInt + 1, math.MinInt + 4, math.MinInt32, -1 << 32, 1<<32 + 1, 1 << 32, math.MaxInt32, math.MaxInt - 4, math.MaxInt - 1, math.MaxInt}

// branches are the operations of the branches.
var branches = []int{api.OpBeq, api.OpBne, api.OpBlt, api.OpBge}

// branchBy is the word of a branch by so many words.
func branchBy(op, by int) uint32 { return uint32(op)<<24 | 0x120000 | uint32(by)&0xff }

// jumpBy is the word of a Jump by so many words.
func jumpBy(by int) uint32 { return jump0 | uint32(by)&0xffffff }

// fun is a strong function of these words and relocations.
func fun(words []uint32, rels ...api.Rel) api.Func {
	return api.Func{Name: "f", Bind: api.Strong, Code: words, Rels: rels}
}

// repeat answers so many words w, and those behind them.
func repeat(w uint32, n int, behind ...uint32) []uint32 {
	return append(slices.Repeat([]uint32{w}, n), behind...)
}

// calls is a relocation of a Call or Jump.
func calls(at int) api.Rel { return api.Rel{At: at, Kind: api.RelCall, Name: "g"} }

// hex shows a function with its words.
func hex(f api.Func) string {
	return fmt.Sprintf("%q, Bind %d, %.60s, %.200s", f.Name, f.Bind, fmt.Sprintf("%08x", f.Code), fmt.Sprintf("%+v", f.Rels))
}

// askFunction tells where the answer for the function is another one.
func askFunction(t *testing.T, what string, f api.Func, want api.Errno) {
	t.Helper()
	if e := Function(f); e != want {
		t.Errorf("%s: %s: %d, want %d", what, hex(f), e, want)
	}
}

// askData tells where the answer for the data is another one.
func askData(t *testing.T, what string, d api.Data, right bool) {
	t.Helper()
	want := api.ErrForm
	if right {
		want = api.OK
	}
	if e := Data(d); e != want {
		t.Errorf("%s: %.300s: %d, want %d", what, fmt.Sprintf("%+v", d), e, want)
	}
}

// askObject tells where the answer for the object is another one.
func askObject(t *testing.T, what string, o api.Object, want api.Errno) {
	t.Helper()
	if e := Object(o); e != want {
		t.Errorf("%s: %.300s: %d, want %d", what, fmt.Sprintf("%+v", o), e, want)
	}
}

// plain answers an instruction of that operation whose Imm, if it has one, is 0.
func plain(op int) uint32 {
	w := uint32(op) << 24
	switch {
	case op >= api.OpAdd && op <= api.OpMul:
		return w | 0x120003
	case op == api.OpHigh, op == api.OpHalt, op == api.OpIn, op == api.OpOut:
		return w | 0x100000
	case op >= api.OpAddi && op <= api.OpBge:
		return w | 0x120000
	}
	return w
}

// five is a function with a relocation at each of its places, of each Kind.
func five() api.Func {
	return fun([]uint32{call0, high0, ori0, call0, jump0},
		calls(0), api.Rel{At: 1, Kind: api.RelHigh, Name: "x", Add: 8}, api.Rel{At: 2, Kind: api.RelLow, Name: "x", Add: -8}, calls(3), calls(4))
}

// rightFunctions are right functions with branches, jumps, calls and relocations.
func rightFunctions() []api.Func {
	return []api.Func{
		fun([]uint32{ret}),
		fun([]uint32{halt}),
		fun([]uint32{trap}),
		fun([]uint32{jumpBy(-1)}),
		fun([]uint32{jump0}, calls(0)),
		fun([]uint32{none, addi, ret}),
		fun([]uint32{branchBy(api.OpBeq, -1), ret}),
		fun([]uint32{branchBy(api.OpBne, 1), addi, branchBy(api.OpBge, -3), branchBy(api.OpBlt, 0), halt}),
		fun([]uint32{jumpBy(2), none, trap, jumpBy(-3)}),
		fun([]uint32{call0, ret}, calls(0)),
		fun([]uint32{none, call0, call0, jump0}, calls(1), calls(2), calls(3)),
		fun([]uint32{high0, ori0, 0x0b210000, 0x17200000, 0x0c210004, ret}, api.Rel{At: 0, Kind: api.RelHigh, Name: "x"}, api.Rel{At: 1, Kind: api.RelLow, Name: "x"}),
		fun([]uint32{0x16100000, branch0 | 2, call0, jumpBy(-4), jump0}, calls(2), calls(4)),
		five(),
	}
}

// P10.1: right functions, whether strong, weak or local.
func TestRightFunctions(t *testing.T) {
	for k, f := range rightFunctions() {
		for _, bind := range []int{api.Strong, api.Weak, api.Local} {
			f.Bind = bind
			askFunction(t, fmt.Sprint("right ", k), f, api.OK)
		}
	}
}

// P10.1: each Bind that functions may have, and others.
func TestBinds(t *testing.T) {
	for _, f := range rightFunctions() {
		for _, bind := range append([]int{-1, -2, 0, 1, 2, 3, 4, 5, 6, 7, 17, 255, 256, 257, 259, 65537}, huge...) {
			want := api.ErrForm
			if bind == 1 || bind == 2 || bind == 3 {
				want = api.OK
			}
			f.Bind = bind
			askFunction(t, "a Bind", f, want)
		}
	}
}

// P10.1: no code, with and without relocations, and whatever stands in the room behind its length.
func TestNoCode(t *testing.T) {
	for bind := -1; bind < 6; bind++ {
		for _, words := range [][]uint32{nil, {}, []uint32{ret}[:0], []uint32{0xff000000}[:0]} {
			for _, rels := range [][]api.Rel{nil, {calls(0)}, {calls(-1)}, {{}}} {
				askFunction(t, "no code", api.Func{Name: "f", Bind: bind, Code: words, Rels: rels}, api.ErrForm)
			}
		}
	}
}

// notInstructions are words of no instruction: of no operation, or with something that theirs hasn't.
var notInstructions = []uint32{
	0xff000000, 0xffffffff, 0x1a000000, 0x80000000, 0x95000000, 0x15000001, 0x15100000, 0x18010000, 0x19000100,
	0x00110000, 0x00100001, 0x01123010, 0x07120100, 0x09110000, 0x0f120100, 0x1212ff00, 0x16110000, 0x17100001,
}

// P10.1: words of no instruction, first, in the middle, and last.
func TestNoInstruction(t *testing.T) {
	for _, w := range notInstructions {
		for n := 1; n <= 7; n++ {
			for k := range n {
				words := repeat(ret, n)
				words[k] = w
				askFunction(t, "no instruction", fun(words), api.ErrCode)
				askFunction(t, "no instruction, with a relocation", fun(words, calls(k)), api.ErrCode)
				words[n-1-k] = w
				askFunction(t, "two of them", fun(words), api.ErrCode)
			}
			askFunction(t, "none of them", fun(repeat(w, n)), api.ErrCode)
		}
	}
	for op := range api.Ops {
		askFunction(t, "each operation", fun([]uint32{plain(op), ret}, relsOf(op)...), api.OK)
	}
}

// relsOf is a relocation of the Call that stands first, if it is one.
func relsOf(op int) []api.Rel {
	if op == api.OpCall {
		return []api.Rel{calls(0)}
	}
	return nil
}

// P10.1: some of the relocations, each with and without; a Call needs one, a Jump leads by its Imm without one.
func TestWithoutRelocations(t *testing.T) {
	f := five()
	all := f.Rels
	for set := range 1 << len(all) {
		f.Rels = nil
		for k, r := range all {
			if set>>k&1 == 1 {
				f.Rels = append(f.Rels, r)
			}
		}
		want := api.OK
		if set&(1<<4) == 0 {
			want = api.ErrRange
		}
		if set&(1<<0) == 0 || set&(1<<3) == 0 {
			want = api.ErrForm
		}
		askFunction(t, "some relocations", f, want)
	}
}

// orders answers all orders of n numbers from 0 on.
func orders(n int) [][]int {
	if n == 0 {
		return [][]int{nil}
	}
	var l [][]int
	for _, o := range orders(n - 1) {
		for k := range n {
			l = append(l, slices.Insert(slices.Clone(o), k, n-1))
		}
	}
	return l
}

// P10.1: relocations in all orders; but the rising one none is right.
func TestRelocationsInOrder(t *testing.T) {
	f := five()
	all := f.Rels
	for _, o := range orders(len(all)) {
		f.Rels = nil
		for _, k := range o {
			f.Rels = append(f.Rels, all[k])
		}
		want := api.ErrForm
		if slices.IsSorted(o) {
			want = api.OK
		}
		askFunction(t, "an order", f, want)
	}
}

// P10.1: two relocations of one place, alike or not, next to each other or not.
func TestRelocationsOfOnePlace(t *testing.T) {
	for k, r := range five().Rels {
		for at := range len(five().Rels) + 1 {
			f := five()
			f.Rels = slices.Insert(f.Rels, at, r)
			askFunction(t, fmt.Sprint("twice ", k), f, api.ErrForm)
		}
	}
	for _, kind := range []int{api.RelHigh, api.RelLow, api.RelCall} {
		f := fun([]uint32{high0, ret}, api.Rel{Kind: api.RelHigh, Name: "x"}, api.Rel{Kind: kind, Name: "y"})
		askFunction(t, "another of one place", f, api.ErrForm)
	}
}

// P10.1: places below 0, at the code's end and beyond; the code's own first and last place are right.
func TestRelocationPlaces(t *testing.T) {
	for k := range five().Rels {
		for _, at := range append([]int{-1, -2, -4, -5, -6, -64, 5, 6, 7, 10, 64, 2000, 65535, 65536 + k, 1<<32 + k}, huge...) {
			f := five()
			f.Rels[k].At = at
			askFunction(t, "a place", f, api.ErrForm)
		}
	}
	for n := 1; n < 9; n++ {
		for at := -3; at < n+3; at++ {
			want := api.ErrForm
			if at >= 0 && at < n {
				want = api.OK
			}
			askFunction(t, "one relocation", fun(repeat(high0, n, ret), api.Rel{At: at, Kind: api.RelHigh, Name: "x"}), want)
		}
		askFunction(t, "the last", fun(repeat(none, n, jump0), calls(n)), api.OK)
		askFunction(t, "behind the last", fun(repeat(none, n, jump0), calls(n+1)), api.ErrForm)
		askFunction(t, "in the room behind the code", fun(repeat(jumpBy(-1), n, jump0, jump0)[:n], calls(n)), api.ErrForm)
	}
}

// kindGoes tells whether the chapter has the Kind go with the operation.
func kindGoes(kind, op int) bool {
	pairs := [][2]int{{1, api.OpCall}, {1, api.OpJump}, {2, api.OpHigh}, {3, api.OpOri}}
	return slices.Contains(pairs, [2]int{kind, op})
}

// P10.1: each Kind at each operation, at the first place and behind others.
func TestKindsAndOperations(t *testing.T) {
	for _, kind := range append([]int{-1, 0, 1, 2, 3, 4, 5, 6, 7, 255, 256, 257, 258, 259, 65537}, huge...) {
		for op := range api.Ops {
			want := api.ErrForm
			if kindGoes(kind, op) {
				want = api.OK
			}
			for at := range 3 {
				words := repeat(none, at, plain(op), ret)
				askFunction(t, "a Kind", fun(words, api.Rel{At: at, Kind: kind, Name: "g"}), want)
			}
		}
	}
}

// P10.1: Add is 0 where the Kind is RelCall; elsewhere it isn't asked.
func TestAdd(t *testing.T) {
	for _, add := range append([]int{-api.MaxAdd, -65536, -4, -1, 0, 1, 4, 65536, api.MaxAdd}, huge...) {
		want := api.ErrForm
		if add == 0 {
			want = api.OK
		}
		for k := range five().Rels {
			f := five()
			f.Rels[k].Add = add
			if f.Rels[k].Kind == api.RelCall {
				askFunction(t, "Add of RelCall", f, want)
			} else {
				askFunction(t, "Add of another Kind", f, api.OK)
			}
		}
	}
}

// P10.1: an Imm of others than 0 where a relocation stands, though without one it may be right.
func TestImmWhereARelocationStands(t *testing.T) {
	for _, x := range []struct {
		kind    int
		first   uint32
		lowest  uint32
		without api.Errno
	}{
		{api.RelCall, call0, 0xffffff, api.ErrForm},
		{api.RelCall, jump0, 0xffffff, api.ErrRange},
		{api.RelHigh, high0, 0xffff, api.OK},
		{api.RelLow, ori0, 0xffff, api.OK},
	} {
		r := api.Rel{At: 1, Kind: x.kind, Name: "g"}
		askFunction(t, "Imm of 0", fun([]uint32{none, x.first, ret}, r), api.OK)
		for bit := range 24 {
			for _, imm := range []uint32{1 << bit, 2<<bit - 1, x.lowest &^ (1<<bit - 1)} {
				if imm &= x.lowest; imm != 0 {
					askFunction(t, "an Imm", fun([]uint32{none, x.first | imm, ret}, r), api.ErrForm)
				}
			}
		}
		askFunction(t, "without one", fun([]uint32{none, x.first | x.lowest>>1, ret}), x.without)
	}
	askFunction(t, "a Jump to itself", fun([]uint32{none, jumpBy(-1), ret}), api.OK)
	askFunction(t, "a Jump to itself, with a relocation", fun([]uint32{none, jumpBy(-1), ret}, calls(1)), api.ErrForm)
}

// P10.1: a Call with and without a relocation at each place; a relocation of another instruction isn't its own.
func TestCalls(t *testing.T) {
	for n := 2; n < 7; n++ {
		for k := range n - 1 {
			words := repeat(ret, n)
			words[k] = call0
			askFunction(t, "a Call", fun(words, calls(k)), api.OK)
			askFunction(t, "a Call without", fun(words), api.ErrForm)
			words[n-1] = jump0
			askFunction(t, "a Call, and a Jump", fun(words, calls(k), calls(n-1)), api.OK)
			askFunction(t, "a Call without, and a Jump", fun(words, calls(n-1)), api.ErrForm)
			askFunction(t, "a Call, and a Jump without", fun(words, calls(k)), api.ErrRange)
			words[n-1] = jumpBy(-1)
			askFunction(t, "a Call, and a Jump of its own", fun(words, calls(k)), api.OK)
			for _, by := range []int{-1, 1, -1 - k, n - 1 - k} {
				words[k] = 0x14000000 | uint32(by)&0xffffff
				askFunction(t, "a Call by its Imm", fun(words), api.ErrForm)
			}
		}
	}
}

// leading tells where the instruction at k, which leads to the place to, isn't judged so.
func leading(t *testing.T, words []uint32, k, to int, falls bool) {
	t.Helper()
	want := api.OK
	switch {
	case to < 0 || to >= len(words):
		want = api.ErrRange
	case falls && k == len(words)-1:
		want = api.ErrForm
	}
	askFunction(t, fmt.Sprint("from ", k, " to ", to), fun(words), want)
}

// P10.1: branches and Jumps from each place to each, and to those ahead of the first one and behind the last.
func TestLeads(t *testing.T) {
	for n := 1; n < 8; n++ {
		for k := range n {
			for to := -3; to < n+3; to++ {
				words := repeat(ret, n)
				for _, op := range branches {
					words[k] = branchBy(op, to-k-1)
					leading(t, words, k, to, true)
				}
				words[k] = jumpBy(to - k - 1)
				leading(t, words, k, to, false)
			}
		}
	}
	askFunction(t, "two, the second out", fun([]uint32{branch0, branchBy(api.OpBge, 5), ret}), api.ErrRange)
	askFunction(t, "two, the first out", fun([]uint32{jumpBy(-2), jumpBy(-1)}), api.ErrRange)
	askFunction(t, "into the room behind", fun(repeat(branch0|1, 1, ret, ret)[:2]), api.ErrRange)
}

// P10.1: branches and Jumps as far as their Imm goes.
func TestLeadsFar(t *testing.T) {
	for _, op := range branches {
		for _, n := range []int{1, 127, 128, 129, 130, 400} {
			leading(t, repeat(branchBy(op, 127), 1, repeat(ret, n)...), 0, 128, true)
			leading(t, repeat(ret, n, branchBy(op, -128), ret), n, n-127, true)
			leading(t, repeat(ret, n, branchBy(op, 0), ret), n, n+1, true)
		}
	}
	for _, n := range []int{1, 1998, 1999, 2000, 40000} {
		for _, by := range []int{1998, 32767, 32768, 65535, 65536, 1<<23 - 1} {
			leading(t, repeat(jumpBy(by), 1, repeat(ret, n)...), 0, by+1, false)
			leading(t, repeat(ret, n, jumpBy(-by-1), ret), n, n-by, false)
		}
	}
}

// P10.1: each instruction as the last one: it falls, or doesn't.
func TestLast(t *testing.T) {
	stops := []int{api.OpHalt, api.OpRet, api.OpTrap}
	for op := range api.Ops {
		want := api.ErrForm
		if slices.Contains(stops, op) {
			want = api.OK
		}
		w := plain(op)
		switch {
		case op == api.OpJump:
			w, want = jumpBy(-1), api.OK
		case slices.Contains(branches, op):
			w = branchBy(op, -1)
		}
		var rels []api.Rel
		if op == api.OpCall {
			rels = append(rels, calls(2))
		}
		askFunction(t, "the last", fun([]uint32{none, ret, w}, rels...), want)
		if op != api.OpCall {
			askFunction(t, "alone", fun([]uint32{w}), want)
		}
	}
	askFunction(t, "a Jump to another function last", fun([]uint32{none, jump0}, calls(1)), api.OK)
	askFunction(t, "High with a relocation last", fun([]uint32{ret, high0}, api.Rel{At: 1, Kind: api.RelHigh, Name: "x"}), api.ErrForm)
	askFunction(t, "Ori with a relocation last", fun([]uint32{ret, ori0}, api.Rel{At: 1, Kind: api.RelLow, Name: "x"}), api.ErrForm)
	askFunction(t, "behind the last is an end", fun([]uint32{ret, none, ret}[:2]), api.ErrForm)
}

// faulty is a function with some of the faults that the chapter names, by their bits in its order; the first three words stand in that order.
func faulty(set int, order []int) api.Func {
	has := func(k int) bool { return set>>k&1 == 1 }
	three := []uint32{none, call0, branch0}
	if has(1) {
		three[0] = 0x1a000000
	}
	if has(3) {
		three[2] = branchBy(api.OpBlt, 100)
	}
	f := fun(nil)
	for _, k := range order {
		if k == 1 && !has(2) {
			f.Rels = append(f.Rels, calls(len(f.Code)))
		}
		f.Code = append(f.Code, three[k])
	}
	last := uint32(ret)
	if has(4) {
		last = addi
	}
	f.Code = append(f.Code, last)
	if has(0) {
		f.Bind = api.Common
	}
	return f
}

// P10.1: of several errors the first one in the chapter's order, wherever in the function each is.
func TestFirstOfFunction(t *testing.T) {
	told := []api.Errno{api.ErrForm, api.ErrCode, api.ErrForm, api.ErrRange, api.ErrForm}
	for set := range 1 << len(told) {
		want := api.OK
		for k := len(told) - 1; k >= 0; k-- {
			if set>>k&1 == 1 {
				want = told[k]
			}
		}
		for _, order := range orders(3) {
			askFunction(t, fmt.Sprintf("faults %05b", set), faulty(set, order), want)
		}
	}
	askFunction(t, "another Bind, and no instruction", api.Func{Bind: 4, Code: []uint32{0xff000000}}, api.ErrForm)
	askFunction(t, "no instruction, and a relocation there", fun([]uint32{0xff000000, ret}, calls(0)), api.ErrCode)
	askFunction(t, "no instruction, and a relocation beyond", fun([]uint32{ret, 0xff000000}, calls(7)), api.ErrCode)
	askFunction(t, "a branch out, and a relocation of it", fun([]uint32{branch0 | 9, ret}, calls(0)), api.ErrForm)
	askFunction(t, "a branch out, and a relocation beyond", fun([]uint32{branch0 | 9, ret}, calls(7)), api.ErrForm)
	askFunction(t, "a Jump out that has a relocation", fun([]uint32{jumpBy(9), ret}, calls(0)), api.ErrForm)
	askFunction(t, "a branch out that is last", fun([]uint32{branch0}), api.ErrRange)
}

// P10.1: what the chapter doesn't ask of a function: names, how many words and relocations there are, and code that nothing comes to.
func TestNotAskedOfFunctions(t *testing.T) {
	for _, name := range []string{"", "main", "-", strings.Repeat("a", 33), "\xff"} {
		f := five()
		f.Name = name
		for k := range f.Rels {
			f.Rels[k].Name = name
		}
		askFunction(t, "a name", f, api.OK)
	}
	for _, n := range []int{1999, 2000, 2001, 65535, 65536, 70000} {
		askFunction(t, "many words", fun(repeat(none, n, ret)), api.OK)
		askFunction(t, "many words, and none behind", fun(repeat(none, n)), api.ErrForm)
	}
	for _, n := range []int{63, 64, 65, 2000, 70000} {
		f := fun(repeat(call0, n, ret))
		for k := range n {
			f.Rels = append(f.Rels, calls(k))
		}
		askFunction(t, "many relocations", f, api.OK)
		f.Rels = f.Rels[:n-1]
		askFunction(t, "many relocations, but one", f, api.ErrForm)
	}
	askFunction(t, "nothing comes there", fun([]uint32{ret, jumpBy(-1), none, branchBy(api.OpBeq, -3), halt}), api.OK)
}

// someData are right data with something in each part.
func someData() api.Data {
	return api.Data{
		Name: "d", Bind: api.Strong, Align: 4, Fixed: true, Size: 12, Bytes: []byte{1, 2, 3},
		Rels: []api.Rel{{At: 0, Kind: api.RelWord, Name: "d", Add: 4}, {At: 5, Kind: api.RelWord, Name: "x", Add: -4}},
	}
}

// P10.2: each Bind that data may have, and others, with something in each part, and with nothing.
func TestDataBinds(t *testing.T) {
	for _, bind := range append([]int{-1, 0, 1, 2, 3, 4, 5, 6, 8, 255, 256, 257, 260, 65540}, huge...) {
		d := someData()
		d.Bind = bind
		askData(t, "a Bind", d, bind >= 1 && bind <= 3)
		askData(t, "a Bind of zeros", api.Data{Name: "d", Bind: bind, Align: 1, Size: 1}, bind >= 1 && bind <= 4)
	}
}

// P10.2: each Align that may be, and those between and beyond.
func TestAligns(t *testing.T) {
	aligns := append([]int{-16, -4, -1, 255, 256, 256 + 4, 1 << 10, 65536 + 8, 1<<32 + 16}, huge...)
	for k := range 70 {
		aligns = append(aligns, k)
	}
	for _, align := range aligns {
		right := slices.Contains([]int{1, 2, 4, 8, 16}, align)
		for bind := 1; bind < 5; bind++ {
			askData(t, "an Align", api.Data{Name: "d", Bind: bind, Align: align, Size: 5}, right)
		}
		d := someData()
		d.Align = align
		askData(t, "an Align of some data", d, right)
	}
}

// P10.2: Sizes, at their ends and beyond, and below, at and above how many Bytes there are.
func TestSizes(t *testing.T) {
	for _, size := range append([]int{-4096, -2, -1, 0, 1, 2, 3, 255, 256, 4095, 4096, 4097, 4098, 8192, 65535, 65536, 65537, 1<<32 + 8}, huge...) {
		right := size >= 1 && size <= 4096
		for bind := 1; bind < 5; bind++ {
			askData(t, "a Size", api.Data{Name: "d", Bind: bind, Align: 1, Size: size}, right)
		}
		for _, n := range []int{0, 1, 2, size - 2, size - 1, size, size + 1, size + 2, 2 * size, 4095, 4096, 4097} {
			if n >= 0 && n <= 10000 {
				d := api.Data{Name: "d", Bind: 2, Align: 1, Size: size, Bytes: make([]byte, n, n+9)}
				askData(t, fmt.Sprint("so many bytes: ", n), d, right && n <= size)
			}
		}
	}
}

// P10.2: Common data are neither Fixed, nor have they Bytes or relocations; nil and empty lists are one.
func TestCommon(t *testing.T) {
	word := []api.Rel{{Kind: api.RelWord, Name: "d"}}
	for set := range 8 {
		d := api.Data{Name: "d", Align: 8, Fixed: set&1 == 1, Size: 8, Bytes: []byte{}, Rels: []api.Rel{}}
		if set&2 == 2 {
			d.Bytes = []byte{0}
		}
		if set&4 == 4 {
			d.Rels = word
		}
		for bind := 1; bind < 5; bind++ {
			d.Bind = bind
			askData(t, "with something", d, bind != api.Common || set == 0)
		}
	}
	askData(t, "Bytes in the room behind", api.Data{Name: "d", Bind: 4, Align: 1, Size: 9, Bytes: []byte{1, 2}[:0], Rels: word[:0]}, true)
}

// P10.2: relocations of data of each Kind, first and last.
func TestDataKinds(t *testing.T) {
	for _, kind := range append([]int{-1, 0, 1, 2, 3, 4, 5, 6, 8, 20, 255, 256, 260, 65540}, huge...) {
		for k := range someData().Rels {
			d := someData()
			d.Rels[k].Kind = kind
			askData(t, fmt.Sprint("a Kind at ", k), d, kind == 4)
		}
	}
}

// P10.2: relocations of data at all pairs of places, below 0, over one another, and over the end.
func TestDataPlaces(t *testing.T) {
	places := append([]int{1<<32 + 2, 65536, 65540}, huge...)
	for at := -6; at < 16; at++ {
		places = append(places, at)
	}
	for size := 1; size < 14; size++ {
		fits := func(at int) bool { return slices.Contains([]int{0, 1, 2, 3, 4, 5, 6, 7, 8, 9}[:max(size-3, 0)], at) }
		for _, a := range places {
			d := api.Data{Name: "d", Bind: 3, Align: 1, Size: size, Rels: []api.Rel{{At: a, Kind: 4, Name: "x"}}}
			askData(t, "one place", d, fits(a))
			for _, b := range places {
				d.Rels = []api.Rel{{At: a, Kind: 4, Name: "x"}, {At: b, Kind: 4, Name: "y"}}
				askData(t, "two places", d, fits(a) && fits(b) && b-a >= 4)
			}
		}
	}
}

// P10.2: three relocations of data, in all orders, and 3 or 4 from one to the next.
func TestDataThreePlaces(t *testing.T) {
	for _, step := range [][2]int{{4, 4}, {4, 3}, {3, 4}, {5, 4}, {4, 9}, {0, 8}, {8, 0}} {
		at := []int{2, 2 + step[0], 2 + step[0] + step[1]}
		for _, o := range orders(3) {
			d := api.Data{Name: "d", Bind: 1, Align: 2, Size: 32}
			for _, k := range o {
				d.Rels = append(d.Rels, api.Rel{At: at[k], Kind: api.RelWord, Name: "x"})
			}
			askData(t, "three places", d, slices.IsSorted(o) && min(step[0], step[1]) >= 4)
		}
	}
}

// P10.2: four bytes that end at the greatest Size and beyond, and as many relocations as have room.
func TestDataEnds(t *testing.T) {
	for _, size := range []int{4, 5, 63, 64, 4095, 4096} {
		for at := size - 6; at < size+2; at++ {
			d := api.Data{Name: "d", Bind: 1, Align: 1, Size: size, Bytes: make([]byte, size), Rels: []api.Rel{{At: at, Kind: 4, Name: "x"}}}
			askData(t, "at the end", d, at >= 0 && at+4 <= size)
		}
	}
	d := api.Data{Name: "d", Bind: 1, Align: 1, Size: 4096}
	for at := 0; at < 4096; at += 4 {
		d.Rels = append(d.Rels, api.Rel{At: at, Kind: 4, Name: "x"})
	}
	askData(t, "full of relocations", d, true)
	d.Size = 4095
	askData(t, "full of relocations, a byte less", d, false)
}

// P10.2: what the chapter doesn't ask of data: names, and Add.
func TestNotAskedOfData(t *testing.T) {
	for _, name := range []string{"", "main", "-", strings.Repeat("a", 33), "\xff"} {
		for _, add := range append([]int{-1 << 20, -1, 0, 1, 1 << 20}, huge...) {
			d := someData()
			d.Name, d.Rels[0].Name, d.Rels[1].Name = name, name, name
			d.Rels[0].Add, d.Rels[1].Add = add, -add
			askData(t, "names and Add", d, true)
		}
	}
}

// rightObject is a right object with several functions, data of each Bind, and notes; what its relocations name needn't be there.
func rightObject() api.Object {
	o := api.Object{
		Funcs: slices.Clone(rightFunctions()),
		Notes: []api.Note{{Name: "f2", Kind: api.NoteKeep}, {Name: "f0", Kind: api.NoteLeaf}, {Name: "f2", Kind: 0}, {Name: "f2", Kind: 255}},
	}
	for k := range o.Funcs {
		o.Funcs[k].Name = fmt.Sprint("f", k)
		o.Funcs[k].Bind = k%3 + 1
	}
	for bind := 1; bind < 4; bind++ {
		d := someData()
		d.Name, d.Bind = fmt.Sprint("d", 9-bind), bind
		o.Datas = append(o.Datas, d)
	}
	o.Datas = append(o.Datas, api.Data{Name: "c", Bind: api.Common, Align: 16, Size: 4096})
	return o
}

// P10.2: right objects, of few parts and of as many as may be.
func TestRightObjects(t *testing.T) {
	askObject(t, "several parts", rightObject(), api.OK)
	askObject(t, "nothing", api.Object{}, api.OK)
	askObject(t, "empty lists", api.Object{Funcs: []api.Func{}, Datas: []api.Data{}, Notes: []api.Note{}}, api.OK)
	askObject(t, "functions alone", api.Object{Funcs: rightObject().Funcs}, api.OK)
	askObject(t, "data alone", api.Object{Datas: rightObject().Datas}, api.OK)
	askObject(t, "names that are alike but for their letters", api.Object{
		Funcs: []api.Func{{Name: "a", Bind: 1, Code: []uint32{ret}}, {Name: "A", Bind: 1, Code: []uint32{ret}}, {Name: "aa", Bind: 1, Code: []uint32{ret}}},
		Datas: []api.Data{{Name: "a.", Bind: 1, Align: 1, Size: 1}, {Name: "_a", Bind: 1, Align: 1, Size: 1}},
	}, api.OK)
	askObject(t, "most", mostObject(), api.OK)
}

// mostObject is a right object with as many parts as may be, each as long as may be.
func mostObject() api.Object {
	var o api.Object
	for k := range api.MaxItems {
		f := api.Func{Name: fmt.Sprint("f", api.MaxItems-k), Bind: 1, Code: repeat(call0, 64, repeat(none, 1935, ret)...)}
		d := api.Data{Name: fmt.Sprint("d", k), Bind: 1, Align: 16, Size: 4096, Bytes: make([]byte, 4096)}
		for j := range api.MaxItems {
			f.Rels = append(f.Rels, calls(j))
			d.Rels = append(d.Rels, api.Rel{At: 64*j + 60, Kind: 4, Name: "x", Add: 1 << 20})
		}
		o.Funcs, o.Datas = append(o.Funcs, f), append(o.Datas, d)
		o.Notes = append(o.Notes, api.Note{Name: fmt.Sprint("f", 1+k/2), Kind: k})
	}
	return o
}

// change is something that is done to an object.
type change struct {
	what string
	do   func(o *api.Object)
}

// unwritten are changes that make an object one that may not be written, though its functions and data are right.
func unwritten() []change {
	return []change{
		{"a function's name", func(o *api.Object) { o.Funcs[1].Name = "-" }},
		{"no name of a function", func(o *api.Object) { o.Funcs[1].Name = "" }},
		{"a name of data", func(o *api.Object) { o.Datas[2].Name = "d d" }},
		{"a name too long", func(o *api.Object) { o.Datas[2].Name = strings.Repeat("a", 33) }},
		{"a name of a function's relocation", func(o *api.Object) { o.Funcs[13].Rels[4].Name = "" }},
		{"a name of a relocation of data", func(o *api.Object) { o.Datas[0].Rels[1].Name = "" }},
		{"Add of a function's relocation", func(o *api.Object) { o.Funcs[13].Rels[1].Add = 1<<20 + 1 }},
		{"Add of a relocation of data", func(o *api.Object) { o.Datas[0].Rels[1].Add = -1<<20 - 1 }},
		{"a note's Kind", func(o *api.Object) { o.Notes[3].Kind = 256 }},
		{"a note's Kind below 0", func(o *api.Object) { o.Notes[0].Kind = -1 }},
		{"too many words", func(o *api.Object) { o.Funcs[0].Code = repeat(none, 2000, ret) }},
		{"too many relocations", func(o *api.Object) {
			o.Funcs[0].Code, o.Funcs[0].Rels = repeat(call0, 65, ret), nil
			for k := range 65 {
				o.Funcs[0].Rels = append(o.Funcs[0].Rels, calls(k))
			}
		}},
		{"too many functions", func(o *api.Object) {
			for k := range 65 {
				o.Funcs = append(o.Funcs, api.Func{Name: fmt.Sprint("g", k), Bind: 1, Code: []uint32{ret}})
			}
		}},
		{"too many data", func(o *api.Object) {
			for k := range 65 {
				o.Datas = append(o.Datas, api.Data{Name: fmt.Sprint("g", k), Bind: 1, Align: 1, Size: 1})
			}
		}},
		{"too many notes", func(o *api.Object) { o.Notes = slices.Repeat(o.Notes[:1], 65) }},
	}
}

// funcFaults are changes that make a function wrong, with its error.
func funcFaults() []struct {
	e  api.Errno
	do func(f *api.Func)
} {
	return []struct {
		e  api.Errno
		do func(f *api.Func)
	}{
		{api.ErrForm, func(f *api.Func) { f.Bind = api.Common }},
		{api.ErrCode, func(f *api.Func) { f.Code = []uint32{0x1a000000} }},
		{api.ErrRange, func(f *api.Func) { f.Code, f.Rels = []uint32{jump0}, nil }},
		{api.ErrForm, func(f *api.Func) { f.Code, f.Rels = []uint32{none}, nil }},
	}
}

// later are changes that make an object wrong with ErrForm, behind what is asked of its functions.
func later() []change {
	return []change{
		{"an Align", func(o *api.Object) { o.Datas[0].Align = 3 }},
		{"a Size", func(o *api.Object) { o.Datas[3].Size = 4097 }},
		{"a Bind of data", func(o *api.Object) { o.Datas[1].Bind = 5 }},
		{"a relocation of data", func(o *api.Object) { o.Datas[2].Rels[0].Kind = api.RelHigh }},
		{"two functions of one name", func(o *api.Object) { o.Funcs[5].Name = "f1" }},
		{"two data of one name", func(o *api.Object) { o.Datas[2].Name = "c" }},
		{"a function and data of one name", func(o *api.Object) { o.Datas[2].Name = "f1" }},
		{"a note of none", func(o *api.Object) { o.Notes[3].Name = "nobody" }},
		{"a note of data", func(o *api.Object) { o.Notes[0].Name = "c" }},
		{"a note of what a relocation names", func(o *api.Object) { o.Notes[0].Name = "g" }},
	}
}

// P10.2: an object that may not be written, whatever else is wrong.
func TestMayNotBeWritten(t *testing.T) {
	for _, c := range unwritten() {
		o := rightObject()
		c.do(&o)
		askObject(t, c.what, o, api.ErrForm)
		if _, e := object.Write(o); e != api.ErrForm {
			t.Errorf("%s: is written", c.what)
		}
		for k, f := range o.Funcs {
			askFunction(t, fmt.Sprint(c.what, ", but the function ", k), f, api.OK)
		}
		for k, d := range o.Datas {
			askData(t, fmt.Sprint(c.what, ", but the data ", k), d, true)
		}
		for _, fault := range funcFaults() {
			o := rightObject()
			c.do(&o)
			fault.do(&o.Funcs[3])
			askObject(t, c.what+", and a function", o, api.ErrForm)
		}
	}
}

// P10.2: the error of each function that isn't right, and that of the first one of two, ahead of all that is asked behind functions.
func TestFirstOfFunctions(t *testing.T) {
	n := len(rightFunctions())
	for _, fault := range funcFaults() {
		for k := range n {
			o := rightObject()
			fault.do(&o.Funcs[k])
			askObject(t, fmt.Sprint("the function ", k), o, fault.e)
			for _, other := range funcFaults() {
				for j := k + 1; j < n; j++ {
					o := rightObject()
					fault.do(&o.Funcs[k])
					other.do(&o.Funcs[j])
					askObject(t, fmt.Sprint("the functions ", k, " and ", j), o, fault.e)
				}
			}
		}
		for _, c := range later() {
			for _, k := range []int{0, 3, n - 1} {
				o := rightObject()
				c.do(&o)
				askObject(t, c.what, o, api.ErrForm)
				fault.do(&o.Funcs[k])
				askObject(t, fmt.Sprint(c.what, ", and the function ", k), o, fault.e)
			}
		}
	}
}

// P10.2: each of the data that isn't right, whichever it is.
func TestDataOfObjects(t *testing.T) {
	for k := range rightObject().Datas {
		for _, do := range []func(d *api.Data){
			func(d *api.Data) { d.Bind = 5 },
			func(d *api.Data) { d.Align = 0 },
			func(d *api.Data) { d.Size = 0 },
			func(d *api.Data) { d.Size = 4097 },
			func(d *api.Data) { d.Size, d.Bytes = 4, make([]byte, 5) },
			func(d *api.Data) { d.Bind, d.Fixed = 4, true },
			func(d *api.Data) { d.Rels = []api.Rel{{Kind: 1, Name: "f1"}} },
		} {
			o := rightObject()
			do(&o.Datas[k])
			askObject(t, fmt.Sprint("the data ", k), o, api.ErrForm)
		}
	}
}

// namedParts answers each place where a function or data of the object has its name.
func namedParts(o *api.Object) []*string {
	var l []*string
	for k := range o.Funcs {
		l = append(l, &o.Funcs[k].Name)
	}
	for k := range o.Datas {
		l = append(l, &o.Datas[k].Name)
	}
	return l
}

// P10.2: each two of the functions and data, with one name.
func TestOneName(t *testing.T) {
	o := rightObject()
	o.Notes = nil
	all := namedParts(&o)
	for k := range all {
		for j := range k {
			own := *all[k]
			*all[k] = *all[j]
			askObject(t, fmt.Sprint("the parts ", j, " and ", k), o, api.ErrForm)
			*all[k] = "another"
			askObject(t, fmt.Sprint("the part ", k, " named anew"), o, api.OK)
			*all[k] = own
		}
	}
	for bind := 1; bind < 4; bind++ {
		for other := 1; other < 5; other++ {
			f := api.Func{Name: "x", Bind: bind, Code: []uint32{ret}}
			g := api.Func{Name: "x", Bind: min(other, 3), Code: []uint32{halt}}
			d := api.Data{Name: "x", Bind: other, Align: 1, Size: 1}
			e := api.Data{Name: "x", Bind: bind, Align: 4, Size: 4}
			askObject(t, "two functions", api.Object{Funcs: []api.Func{f, g}}, api.ErrForm)
			askObject(t, "two data", api.Object{Datas: []api.Data{d, e}}, api.ErrForm)
			askObject(t, "a function and data", api.Object{Funcs: []api.Func{f}, Datas: []api.Data{d}}, api.ErrForm)
		}
	}
	for _, pair := range [][2]int{{0, 63}, {62, 63}, {0, 64}, {63, 64}, {63, 127}, {64, 127}, {0, 127}} {
		o := mostObject()
		o.Notes = nil
		*namedParts(&o)[pair[1]] = *namedParts(&o)[pair[0]]
		askObject(t, fmt.Sprint("of most, ", pair), o, api.ErrForm)
	}
}

// P10.2: each note's name: a function's, of data, of none; whatever Kind it has.
func TestNotes(t *testing.T) {
	for k := range rightObject().Notes {
		for _, f := range rightFunctions() {
			o := rightObject()
			o.Funcs = append(o.Funcs, f)
			o.Notes[k].Name = f.Name
			askObject(t, "a function's", o, api.OK)
		}
		for _, name := range []string{"c", "d6", "d8", "x", "g", "nobody", "F0", "f", "f00", "f14"} {
			for _, kind := range []int{0, 1, 2, 3, 4, 255} {
				o := rightObject()
				o.Notes[k] = api.Note{Name: name, Kind: kind}
				askObject(t, "a note", o, api.ErrForm)
			}
		}
	}
	one := api.Note{Name: "f", Kind: 1}
	askObject(t, "a note without functions", api.Object{Notes: []api.Note{one}}, api.ErrForm)
	askObject(t, "a note of data alone", api.Object{Datas: []api.Data{{Name: "f", Bind: 1, Align: 1, Size: 1}}, Notes: []api.Note{one}}, api.ErrForm)
	askObject(t, "the same note twice", api.Object{Funcs: []api.Func{fun([]uint32{ret})}, Notes: []api.Note{one, one}}, api.OK)
	o := mostObject()
	o.Notes[63].Name = "d63"
	askObject(t, "the last of most", o, api.ErrForm)
}

// chance answers numbers that look like chance, always the same ones.
type chance uint64

// below answers a number from 0 to n-1.
func (c *chance) below(n int) int {
	*c = *c*6364136223846793005 + 1442695040888963407
	return int(uint64(*c) >> 33 % uint64(n))
}

// word answers a word of a function of n words, for its place k, and whether it has a relocation, of which Kind.
func (c *chance) word(k, n int) (uint32, int) {
	to := c.below(n)
	if c.below(25) == 0 {
		to = c.below(n+4) - 2
	}
	regs := uint32(c.below(16))<<20 | uint32(c.below(16))<<16
	switch c.below(12) {
	case 0, 1:
		return uint32(branches[c.below(4)])<<24 | regs | uint32(to-k-1)&0xff, 0
	case 2:
		return jumpBy(to - k - 1), 0
	case 3:
		return []uint32{call0, jump0}[c.below(2)], api.RelCall
	case 4:
		return high0, api.RelHigh
	case 5:
		return ori0, api.RelLow
	case 6:
		return []uint32{ret, halt, trap}[c.below(3)], 0
	case 7:
		return uint32(api.OpLoad+c.below(4))<<24 | regs | uint32(c.below(8)), 0
	case 8:
		return uint32(api.OpIn+c.below(2))<<24 | regs&0xf00000, 0
	}
	return uint32(1+c.below(7))<<24 | regs | uint32(c.below(16)), 0
}

// function answers a function that is nearly right, often quite.
func (c *chance) function() api.Func {
	n := 1 + c.below(9)
	f := fun(nil)
	for k := range n {
		w, kind := c.word(k, n)
		if k == n-1 && c.below(8) > 0 {
			w, kind = []uint32{ret, halt, trap, jumpBy(-1 - c.below(n)), jump0}[c.below(5)], 0
			if w == jump0 {
				kind = api.RelCall
			}
		}
		if kind > 0 && c.below(30) > 0 {
			f.Rels = append(f.Rels, api.Rel{At: k, Kind: kind, Name: "g"})
		}
		f.Code = append(f.Code, w)
	}
	if c.below(3) == 0 {
		c.spoil(&f)
	}
	return f
}

// spoil changes something of the function.
func (c *chance) spoil(f *api.Func) {
	at := c.below(len(f.Code))
	switch c.below(5) {
	case 0:
		f.Code[at] = notInstructions[c.below(len(notInstructions))]
	case 1:
		f.Code[at] ^= 1 << c.below(32)
	case 2:
		f.Bind = c.below(6)
	case 3:
		f.Rels = slices.Insert(f.Rels, c.below(len(f.Rels)+1), api.Rel{At: c.below(len(f.Code)+3) - 1, Kind: c.below(5), Name: "x"})
	case 4:
		if k := len(f.Rels); k > 0 {
			f.Rels[c.below(k)].At += c.below(5) - 2
			f.Rels[c.below(k)].Add = c.below(2)
		}
	}
}

// asked answers what is wrong with the function: all of it, each thing by itself, in the chapter's order.
func asked(f api.Func) [5]bool {
	var wrong [5]bool
	n := len(f.Code)
	wrong[0] = f.Bind < 1 || f.Bind > 3 || n == 0
	with := map[int]int{}
	for k, r := range f.Rels {
		with[r.At]++
		wrong[2] = wrong[2] || r.At < 0 || r.At >= n || k > 0 && r.At <= f.Rels[k-1].At || r.Kind == 1 && r.Add != 0
		if r.At >= 0 && r.At < n {
			i, _ := code.Get(f.Code[r.At])
			wrong[2] = wrong[2] || i.Imm != 0 || !kindGoes(r.Kind, i.Op)
		}
	}
	for k, w := range f.Code {
		i, e := code.Get(w)
		wrong[1] = wrong[1] || e != api.OK
		wrong[2] = wrong[2] || i.Op == api.OpCall && with[k] == 0
		leads := slices.Contains(branches, i.Op) || i.Op == api.OpJump && with[k] == 0
		wrong[3] = wrong[3] || leads && (k+i.Imm < -1 || k+i.Imm >= n-1)
		stops := []int{api.OpHalt, api.OpRet, api.OpTrap, api.OpJump}
		wrong[4] = wrong[4] || k == n-1 && !slices.Contains(stops, i.Op)
	}
	return wrong
}

// P10.1: functions by chance, against all that the chapter asks, each thing by itself.
func TestFunctionsByChance(t *testing.T) {
	told := []api.Errno{api.ErrForm, api.ErrCode, api.ErrForm, api.ErrRange, api.ErrForm, api.OK}
	var count [6]int
	c := chance(10)
	for range 200000 {
		f := c.function()
		wrong := asked(f)
		first := slices.Index(append(wrong[:], true), true)
		count[first]++
		askFunction(t, "by chance", f, told[first])
	}
	if slices.Min(count[:]) < 1000 {
		t.Errorf("by chance came %v", count)
	}
}

// states are states of a machine at that place, with registers that have various words.
func states(k int) []api.State {
	var l []api.State
	for _, w := range []uint32{0, 1, 65536, 0x80000000, math.MaxUint32} {
		for turn := range uint32(3) {
			s := api.State{At: k, Mem: api.Mem{Bytes: make([]byte, 16)}, In: []byte{7}}
			for r := 1; r < api.Regs; r++ {
				s.R[r] = w + turn*uint32(r)
			}
			l = append(l, s)
		}
	}
	return l
}

// outside tells where the function goes on at what is no place of its code, nor behind a call, nor another function's beginning; "" if nowhere.
func outside(f api.Func) string {
	inside := func(at int) bool { return at >= 0 && at < len(f.Code) }
	for k, w := range f.Code {
		leaves := slices.ContainsFunc(f.Rels, func(r api.Rel) bool { return r.At == k && r.Kind == api.RelCall })
		for _, s := range states(k) {
			s := cpu.Step(f.Code, s)
			switch {
			case s.Ended && s.Fault == api.FaultCode:
				return fmt.Sprint("no instruction at ", k)
			case s.Ended || w>>24 == api.OpJump && leaves:
			case len(s.Back) == 1 && (!leaves || !inside(s.Back[0])):
				return fmt.Sprint("a call at ", k, ", and back to ", s.Back[0])
			case len(s.Back) == 0 && !inside(s.At):
				return fmt.Sprint("from ", k, " to ", s.At)
			}
		}
	}
	return ""
}

// P10.3: each place that an instruction of a right function may go on at is a place of it, behind a call, or another function's beginning.
func TestPlacesGoneOnAt(t *testing.T) {
	l := rightFunctions()
	c := chance(3)
	for range 20000 {
		if f := c.function(); Function(f) == api.OK {
			l = append(l, f)
		}
	}
	for _, f := range l {
		if where := outside(f); where != "" {
			t.Errorf("%s: %s", hex(f), where)
		}
	}
	if len(l) < 5000 {
		t.Errorf("by chance came %d right functions", len(l))
	}
}

// P10.3: what goes on elsewhere isn't right.
func TestPlacesOutside(t *testing.T) {
	for _, f := range []api.Func{
		fun([]uint32{none}),
		fun([]uint32{0x1a000000}),
		fun([]uint32{branchBy(api.OpBeq, -2), ret}),
		fun([]uint32{branchBy(api.OpBge, 1), ret}),
		fun([]uint32{jumpBy(1), ret}),
		fun([]uint32{ret, jumpBy(-3)}),
		fun([]uint32{call0, ret}),
		fun([]uint32{ret, call0}, calls(1)),
		fun([]uint32{ret, branchBy(api.OpBlt, -1)}),
	} {
		if outside(f) == "" || Function(f) == api.OK {
			t.Errorf("%s: goes on outside at %q, and is judged %d", hex(f), outside(f), Function(f))
		}
	}
}

// roomyList answers the list with others in the room behind its length.
func roomyList[T any](l []T, other T) []T {
	return append(slices.Clone(l), other, other, other)[:len(l)]
}

// roomy answers the object with something in the room behind each list's length.
func roomy(o api.Object) api.Object {
	rel := api.Rel{At: 77, Kind: 7, Name: "room", Add: 777}
	funcs, datas := roomyList(o.Funcs, api.Func{Name: "room"}), roomyList(o.Datas, api.Data{Name: "room"})
	for k := range funcs {
		funcs[k].Code, funcs[k].Rels = roomyList(funcs[k].Code, 0xeeeeeeee), roomyList(funcs[k].Rels, rel)
	}
	for k := range datas {
		datas[k].Bytes, datas[k].Rels = roomyList(datas[k].Bytes, 0xee), roomyList(datas[k].Rels, rel)
	}
	return api.Object{Funcs: funcs, Datas: datas, Notes: roomyList(o.Notes, api.Note{Name: "room"})}
}

// room answers the list with the room behind its length.
func room[T any](l []T) []T { return l[:cap(l)] }

// showAll tells all of the object, and what stands in the room behind each list's length.
func showAll(o api.Object) string {
	var text strings.Builder
	fmt.Fprintf(&text, "%+v %+v %+v", room(o.Funcs), room(o.Datas), room(o.Notes))
	for _, f := range o.Funcs {
		fmt.Fprintf(&text, " %x %+v", room(f.Code), room(f.Rels))
	}
	for _, d := range o.Datas {
		fmt.Fprintf(&text, " %x %+v", room(d.Bytes), room(d.Rels))
	}
	return text.String()
}

// P10.4: what is handed in stays, and so does the room behind each length, whether it is right or not; asked again, the answer is the same.
func TestHandedInStays(t *testing.T) {
	objects := []api.Object{{}, rightObject(), mostObject()}
	for _, c := range append(unwritten(), later()...) {
		o := rightObject()
		c.do(&o)
		objects = append(objects, o)
	}
	for _, fault := range funcFaults() {
		o := rightObject()
		fault.do(&o.Funcs[2])
		objects = append(objects, o)
	}
	for k, plain := range objects {
		o := roomy(plain)
		own := showAll(o)
		want := Object(plain)
		askObject(t, fmt.Sprint("with room ", k), o, want)
		for j, f := range o.Funcs {
			askFunction(t, fmt.Sprint("with room ", k, " ", j), f, Function(plain.Funcs[j]))
		}
		for j, d := range o.Datas {
			askData(t, fmt.Sprint("with room ", k, " ", j), d, Data(plain.Datas[j]) == api.OK)
		}
		askObject(t, fmt.Sprint("again ", k), o, want)
		if got := showAll(o); got != own {
			t.Errorf("of the object %d became %.500s, want %.500s", k, got, own)
		}
	}
}

// P1: no call panics, whatever numbers and lists it is given.
func TestWhatever(t *testing.T) {
	numbers := append([]int{-1, 0, 1, 2, 3, 4, 16, 4096}, huge...)
	askObject(t, "zeros", api.Object{Funcs: []api.Func{{}}, Datas: []api.Data{{}}, Notes: []api.Note{{}}}, api.ErrForm)
	for _, x := range numbers {
		for _, y := range numbers {
			rels := []api.Rel{{At: x, Kind: y, Add: x}, {At: y, Kind: x, Add: y}}
			for _, words := range [][]uint32{nil, {uint32(x)}, {call0, uint32(y), uint32(x)}, {high0, ori0, jump0, call0, ret}} {
				f := api.Func{Bind: x, Code: words, Rels: rels}
				Function(f)
				f.Bind = 1
				Function(f)
				Object(api.Object{Funcs: []api.Func{f}, Notes: []api.Note{{Kind: y}}})
			}
			d := api.Data{Bind: x, Align: y, Size: x, Bytes: make([]byte, 5), Rels: rels}
			Data(d)
			Object(api.Object{Datas: []api.Data{d}})
			d.Bind, d.Align, d.Size = 1, 1, y
			Data(d)
		}
	}
}
