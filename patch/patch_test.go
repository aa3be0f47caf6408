package patch

import (
	"fmt"
	"math"
	"slices"
	"strings"
	"testing"

	"splice/api"
	"splice/cpu"
	"splice/names"
	"splice/place"
)

// Words of instructions, written out.
const (
	ret   = 0x15000000
	none  = 0x18000000
	halt  = 0x00100000
	call0 = 0x14000000
	jump0 = 0x13000000
	high0 = 0x09100000 // High 1
	ori0  = 0x0a110000 // Ori 1, 1
)

// fn is a function of these words, with these relocations.
func fn(words []uint32, rels ...api.PRel) api.PFunc { return api.PFunc{Code: words, Rels: rels} }

// plain is a function of so many words None.
func plain(n int) api.PFunc { return fn(slices.Repeat([]uint32{none}, n)) }

// to is a relocation of a call or a jump.
func to(at, f int) api.PRel { return api.PRel{At: at, Kind: api.RelCall, To: f} }

// high, low and word are relocations that have an address.
func high(at, d, add int) api.PRel { return api.PRel{At: at, Kind: api.RelHigh, To: d, Add: add} }
func low(at, d, add int) api.PRel  { return api.PRel{At: at, Kind: api.RelLow, To: d, Add: add} }
func word(at, d, add int) api.PRel { return api.PRel{At: at, Kind: api.RelWord, To: d, Add: add} }

// data is data of an Align of 1, so many bytes, these of them told.
func data(size int, bytes []byte, rels ...api.PRel) api.PData {
	return api.PData{Align: 1, Size: size, Bytes: bytes, Rels: rels}
}

// filler is data of so many bytes in all, none of which is told.
func filler(n int) []api.PData {
	var l []api.PData
	for ; n > 0; n -= 4096 {
		l = append(l, data(min(n, 4096), nil))
	}
	return l
}

// plan is the program's plan in the order; of all functions, if that is nil.
func plan(t *testing.T, p api.Prog, order []int) api.Plan {
	t.Helper()
	if order == nil {
		order = place.All(p)
	}
	x, e := place.Plan(p, order)
	if e != api.OK {
		t.Fatalf("order %v: no plan, error %d", order, e)
	}
	return x
}

// codeIs tells where the function's words are others than these.
func codeIs(t *testing.T, what string, p api.Prog, x api.Plan, f int, want ...uint32) {
	t.Helper()
	l, e := Code(p, x, f)
	if e != api.OK || !slices.Equal(l, want) {
		t.Errorf("%s: the function %d: error %d, %.300s; want %.300s", what, f, e, fmt.Sprintf("%08x", l), fmt.Sprintf("%08x", want))
	}
}

// dataIs tells where the bytes of the data are others than these.
func dataIs(t *testing.T, what string, p api.Prog, x api.Plan, d int, want ...byte) {
	t.Helper()
	l, e := Data(p, x, d)
	if e != api.OK || !slices.Equal(l, want) {
		t.Errorf("%s: the data %d: error %d, %.300s; want %.300s", what, d, e, fmt.Sprintf("%02x", l), fmt.Sprintf("%02x", want))
	}
}

// noCode and noData tell where the answer is another one than ErrRange, or something comes with it.
func noCode(t *testing.T, what string, p api.Prog, x api.Plan, f int) {
	t.Helper()
	if l, e := Code(p, x, f); e != api.ErrRange || len(l) > 0 {
		t.Errorf("%s: the function %d: error %d, %.300s; want %d and nothing", what, f, e, fmt.Sprintf("%08x", l), api.ErrRange)
	}
}

func noData(t *testing.T, what string, p api.Prog, x api.Plan, d int) {
	t.Helper()
	if l, e := Data(p, x, d); e != api.ErrRange || len(l) > 0 {
		t.Errorf("%s: the data %d: error %d, %.300s; want %d and nothing", what, d, e, fmt.Sprintf("%02x", l), api.ErrRange)
	}
}

// modelValue is a relocation's value as the chapter says it; false, if it is none.
func modelValue(x api.Plan, r api.PRel) (int, bool) {
	v := 65536 + x.Data[r.To] + r.Add
	return v, v >= 0 && v <= 4294967295
}

// modelCode is the function's words as the chapter says it, put together by sums.
func modelCode(p api.Prog, x api.Plan, f int) ([]uint32, api.Errno) {
	l := slices.Clone(p.Funcs[f].Code)
	for _, r := range p.Funcs[f].Rels {
		v, fits := 0, true
		if r.Kind == api.RelCall {
			v = x.Code[r.To] - x.Code[f] - r.At - 1
			fits = x.Code[r.To] != -1 && v >= -8388608 && v <= 8388607
		} else {
			v, fits = modelValue(x, r)
		}
		if !fits {
			return nil, api.ErrRange
		}
		switch r.Kind {
		case api.RelCall:
			l[r.At] = l[r.At]/16777216*16777216 + uint32((v+16777216)%16777216)
		case api.RelHigh:
			l[r.At] = l[r.At]/65536*65536 + uint32(v/65536)
		case api.RelLow:
			l[r.At] = l[r.At]/65536*65536 + uint32(v%65536)
		}
	}
	return l, api.OK
}

// modelData is the bytes of the data as the chapter says it, found one by one.
func modelData(p api.Prog, x api.Plan, d int) ([]byte, api.Errno) {
	var l []byte
	for k := range p.Datas[d].Size {
		if k < len(p.Datas[d].Bytes) {
			l = append(l, p.Datas[d].Bytes[k])
		} else {
			l = append(l, 0)
		}
	}
	for _, r := range p.Datas[d].Rels {
		v, fits := modelValue(x, r)
		if !fits {
			return nil, api.ErrRange
		}
		for k := range 4 {
			l[r.At+k] = byte(v % 256)
			v /= 256
		}
	}
	return l, api.OK
}

// asModel tells where an answer isn't the model's, of any function that isn't left out, and of any data; it answers how many right answers there were, and refused ones.
func asModel(t *testing.T, p api.Prog, x api.Plan) (right, refused int) {
	t.Helper()
	count := func(e api.Errno) {
		if e == api.OK {
			right++
		} else {
			refused++
		}
	}
	for f := range p.Funcs {
		if x.Code[f] < 0 {
			continue
		}
		want, e := modelCode(p, x, f)
		if e == api.OK {
			codeIs(t, "as the model", p, x, f, want...)
		} else {
			noCode(t, "as the model", p, x, f)
		}
		count(e)
	}
	for d := range p.Datas {
		want, e := modelData(p, x, d)
		if e == api.OK {
			dataIs(t, "as the model", p, x, d, want...)
		} else {
			noData(t, "as the model", p, x, d)
		}
		count(e)
	}
	return right, refused
}

// orders are all orders of all the numbers below n.
func orders(n int) [][]int {
	l := [][]int{nil}
	for range n {
		var next [][]int
		for _, o := range l {
			for f := range n {
				if !slices.Contains(o, f) {
					next = append(next, append(slices.Clone(o), f))
				}
			}
		}
		l = next
	}
	return l
}

// ordinary is a program of functions and data that name one another.
func ordinary() api.Prog {
	return api.Prog{
		Funcs: []api.PFunc{
			fn([]uint32{call0, high0, ori0, call0, halt}, to(0, 1), high(1, 1, 0), low(2, 1, 0), to(3, 2)),
			fn([]uint32{0x0811ffff, 0x0f1000fe, jump0}, to(2, 2)),
			fn([]uint32{call0, ret}, to(0, 0)),
		},
		Datas: []api.PData{
			{Align: 4, Size: 6, Bytes: []byte{9, 8, 7, 6, 5, 4}, Rels: []api.PRel{word(0, 2, 0)}},
			{Align: 8, Fixed: true, Size: 9, Bytes: []byte{1}, Rels: []api.PRel{word(4, 0, 2)}},
			{Align: 2, Size: 8, Rels: []api.PRel{word(0, 1, -65536), word(4, 2, -1)}},
		},
	}
}

// P13.1: a program of several functions and data that name one another, in several orders, all of it written out.
func TestOrdinary(t *testing.T) {
	p := ordinary()
	for _, row := range []struct {
		order         []int
		first, second []uint32
		third         uint32
	}{
		{[]int{0, 1, 2}, []uint32{0x14000004, 0x14000004}, []uint32{0x13000000}, 0x14fffff7},
		{[]int{2, 1, 0}, []uint32{0x14fffffc, 0x14fffff7}, []uint32{0x13fffffb}, 0x14000004},
		{[]int{1, 2, 0}, []uint32{0x14fffffa, 0x14fffffa}, []uint32{0x13000000}, 0x14000001},
		{[]int{0, 2, 1}, []uint32{0x14000006, 0x14000001}, []uint32{0x13fffffb}, 0x14fffffa},
		{[]int{2, 0, 1}, []uint32{0x14000004, 0x14fffffa}, []uint32{0x13fffff6}, 0x14000001},
		{[]int{1, 0, 2}, []uint32{0x14fffffc, 0x14000001}, []uint32{0x13000005}, 0x14fffffa},
	} {
		x := plan(t, p, row.order)
		what := fmt.Sprint("the order ", row.order)
		codeIs(t, what, p, x, 0, row.first[0], 0x09100001, 0x0a110000, row.first[1], halt)
		codeIs(t, what, p, x, 1, 0x0811ffff, 0x0f1000fe, row.second[0])
		codeIs(t, what, p, x, 2, row.third, ret)
		// The data stand at 16, 0 and 22, whatever the order.
		dataIs(t, what, p, x, 0, 22, 0, 1, 0, 5, 4)
		dataIs(t, what, p, x, 1, 1, 0, 0, 0, 18, 0, 1, 0, 0)
		dataIs(t, what, p, x, 2, 0, 0, 0, 0, 21, 0, 1, 0)
	}
	for _, o := range orders(3) {
		asModel(t, p, plan(t, p, o))
	}
}

// P13.1: the example.
func TestExample(t *testing.T) {
	p := api.Prog{Funcs: []api.PFunc{fn([]uint32{call0, ret}, to(0, 1)), fn([]uint32{ret})}}
	codeIs(t, "a call of the next function", p, plan(t, p, nil), 0, 0x14000001, ret)
	p.Funcs[0] = fn([]uint32{none, none, none, jump0, ret}, to(3, 1))
	codeIs(t, "a jump to the next function", p, plan(t, p, nil), 0, none, none, none, 0x13000001, ret)
}

// P13.1: a program that comes of objects: names of its own object and of another one.
func TestObjects(t *testing.T) {
	rel := func(at, kind int, name string, add int) api.Rel {
		return api.Rel{At: at, Kind: kind, Name: name, Add: add}
	}
	l := []api.Object{
		{
			Funcs: []api.Func{
				{Name: "main", Bind: api.Strong, Code: []uint32{call0, high0, ori0, call0, halt}, Rels: []api.Rel{
					rel(0, api.RelCall, "f", 0), rel(1, api.RelHigh, "d", 40000), rel(2, api.RelLow, "d", 40000), rel(3, api.RelCall, "g", 0)}},
				{Name: "f", Bind: api.Local, Code: []uint32{ret}},
			},
			Datas: []api.Data{{Name: "d", Bind: api.Common, Align: 4, Size: 2}},
		},
		{
			Funcs: []api.Func{
				{Name: "f", Bind: api.Strong, Code: []uint32{none, jump0}, Rels: []api.Rel{rel(1, api.RelCall, "main", 0)}},
				{Name: "g", Bind: api.Weak, Code: []uint32{jump0}, Rels: []api.Rel{rel(0, api.RelCall, "f", 0)}},
			},
			Datas: []api.Data{
				{Name: "e", Bind: api.Local, Align: 1, Size: 5, Bytes: []byte{3}, Rels: []api.Rel{rel(1, api.RelWord, "d", -1)}},
				{Name: "d", Bind: api.Common, Align: 8, Size: 3},
			},
		},
	}
	p, e := names.Resolve(l)
	if e != api.OK {
		t.Fatal(e)
	}
	x := plan(t, p, nil)
	// The functions stand at 0, 5, 6 and 8, the data at 0 and 3.
	codeIs(t, "main", p, x, 0, 0x14000004, 0x09100001, 0x0a119c40, 0x14000004, halt)
	codeIs(t, "the local f", p, x, 1, ret)
	codeIs(t, "f", p, x, 2, none, 0x13fffff8)
	codeIs(t, "g", p, x, 3, 0x13fffffd)
	dataIs(t, "d", p, x, 0, 0, 0, 0)
	dataIs(t, "e", p, x, 1, 3, 0xff, 0xff, 0, 0)
}

// P13.1, P13.2: without a relocation each word stays, an instruction or none, and so does each byte.
func TestNoRelocation(t *testing.T) {
	l := []uint32{call0, jump0, high0, ori0, 0x14123456, 0x13fedcba, 0x0910abcd, 0x0a11dcba, 0xffffffff, 0, 0x1a000000, ret}
	for _, words := range [][]uint32{nil, {}, {0}, {ret}, {math.MaxUint32}, l} {
		for _, rels := range [][]api.PRel{nil, {}} {
			p := api.Prog{Funcs: []api.PFunc{plain(3), fn(words, rels...)}, Datas: []api.PData{data(4, nil)}}
			codeIs(t, "no relocation", p, plan(t, p, nil), 1, words...)
			codeIs(t, "no relocation, another order", p, plan(t, p, []int{1, 0}), 1, words...)
		}
	}
	for _, b := range [][]byte{nil, {}, {0}, {255}, {1, 2, 3, 4, 5, 6, 7, 8, 9}} {
		for size := max(1, len(b)); size < 20; size++ {
			p := api.Prog{Funcs: []api.PFunc{plain(1)}, Datas: []api.PData{data(3, nil), data(size, b)}}
			want := append(slices.Clone(b), make([]byte, size-len(b))...)
			dataIs(t, "no relocation", p, plan(t, p, nil), 1, want...)
		}
	}
}

// P13.1: each of five functions has at each of its words a call, or a jump, of each function, in each order: the word where it leads is counted one by one.
func TestEachCallsEach(t *testing.T) {
	for _, instruction := range []uint32{call0, jump0} {
		var p api.Prog
		for range 5 {
			p.Funcs = append(p.Funcs, fn(slices.Repeat([]uint32{instruction}, 5), to(0, 0), to(1, 1), to(2, 2), to(3, 3), to(4, 4)))
		}
		for _, o := range orders(5) {
			x := plan(t, p, o)
			for f := range p.Funcs {
				l, e := Code(p, x, f)
				for n, w := range l {
					// Five words a function: the one called is as many fives on as it stands behind in the order.
					far := 5 * (slices.Index(o, n) - slices.Index(o, f))
					want := instruction + uint32(far-n-1)&0xffffff
					if w != want {
						t.Errorf("order %v: the function %d calls %d by %08x, want %08x", o, f, n, w, want)
					}
				}
				if e != api.OK || len(l) != 5 {
					t.Errorf("order %v: the function %d: error %d, %d words", o, f, e, len(l))
				}
			}
		}
	}
}

// P13.1: a call and a jump of the next function, of the own one, and of one that stands ahead, at the first word, the last one, and between.
func TestNextOwnAhead(t *testing.T) {
	for _, row := range []struct {
		at, to int
		want   uint32 // the Imm's 24 bits
	}{
		{0, 2, 3}, {1, 2, 2}, {2, 2, 1}, {3, 2, 0},
		{0, 1, 0xffffff}, {1, 1, 0xfffffe}, {2, 1, 0xfffffd}, {3, 1, 0xfffffc},
		{0, 0, 0xfffff8}, {1, 0, 0xfffff7}, {2, 0, 0xfffff6}, {3, 0, 0xfffff5},
		{0, 3, 8}, {3, 3, 5},
	} {
		for _, instruction := range []uint32{call0, jump0} {
			words := []uint32{none, none, none, ret}
			words[row.at] = instruction
			p := api.Prog{Funcs: []api.PFunc{plain(7), fn(words, to(row.at, row.to)), plain(5), plain(1)}}
			want := slices.Clone(words)
			want[row.at] += row.want
			codeIs(t, fmt.Sprint("at ", row.at, " to the function ", row.to), p, plan(t, p, nil), 1, want...)
		}
	}
}

// P13.1: functions without a word stand where the next one stands: calls of both lead to the same word.
func TestFunctionsWithoutWords(t *testing.T) {
	p := api.Prog{Funcs: []api.PFunc{fn([]uint32{call0, call0, jump0}, to(0, 1), to(1, 2), to(2, 3)), fn(nil), plain(2), fn(nil)}}
	codeIs(t, "ahead", p, plan(t, p, nil), 0, 0x14000002, 0x14000001, 0x13000002)
	codeIs(t, "back", p, plan(t, p, []int{3, 1, 2, 0}), 0, 0x14fffffd, 0x14fffffc, 0x13fffffb)
}

// P13.1: a call or a jump of a function that is left out doesn't fit, wherever it stands; one of a function that isn't goes on.
func TestLeftOut(t *testing.T) {
	for _, instruction := range []uint32{call0, jump0} {
		for at := range 3 {
			for f := range 3 {
				words := []uint32{none, none, ret}
				words[at] = instruction
				p := api.Prog{Funcs: []api.PFunc{fn(words, to(at, f)), plain(4), plain(5)}}
				for _, o := range [][]int{{0}, {0, 1}, {1, 0}, {0, 2}, {2, 0}, {2, 0, 1}} {
					x := plan(t, p, o)
					if slices.Contains(o, f) {
						want, _ := modelCode(p, x, 0)
						codeIs(t, fmt.Sprint("the order ", o), p, x, 0, want...)
					} else {
						noCode(t, fmt.Sprint("the order ", o, " without ", f), p, x, 0)
					}
				}
			}
		}
	}
}

// P13.1: that a function is left out changes nothing of those that don't call it, nor of any data.
func TestLeftOutElsewhere(t *testing.T) {
	p := ordinary()
	p.Entry = 2
	p.Funcs[2] = fn([]uint32{jump0, high0, ori0}, to(0, 2), high(1, 0, 0), low(2, 0, 0))
	x := plan(t, p, []int{1, 2})
	codeIs(t, "who calls one that is there", p, x, 1, 0x0811ffff, 0x0f1000fe, 0x13000000)
	codeIs(t, "who calls itself", p, x, 2, 0x13ffffff, 0x09100001, 0x0a110010)
	dataIs(t, "data", p, x, 0, 22, 0, 1, 0, 5, 4)
	x = plan(t, p, []int{0, 2})
	noCode(t, "who calls one that isn't there, and one that is", p, x, 0)
	codeIs(t, "who calls itself", p, x, 2, 0x13ffffff, 0x09100001, 0x0a110010)
}

// P13.1: calls from one end of the longest program to the other, ahead and back.
func TestFarthest(t *testing.T) {
	long := api.Prog{Funcs: []api.PFunc{
		fn([]uint32{jump0}, to(0, 2)), plain(65534), fn([]uint32{jump0}, to(0, 0))}}
	codeIs(t, "from the first word to the last", long, plan(t, long, nil), 0, 0x1300fffe)
	codeIs(t, "from the last word to the first", long, plan(t, long, nil), 2, 0x13ff0000)
	codeIs(t, "the same, turned", long, plan(t, long, []int{2, 1, 0}), 0, 0x13ff0000)
	alone := slices.Repeat([]uint32{none}, 65536)
	alone[65535] = call0
	own := api.Prog{Funcs: []api.PFunc{fn(alone, to(65535, 0))}}
	want := slices.Clone(alone)
	want[65535] = 0x14ff0000
	codeIs(t, "one of all words, from its last one", own, plan(t, own, nil), 0, want...)
	for _, n := range []int{127, 128, 32766, 32767, 32768, 32769, 65533} {
		p := api.Prog{Funcs: []api.PFunc{fn([]uint32{call0}, to(0, 2)), plain(n), fn([]uint32{call0}, to(0, 0))}}
		codeIs(t, fmt.Sprint("over ", n, " words"), p, plan(t, p, nil), 0, call0+uint32(n))
		codeIs(t, fmt.Sprint("over ", n, " words back"), p, plan(t, p, nil), 2, call0+1<<24-uint32(n)-2)
	}
}

// P13.1: an Imm that is just the greatest and the least number in 24 bits, and one more. No program is so long: the plans are made up.
func TestImm24(t *testing.T) {
	p := api.Prog{Funcs: []api.PFunc{fn([]uint32{none, call0, ret}, to(1, 1)), plain(1)}}
	codeIs(t, "the greatest", p, api.Plan{Code: []int{0, 1<<23 - 1 + 2}}, 0, none, 0x147fffff, ret)
	noCode(t, "one more", p, api.Plan{Code: []int{0, 1<<23 + 2}}, 0)
	noCode(t, "as many as 24 bits", p, api.Plan{Code: []int{0, 1<<24 + 2}}, 0)
	codeIs(t, "the least", p, api.Plan{Code: []int{1<<23 - 2, 0}}, 0, none, 0x14800000, ret)
	noCode(t, "one less", p, api.Plan{Code: []int{1<<23 - 1, 0}}, 0)
	noCode(t, "less by as many as 24 bits", p, api.Plan{Code: []int{1<<24 - 2, 0}}, 0)
	codeIs(t, "0", p, api.Plan{Code: []int{5, 7}}, 0, none, 0x14000000, ret)
}

// P13.1: the Add of a call counts for nothing: its Imm hangs on where the function stands alone.
func TestAddOfACall(t *testing.T) {
	for _, add := range []int{-1 << 20, -1, 0, 1, 1 << 20} {
		p := api.Prog{Funcs: []api.PFunc{fn([]uint32{call0, ret}, api.PRel{Kind: api.RelCall, To: 1, Add: add}), plain(1)}}
		codeIs(t, fmt.Sprint("Add ", add), p, plan(t, p, nil), 0, 0x14000001, ret)
	}
}

// P13.1: halves of addresses that come of where the data stand, and of Add: the lower half 0, 65535, and about 32768, where the upper half isn't rounded.
func TestHalves(t *testing.T) {
	for _, row := range []struct {
		at, add   int
		high, low uint32
	}{
		{0, 0, 1, 0}, {0, 1, 1, 1}, {1, 0, 1, 1}, {0, -1, 0, 0xffff}, {1, -1, 1, 0}, {1, -2, 0, 0xffff},
		{32767, 0, 1, 0x7fff}, {32768, 0, 1, 0x8000}, {32769, 0, 1, 0x8001}, {65534, 0, 1, 0xfffe}, {65535, 0, 1, 0xffff},
		{0, 32767, 1, 0x7fff}, {0, 32768, 1, 0x8000}, {0, 32769, 1, 0x8001}, {0, 65535, 1, 0xffff}, {0, 65536, 2, 0}, {0, 65537, 2, 1},
		{32767, 1, 1, 0x8000}, {32768, -1, 1, 0x7fff}, {65535, 1, 2, 0}, {65535, -65535, 1, 0}, {65535, -65536, 0, 0xffff},
		{0, -32768, 0, 0x8000}, {0, -32769, 0, 0x7fff}, {0, -65535, 0, 1}, {0, -65536, 0, 0}, {65535, -131071, 0, 0}, {65535, -131070, 0, 1},
		{0, 1 << 20, 17, 0}, {65535, 1 << 20, 17, 0xffff}, {32768, 1 << 20, 17, 0x8000}, {65535, 1<<20 - 1, 17, 0xfffe}, {0, 1<<20 - 1, 16, 0xffff},
		{4660, 0x56789, 6, 0x79bd}, {9, 9 * 65536, 10, 9},
	} {
		p := api.Prog{Datas: append(filler(row.at), data(1, nil))}
		d := len(p.Datas) - 1
		p.Funcs = []api.PFunc{fn([]uint32{high0, ori0}, high(0, d, row.add), low(1, d, row.add)), fn([]uint32{ori0, high0}, low(0, d, row.add), high(1, d, row.add))}
		x := plan(t, p, nil)
		if x.Data[d] != row.at {
			t.Fatalf("the data stand at %d, not %d", x.Data[d], row.at)
		}
		what := fmt.Sprint("at ", row.at, ", Add ", row.add)
		codeIs(t, what, p, x, 0, high0+row.high, ori0+row.low)
		codeIs(t, what+", the lower half first", p, x, 1, ori0+row.low, high0+row.high)
	}
}

// about is a program whose data d stand at that byte, with a relocation to them and Add of each kind: in the functions 1 and 2, and in the data behind d.
func about(at, add int) (p api.Prog, d int) {
	p.Datas = filler(at)
	d = len(p.Datas)
	p.Datas = append(p.Datas, data(1, nil), data(4, nil, word(0, d, add)))
	p.Funcs = []api.PFunc{plain(1), fn([]uint32{high0}, high(0, d, add)), fn([]uint32{ori0}, low(0, d, add))}
	return p, d
}

// P13.1: a value that is 0 and just above fits; one below 0 doesn't, down to where Add and the data's place can bring it.
func TestValueAboutZero(t *testing.T) {
	for _, at := range []int{0, 1, 15, 16, 4096, 32768, 60000, 65531} {
		zero := -65536 - at
		for _, add := range []int{zero, zero + 1, zero + 255, zero + 256, zero + 65535, zero + 65536} {
			p, d := about(at, add)
			x, v := plan(t, p, nil), uint32(add-zero)
			what := fmt.Sprint("at ", at, ", the value ", v)
			codeIs(t, what, p, x, 1, high0+v/65536)
			codeIs(t, what, p, x, 2, ori0+v%65536)
			dataIs(t, what, p, x, d+1, byte(v), byte(v>>8), byte(v>>16), 0)
		}
		for _, add := range []int{zero - 1, zero - 2, zero - 65535, zero - 65536, zero - 65537, -1<<20 + 1, -1 << 20} {
			p, d := about(at, add)
			x := plan(t, p, nil)
			what := fmt.Sprint("at ", at, ", Add ", add)
			noCode(t, what, p, x, 1)
			noCode(t, what, p, x, 2)
			noData(t, what, p, x, d+1)
		}
	}
}

// P13.1: the greatest value that Add and the data's place can make fits.
func TestGreatestValue(t *testing.T) {
	p := api.Prog{Datas: append([]api.PData{data(4, nil, word(0, 17, 1<<20))}, filler(65531)...)}
	p.Datas = append(p.Datas, data(1, nil))
	p.Funcs = []api.PFunc{fn([]uint32{high0, ori0}, high(0, 17, 1<<20), low(1, 17, 1<<20))}
	x := plan(t, p, nil)
	if len(p.Datas) != 18 || x.Data[17] != 65535 {
		t.Fatalf("%d data, the last at %d", len(p.Datas), x.Data[len(p.Datas)-1])
	}
	codeIs(t, "the last byte, and 2^20", p, x, 0, high0+17, ori0+65535)
	dataIs(t, "the last byte, and 2^20", p, x, 0, 255, 255, 17, 0)
}

// P13.1: a value that is just 2^32 - 1, and more. No Add of a right program is so great.
func TestValueAbout32Bits(t *testing.T) {
	for _, at := range []int{0, 1, 4096, 65531} {
		last := 1<<32 - 1 - 65536 - at
		p, d := about(at, last)
		x := plan(t, p, nil)
		codeIs(t, "2^32 - 1", p, x, 1, high0+65535)
		codeIs(t, "2^32 - 1", p, x, 2, ori0+65535)
		dataIs(t, "2^32 - 1", p, x, d+1, 255, 255, 255, 255)
		p, d = about(at, 1<<31-65536-at)
		codeIs(t, "2^31", p, x, 1, high0+32768)
		codeIs(t, "2^31", p, x, 2, ori0)
		dataIs(t, "2^31", p, x, d+1, 0, 0, 0, 128)
		for _, add := range []int{last + 1, last + 2, last + 65536, last + 65537, last + 1<<32, 1 << 40} {
			p, d = about(at, add)
			what := fmt.Sprint("at ", at, ", Add ", add)
			noCode(t, what, p, x, 1)
			noCode(t, what, p, x, 2)
			noData(t, what, p, x, d+1)
		}
	}
}

// P13.1: data that are Fixed, and others, stand apart: a value is where they stand, not where the list has them.
func TestFixedAndOthers(t *testing.T) {
	fixed := func(size int) api.PData { return api.PData{Align: 4, Fixed: true, Size: size} }
	p := api.Prog{Datas: []api.PData{data(3, nil), fixed(5), data(1, nil), fixed(30)}}
	// They stand at 48, 0, 51 and 8.
	p.Funcs = []api.PFunc{fn(slices.Repeat([]uint32{ori0}, 4), low(0, 0, 0), low(1, 1, 0), low(2, 2, 0), low(3, 3, 0))}
	codeIs(t, "lower halves", p, plan(t, p, nil), 0, ori0+48, ori0, ori0+51, ori0+8)
	p.Datas = append(p.Datas, data(16, nil, word(0, 0, 0), word(4, 1, 0), word(8, 2, 0), word(12, 3, 0)))
	dataIs(t, "words", p, plan(t, p, nil), 4, 48, 0, 1, 0, 0, 0, 1, 0, 51, 0, 1, 0, 8, 0, 1, 0)
}

// P13.1: several relocations of a function: its first word and its last, some side by side, all of its words; what is between stays.
func TestSeveral(t *testing.T) {
	p := api.Prog{Datas: []api.PData{data(10, nil), data(1, nil)}}
	all := []uint32{high0, call0, ori0, jump0, high0, ori0, call0}
	rels := []api.PRel{high(0, 1, 1<<17), to(1, 1), low(2, 1, -1), to(3, 0), high(4, 0, 0), low(5, 0, 300), to(6, 1)}
	want := []uint32{high0 + 3, 0x14000005, ori0 + 9, 0x13fffffc, high0 + 1, ori0 + 300, 0x14000000}
	for set := range 1 << len(all) {
		words, some := slices.Clone(all), []api.PRel(nil)
		for k, r := range rels {
			if set>>k&1 == 1 {
				words[k] = want[k]
				some = append(some, r)
			}
		}
		p.Funcs = []api.PFunc{fn(all, some...), plain(1)}
		codeIs(t, fmt.Sprintf("the relocations %07b", set), p, plan(t, p, nil), 0, words...)
	}
}

// P13.2: what an instruction has besides stays: each register of High and of Ori.
func TestRegistersStay(t *testing.T) {
	for a := range uint32(16) {
		for b := range uint32(16) {
			h, o := 0x09000000+a<<20, 0x0a000000+a<<20+b<<16
			p := api.Prog{Datas: []api.PData{data(1, nil)}}
			for _, add := range []int{0, 0x23456, -1, -65536, 1<<20 - 1} {
				p.Funcs = []api.PFunc{fn([]uint32{h, o}, high(0, 0, add), low(1, 0, add))}
				v := uint32(65536 + add)
				codeIs(t, fmt.Sprint("registers ", a, b), p, plan(t, p, nil), 0, h+v>>16, o+v&0xffff)
			}
		}
	}
}

// P13.1: the Imm becomes what the relocation says; nothing is left of the one that stood there.
func TestImmIsReplaced(t *testing.T) {
	for _, old := range []uint32{1, 0x7fff, 0x8000, 0xffff} {
		p := api.Prog{Datas: []api.PData{data(1, nil)}}
		p.Funcs = []api.PFunc{
			fn([]uint32{call0 + old, jump0 + 0xffffff - old, high0 + old, ori0 + old}, to(0, 1), to(1, 0), high(2, 0, 0), low(3, 0, 9)),
			fn([]uint32{call0 + 0x800000 + old, jump0 + 0x7f0000 + old, high0 + 0xffff - old, ori0 + 0xffff - old}, to(0, 1), to(1, 0), high(2, 0, 1<<20), low(3, 0, 0)),
		}
		x := plan(t, p, nil)
		codeIs(t, "to greater ones", p, x, 0, call0+3, jump0+0xfffffe, high0+1, ori0+9)
		codeIs(t, "to less ones", p, x, 1, call0+0xffffff, jump0+0xfffffa, high0+17, ori0)
	}
}

// P13.2: other words stay, instructions with an Imm of their own and words that are no instructions among them.
func TestOtherWordsStay(t *testing.T) {
	others := []uint32{0x14000005, 0x13ffffff, 0x0910ffff, 0x0a11ffff, 0x0f1200fe, 0xffffffff, 0x1a000000, 0x14ffffff, 0x0911ffff, 0, 0x00000001, 0x80000000}
	for _, w := range others {
		for n := range 4 {
			words := slices.Repeat([]uint32{w}, 4)
			words[n] = call0
			p := api.Prog{Funcs: []api.PFunc{fn(words, to(n, 0))}}
			want := slices.Clone(words)
			want[n] = call0 + 0xffffff - uint32(n)
			codeIs(t, fmt.Sprintf("among %08x", w), p, plan(t, p, nil), 0, want...)
		}
	}
}

// P13.1: one that doesn't fit is enough, whichever of the function's relocations it is, the first of two, too: nothing comes.
func TestOneThatDoesNotFit(t *testing.T) {
	bad := []api.PRel{to(0, 1), high(0, 0, -65537), low(0, 0, -65537), to(0, 2)}
	good := []api.PRel{to(0, 0), high(0, 0, 7), low(0, 0, 7), to(0, 3)}
	words := []uint32{call0, high0, ori0, jump0}
	for set := range 1 << 4 {
		var rels []api.PRel
		for n := range 4 {
			r := good[n]
			if set>>n&1 == 1 {
				r = bad[n]
			}
			r.At = n
			rels = append(rels, r)
		}
		p := api.Prog{Funcs: []api.PFunc{fn(words, rels...), plain(1), plain(1), plain(1)}, Datas: []api.PData{data(1, nil)}}
		x := plan(t, p, []int{0, 3})
		if set == 0 {
			codeIs(t, "each fits", p, x, 0, call0+0xffffff, high0+1, ori0+7, jump0)
		} else {
			noCode(t, fmt.Sprintf("those that don't fit: %04b", set), p, x, 0)
		}
	}
}

// P13.1: Size bytes: with fewer Bytes than Size, none, and as many, and a word at each place it can stand at, over the end of Bytes, and in the zeros behind them.
func TestWordAtEachPlace(t *testing.T) {
	for size := 4; size <= 12; size++ {
		for told := range size + 1 {
			for at := range size - 3 {
				b := slices.Repeat([]byte{0xee}, told)
				p := api.Prog{Funcs: []api.PFunc{plain(1)}, Datas: []api.PData{data(3, nil), data(size, b, word(at, 1, 0x54321))}}
				want := append(slices.Clone(b), make([]byte, size-told)...)
				copy(want[at:], []byte{0x24, 0x43, 0x06, 0x00})
				dataIs(t, fmt.Sprint("Size ", size, ", told ", told, ", at ", at), p, plan(t, p, nil), 1, want...)
			}
		}
	}
}

// P13.1: a word at the first and at the last place of the greatest data.
func TestGreatestData(t *testing.T) {
	b := make([]byte, 4096)
	for k := range b {
		b[k] = byte(k*7 + 1)
	}
	for _, told := range []int{0, 1, 4093, 4095, 4096} {
		p := api.Prog{Funcs: []api.PFunc{plain(1)}, Datas: []api.PData{data(4096, b[:told], word(0, 0, 1), word(4092, 0, 2))}}
		want := make([]byte, 4096)
		copy(want, b[:told])
		copy(want, []byte{1, 0, 1, 0})
		copy(want[4092:], []byte{2, 0, 1, 0})
		dataIs(t, fmt.Sprint("told ", told), p, plan(t, p, nil), 0, want...)
	}
}

// P13.1, P13.2: words side by side, with gaps of each width between, the bytes in them stay; one that isn't wholly behind the one ahead is done behind it.
func TestSideBySide(t *testing.T) {
	for gap := range 6 {
		b := slices.Repeat([]byte{0xaa}, 3*(4+gap))
		rels := []api.PRel{word(0, 0, 0x010203), word(4+gap, 0, 0x040506), word(8+2*gap, 0, 0x070809)}
		want := slices.Clone(b)
		copy(want, []byte{3, 2, 2, 0})
		copy(want[4+gap:], []byte{6, 5, 5, 0})
		copy(want[8+2*gap:], []byte{9, 8, 8, 0})
		p := api.Prog{Funcs: []api.PFunc{plain(1)}, Datas: []api.PData{data(len(b), b, rels...)}}
		dataIs(t, fmt.Sprint("a gap of ", gap), p, plan(t, p, nil), 0, want...)
	}
	p := api.Prog{Funcs: []api.PFunc{plain(1)}, Datas: []api.PData{data(6, []byte{1, 1, 1, 1, 1, 1}, word(0, 0, 0x030405), word(1, 0, 0x060708))}}
	dataIs(t, "one over the other", p, plan(t, p, nil), 0, 5, 8, 7, 7, 0, 1)
}

// P13.1: one value that doesn't fit is enough, the first, the last and any between: nothing comes.
func TestOneWordThatDoesNotFit(t *testing.T) {
	for set := range 1 << 4 {
		var rels []api.PRel
		for k := range 4 {
			add := -65536
			if set>>k&1 == 1 {
				add = -65537
			}
			rels = append(rels, word(4*k, 0, add))
		}
		p := api.Prog{Funcs: []api.PFunc{plain(1)}, Datas: []api.PData{data(17, slices.Repeat([]byte{7}, 17), rels...), data(3, []byte{1})}}
		x := plan(t, p, nil)
		if set == 0 {
			dataIs(t, "each fits", p, x, 0, append(make([]byte, 16), 7)...)
		} else {
			noData(t, fmt.Sprintf("those that don't fit: %04b", set), p, x, 0)
		}
		dataIs(t, "the data behind", p, x, 1, 1, 0, 0)
	}
}

// P13.1: a part that doesn't fit takes no other part with it.
func TestOtherPartsGoOn(t *testing.T) {
	p := ordinary()
	p.Datas[2].Rels[0].Add = -65537
	p.Funcs[0].Rels[1].Add = -65537
	x := plan(t, p, nil)
	noCode(t, "below 0", p, x, 0)
	noData(t, "below 0", p, x, 2)
	codeIs(t, "another", p, x, 1, 0x0811ffff, 0x0f1000fe, 0x13000000)
	codeIs(t, "another", p, x, 2, 0x14fffff7, ret)
	dataIs(t, "another", p, x, 0, 22, 0, 1, 0, 5, 4)
	dataIs(t, "another", p, x, 1, 1, 0, 0, 0, 18, 0, 1, 0, 0)
}

// chance makes numbers, the same ones each time.
type chance struct{ state uint64 }

// below answers a number from 0 to n - 1.
func (c *chance) below(n int) int {
	c.state = c.state*6364136223846793005 + 1442695040888963407
	return int(c.state >> 33 % uint64(n))
}

// order answers an order of so many functions with the first one, now and then without some of the others.
func (c *chance) order(n int) []int {
	var l []int
	leave := c.below(8)
	for f := range n {
		if f == 0 || leave > 0 || c.below(4) > 0 {
			l = slices.Insert(l, c.below(len(l)+1), f)
		}
	}
	return l
}

// add answers an Add: a small one, one that leads near to address 0, or any one.
func (c *chance) add() int {
	switch c.below(8) {
	case 0:
		return -65536 - c.below(200) + 20
	case 1:
		return c.below(1<<21+1) - 1<<20
	case 2:
		return c.below(1 << 20)
	}
	return c.below(2000) - 1000
}

// function answers a function of words of any kind, with relocations where they go.
func (c *chance) function(funcs, datas int) api.PFunc {
	var f api.PFunc
	dense := 1 + c.below(6)
	for n := range c.below(20) {
		if c.below(dense) > 0 {
			f.Code = append(f.Code, uint32(c.below(1<<31))<<1|uint32(c.below(2)))
			continue
		}
		r := api.PRel{At: n, Kind: 1 + c.below(3), To: c.below(datas), Add: c.add()}
		w := uint32(0x09000000 + c.below(16)<<20 + c.below(1<<16))
		switch r.Kind {
		case api.RelCall:
			r.To, r.Add = c.below(funcs), 0
			w = uint32(0x13000000 + c.below(2)<<24 + c.below(1<<24))
		case api.RelLow:
			w += uint32(0x01000000 + c.below(16)<<16)
		}
		f.Code, f.Rels = append(f.Code, w), append(f.Rels, r)
	}
	return f
}

// data answers data with relocations where they go.
func (c *chance) data(datas int) api.PData {
	d := api.PData{Align: 1 + c.below(16), Fixed: c.below(2) == 0, Size: 1 + c.below(60)}
	for range c.below(d.Size + 1) {
		d.Bytes = append(d.Bytes, byte(c.below(256)))
	}
	for at := c.below(20); at+4 <= d.Size; at += 4 + c.below(5)*c.below(5) {
		d.Rels = append(d.Rels, word(at, c.below(datas), c.add()))
	}
	return d
}

// program answers a program whose relocations are right.
func (c *chance) program() api.Prog {
	var p api.Prog
	funcs, datas := 1+c.below(8), 1+c.below(8)
	for range funcs {
		p.Funcs = append(p.Funcs, c.function(funcs, datas))
	}
	for range datas {
		p.Datas = append(p.Datas, c.data(datas))
	}
	return p
}

// P13.1, P13.2: programs by chance, in orders by chance, against the model.
func TestByChance(t *testing.T) {
	c := &chance{1}
	right, refused := 0, 0
	for range 10000 {
		p := c.program()
		for range 3 {
			a, b := asModel(t, p, plan(t, p, c.order(len(p.Funcs))))
			right, refused = right+a, refused+b
		}
		if t.Failed() {
			t.Fatal("the first program that goes wrong")
		}
	}
	if right < 100000 || refused < 10000 {
		t.Errorf("by chance came %d right answers, and %d refused ones", right, refused)
	}
}

// P13.1: what the machine makes of it: a call leads to the function's first word, and the two halves give the address.
func TestMachine(t *testing.T) {
	for _, add := range []int{-65536, -65535, -1, 0, 32767, 32768, 65535, 1 << 20} {
		for _, o := range orders(3) {
			p := api.Prog{Entry: 1, Datas: []api.PData{data(5, nil), data(9, nil)}}
			p.Funcs = []api.PFunc{
				fn([]uint32{none, jump0}, to(1, 2)),
				fn([]uint32{0x09700000, 0x0a770000, call0, halt}, high(0, 1, add), low(1, 1, add), to(2, 0)),
				plain(3),
			}
			x := plan(t, p, o)
			var words []uint32
			for _, f := range o {
				l, e := Code(p, x, f)
				if e != api.OK {
					t.Fatal(e)
				}
				words = append(words, l...)
			}
			s := cpu.New(api.Image{Code: words, Entry: x.Code[1]}, nil)
			for _, want := range []int{x.Code[1] + 1, x.Code[1] + 2, x.Code[0], x.Code[0] + 1, x.Code[2]} {
				s = cpu.Step(words, s)
				if s.At != want || s.Ended {
					t.Fatalf("order %v: at %d, want %d", o, s.At, want)
				}
			}
			if want := uint32(65536 + 5 + add); s.R[7] != want || !slices.Equal(s.Back, []int{x.Code[1] + 3}) {
				t.Errorf("order %v, Add %d: the address %d, back to %v", o, add, s.R[7], s.Back)
			}
		}
	}
}

// roomy answers the list with others in the room behind its length.
func roomy[T any](l []T, other T) []T {
	return append(slices.Clone(l), other, other, other)[:len(l)]
}

// room answers the list with the room behind its length.
func room[T any](l []T) []T { return l[:cap(l)] }

// fill writes the same over the list, and over the room behind its length.
func fill[T any](l []T, with T) {
	for k := range room(l) {
		room(l)[k] = with
	}
}

// some is a program and its plan, with something in the room behind each list's length; of the parts 3 one relocation doesn't fit.
func some(t *testing.T) (api.Prog, api.Plan) {
	t.Helper()
	p := ordinary()
	p.Funcs = append(p.Funcs, fn([]uint32{call0, high0}, to(0, 1), high(1, 0, -1<<20)), fn(nil), fn([]uint32{5, 6}))
	p.Datas = append(p.Datas, data(20, []byte{1}, word(3, 0, 0), word(16, 1, -1<<20)), data(3, nil), data(2, []byte{5, 6}))
	for k, f := range p.Funcs {
		p.Funcs[k].Code, p.Funcs[k].Rels = roomy(f.Code, 0xee), roomy(f.Rels, api.PRel{At: 9})
	}
	for k, d := range p.Datas {
		p.Datas[k].Bytes, p.Datas[k].Rels = roomy(d.Bytes, 0xee), roomy(d.Rels, api.PRel{At: 9})
	}
	p.Funcs, p.Datas = roomy(p.Funcs, plain(9)), roomy(p.Datas, data(9, nil))
	x := plan(t, p, []int{2, 0, 4, 1, 3, 5})
	x.Code, x.Data = roomy(x.Code, 77), roomy(x.Data, 77)
	return p, x
}

// show tells all of a program and of a plan, with what stands in the room behind each list's length.
func show(p api.Prog, x api.Plan) string {
	var text strings.Builder
	fmt.Fprintf(&text, "%+v %+v %d %v %v %+v", room(p.Funcs), room(p.Datas), p.Entry, room(x.Code), room(x.Data), x)
	for _, f := range p.Funcs {
		fmt.Fprintf(&text, " %x %+v", room(f.Code), room(f.Rels))
	}
	for _, d := range p.Datas {
		fmt.Fprintf(&text, " %x %+v", room(d.Bytes), room(d.Rels))
	}
	return text.String()
}

// P13.3: what is handed in stays, and the room behind each length, with an error, too.
func TestHandedInStays(t *testing.T) {
	p, x := some(t)
	old := show(p, x)
	for k := range p.Funcs {
		Code(p, x, k)
		Data(p, x, k)
		if now := show(p, x); now != old {
			t.Fatalf("the parts %d: was %s\nis %s", k, old, now)
		}
	}
	noCode(t, "the one that doesn't fit", p, x, 3)
	noData(t, "the one that doesn't fit", p, x, 3)
	if now := show(p, x); now != old {
		t.Errorf("was %s\nis %s", old, now)
	}
}

// P13.3: what is answered is new memory: written over, with the room behind its length, it changes nothing handed in, nor what is answered next.
func TestAnswersAreNew(t *testing.T) {
	p, x := some(t)
	old := show(p, x)
	for range 2 {
		for k := range p.Funcs {
			l, _ := Code(p, x, k)
			fill(l, 0x77777777)
			b, _ := Data(p, x, k)
			fill(b, 0x77)
			if now := show(p, x); now != old {
				t.Fatalf("the parts %d: was %s\nis %s", k, old, now)
			}
		}
		if right, refused := asModel(t, p, x); right != 10 || refused != 2 {
			t.Errorf("%d right answers, %d refused", right, refused)
		}
	}
}

// P13.3: what is answered stays, when what was handed in is written over, and when more is answered.
func TestAnswersStay(t *testing.T) {
	p, x := some(t)
	var words [][]uint32
	var bytes [][]byte
	for k := range p.Funcs {
		l, _ := Code(p, x, k)
		b, _ := Data(p, x, k)
		words, bytes = append(words, l), append(bytes, b)
	}
	for k := range p.Funcs {
		fill(p.Funcs[k].Code, 0x77777777)
		fill(p.Funcs[k].Rels, to(0, 0))
		fill(p.Datas[k].Bytes, 0x77)
		fill(p.Datas[k].Rels, word(0, 0, 0))
	}
	fill(x.Code, 7)
	fill(x.Data, 7)
	p, x = some(t)
	for k := range p.Funcs {
		if want, _ := modelCode(p, x, k); !slices.Equal(words[k], want) {
			t.Errorf("the function %d: %08x, want %08x", k, words[k], want)
		}
		if want, _ := modelData(p, x, k); !slices.Equal(bytes[k], want) {
			t.Errorf("the data %d: %02x, want %02x", k, bytes[k], want)
		}
	}
}

// The chapter promises nothing of parts that there aren't, nor of relocations that stand where nothing is, or no instruction: they are refused as what doesn't fit.
func TestWrongInputs(t *testing.T) {
	p := api.Prog{Funcs: []api.PFunc{fn([]uint32{ret}), fn([]uint32{ret})}, Datas: []api.PData{data(4, nil), data(4, nil)}}
	x := plan(t, p, []int{0})
	for _, k := range []int{math.MinInt, -1, 2, 3, math.MaxInt} {
		noCode(t, "no such function", p, x, k)
		noData(t, "no such data", p, x, k)
	}
	noCode(t, "one that is left out", p, x, 1)
	noCode(t, "one that the program hasn't", p, api.Plan{Code: []int{0, 1, 2}}, 2)
	for _, r := range []api.PRel{to(-1, 0), to(3, 0), to(0, -1), to(0, 2), to(1, 0), to(2, 0), to(2, 1), word(0, 0, 0), {}} {
		p.Funcs[0] = fn([]uint32{call0, ret, 0xffffffff}, r)
		noCode(t, fmt.Sprintf("%+v", r), p, plan(t, p, nil), 0)
	}
	for _, r := range []api.PRel{word(-1, 0, 0), word(1, 0, 0), word(2, 0, 0), word(4, 0, 0), word(0, -1, 0), word(0, 2, 0)} {
		p.Datas[0] = data(4, []byte{1, 2, 3, 4}, r)
		noData(t, fmt.Sprintf("%+v", r), p, plan(t, p, nil), 0)
	}
	for _, size := range []int{math.MinInt, -1, 65537, math.MaxInt} {
		p.Datas[0] = data(size, nil)
		noData(t, fmt.Sprint("Size ", size), p, x, 0)
	}
}

// P1: no call panics, whatever programs, plans and numbers it is given, and nothing comes with an error.
func TestWhatever(t *testing.T) {
	huge := []int{math.MinInt, math.MinInt32, -65537, -65536, -2, -1, 0, 1, 2, 3, 4, 5, 4097, 65535, 65536, 65537, 1 << 20, math.MaxUint32, 1 << 40, math.MaxInt - 65536, math.MaxInt}
	ask := func(p api.Prog, x api.Plan, k int) {
		if l, e := Code(p, x, k); e != api.OK && (e != api.ErrRange || len(l) > 0) {
			t.Errorf("%+v, %+v: the function %d: error %d, %08x", p, x, k, e, l)
		}
		if b, e := Data(p, x, k); e != api.OK && (e != api.ErrRange || len(b) > 0) {
			t.Errorf("%+v, %+v: the data %d: error %d, %02x", p, x, k, e, b)
		}
	}
	for _, a := range huge {
		for _, b := range huge {
			for _, kind := range []int{-1, 0, api.RelCall, api.RelHigh, api.RelLow, api.RelWord, 5, a} {
				for _, r := range []api.PRel{{At: a, To: b}, {To: a, Add: b}, {At: 1, To: 1, Add: a}} {
					r.Kind = kind
					p := api.Prog{Funcs: []api.PFunc{fn([]uint32{call0, ori0, 0xffffffff}, r), plain(2)}, Datas: []api.PData{data(7, nil, r), data(a, nil, r)}}
					for _, x := range []api.Plan{{}, {Code: []int{0, 3}, Data: []int{0, 7}}, {Code: []int{a, b}, Data: []int{b, a}}, {Code: []int{0}, Data: []int{0}}, {Code: []int{0, 0, 0}, Data: []int{0, 0, 0}}} {
						ask(p, x, 0)
						ask(p, x, 1)
					}
				}
			}
		}
		ask(api.Prog{}, api.Plan{}, a)
		ask(ordinary(), api.Plan{Code: []int{0, 5, 8, 9}, Data: []int{16, 0, 22, 99}}, a)
		ask(ordinary(), api.Plan{Code: []int{0}, Data: []int{0}}, a)
	}
}

// P1: more Bytes than Size: Size bytes all the same.
func TestMoreBytesThanSize(t *testing.T) {
	p := api.Prog{Funcs: []api.PFunc{plain(1)}, Datas: []api.PData{data(5, []byte{1, 2, 3, 4, 5, 6, 7}, word(1, 0, 0))}}
	dataIs(t, "cut", p, plan(t, p, nil), 0, 1, 0, 0, 1, 0)
}
