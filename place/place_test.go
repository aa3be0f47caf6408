package place

import (
	"fmt"
	"math"
	"slices"
	"strings"
	"testing"

	"splice/api"
)

// fns are functions of so many words each.
func fns(words ...int) []api.PFunc {
	var l []api.PFunc
	for _, n := range words {
		l = append(l, api.PFunc{Code: make([]uint32, n)})
	}
	return l
}

// fix is Fixed data.
func fix(align, size int) api.PData { return api.PData{Align: align, Size: size, Fixed: true} }

// free is other data.
func free(align, size int) api.PData { return api.PData{Align: align, Size: size} }

// one is a program of one function of a word, and of these data.
func one(l ...api.PData) api.Prog { return api.Prog{Funcs: fns(1), Datas: l} }

// many is so many data that are all alike.
func many(n int, d api.PData) []api.PData { return slices.Repeat([]api.PData{d}, n) }

// ask tells where the plan is another one, or none.
func ask(t *testing.T, what string, p api.Prog, order []int, want api.Plan) {
	t.Helper()
	x, e := Plan(p, order)
	if e != api.OK || !same(x, want) {
		t.Errorf("%s: error %d, %.300s\nwant %.300s", what, e, fmt.Sprintf("%+v", x), fmt.Sprintf("%+v", want))
	}
}

// same tells whether the plans are alike, nil and empty lists too.
func same(x, y api.Plan) bool {
	return slices.Equal(x.Code, y.Code) && slices.Equal(x.Data, y.Data) && x.Words == y.Words && x.Bytes == y.Bytes && x.Write == y.Write
}

// refuse tells where the answer is another error than this one, or something comes with it.
func refuse(t *testing.T, what string, p api.Prog, order []int, want api.Errno) {
	t.Helper()
	x, e := Plan(p, order)
	if e != want || !same(x, api.Plan{}) {
		t.Errorf("%s: error %d, %.300s; want %d", what, e, fmt.Sprintf("%+v", x), want)
	}
}

// stands tells where data of a program of one function stand elsewhere than here.
func stands(t *testing.T, what string, l []api.PData, at []int, write, bytes int) {
	t.Helper()
	ask(t, what, one(l...), []int{0}, api.Plan{Code: []int{0}, Data: at, Words: 1, Bytes: bytes, Write: write})
}

// orders are all orders of any of the numbers below n, none of them too.
func orders(n int) [][]int {
	l := [][]int{nil}
	for from := 0; from < len(l); from++ {
		for f := range n {
			if !slices.Contains(l[from], f) {
				l = append(l, append(slices.Clone(l[from]), f))
			}
		}
	}
	return l
}

// model is the plan as the chapter says it, found byte by byte and word by word; the error that the chapter asks for.
func model(p api.Prog, order []int) (api.Plan, api.Errno) {
	sorted := slices.Sorted(slices.Values(order))
	if !slices.Contains(order, p.Entry) || sorted[0] < 0 || sorted[len(sorted)-1] >= len(p.Funcs) || len(slices.Compact(sorted)) < len(order) {
		return api.Plan{}, api.ErrArg
	}
	var x api.Plan
	for f := range p.Funcs {
		at := slices.Index(order, f)
		first := 0
		for _, g := range order[:max(at, 0)] {
			first += len(p.Funcs[g].Code)
		}
		if at < 0 {
			first = -1
		}
		x.Code = append(x.Code, first)
	}
	for _, f := range order {
		x.Words += len(p.Funcs[f].Code)
	}
	end := 0
	x.Data = make([]int, len(p.Datas))
	for _, fixed := range []bool{true, false} {
		for k, d := range p.Datas {
			if d.Fixed == fixed {
				for end%d.Align != 0 {
					end++
				}
				x.Data[k] = end
				end += d.Size
			}
		}
		for fixed && end%16 != 0 {
			end++
		}
		if fixed {
			x.Write = end
		}
	}
	x.Bytes = end
	if x.Words > 65536 || x.Bytes > 65536 {
		return api.Plan{}, api.ErrLong
	}
	return x, api.OK
}

// asModel tells where the answer isn't the model's.
func asModel(t *testing.T, p api.Prog, order []int) {
	t.Helper()
	x, e := Plan(p, order)
	want, wanted := model(p, order)
	if e != wanted || !same(x, want) {
		t.Errorf("Entry %d, order %v, data %+v: error %d, %+v\nwant %d, %+v", p.Entry, order, p.Datas, e, x, wanted, want)
	}
}

// P12.1: a program of several functions and data, Fixed ones and others in turn, in several orders, all of it written out.
func TestOrdinary(t *testing.T) {
	p := api.Prog{Entry: 1, Funcs: fns(4, 10, 1, 300), Datas: []api.PData{
		free(4, 6), fix(2, 3), free(1, 1), fix(8, 5), free(16, 40), fix(1, 7), free(2, 2), fix(16, 4096), free(8, 1)}}
	want := api.Plan{Data: []int{4128, 0, 4134, 8, 4144, 13, 4184, 32, 4192}, Bytes: 4193, Write: 4128}
	for _, row := range []struct {
		order, code []int
		words       int
	}{
		{[]int{0, 1, 2, 3}, []int{0, 4, 14, 15}, 315},
		{[]int{3, 2, 1, 0}, []int{311, 301, 300, 0}, 315},
		{[]int{1, 3, 0, 2}, []int{310, 0, 314, 10}, 315},
		{[]int{2, 1, 0}, []int{11, 1, 0, -1}, 15},
		{[]int{0, 1}, []int{0, 4, -1, -1}, 14},
		{[]int{3, 1}, []int{-1, 300, -1, 0}, 310},
		{[]int{1}, []int{-1, 0, -1, -1}, 10},
	} {
		want.Code, want.Words = row.code, row.words
		ask(t, fmt.Sprint("the order ", row.order), p, row.order, want)
	}
}

// P12.1: the example, and the same with one of the two Fixed, or both.
func TestExample(t *testing.T) {
	stands(t, "a byte and a word", []api.PData{free(1, 1), free(4, 4)}, []int{0, 4}, 0, 8)
	stands(t, "a byte and a word, Fixed", []api.PData{fix(1, 1), fix(4, 4)}, []int{0, 4}, 16, 16)
	stands(t, "a Fixed byte and a word", []api.PData{fix(1, 1), free(4, 4)}, []int{0, 16}, 16, 20)
	stands(t, "a byte and a Fixed word", []api.PData{free(1, 1), fix(4, 4)}, []int{16, 0}, 16, 17)
}

// P12.1: no data at all.
func TestNoData(t *testing.T) {
	stands(t, "nil", nil, nil, 0, 0)
	stands(t, "empty", []api.PData{}, nil, 0, 0)
	p := api.Prog{Entry: 2, Funcs: fns(1, 2, 3)}
	ask(t, "of three functions", p, []int{2, 0, 1}, api.Plan{Code: []int{3, 4, 0}, Words: 6})
	p.Datas = []api.PData{}
	ask(t, "of three functions, the last alone", p, []int{2}, api.Plan{Code: []int{-1, -1, 0}, Words: 3})
}

// P12.1: Fixed data alone, of each end: Write is the next multiple of 16, and so is Bytes.
func TestFixedAlone(t *testing.T) {
	for size := 1; size <= api.MaxBytes; size++ {
		write := (size + 15) / 16 * 16
		stands(t, fmt.Sprint("one of Size ", size), []api.PData{fix(1, size)}, []int{0}, write, write)
		if size > 1 {
			stands(t, fmt.Sprint("two that end at ", size), []api.PData{fix(16, 1), fix(1, size-1)}, []int{0, 1}, write, write)
		}
	}
	for _, row := range [][2]int{{15, 16}, {16, 16}, {17, 32}, {31, 32}, {32, 32}, {33, 48}, {4096, 4096}, {4081, 4096}, {4080, 4080}} {
		stands(t, fmt.Sprint("one of Size ", row[0]), []api.PData{fix(16, row[0])}, []int{0}, row[1], row[1])
	}
	stands(t, "three", []api.PData{fix(16, 1), fix(16, 1), fix(16, 1)}, []int{0, 16, 32}, 48, 48)
}

// P12.1: others alone, of each end: Write is 0, and Bytes is where they end.
func TestOthersAlone(t *testing.T) {
	for size := 1; size <= api.MaxBytes; size++ {
		stands(t, fmt.Sprint("one of Size ", size), []api.PData{free(1, size)}, []int{0}, 0, size)
	}
	stands(t, "three", []api.PData{free(16, 1), free(16, 1), free(16, 1)}, []int{0, 16, 32}, 0, 33)
}

// P12.1: Fixed data that end at each place up to 64, and others behind them, of each Align: they begin at Write.
func TestWriteBehindFixed(t *testing.T) {
	for end := 1; end <= 64; end++ {
		write := (end + 15) / 16 * 16
		for align := 1; align <= 16; align++ {
			at := write
			for at%align != 0 {
				at++
			}
			what := fmt.Sprint("Fixed ones up to ", end, ", others of Align ", align)
			stands(t, what, []api.PData{fix(1, end), free(align, 3)}, []int{0, at}, write, at+3)
			stands(t, what+" ahead in the list", []api.PData{free(align, 3), fix(1, end)}, []int{at, 0}, write, at+3)
		}
	}
}

// P12.1: data of each Align behind some that end at each place: moved on to a multiple of it, or not, if they end at one.
func TestAligns(t *testing.T) {
	for align := 1; align <= 16; align++ {
		for end := 1; end <= 5*16; end++ {
			at := end
			if end%align != 0 {
				at = end/align*align + align
			}
			what := fmt.Sprint("of Align ", align, " behind ", end)
			stands(t, what, []api.PData{free(1, end), free(align, 5)}, []int{0, at}, 0, at+5)
			write := (at + 5 + 15) / 16 * 16
			stands(t, what+", Fixed", []api.PData{fix(1, end), fix(align, 5)}, []int{0, at}, write, write)
		}
	}
}

// P12.1: data that begin where the one ahead ends, and such that are moved on, by hand; an Align that is no power of two goes by the number from Base on.
func TestWhereDataBegin(t *testing.T) {
	stands(t, "each behind the other", []api.PData{free(4, 8), free(8, 4), free(4, 2), free(2, 1), free(1, 1)}, []int{0, 8, 12, 14, 15}, 0, 16)
	stands(t, "each moved on", []api.PData{free(1, 1), free(2, 1), free(4, 1), free(8, 1), free(16, 1)}, []int{0, 2, 4, 8, 16}, 0, 17)
	stands(t, "of Aligns like no power", []api.PData{free(3, 1), free(3, 1), free(5, 2), free(7, 7), free(15, 1), free(9, 9), free(13, 1)}, []int{0, 3, 5, 7, 15, 18, 39}, 0, 40)
	stands(t, "Fixed of Aligns like no power", []api.PData{fix(3, 1), fix(3, 1), fix(5, 2), fix(11, 1), fix(3, 3)}, []int{0, 3, 5, 11, 12}, 16, 16)
	stands(t, "an Align of 3 behind Write", []api.PData{fix(1, 1), free(3, 1)}, []int{0, 18}, 16, 19)
	stands(t, "an Align of 12 behind Write", []api.PData{fix(1, 20), free(12, 1), free(1, 1)}, []int{0, 36, 37}, 32, 38)
}

// P12.1: Fixed data and others in each turn: each kind stands as its own order says, whatever stands of the other kind between.
func TestTurns(t *testing.T) {
	sizes := []int{3, 16, 1, 8, 33}
	aligns := []int{4, 1, 16, 2, 8}
	for set := range 1 << 5 {
		var l []api.PData
		for k := range 5 {
			l = append(l, api.PData{Align: aligns[k], Size: sizes[k], Fixed: set>>k&1 == 1})
		}
		asModel(t, one(l...), []int{0})
		apart := slices.Clone(l)
		slices.SortStableFunc(apart, func(d, e api.PData) int {
			switch {
			case d.Fixed == e.Fixed:
				return 0
			case d.Fixed:
				return 1
			}
			return -1
		})
		x, _ := Plan(one(l...), []int{0})
		y, _ := Plan(one(apart...), []int{0})
		for k, d := range l {
			if at := y.Data[slices.IndexFunc(apart, func(e api.PData) bool { return e.Size == d.Size })]; x.Data[k] != at {
				t.Errorf("turn %05b: the data %d stand at %d, want %d", set, k, x.Data[k], at)
			}
		}
		if x.Bytes != y.Bytes || x.Write != y.Write {
			t.Errorf("turn %05b: %+v, apart %+v", set, x, y)
		}
	}
}

// P12.1: Bytes and Write with nothing behind the Fixed data, and with others: Write at least, and no more than where the last one ends.
func TestBytes(t *testing.T) {
	stands(t, "a Fixed byte", []api.PData{fix(1, 1)}, []int{0}, 16, 16)
	stands(t, "a Fixed byte, and one", []api.PData{fix(1, 1), free(1, 1)}, []int{0, 16}, 16, 17)
	stands(t, "16 Fixed bytes, and 16", []api.PData{fix(1, 16), free(1, 16)}, []int{0, 16}, 16, 32)
	stands(t, "17 Fixed bytes", []api.PData{fix(1, 8), fix(1, 9)}, []int{0, 8}, 32, 32)
	stands(t, "others ahead of the last Fixed one", []api.PData{free(1, 2), fix(1, 17)}, []int{32, 0}, 32, 34)
}

// P12.1: where data stand hangs on their Align, Size and Fixed alone; functions on how many words they have.
func TestNothingElse(t *testing.T) {
	p := api.Prog{Funcs: fns(3, 2), Datas: []api.PData{free(2, 7), fix(4, 9), free(1, 1)}}
	want := api.Plan{Code: []int{2, 0}, Data: []int{16, 0, 23}, Words: 5, Bytes: 24, Write: 16}
	ask(t, "bare", p, []int{1, 0}, want)
	rels := []api.PRel{{At: 1, Kind: api.RelCall, To: 1}, {At: 2, Kind: api.RelHigh, Add: 99}}
	p.Funcs[0] = api.PFunc{Name: "main", Keep: true, Leaf: true, Code: []uint32{1 << 31, 7, math.MaxUint32}, Rels: rels}
	p.Funcs[1].Name = "main"
	p.Datas[0].Bytes, p.Datas[1].Bytes, p.Datas[1].Rels = []byte{1, 2}, make([]byte, 9), []api.PRel{{At: 3, Kind: api.RelWord, To: 2}}
	ask(t, "with all else", p, []int{1, 0}, want)
}

// P12.1: all orders of functions, of all and of some of them, with each Entry: right where the Entry is among them.
func TestOrders(t *testing.T) {
	for n := range 6 {
		for entry := range n {
			p := api.Prog{Entry: entry, Funcs: fns([]int{5, 1, 0, 16, 3}[:n]...), Datas: []api.PData{free(4, 9), fix(2, 3)}}
			for _, o := range orders(n) {
				if !slices.Contains(o, entry) {
					refuse(t, fmt.Sprint("without Entry ", entry, o), p, o, api.ErrArg)
				}
				asModel(t, p, o)
			}
		}
	}
}

// P12.1: all lists of up to four numbers from -1 to one more than there are functions.
func TestListsThatAreNoOrder(t *testing.T) {
	p := api.Prog{Funcs: fns(2, 3, 1)}
	l := [][]int{nil}
	for from := 0; len(l[from]) < 4; from++ {
		for f := -1; f <= 4; f++ {
			l = append(l, append(slices.Clone(l[from]), f))
		}
	}
	for p.Entry = -1; p.Entry <= 4; p.Entry++ {
		for _, o := range l {
			asModel(t, p, o)
		}
	}
}

// P12.1: wrong orders, by hand.
func TestWrongOrders(t *testing.T) {
	p := api.Prog{Entry: 1, Funcs: fns(2, 3, 1), Datas: []api.PData{free(1, 1)}}
	for _, o := range [][]int{
		nil, {}, {0}, {2}, {0, 2}, {2, 0},
		{1, 1}, {0, 1, 0}, {1, 0, 0}, {0, 1, 2, 1}, {0, 1, 2, 2},
		{-1}, {1, -1}, {-1, 1}, {0, 1, 2, -1}, {1, -2}, {1, math.MinInt},
		{3}, {1, 3}, {3, 1}, {0, 1, 2, 3}, {1, 4}, {1, math.MaxInt}, {1, 1 << 32}, {1 << 32},
	} {
		refuse(t, fmt.Sprint("the order ", o), p, o, api.ErrArg)
	}
	for _, p.Entry = range []int{-1, 3, 4, math.MinInt, math.MaxInt} {
		for _, o := range [][]int{nil, {0, 1, 2}, {p.Entry}, {0, 1, 2, p.Entry}} {
			refuse(t, fmt.Sprint("Entry ", p.Entry, ", the order ", o), p, o, api.ErrArg)
		}
	}
	for _, o := range [][]int{nil, {}, {0}, {-1}, {1}} {
		refuse(t, fmt.Sprint("of no function, the order ", o), api.Prog{}, o, api.ErrArg)
	}
}

// P12.1: twice the same function is ErrArg, of one without a word, too, and however far from each other.
func TestTwice(t *testing.T) {
	p := api.Prog{Funcs: fns(0, 0, 0, 0, 0)}
	for from := range 5 {
		for to := from + 1; to <= 5; to++ {
			for _, f := range All(p) {
				o := slices.Insert(slices.Delete(All(p), f, f+1), from, f)
				o = slices.Insert(o, to, f)
				refuse(t, fmt.Sprint("the order ", o), p, o, api.ErrArg)
			}
		}
	}
}

// P12.1: functions without a word stand where the next one stands, or at the end.
func TestWithoutWords(t *testing.T) {
	p := api.Prog{Entry: 1, Funcs: fns(0, 4, 0, 2, 0)}
	ask(t, "in order", p, []int{0, 1, 2, 3, 4}, api.Plan{Code: []int{0, 0, 4, 4, 6}, Words: 6})
	ask(t, "the other way round", p, []int{4, 3, 2, 1, 0}, api.Plan{Code: []int{6, 2, 2, 0, 0}, Words: 6})
	ask(t, "some left out", p, []int{3, 0, 1}, api.Plan{Code: []int{2, 2, -1, 0, -1}, Words: 6})
	p.Entry = 2
	ask(t, "one without a word alone", p, []int{2}, api.Plan{Code: []int{-1, -1, 0, -1, -1}})
	ask(t, "all without a word", p, []int{4, 2, 0}, api.Plan{Code: []int{0, -1, 0, -1, 0}})
}

// P12.1: just MaxCode words, and one more; in one function, at the end, and in many.
func TestMaxCode(t *testing.T) {
	for _, l := range [][]int{{65536}, {65535, 1}, {1, 65535}, {32768, 32768}, {0, 65536, 0}, {65536, 0, 0}, slices.Repeat([]int{2000}, 32), slices.Repeat([]int{1}, 65535)} {
		total := 0
		for _, n := range l {
			total += n
		}
		if total < 65536 {
			l = append(l, 65536-total)
		}
		p := api.Prog{Funcs: fns(l...)}
		first, words := make([]int, len(l)), 0
		for k, n := range l {
			first[k] = words
			words += n
		}
		ask(t, "just as many", p, All(p), api.Plan{Code: first, Words: 65536})
		for _, k := range []int{0, len(l) / 2, len(l) - 1} {
			more := api.Prog{Funcs: slices.Clone(p.Funcs), Datas: []api.PData{fix(2, 2)}}
			more.Funcs[k].Code = make([]uint32, l[k]+1)
			refuse(t, fmt.Sprint("one more in the function ", k), more, All(p), api.ErrLong)
		}
		p.Funcs = append(p.Funcs, fns(1)...)
		refuse(t, "one more behind", p, All(p), api.ErrLong)
		ask(t, "one more, left out", p, All(p)[:len(l)], api.Plan{Code: append(first, -1), Words: 65536})
	}
	p := api.Prog{Funcs: fns(1, 65535, 1, 1<<17)}
	ask(t, "one left out", p, []int{1, 0}, api.Plan{Code: []int{65535, 0, -1, -1}, Words: 65536})
	refuse(t, "none left out", p, []int{1, 0, 2}, api.ErrLong)
	refuse(t, "far too many", p, []int{0, 3}, api.ErrLong)
	refuse(t, "far too many ahead", p, []int{3, 0}, api.ErrLong)
}

// P12.1: just MaxData bytes, and one more: of Fixed data, of others, of both.
func TestMaxData(t *testing.T) {
	most := func(d api.PData) []api.PData { return many(16, d) }
	at := func(n int) []int {
		l := make([]int, n)
		for k := range l {
			l[k] = k * 4096
		}
		return l
	}
	stands(t, "of others", most(free(16, 4096)), at(16), 0, 65536)
	stands(t, "of Fixed ones", most(fix(16, 4096)), at(16), 65536, 65536)
	stands(t, "of both", append(many(7, fix(1, 4096)), many(9, free(1, 4096))...), at(16), 7*4096, 65536)
	stands(t, "one less, of others", append(many(15, free(1, 4096)), free(1, 4095)), at(16), 0, 65535)
	for _, d := range []api.PData{fix(1, 1), free(1, 1), fix(16, 1), free(16, 1), fix(1, 4096), free(1, 4096)} {
		for _, l := range [][]api.PData{most(free(1, 4096)), most(fix(1, 4096)), append(many(7, fix(1, 4096)), many(9, free(1, 4096))...)} {
			refuse(t, fmt.Sprintf("one more behind %+v", d), one(append(slices.Clone(l), d)...), []int{0}, api.ErrLong)
			refuse(t, fmt.Sprintf("one more ahead %+v", d), one(append([]api.PData{d}, l...)...), []int{0}, api.ErrLong)
		}
	}
	for _, n := range []int{17, 32, 33, 1000, 100000} {
		for _, d := range []api.PData{fix(1, 4096), free(1, 4096), fix(16, 4095), free(16, 4096)} {
			refuse(t, fmt.Sprintf("%d of %+v", n, d), one(many(n, d)...), []int{0}, api.ErrLong)
			refuse(t, fmt.Sprintf("%d of %+v, and one of each kind", n, d), one(append(many(n, d), fix(3, 1), free(3, 1))...), []int{0}, api.ErrLong)
		}
	}
	stands(t, "of single bytes", many(65536, free(1, 1)), each(65536, 1), 0, 65536)
	refuse(t, "of single bytes, one more", one(many(65537, free(1, 1))...), []int{0}, api.ErrLong)
	stands(t, "of single Fixed bytes", many(65536, fix(1, 1)), each(65536, 1), 65536, 65536)
	refuse(t, "of single Fixed bytes, one more", one(many(65537, fix(1, 1))...), []int{0}, api.ErrLong)
}

// each is the first n multiples of by.
func each(n, by int) []int {
	l := make([]int, n)
	for k := range l {
		l[k] = k * by
	}
	return l
}

// P12.1: just MaxData bytes, and one more, by the bytes between: those ahead of an aligned one, and those ahead of Write.
func TestMaxDataByGaps(t *testing.T) {
	full := func(gap int, kind func(align, size int) api.PData) []api.PData {
		return append(many(15, kind(1, 4096)), kind(1, 4096-gap))
	}
	behind := []int{0}
	for k := range 16 {
		behind = append(behind, 16+4096*k)
	}
	for gap := 1; gap <= 15; gap++ {
		what := fmt.Sprint("of a gap of ", gap)
		// Fixed ones end so far ahead of MaxData: Write is MaxData.
		x, e := Plan(one(full(gap, fix)...), []int{0})
		if e != api.OK || x.Write != 65536 || x.Bytes != 65536 {
			t.Errorf("%s: error %d, Write %d, Bytes %d", what, e, x.Write, x.Bytes)
		}
		refuse(t, what+" ahead of Write, and a byte", one(append(full(gap, fix), free(1, 1))...), []int{0}, api.ErrLong)
		refuse(t, what+" ahead of an aligned byte", one(append(full(gap, free), free(16, 1))...), []int{0}, api.ErrLong)
		refuse(t, what+" ahead of an aligned Fixed byte", one(append(full(gap, fix), fix(16, 1))...), []int{0}, api.ErrLong)
		for _, row := range [][2]int{{1, gap}, {1, gap + 1}, {2, gap}, {2, gap + 1}, {8, 8}, {8, 9}, {3, gap}, {7, 1}, {13, gap}} {
			asModel(t, one(append(full(gap, free), free(row[0], row[1]))...), []int{0})
			asModel(t, one(append(full(gap, fix), fix(row[0], row[1]))...), []int{0})
		}
		// The gap ahead of Write leaves just as many bytes for others.
		l := append([]api.PData{fix(1, gap)}, many(15, free(1, 4096))...)
		stands(t, what+" behind few Fixed ones", append(slices.Clone(l), free(1, 4080)), behind, 16, 65536)
		refuse(t, what+" behind few Fixed ones, one more", one(append(slices.Clone(l), free(1, 4081))...), []int{0}, api.ErrLong)
	}
	stands(t, "an aligned one that ends at MaxData", append(full(17, free), free(16, 16)), append(each(16, 4096), 65520), 0, 65536)
	refuse(t, "an aligned one that ends behind it", one(append(full(17, free), free(16, 17))...), []int{0}, api.ErrLong)
}

// P12.1: ErrArg ahead of ErrLong, where both hold; ErrLong where words and bytes both are too many.
func TestFirstError(t *testing.T) {
	long, wide := fns(1, 65536), many(17, free(1, 4096))
	for _, p := range []api.Prog{{Funcs: long}, {Funcs: fns(1, 1), Datas: wide}, {Funcs: long, Datas: wide}} {
		refuse(t, "too long", p, []int{0, 1}, api.ErrLong)
		for _, o := range [][]int{nil, {1}, {0, 1, 0}, {0, 1, 1}, {0, 1, 2}, {0, 1, -1}, {2, 0, 1}, {-1, 0, 1}} {
			refuse(t, fmt.Sprint("too long, and the order ", o), p, o, api.ErrArg)
		}
		p.Entry = 2
		refuse(t, "too long, and no Entry", p, []int{0, 1}, api.ErrArg)
	}
	ask(t, "long, left out", api.Prog{Funcs: long}, []int{0}, api.Plan{Code: []int{0, -1}, Words: 1})
	refuse(t, "long, left out, and too many bytes", api.Prog{Funcs: long, Datas: wide}, []int{0}, api.ErrLong)
}

// P12.1: All.
func TestAll(t *testing.T) {
	if l := All(api.Prog{}); len(l) != 0 {
		t.Errorf("of no function: %v", l)
	}
	if l := All(api.Prog{Entry: 5, Datas: many(3, free(1, 1))}); len(l) != 0 {
		t.Errorf("of no function, but data: %v", l)
	}
	for _, n := range []int{1, 2, 3, 10, 1000, 70000} {
		p := api.Prog{Entry: n / 2, Funcs: make([]api.PFunc, n), Datas: many(2, fix(1, 1))}
		if l := All(p); !slices.Equal(l, each(n, 1)) {
			t.Errorf("of %d functions: %.100s", n, fmt.Sprint(l))
		}
		if _, e := Plan(p, All(p)); e != api.OK {
			t.Errorf("of %d functions: all of them are no order: %d", n, e)
		}
	}
	if l := All(api.Prog{Funcs: fns(0, 7, 0)}); !slices.Equal(l, []int{0, 1, 2}) {
		t.Errorf("of functions without a word: %v", l)
	}
}

// P12.1: Address, of every byte, and of the one behind all.
func TestAddress(t *testing.T) {
	for _, row := range []struct {
		at   int
		want uint32
	}{{0, 65536}, {1, 65537}, {16, 65552}, {65535, 131071}, {65536, 131072}} {
		if got := Address(row.at); got != row.want {
			t.Errorf("of %d: %d, want %d", row.at, got, row.want)
		}
	}
	for at := range api.MaxData + 1 {
		if got := Address(at); got != api.Base+uint32(at) {
			t.Errorf("of %d: %d", at, got)
		}
	}
}

// chance makes numbers, the same ones each time.
type chance struct{ state uint64 }

// below answers a number from 0 to n - 1.
func (c *chance) below(n int) int {
	c.state = c.state*6364136223846793005 + 1442695040888963407
	return int(c.state >> 33 % uint64(n))
}

// shuffled answers an order of so many functions with the entry, some of them left out, or none.
func (c *chance) shuffled(n, entry int) []int {
	var l []int
	leave := c.below(2)
	for f := range n {
		if f == entry || leave == 0 || c.below(3) > 0 {
			l = slices.Insert(l, c.below(len(l)+1), f)
		}
	}
	return l
}

// program answers a program whose data are right, of few parts or many; now and then with too much in it.
func (c *chance) program() api.Prog {
	var p api.Prog
	long := 1 + c.below(30)*c.below(30)*c.below(50)
	for range 1 + c.below(12) {
		p.Funcs = append(p.Funcs, fns(c.below(long))...)
	}
	p.Entry = c.below(len(p.Funcs))
	kind, wide := c.below(4), 1+c.below(64)*(1+c.below(64))
	for range c.below(40) {
		d := api.PData{Align: 1 + c.below(16), Size: 1 + c.below(wide), Fixed: kind == 1 || kind > 1 && c.below(2) == 1}
		if c.below(2) == 0 {
			d.Align = 1 << c.below(5)
		}
		p.Datas = append(p.Datas, d)
	}
	return p
}

// P12.1, P12.2: programs by chance, against the model and against what follows; data stand the same in any order.
func TestByChance(t *testing.T) {
	c := &chance{1}
	right, long := 0, 0
	for range 10000 {
		p := c.program()
		asModel(t, p, All(p))
		for range 3 {
			o := c.shuffled(len(p.Funcs), p.Entry)
			asModel(t, p, o)
			x, e := Plan(p, o)
			if e != api.OK {
				long++
				continue
			}
			right++
			apart(t, p, x, o)
			y, e := Plan(p, []int{p.Entry})
			if e != api.OK || !slices.Equal(x.Data, y.Data) || x.Bytes != y.Bytes || x.Write != y.Write {
				t.Errorf("%+v: in the order %v %+v, of the entry alone %d %+v", p.Datas, o, x, e, y)
			}
		}
		if t.Failed() {
			t.Fatal("the first program that goes wrong")
		}
	}
	if right < 10000 || long < 1000 {
		t.Errorf("by chance came %d right orders, and %d too long ones", right, long)
	}
}

// apart tells where two parts share a word or a byte, or a part stands beyond the end, or data aren't aligned, or stand on the wrong side of Write.
func apart(t *testing.T, p api.Prog, x api.Plan, order []int) {
	t.Helper()
	words, bytes := make([]bool, x.Words), make([]bool, x.Bytes)
	take := func(what string, l []bool, at, n int) {
		for k := at; k < at+n; k++ {
			if k < 0 || k >= len(l) || l[k] {
				t.Errorf("%s at %d: %d is another one's, or none, of %d", what, at, k, len(l))
				return
			}
			l[k] = true
		}
	}
	for f, g := range p.Funcs {
		if (x.Code[f] < 0) == slices.Contains(order, f) {
			t.Errorf("the function %d stands at %d, in the order %v", f, x.Code[f], order)
		}
		if x.Code[f] >= 0 {
			take(fmt.Sprint("the function ", f), words, x.Code[f], len(g.Code))
		}
	}
	if slices.Contains(words, false) {
		t.Errorf("there are words of no function")
	}
	for k, d := range p.Datas {
		at := x.Data[k]
		take(fmt.Sprint("the data ", k), bytes, at, d.Size)
		if at%d.Align != 0 || (d.Fixed && at+d.Size > x.Write) || (!d.Fixed && at < x.Write) {
			t.Errorf("the data %d, %+v, stand at %d, Write is %d", k, d, at, x.Write)
		}
	}
	if x.Write%16 != 0 || x.Write > x.Bytes {
		t.Errorf("Write is %d, of %d bytes", x.Write, x.Bytes)
	}
}

// P12.2: addresses are aligned by each Align that divides 16, as Base is.
func TestAddressesAligned(t *testing.T) {
	for _, align := range []int{1, 2, 4, 8, 16} {
		for size := 1; size <= 40; size++ {
			for _, p := range []api.Prog{one(free(1, size), free(align, 1)), one(fix(1, size), fix(align, 1)), one(fix(1, size), free(align, 1))} {
				x, _ := Plan(p, []int{0})
				if Address(x.Data[1])%uint32(align) != 0 {
					t.Errorf("%+v: the last one's address is %d", p.Datas, Address(x.Data[1]))
				}
			}
		}
	}
}

// roomy answers the list with others in the room behind its length.
func roomy[T any](l []T, other T) []T {
	return append(slices.Clone(l), other, other, other)[:len(l)]
}

// room answers the list with the room behind its length.
func room[T any](l []T) []T { return l[:cap(l)] }

// fill writes the same over the list, and over the room behind its length.
func fill[T any](l []T, with T) {
	for k := range room(l) {
		room(l)[k] = with
	}
}

// some is a program with something in the room behind each list's length.
func some() api.Prog {
	rels := []api.PRel{{At: 1, Kind: api.RelCall, To: 1, Add: 2}}
	p := api.Prog{Entry: 1}
	for k, n := range []int{3, 1, 0, 5} {
		p.Funcs = append(p.Funcs, api.PFunc{Name: fmt.Sprint("f", k), Keep: k == 1, Leaf: k == 2, Code: roomy(make([]uint32, n), 0xee), Rels: roomy(rels, api.PRel{At: 9})})
	}
	for k, d := range []api.PData{free(4, 7), fix(8, 3), free(2, 20), fix(1, 1)} {
		d.Bytes, d.Rels = roomy([]byte{byte(k)}, 0xee), roomy(rels, api.PRel{At: 9})
		p.Datas = append(p.Datas, d)
	}
	p.Funcs, p.Datas = roomy(p.Funcs, api.PFunc{Name: "room"}), roomy(p.Datas, fix(16, 77))
	return p
}

// show tells all of a program and of an order, with what stands in the room behind each list's length.
func show(p api.Prog, order []int) string {
	var text strings.Builder
	fmt.Fprintf(&text, "%+v %+v %d %v", room(p.Funcs), room(p.Datas), p.Entry, room(order))
	for _, f := range p.Funcs {
		fmt.Fprintf(&text, " %x %+v", room(f.Code), room(f.Rels))
	}
	for _, d := range p.Datas {
		fmt.Fprintf(&text, " %x %+v", room(d.Bytes), room(d.Rels))
	}
	return text.String()
}

// calls are orders of the program some, right ones and wrong ones.
func calls() [][]int {
	return [][]int{{0, 1, 2, 3}, {3, 2, 1, 0}, {3, 1}, {1}, {}, {0, 2}, {1, 1}, {1, 4}, {1, -1}}
}

// P12.3: what is handed in stays, and the room behind each length.
func TestHandedInStays(t *testing.T) {
	for _, o := range calls() {
		p, order := some(), roomy(o, 1)
		if len(o) == 4 {
			p.Datas[0].Size = 1
		}
		old := show(p, order)
		Plan(p, order)
		All(p)
		if now := show(p, order); now != old {
			t.Errorf("the order %v: was %s\nis %s", o, old, now)
		}
	}
	long := some()
	long.Datas = roomy(many(17, free(1, 4096)), fix(1, 1))
	old := show(long, []int{1})
	if _, e := Plan(long, []int{1}); e != api.ErrLong || show(long, []int{1}) != old {
		t.Errorf("too long: error %d, the program is changed", e)
	}
}

// P12.3: what is answered is new memory: written over, it changes nothing handed in, nor what is answered next, nor its own other list.
func TestAnswersAreNew(t *testing.T) {
	for _, o := range calls() {
		p, order := some(), roomy(o, 1)
		old := show(p, order)
		x, e := Plan(p, order)
		fill(x.Code, 77)
		if slices.Contains(room(x.Data), 77) {
			t.Errorf("the order %v: Data share memory with Code", o)
		}
		fill(x.Data, 77)
		l := All(p)
		fill(l, 77)
		if now := show(p, order); now != old {
			t.Errorf("the order %v: was %s\nis %s", o, old, now)
		}
		y, f := Plan(p, order)
		want, wanted := model(some(), o)
		if e != f || f != wanted || !same(y, want) {
			t.Errorf("the order %v, next: error %d, then %d, %+v", o, e, f, y)
		}
		if next := All(p); !slices.Equal(next, []int{0, 1, 2, 3}) {
			t.Errorf("all, next: %v", next)
		}
	}
}

// P12.3: what is answered stays, when what was handed in is written over.
func TestAnswersStay(t *testing.T) {
	for _, o := range calls() {
		p, order := some(), roomy(o, 1)
		x, _ := Plan(p, order)
		l := All(p)
		fill(order, 77)
		fill(p.Funcs, api.PFunc{Name: "spoilt"})
		fill(p.Datas, fix(7, 77))
		if want, _ := model(some(), o); !same(x, want) || !slices.Equal(l, []int{0, 1, 2, 3}) {
			t.Errorf("the order %v: %+v, all %v", o, x, l)
		}
	}
}

// P1: no call panics, whatever programs, orders and numbers it is given.
func TestWhatever(t *testing.T) {
	huge := []int{math.MinInt, math.MinInt32, -65536, -1, 0, 1, 2, 3, 16, 17, 4097, 65536, 65537, 1 << 20, 1<<20 + 1, 1 << 40, 1<<40 + 1, math.MaxInt}
	for _, x := range huge {
		Address(x)
		for _, y := range huge {
			for _, fixed := range []bool{true, false} {
				d := api.PData{Align: x, Size: y, Fixed: fixed}
				e := api.PData{Align: y, Size: x, Fixed: !fixed}
				for _, l := range [][]api.PData{{d}, {d, d, d}, {d, e}, {fix(1, 5), d, e, free(3, 5), d}} {
					for _, o := range [][]int{nil, {0}, {x}, {0, x}, {x, y}} {
						for _, entry := range []int{0, x} {
							p := api.Prog{Funcs: fns(1, 2), Datas: l, Entry: entry}
							if z, n := Plan(p, o); n != api.OK && !same(z, api.Plan{}) {
								t.Errorf("%+v, %v: error %d, %+v", p, o, n, z)
							}
						}
					}
				}
			}
		}
	}
}
