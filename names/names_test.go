package names

import (
	"fmt"
	"math"
	"slices"
	"strings"
	"testing"

	"splice/api"
	"splice/check"
)

// Words of instructions, written out.
const (
	ret   = 0x15000000
	none  = 0x18000000
	trap  = 0x19000000
	halt  = 0x00100000
	call0 = 0x14000000
	jump0 = 0x13000000
	high0 = 0x09100000
	ori0  = 0x0a110000
)

// obj is an object of these parts: functions, data and notes, in order.
func obj(parts ...any) api.Object {
	var o api.Object
	for _, p := range parts {
		switch x := p.(type) {
		case api.Func:
			o.Funcs = append(o.Funcs, x)
		case api.Data:
			o.Datas = append(o.Datas, x)
		case api.Note:
			o.Notes = append(o.Notes, x)
		}
	}
	return o
}

// fun is a function that is told from others by how many words it has: tag of None, and one.
func fun(name string, bind, tag int) api.Func {
	return api.Func{Name: name, Bind: bind, Code: append(slices.Repeat([]uint32{none}, tag), ret)}
}

// calling is a function that calls each of these names, in order.
func calling(name string, bind int, names ...string) api.Func {
	f := fun(name, bind, 0)
	for k, n := range names {
		f.Code = slices.Insert(f.Code, 0, uint32(call0))
		f.Rels = append(f.Rels, api.Rel{At: k, Kind: api.RelCall, Name: n})
	}
	return f
}

// asking is a function that has the address of each of these names, in order.
func asking(name string, bind int, names ...string) api.Func {
	f := fun(name, bind, 0)
	for k, n := range names {
		f.Code = slices.Insert(f.Code, 0, high0, ori0)
		f.Rels = append(f.Rels, api.Rel{At: 2 * k, Kind: api.RelHigh, Name: n, Add: k}, api.Rel{At: 2*k + 1, Kind: api.RelLow, Name: n, Add: k})
	}
	return f
}

// dat is data that is told from others by its Size; Common and other ones alike.
func dat(name string, bind, size int) api.Data {
	return api.Data{Name: name, Bind: bind, Align: 1, Size: size}
}

// pointing is data with the address of each of these names, in order.
func pointing(name string, bind int, names ...string) api.Data {
	d := dat(name, bind, 4*len(names)+1)
	for k, n := range names {
		d.Rels = append(d.Rels, api.Rel{At: 4 * k, Kind: api.RelWord, Name: n, Add: -k})
	}
	return d
}

// common is Common data.
func common(name string, size, align int) api.Data {
	return api.Data{Name: name, Bind: api.Common, Size: size, Align: align}
}

// start is an object whose "main" does nothing.
func start() api.Object { return obj(fun("main", api.Strong, 0)) }

// show tells all of a program.
func show(p api.Prog) string {
	var text strings.Builder
	fmt.Fprintf(&text, "Entry %d", p.Entry)
	for k, f := range p.Funcs {
		fmt.Fprintf(&text, "\n  function %d %q Keep %v Leaf %v %.80s %v", k, f.Name, f.Keep, f.Leaf, fmt.Sprintf("%08x", f.Code), f.Rels)
	}
	for k, d := range p.Datas {
		fmt.Fprintf(&text, "\n  data %d Align %d Fixed %v Size %d %x %v", k, d.Align, d.Fixed, d.Size, d.Bytes, d.Rels)
	}
	return text.String()
}

// all tells a program without leaving out anything, nil and empty lists alike.
func all(p api.Prog) string {
	return fmt.Sprintf("%+v", p)
}

// ask tells where the objects are no program, or another one.
func ask(t *testing.T, what string, l []api.Object, want api.Prog) {
	t.Helper()
	p, e := Resolve(l)
	if e != api.OK || all(p) != all(want) {
		t.Errorf("%s: error %d, %s\nwant %s", what, e, show(p), show(want))
	}
}

// refuse tells where the answer is another error than this one, or something comes with it.
func refuse(t *testing.T, what string, l []api.Object, want api.Errno) {
	t.Helper()
	p, e := Resolve(l)
	if e != want || p.Funcs != nil || p.Datas != nil || p.Entry != 0 {
		t.Errorf("%s: error %d, %.300s; want %d", what, e, show(p), want)
	}
}

// resolved answers the program of the objects, which is none only where the test is wrong.
func resolved(t *testing.T, what string, l []api.Object) api.Prog {
	t.Helper()
	p, e := Resolve(l)
	if e != api.OK {
		t.Fatalf("%s: error %d", what, e)
	}
	return p
}

// pfun is what fun is in a program.
func pfun(name string, tag int, rels ...api.PRel) api.PFunc {
	return api.PFunc{Name: name, Code: fun(name, 1, tag).Code, Rels: rels}
}

// orders are all orders of the numbers below n.
func orders(n int) [][]int {
	if n == 0 {
		return [][]int{nil}
	}
	var l [][]int
	for _, o := range orders(n - 1) {
		for k := range n {
			l = append(l, slices.Insert(slices.Clone(o), k, n-1))
		}
	}
	return l
}

// P11.1: three objects whose functions and data name one another, all of it written out.
func TestOrdinary(t *testing.T) {
	main := api.Func{Name: "main", Bind: api.Strong, Code: []uint32{call0, call0, high0, ori0, halt}, Rels: []api.Rel{
		{At: 0, Kind: api.RelCall, Name: "read"}, {At: 1, Kind: api.RelCall, Name: "help"},
		{At: 2, Kind: api.RelHigh, Name: "table", Add: 8}, {At: 3, Kind: api.RelLow, Name: "table", Add: 8}}}
	read := api.Func{Name: "read", Bind: api.Strong, Code: []uint32{none, call0, jump0}, Rels: []api.Rel{
		{At: 1, Kind: api.RelCall, Name: "help"}, {At: 2, Kind: api.RelCall, Name: "read"}}}
	text := api.Data{Name: "text", Bind: api.Local, Align: 2, Fixed: true, Size: 5, Bytes: []byte("abc")}
	table := api.Data{Name: "table", Bind: api.Strong, Align: 8, Size: 20, Bytes: []byte{1}, Rels: []api.Rel{
		{At: 3, Kind: api.RelWord, Name: "text", Add: -1 << 20}, {At: 7, Kind: api.RelWord, Name: "table", Add: 1 << 20}, {At: 16, Kind: api.RelWord, Name: "room"}}}
	l := []api.Object{
		obj(fun("help", api.Weak, 1), read, common("room", 30, 2), text),
		obj(main, fun("help", api.Local, 2), common("room", 10, 16), api.Note{Name: "main", Kind: api.NoteKeep}),
		obj(fun("help", api.Strong, 3), fun("idle", api.Weak, 4), table, dat("text", api.Local, 7), api.Note{Name: "help", Kind: api.NoteLeaf}, api.Note{Name: "idle", Kind: api.NoteCold}),
	}
	l[2].Datas[0].Rels[0].Name = "text"
	help := pfun("help", 3)
	help.Leaf = true
	ask(t, "three objects", l, api.Prog{
		Funcs: []api.PFunc{
			{Name: "read", Code: []uint32{none, call0, jump0}, Rels: []api.PRel{{At: 1, Kind: api.RelCall, To: 3}, {At: 2, Kind: api.RelCall, To: 0}}},
			{Name: "main", Keep: true, Code: []uint32{call0, call0, high0, ori0, halt}, Rels: []api.PRel{
				{At: 0, Kind: api.RelCall, To: 0}, {At: 1, Kind: api.RelCall, To: 2}, {At: 2, Kind: api.RelHigh, To: 2, Add: 8}, {At: 3, Kind: api.RelLow, To: 2, Add: 8}}},
			pfun("help", 2), help, pfun("idle", 4),
		},
		Datas: []api.PData{
			{Align: 16, Size: 30},
			{Align: 2, Fixed: true, Size: 5, Bytes: []byte("abc")},
			{Align: 8, Size: 20, Bytes: []byte{1}, Rels: []api.PRel{
				{At: 3, Kind: api.RelWord, To: 3, Add: -1 << 20}, {At: 7, Kind: api.RelWord, To: 2, Add: 1 << 20}, {At: 16, Kind: api.RelWord, To: 0}}},
			{Align: 1, Size: 7},
		},
		Entry: 1,
	})
}

// P11.1: one object, one function, and the examples.
func TestExamples(t *testing.T) {
	ask(t, "one that halts", []api.Object{obj(api.Func{Name: "main", Bind: api.Strong, Code: []uint32{halt}})}, api.Prog{Funcs: []api.PFunc{{Name: "main", Code: []uint32{halt}}}})
	refuse(t, "two strong f", []api.Object{obj(fun("main", 1, 0), fun("f", 1, 1)), obj(fun("f", 1, 2))}, api.ErrTwice)
	weak, strong := obj(fun("f", api.Weak, 1)), obj(fun("f", api.Strong, 2))
	caller := obj(calling("main", 1, "f"))
	main := api.PFunc{Name: "main", Code: []uint32{call0, ret}, Rels: []api.PRel{{Kind: api.RelCall, To: 1}}}
	want := api.Prog{Funcs: []api.PFunc{main, pfun("f", 2)}}
	ask(t, "weak, strong", []api.Object{caller, weak, strong}, want)
	ask(t, "strong, weak", []api.Object{caller, strong, weak}, want)
}

// P11.1: no object, one to 16 of them, and more.
func TestHowManyObjects(t *testing.T) {
	for _, l := range [][]api.Object{nil, {}, {{}}, make([]api.Object, 15), make([]api.Object, 16)} {
		refuse(t, fmt.Sprint("nothing in objects: ", len(l)), l, api.ErrNone)
	}
	for n := 1; n <= 16; n++ {
		l := make([]api.Object, n)
		want := api.Prog{}
		for k := range l {
			name := fmt.Sprint("f", k)
			l[k] = obj(fun(name, 1, k), dat(name+".d", 1, k+1))
			want.Funcs = append(want.Funcs, pfun(name, k))
			want.Datas = append(want.Datas, api.PData{Align: 1, Size: k + 1})
		}
		for k := range l {
			name := l[k].Funcs[0].Name
			l[k].Funcs[0].Name, want.Funcs[k].Name, want.Entry = "main", "main", k
			ask(t, fmt.Sprint("of objects ", n, " the entry in ", k), l, want)
			l[k].Funcs[0].Name, want.Funcs[k].Name = name, name
		}
	}
	wrong := obj(api.Func{})
	for _, n := range []int{17, 18, 33, 1000} {
		refuse(t, "too many empty ones", make([]api.Object, n), api.ErrLong)
		refuse(t, "too many, the first with main", append([]api.Object{start()}, make([]api.Object, n-1)...), api.ErrLong)
		refuse(t, "too many, that are not right", slices.Repeat([]api.Object{wrong}, n), api.ErrLong)
		refuse(t, "too many, of one name", slices.Repeat([]api.Object{start()}, n), api.ErrLong)
	}
}

// wrongs are objects that aren't right, with chapter 10's errors.
func wrongs() []struct {
	what string
	o    api.Object
	want api.Errno
} {
	type row = struct {
		what string
		o    api.Object
		want api.Errno
	}
	code := func(words ...uint32) api.Object {
		return obj(api.Func{Name: "w", Bind: api.Strong, Code: words})
	}
	notes := obj(fun("w", 1, 0))
	notes.Notes = slices.Repeat([]api.Note{{Name: "w"}}, 65)
	return []row{
		{"no code", code(), api.ErrForm},
		{"no instruction", code(0xff000000, ret), api.ErrCode},
		{"a Jump that leads out", code(jump0 | 5), api.ErrRange},
		{"a branch that leads out", code(0x0f1200f0, ret), api.ErrRange},
		{"one that falls", code(none), api.ErrForm},
		{"a Call without a relocation", code(call0, ret), api.ErrForm},
		{"a Common function", obj(fun("w", api.Common, 0)), api.ErrForm},
		{"no name", obj(fun("", api.Strong, 0)), api.ErrForm},
		{"what is no name", obj(fun("a b", api.Strong, 0)), api.ErrForm},
		{"no name in a relocation", obj(calling("w", api.Strong, "")), api.ErrForm},
		{"an Align of 3", obj(api.Data{Name: "w", Bind: 1, Align: 3, Size: 1}), api.ErrForm},
		{"a Size of 0", obj(dat("w", 1, 0)), api.ErrForm},
		{"Common ones with Bytes", obj(api.Data{Name: "w", Bind: api.Common, Align: 1, Size: 1, Bytes: []byte{1}}), api.ErrForm},
		{"Common ones that are Fixed", obj(api.Data{Name: "w", Bind: api.Common, Align: 1, Size: 1, Fixed: true}), api.ErrForm},
		{"a Bind of 5", obj(dat("w", 5, 1)), api.ErrForm},
		{"a Bind of 0", obj(fun("w", 0, 0)), api.ErrForm},
		{"a note of nobody", obj(fun("w", 1, 0), api.Note{Name: "v", Kind: 1}), api.ErrForm},
		{"a note of data", obj(dat("w", 1, 1), api.Note{Name: "w", Kind: 1}), api.ErrForm},
		{"too many notes", notes, api.ErrForm},
		{"two strong functions", obj(fun("w", 1, 0), fun("w", 1, 1)), api.ErrForm},
		{"two strong data", obj(dat("w", 1, 1), dat("w", 1, 2)), api.ErrForm},
		{"a strong function and strong data", obj(fun("w", 1, 0), dat("w", 1, 2)), api.ErrForm},
		{"two local functions", obj(fun("w", 3, 0), fun("w", 3, 1)), api.ErrForm},
		{"a local and a weak one", obj(fun("w", 3, 0), fun("w", 2, 1)), api.ErrForm},
		{"two Common ones", obj(common("w", 1, 1), common("w", 1, 1)), api.ErrForm},
	}
}

// P11.1: an object that isn't right, at each place; of two the first one's error, ahead of all that comes behind.
func TestFirstThatIsNotRight(t *testing.T) {
	others := [][]api.Object{make([]api.Object, 16), slices.Repeat([]api.Object{start()}, 16), slices.Repeat([]api.Object{obj(calling("main", 1, "q"), dat("q", 1, 1))}, 16)}
	others[0][0] = start()
	for _, w := range wrongs() {
		if e := check.Object(w.o); e != w.want {
			t.Errorf("%s: is judged %d, want %d", w.what, e, w.want)
		}
		for _, l := range others {
			for _, n := range []int{1, 2, 3, 16} {
				for k := range n {
					own := slices.Clone(l[:n])
					own[k] = w.o
					refuse(t, fmt.Sprint(w.what, ", object ", k, " of ", n), own, w.want)
				}
			}
		}
		for _, v := range wrongs() {
			for _, k := range []int{0, 1, 7, 14} {
				own := slices.Clone(others[1])
				own[k], own[k+1] = w.o, v.o
				refuse(t, w.what+" ahead of "+v.what, own, w.want)
			}
		}
	}
}

// P11.1: two strong ones of a name in two objects, whatever they are, however far from each other, and whatever of the name lies between.
func TestTwice(t *testing.T) {
	one := func(data bool, bind, tag int) api.Object {
		if data {
			return obj(dat("x", bind, tag+1))
		}
		return obj(fun("x", min(bind, 3), tag))
	}
	for _, pair := range [][2]bool{{false, false}, {true, true}, {false, true}, {true, false}} {
		for from := range 15 {
			for to := from + 1; to < 16; to++ {
				l := make([]api.Object, 16)
				l[from], l[to] = one(pair[0], 1, 1), one(pair[1], 1, 2)
				refuse(t, fmt.Sprint("two strong ones, and no main ", pair, from, to), l, api.ErrTwice)
				l[(from+1)%16].Funcs = append(l[(from+1)%16].Funcs, calling("main", 1, "q"))
				refuse(t, fmt.Sprint("two strong ones ", pair, from, to), l, api.ErrTwice)
			}
		}
		for bind := 1; bind <= 4; bind++ {
			for _, data := range []bool{false, true} {
				for _, o := range orders(3) {
					l := make([]api.Object, 4)
					l[o[0]], l[o[1]], l[o[2]], l[3] = one(pair[0], 1, 1), one(pair[1], 1, 2), one(data, bind, 3), start()
					refuse(t, fmt.Sprint("two strong ones, and one of Bind ", bind, " ", pair, o), l, api.ErrTwice)
				}
			}
		}
	}
	refuse(t, "two main", []api.Object{start(), start()}, api.ErrTwice)
	refuse(t, "main and data main", []api.Object{start(), obj(dat("main", 1, 1))}, api.ErrTwice)
	refuse(t, "two data main", []api.Object{obj(dat("main", 1, 1)), obj(dat("main", 1, 1))}, api.ErrTwice)
	last := obj(fun("a", 1, 0), fun("b", 1, 0), fun("z", 1, 0))
	refuse(t, "the last function of many", []api.Object{start(), last, obj(fun("c", 1, 0), fun("d", 2, 0), fun("z", 1, 0))}, api.ErrTwice)
	refuse(t, "the last data of many", []api.Object{start(), obj(fun("z", 1, 0)), obj(dat("a", 1, 1), dat("b", 4, 1), dat("z", 1, 1))}, api.ErrTwice)
}

// P11.1: two that are not both strong are no error, whichever they are, and whichever is first.
func TestNotTwice(t *testing.T) {
	for bind := 1; bind <= 4; bind++ {
		for other := 1; other <= 4; other++ {
			if bind == 1 && other == 1 {
				continue
			}
			resolved(t, "two data", []api.Object{start(), obj(dat("x", bind, 1)), obj(dat("x", other, 2))})
			if bind < 4 {
				resolved(t, "a function, data", []api.Object{start(), obj(fun("x", bind, 1)), obj(dat("x", other, 2))})
				resolved(t, "data, a function", []api.Object{obj(dat("x", other, 2)), start(), obj(fun("x", bind, 1))})
			}
			if bind < 4 && other < 4 {
				resolved(t, "two functions", []api.Object{obj(fun("x", bind, 1)), obj(fun("x", other, 2)), start()})
			}
		}
	}
	near := []string{"x", "X", "xx", "x.", ".x", "_x", "x1", "1", "x0", "abcdefghijklmnopqrstuvwxyz012345", "abcdefghijklmnopqrstuvwxyz012346", "bbcdefghijklmnopqrstuvwxyz012345"}
	l, want := []api.Object{start()}, api.Prog{Funcs: []api.PFunc{pfun("main", 0)}}
	for k, name := range near {
		l = append(l, obj(calling(name, 1, name)))
		want.Funcs = append(want.Funcs, api.PFunc{Name: name, Code: []uint32{call0, ret}, Rels: []api.PRel{{Kind: 1, To: k + 1}}})
	}
	ask(t, "names that are nearly alike", l, want)
}

// P11.1: local ones of one name, functions and data, in neighbours of each kind: each object's own is met there alone.
func TestLocals(t *testing.T) {
	call, point := calling("u", 3, "x"), asking("u", 3, "x")
	fx, dx := fun("x", 3, 1), dat("x", 3, 1)
	type one struct {
		o    api.Object
		data bool
	}
	local := []one{{obj(call, fx), false}, {obj(point, dx), true}, {obj(dx, point, pointing("v", 3, "x")), true}}
	other := []one{{obj(fun("x", 3, 5)), false}, {obj(dat("x", 3, 5)), true}, {obj(fun("x", 2, 5)), false}, {obj(dat("x", 2, 5)), true}, {obj(fun("x", 1, 5)), false}, {obj(dat("x", 1, 5)), true}, {obj(common("x", 5, 4)), true}}
	for i, a := range local {
		for j, b := range other {
			for k, l := range [][]api.Object{{start(), a.o, b.o}, {start(), b.o, a.o}, {a.o, start(), b.o}, {b.o, start(), a.o}, {a.o, {}, start(), b.o}} {
				p := resolved(t, "locals", l)
				for _, f := range p.Funcs {
					if f.Name != "u" {
						continue
					}
					for _, r := range f.Rels {
						own := r.Kind == api.RelCall && len(p.Funcs[r.To].Code) == 2 || r.Kind != api.RelCall && p.Datas[r.To].Size == 1
						if !own {
							t.Errorf("%d %d %d: %v isn't its own: %s", i, j, k, r, show(p))
						}
					}
				}
			}
		}
	}
	far := []api.Object{start()}
	want := api.Prog{Funcs: []api.PFunc{pfun("main", 0)}}
	for k := 1; k < 16; k++ {
		far = append(far, obj(calling("u", 3, "x", "u"), fun("x", 3, k), pointing("d", 3, "e", "d"), dat("e", 3, k)))
		u := api.PFunc{Name: "u", Code: []uint32{call0, call0, ret}, Rels: []api.PRel{{At: 0, Kind: 1, To: 2 * k}, {At: 1, Kind: 1, To: 2*k - 1}}}
		want.Funcs = append(want.Funcs, u, pfun("x", k))
		d := api.PData{Align: 1, Size: 9, Rels: []api.PRel{{At: 0, Kind: 4, To: 2*k - 1}, {At: 4, Kind: 4, To: 2*k - 2, Add: -1}}}
		want.Datas = append(want.Datas, d, api.PData{Align: 1, Size: k})
	}
	ask(t, "locals in each", far, want)
}

// P11.1: a name that is local in its own object is another's elsewhere: that of the object is met in it alone.
func TestLocalBesideOthers(t *testing.T) {
	for bind := 1; bind <= 2; bind++ {
		l := []api.Object{
			obj(calling("main", 1, "x"), asking("ask", 1, "y")),
			obj(calling("c", 1, "x"), asking("a", 1, "y"), fun("x", 3, 1), dat("y", 3, 1)),
			obj(calling("e", 1, "x"), asking("b", 1, "y"), fun("x", bind, 2), dat("y", bind, 2)),
		}
		for _, order := range orders(3) {
			p := resolved(t, "beside others", []api.Object{l[order[0]], l[order[1]], l[order[2]]})
			for _, f := range p.Funcs {
				own := 2
				if f.Name == "c" || f.Name == "a" {
					own = 1
				}
				for _, r := range f.Rels {
					if r.Kind == 1 && len(p.Funcs[r.To].Code) != own+1 || r.Kind != 1 && p.Datas[r.To].Size != own {
						t.Errorf("of %q %v: %s", f.Name, r, show(p))
					}
				}
			}
			if len(p.Funcs) != 8 || len(p.Datas) != 2 || p.Funcs[p.Entry].Name != "main" {
				t.Errorf("beside others: %s", show(p))
			}
		}
	}
	ask(t, "a local function, data elsewhere", []api.Object{
		obj(calling("main", 1, "x"), fun("x", 3, 1)),
		obj(asking("a", 1, "x"), common("x", 9, 2)),
	}, api.Prog{
		Funcs: []api.PFunc{
			{Name: "main", Code: []uint32{call0, ret}, Rels: []api.PRel{{Kind: 1, To: 1}}}, pfun("x", 1),
			{Name: "a", Code: []uint32{high0, ori0, ret}, Rels: []api.PRel{{Kind: 2, To: 0}, {At: 1, Kind: 3, To: 0}}}},
		Datas: []api.PData{{Align: 2, Size: 9}},
	})
}

// of answers the one function or data that isn't "main" of a program: whether it is data, and its tag.
func of(p api.Prog) (bool, int) {
	if len(p.Datas) == 1 && len(p.Funcs) == 1 {
		return true, p.Datas[0].Size - 1
	}
	if len(p.Datas) == 0 && len(p.Funcs) == 2 {
		return false, len(p.Funcs[1].Code) - 1
	}
	return false, -1
}

// kind is what has a name: a function or data, and how it is bound.
type kind struct {
	data bool
	bind int
}

// choosing tells where of these, each in an object of its own, another one is chosen than the strong one, else the first weak one, else the first.
func choosing(t *testing.T, l []kind) {
	t.Helper()
	objects, strong, weak := []api.Object{start()}, []int{}, []int{}
	most := len(l) - 1
	for k, x := range l {
		if x.data {
			objects = append(objects, obj(dat("x", x.bind, k+1)))
		} else {
			objects = append(objects, obj(fun("x", x.bind, k)))
		}
		switch x.bind {
		case api.Strong:
			strong = append(strong, k)
		case api.Weak:
			weak = append(weak, k)
		}
	}
	if len(strong) > 1 {
		refuse(t, fmt.Sprint("of ", l), objects, api.ErrTwice)
		return
	}
	// Of Common ones alone the last one has the greatest Size.
	want := append(append(strong, weak...), most)[0]
	if data, tag := of(resolved(t, fmt.Sprint("of ", l), objects)); tag != want || data != l[want].data {
		t.Errorf("of %v: chosen is %d, %v; want %d", l, tag, data, want)
	}
}

// P11.1: up to four of one name, functions and data, strong, weak and Common, in all orders.
func TestWhichIsChosen(t *testing.T) {
	var try func(l []kind)
	try = func(l []kind) {
		for _, x := range []kind{{false, 1}, {true, 1}, {false, 2}, {true, 2}, {true, 4}} {
			if next := append(slices.Clip(l), x); len(next) <= 4 {
				choosing(t, next)
				try(next)
			}
		}
	}
	try(nil)
}

// P11.1: the weak one that is chosen is the first object's, whether it is a function or data; its relocations count, those of others don't.
func TestWeakAlone(t *testing.T) {
	for n := 2; n <= 15; n++ {
		for set := range 1 << min(n, 5) {
			l := []api.Object{start()}
			for k := range n {
				if set>>k&1 == 1 {
					l = append(l, obj(fun("other", 3, 9), dat("x", 2, k+1)))
				} else {
					l = append(l, obj(dat("other", 3, 9), fun("x", 2, k)))
				}
			}
			p := resolved(t, "weak ones", l)
			isData := slices.ContainsFunc(p.Datas, func(d api.PData) bool { return d.Size == 1 })
			isFunc := slices.ContainsFunc(p.Funcs, func(f api.PFunc) bool { return f.Name == "x" && len(f.Code) == 1 })
			if isData != (set&1 == 1) || isFunc == isData || len(p.Funcs)+len(p.Datas) != n+2 {
				t.Errorf("of %d weak ones, data by %b: %s", n, set, show(p))
			}
		}
	}
	bad := calling("x", 2, "nobody")
	good := calling("x", 2, "main")
	refuse(t, "the first one's relocations", []api.Object{start(), obj(bad), obj(good)}, api.ErrNone)
	resolved(t, "the second one's relocations", []api.Object{start(), obj(good), obj(bad)})
}

// P11.1: where what is chosen stands in the lists: by its own object, and its own place there.
func TestWherePartsStand(t *testing.T) {
	l := []api.Object{
		obj(fun("a", 1, 0), fun("w", 2, 1), fun("b", 3, 2), dat("p", 3, 1), common("c", 2, 1), dat("q", 2, 3)),
		obj(fun("b", 3, 3), fun("v", 2, 4), fun("main", 1, 5), fun("w", 2, 6), dat("r", 1, 4), common("c", 5, 4), common("k", 6, 1)),
		obj(fun("w", 1, 7), fun("v", 2, 8), fun("z", 1, 9), common("k", 7, 8), dat("q", 1, 8), dat("p", 3, 9)),
	}
	p := resolved(t, "parts", l)
	var funcs, datas []int
	for _, f := range p.Funcs {
		funcs = append(funcs, len(f.Code)-1)
	}
	for _, d := range p.Datas {
		datas = append(datas, d.Size)
	}
	if !slices.Equal(funcs, []int{0, 2, 3, 4, 5, 7, 9}) || !slices.Equal(datas, []int{1, 5, 4, 7, 8, 9}) || p.Entry != 4 {
		t.Errorf("parts: %s", show(p))
	}
}

// P11.1: Common ones alone get the greatest Size and the greatest Align of all of them, whichever has which, at the first one's place.
func TestCommonAlone(t *testing.T) {
	sizes, aligns := []int{1, 2, 40, 4096}, []int{1, 2, 8, 16}
	for _, o := range orders(4) {
		for _, q := range orders(4) {
			l := []api.Object{obj(dat("ahead", 1, 5)), start()}
			for k := range 4 {
				l = append(l, obj(dat("between", 3, 6), common("x", sizes[o[k]], aligns[q[k]])))
			}
			want := []api.PData{{Align: 1, Size: 5}, {Align: 1, Size: 6}, {Align: 16, Size: 4096}, {Align: 1, Size: 6}, {Align: 1, Size: 6}, {Align: 1, Size: 6}}
			ask(t, fmt.Sprint("Common ones ", o, q), l, api.Prog{Funcs: []api.PFunc{pfun("main", 0)}, Datas: want})
		}
	}
	ask(t, "one Common one", []api.Object{obj(common("x", 7, 4), fun("main", 1, 0))}, api.Prog{Funcs: []api.PFunc{pfun("main", 0)}, Datas: []api.PData{{Align: 4, Size: 7}}})
	ask(t, "Common ones of two names", []api.Object{start(), obj(common("x", 7, 4), common("y", 9, 1)), obj(common("y", 8, 2), common("x", 6, 8))},
		api.Prog{Funcs: []api.PFunc{pfun("main", 0)}, Datas: []api.PData{{Align: 8, Size: 7}, {Align: 2, Size: 9}}})
	l := []api.Object{start()}
	for k := 1; k < 16; k++ {
		l = append(l, obj(common("x", 1+k*37%15, 1<<(k*7%5))))
	}
	ask(t, "fifteen Common ones", l, api.Prog{Funcs: []api.PFunc{pfun("main", 0)}, Datas: []api.PData{{Align: 16, Size: 15}}})
}

// P11.1: beside a weak or strong one, in whichever order, Common ones count for nothing: neither their Size nor their Align.
func TestCommonBesideOthers(t *testing.T) {
	for bind := 1; bind <= 3; bind++ {
		own := api.Data{Name: "x", Bind: bind, Align: 2, Fixed: true, Size: 3, Bytes: []byte{8, 9}}
		for _, o := range orders(4) {
			l := make([]api.Object, 5)
			l[4] = start()
			l[o[0]], l[o[1]], l[o[2]], l[o[3]] = obj(own), obj(common("x", 100, 16)), obj(common("x", 200, 8)), obj(asking("a", 1, "x"))
			chosen := api.PData{Align: 2, Fixed: true, Size: 3, Bytes: []byte{8, 9}}
			want := []api.PData{chosen}
			met := 0
			if bind == 3 {
				both := api.PData{Align: 16, Size: 200}
				want = []api.PData{chosen, both}
				met = 1
				if min(o[1], o[2]) < o[0] {
					want = []api.PData{both, chosen}
					met = 0
				}
			}
			a := api.PFunc{Name: "a", Code: []uint32{high0, ori0, ret}, Rels: []api.PRel{{Kind: 2, To: met}, {At: 1, Kind: 3, To: met}}}
			ask(t, fmt.Sprint("Common ones beside Bind ", bind, o), l, api.Prog{Funcs: []api.PFunc{a, pfun("main", 0)}, Datas: want, Entry: 1})
		}
		for k, l := range [][]api.Object{{start(), obj(fun("x", bind, 1)), obj(common("x", 5, 2))}, {start(), obj(common("x", 5, 2)), obj(fun("x", bind, 1))}} {
			want := api.Prog{Funcs: []api.PFunc{pfun("main", 0), pfun("x", 1)}}
			if bind == 3 {
				want.Datas = []api.PData{{Align: 2, Size: 5}}
			}
			ask(t, fmt.Sprint("a function of Bind ", bind, " and Common data ", k), l, want)
		}
	}
}

// P11.1: no "main", a local one, and data of that name.
func TestNoEntry(t *testing.T) {
	for _, x := range []struct {
		what string
		l    []api.Object
		want api.Errno
	}{
		{"others", []api.Object{obj(fun("f", 1, 0), dat("d", 1, 1))}, api.ErrNone},
		{"nearly main", []api.Object{obj(fun("Main", 1, 0), fun("main.", 1, 0), fun("mai", 1, 0), fun("main0", 2, 0), fun("_main", 3, 0), fun("MAIN", 1, 0))}, api.ErrNone},
		{"a local one", []api.Object{obj(fun("main", 3, 0))}, api.ErrNone},
		{"local ones", []api.Object{obj(fun("main", 3, 0)), {}, obj(fun("main", 3, 0))}, api.ErrNone},
		{"local data", []api.Object{obj(dat("main", 3, 1))}, api.ErrNone},
		{"a local one, that is named", []api.Object{obj(fun("main", 3, 0), calling("f", 1, "main"))}, api.ErrNone},
		{"main that is called alone", []api.Object{obj(calling("f", 1, "main"))}, api.ErrNone},
		{"a note alone", []api.Object{obj(fun("f", 1, 0), api.Note{Name: "f", Kind: 1})}, api.ErrNone},
		{"strong data", []api.Object{obj(dat("main", 1, 1))}, api.ErrKind},
		{"weak data", []api.Object{obj(dat("main", 2, 1))}, api.ErrKind},
		{"Common data", []api.Object{obj(common("main", 1, 1)), obj(common("main", 2, 2))}, api.ErrKind},
		{"Fixed data", []api.Object{obj(api.Data{Name: "main", Bind: 1, Align: 4, Fixed: true, Size: 4})}, api.ErrKind},
		{"weak data and Common ones", []api.Object{obj(common("main", 1, 1)), obj(dat("main", 2, 1))}, api.ErrKind},
		{"strong data, a weak function", []api.Object{obj(fun("main", 2, 0)), obj(dat("main", 1, 1))}, api.ErrKind},
		{"weak data, a weak function", []api.Object{obj(dat("main", 2, 1)), obj(fun("main", 2, 0))}, api.ErrKind},
		{"strong data, a local function", []api.Object{obj(fun("main", 3, 0)), obj(dat("main", 1, 1))}, api.ErrKind},
		{"Common data, a local function", []api.Object{obj(common("main", 1, 1)), obj(fun("main", 3, 0))}, api.ErrKind},
	} {
		refuse(t, x.what, x.l, x.want)
		refuse(t, x.what+", behind an empty one", append([]api.Object{{}}, x.l...), x.want)
		worse := append(slices.Clone(x.l), obj(calling("bad", 1, "nobody", "d0"), asking("worse", 1, "bad"), dat("d0", 1, 1)))
		refuse(t, x.what+", and bad relocations", worse, x.want)
	}
}

// P11.1: "main" is weak or strong, the first function or not, beside local ones and data of that name that aren't chosen.
func TestEntry(t *testing.T) {
	for _, x := range []struct {
		what string
		l    []api.Object
		tag  int
	}{
		{"a weak one", []api.Object{obj(fun("f", 1, 9), fun("main", 2, 3))}, 3},
		{"two weak ones", []api.Object{obj(fun("f", 1, 9)), obj(fun("main", 2, 3)), obj(fun("main", 2, 4))}, 3},
		{"a weak and a strong one", []api.Object{obj(fun("main", 2, 3)), obj(fun("f", 1, 9), fun("main", 1, 4))}, 4},
		{"a strong and a weak one", []api.Object{obj(fun("f", 1, 9), fun("main", 1, 4)), obj(fun("main", 2, 3))}, 4},
		{"local ones ahead", []api.Object{obj(fun("main", 3, 1)), obj(fun("main", 3, 2)), obj(fun("main", 1, 4))}, 4},
		{"local ones behind", []api.Object{obj(fun("f", 1, 9)), obj(fun("main", 2, 4)), obj(fun("main", 3, 1)), obj(fun("main", 3, 2))}, 4},
		{"local data beside", []api.Object{obj(dat("main", 3, 4)), obj(fun("f", 1, 9), fun("main", 1, 4)), obj(dat("main", 3, 4))}, 4},
		{"Common data beside", []api.Object{obj(common("main", 4, 1)), obj(fun("f", 1, 9), fun("main", 2, 4)), obj(common("main", 3, 1))}, 4},
		{"weak data beside a strong one", []api.Object{obj(dat("main", 2, 4)), obj(fun("f", 1, 9), fun("main", 1, 4))}, 4},
		{"weak data behind a weak one", []api.Object{obj(fun("f", 1, 9), fun("main", 2, 4)), obj(dat("main", 2, 4))}, 4},
	} {
		p := resolved(t, x.what, x.l)
		if f := p.Funcs[p.Entry]; f.Name != "main" || len(f.Code) != x.tag+1 {
			t.Errorf("%s: %s", x.what, show(p))
		}
	}
}

// P11.1: notes of each Kind, of the same object and name, of another name, and of another object.
func TestNotes(t *testing.T) {
	for kind := range 256 {
		l := []api.Object{
			obj(fun("main", 1, 0), fun("f", 3, 1), fun("g", 2, 2)),
			obj(fun("h", 1, 3), fun("f", 3, 4), fun("g", 2, 5), api.Note{Name: "f", Kind: kind}, api.Note{Name: "g", Kind: kind}),
			obj(fun("f", 2, 6), fun("main", 3, 7)),
		}
		want := api.Prog{Funcs: []api.PFunc{pfun("main", 0), pfun("f", 1), pfun("g", 2), pfun("h", 3), pfun("f", 4), pfun("f", 6), pfun("main", 7)}}
		want.Funcs[4].Keep, want.Funcs[4].Leaf = kind == 1, kind == 2
		ask(t, fmt.Sprint("notes of Kind ", kind), l, want)
	}
	for set := range 1 << 6 {
		o := obj(fun("main", 1, 0), fun("f", 3, 1))
		for k, n := range []api.Note{{Name: "main", Kind: 1}, {Name: "f", Kind: 2}, {Name: "main", Kind: 3}, {Name: "f", Kind: 1}, {Name: "main", Kind: 2}, {Name: "f", Kind: 1}} {
			if set>>k&1 == 1 {
				o.Notes = append(o.Notes, n)
			}
		}
		want := api.Prog{Funcs: []api.PFunc{pfun("main", 0), pfun("f", 1)}}
		want.Funcs[0].Keep, want.Funcs[0].Leaf = set&1 > 0, set&16 > 0
		want.Funcs[1].Keep, want.Funcs[1].Leaf = set&40 > 0, set&2 > 0
		ask(t, fmt.Sprintf("notes of the set %b", set), []api.Object{o}, want)
		o.Notes = append(o.Notes, o.Notes...)
		slices.Reverse(o.Notes)
		ask(t, fmt.Sprintf("twice, turned, notes of the set %b", set), []api.Object{{}, o}, want)
	}
	keep := api.Note{Name: "g", Kind: 1}
	p := resolved(t, "a weak one's note", []api.Object{start(), obj(fun("g", 2, 1), keep), obj(fun("g", 1, 2))})
	if p.Funcs[1].Keep || p.Funcs[1].Leaf {
		t.Errorf("a note of one that isn't chosen: %s", show(p))
	}
	p = resolved(t, "a strong one's note", []api.Object{start(), obj(fun("g", 2, 1)), obj(fun("g", 1, 2), keep)})
	if !p.Funcs[1].Keep || p.Funcs[1].Leaf {
		t.Errorf("a note of the one that is chosen: %s", show(p))
	}
}

// P11.1: names that mean nothing, or the wrong thing, in relocations of each Kind.
func TestWrongNames(t *testing.T) {
	word := api.Func{Name: "low", Bind: 1, Code: []uint32{ori0, ret}, Rels: []api.Rel{{Kind: api.RelLow, Name: "x"}}}
	upper := api.Func{Name: "high", Bind: 1, Code: []uint32{high0, ret}, Rels: []api.Rel{{Kind: api.RelHigh, Name: "x"}}}
	jump := api.Func{Name: "jump", Bind: 1, Code: []uint32{jump0}, Rels: []api.Rel{{Kind: api.RelCall, Name: "x"}}}
	users := []struct {
		o     api.Object
		calls bool
	}{
		{obj(calling("c", 1, "x")), true}, {obj(jump), true}, {obj(word), false}, {obj(upper), false},
		{obj(pointing("p", 1, "x")), false}, {obj(pointing("p", 3, "x")), false}, {obj(asking("a", 2, "x")), false}, {obj(calling("c", 3, "x")), true},
	}
	holders := []struct {
		what     string
		o        api.Object
		has, fun bool
	}{
		{"nothing", api.Object{}, false, false},
		{"another's local function", obj(fun("x", 3, 0)), false, false},
		{"another's local data", obj(dat("x", 3, 1)), false, false},
		{"a strong function", obj(fun("x", 1, 0)), true, true},
		{"a weak function", obj(fun("x", 2, 0)), true, true},
		{"strong data", obj(dat("x", 1, 1)), true, false},
		{"weak data", obj(dat("x", 2, 1)), true, false},
		{"Common data", obj(common("x", 1, 1)), true, false},
		{"another name", obj(fun("X", 1, 0), dat("x.", 1, 1)), false, false},
	}
	for k, u := range users {
		for _, h := range holders {
			what := fmt.Sprint("user ", k, " and ", h.what)
			want := api.ErrKind
			if !h.has {
				want = api.ErrNone
			} else if h.fun == u.calls {
				want = api.OK
			}
			for _, l := range [][]api.Object{{start(), u.o, h.o}, {h.o, start(), u.o}, {u.o, h.o, start()}} {
				if want != api.OK {
					refuse(t, what, l, want)
				} else {
					resolved(t, what, l)
				}
			}
		}
	}
	refuse(t, "its own local data is called", []api.Object{start(), obj(calling("c", 1, "x"), dat("x", 3, 1)), obj(fun("x", 1, 0))}, api.ErrKind)
	refuse(t, "its own local function's address", []api.Object{start(), obj(asking("a", 1, "x"), fun("x", 3, 1)), obj(dat("x", 1, 1))}, api.ErrKind)
	refuse(t, "its own local function's address, in data", []api.Object{start(), obj(pointing("p", 1, "x"), fun("x", 3, 1)), obj(dat("x", 1, 1))}, api.ErrKind)
	refuse(t, "itself", []api.Object{start(), obj(asking("a", 1, "a"))}, api.ErrKind)
}

// P11.1: relocations of what isn't chosen, whatever they name.
func TestRelocationsOfOthers(t *testing.T) {
	for _, bad := range []api.Object{obj(calling("x", 2, "nobody")), obj(asking("x", 2, "main")), obj(calling("x", 2, "d")), obj(pointing("x", 2, "nobody")), obj(pointing("x", 2, "main"))} {
		for _, good := range []api.Object{obj(fun("x", 1, 0)), obj(dat("x", 1, 1)), obj(fun("x", 2, 0)), obj(pointing("x", 1, "d"))} {
			resolved(t, "others' behind", []api.Object{start(), obj(dat("d", 1, 1)), good, bad})
		}
		resolved(t, "others' ahead", []api.Object{start(), bad, obj(dat("d", 1, 1)), obj(fun("x", 1, 0))})
		for _, own := range []api.Object{obj(fun("x", 3, 0)), obj(dat("x", 3, 1)), obj(common("x", 1, 1))} {
			if _, e := Resolve([]api.Object{start(), own, bad, obj(dat("d", 1, 1))}); e == api.OK {
				t.Errorf("%+v beside %+v: OK, though it is chosen", bad, own)
			}
		}
	}
	local := obj(fun("x", 1, 0), calling("l", 3, "nobody"))
	refuse(t, "a local one that nobody calls", []api.Object{start(), local}, api.ErrNone)
}

// P11.1: of several relocations that can't be, the first one's error: functions ahead of data, objects in order, in each in order.
func TestFirstRelocation(t *testing.T) {
	const errors = 6
	names := []string{"nobody", "d", "nobody", "d", "nobody", "main"}
	wants := []api.Errno{api.ErrNone, api.ErrKind, api.ErrNone, api.ErrKind, api.ErrNone, api.ErrKind}
	for set := 1; set < 1<<errors; set++ {
		for _, turned := range []bool{false, true} {
			name := func(k int, good string) string {
				if set>>k&1 == 0 {
					return good
				}
				if turned {
					return names[k^1]
				}
				return names[k]
			}
			l := []api.Object{
				obj(fun("main", 1, 0), pointing("p", 1, "d", name(4, "d"), "p")),
				obj(dat("d", 1, 1), calling("f", 1, "main", name(0, "main"), name(1, "f")), pointing("q", 3, name(5, "d"))),
				obj(calling("g", 2, "main", "f"), calling("h", 3, name(2, "h"), name(3, "f"))),
			}
			first := 0
			for set>>first&1 == 0 {
				first++
			}
			want := wants[first]
			if turned {
				want = wants[first^1]
			}
			refuse(t, fmt.Sprintf("errors %06b turned %v", set, turned), l, want)
		}
	}
}

// faults are changes to objects that are a program, each with the error that it makes, in the chapter's order.
func faults() []struct {
	do   func(l []api.Object) []api.Object
	want api.Errno
} {
	type row = struct {
		do   func(l []api.Object) []api.Object
		want api.Errno
	}
	put := func(k int, parts ...any) func(l []api.Object) []api.Object {
		return func(l []api.Object) []api.Object {
			o := obj(parts...)
			l[k].Funcs, l[k].Datas = append(l[k].Funcs, o.Funcs...), append(l[k].Datas, o.Datas...)
			return l
		}
	}
	return []row{
		{func(l []api.Object) []api.Object { return append(l, make([]api.Object, 14)...) }, api.ErrLong},
		{put(0, api.Func{Name: "r", Bind: 1, Code: []uint32{jump0 | 9}}), api.ErrRange},
		{put(1, api.Func{Name: "c", Bind: 1, Code: []uint32{0xff000000}}), api.ErrCode},
		{func(l []api.Object) []api.Object { return put(2, dat("twice", 1, 1))(put(0, fun("twice", 1, 0))(l)) }, api.ErrTwice},
		{func(l []api.Object) []api.Object { l[1].Funcs[0].Name = "other"; return l }, api.ErrNone},
		{put(2, calling("k", 1, "d")), api.ErrKind},
		{put(0, pointing("n", 1, "nobody")), api.ErrNone},
		{put(2, pointing("o", 1, "k0")), api.ErrKind},
	}
}

// P11.1: of each set of errors the first one in the chapter's order.
func TestFirstError(t *testing.T) {
	base := func() []api.Object {
		return []api.Object{obj(dat("d", 1, 1)), obj(fun("main", 2, 0), fun("k0", 3, 1)), obj(fun("k0", 1, 2))}
	}
	resolved(t, "without errors", base())
	all := faults()
	for set := 1; set < 1<<len(all); set++ {
		l, want := base(), api.OK
		for k := range all {
			if set>>k&1 == 1 && k > 0 {
				l = all[k].do(l)
			}
			if set>>k&1 == 1 && want == api.OK {
				want = all[k].want
			}
		}
		if set&1 == 1 {
			l = all[0].do(l)
		}
		refuse(t, fmt.Sprintf("errors %b", set), l, want)
	}
}

// some is a program with something in each part.
func some() api.Prog {
	return api.Prog{
		Funcs: []api.PFunc{
			{Name: "main", Keep: true, Code: []uint32{call0, call0, ret}, Rels: []api.PRel{{At: 0, Kind: 1, To: 1}, {At: 1, Kind: 1, To: 0}}},
			{Name: "f", Leaf: true, Code: []uint32{high0, halt}, Rels: []api.PRel{{At: 0, Kind: 2, To: 1, Add: 4}}},
			{Name: "g", Code: []uint32{ret}},
		},
		Datas: []api.PData{
			{Align: 4, Fixed: true, Size: 8, Bytes: []byte{1, 2}, Rels: []api.PRel{{At: 4, Kind: 4, To: 1, Add: -1}, {At: 8, Kind: 4, To: 0}}},
			{Align: 1, Size: 3, Bytes: []byte{0}},
		},
		Entry: 1,
	}
}

// changes are changes of a program, each of one part alone.
func changes() []func(p *api.Prog) {
	l := []func(p *api.Prog){
		func(p *api.Prog) { p.Entry = 0 }, func(p *api.Prog) { p.Entry = 2 }, func(p *api.Prog) { p.Entry = -1 },
		func(p *api.Prog) { p.Funcs = nil }, func(p *api.Prog) { p.Funcs = p.Funcs[:2] }, func(p *api.Prog) { p.Funcs = append(p.Funcs, api.PFunc{}) },
		func(p *api.Prog) { p.Datas = nil }, func(p *api.Prog) { p.Datas = p.Datas[:1] }, func(p *api.Prog) { p.Datas = append(p.Datas, api.PData{}) },
		func(p *api.Prog) { p.Funcs[1], p.Funcs[2] = p.Funcs[2], p.Funcs[1] }, func(p *api.Prog) { slices.Reverse(p.Datas) },
	}
	for k := range some().Funcs {
		f := func(do func(f *api.PFunc)) { l = append(l, func(p *api.Prog) { do(&p.Funcs[k]) }) }
		f(func(f *api.PFunc) { f.Name += "x" })
		f(func(f *api.PFunc) { f.Name = "" })
		f(func(f *api.PFunc) { f.Keep = !f.Keep })
		f(func(f *api.PFunc) { f.Leaf = !f.Leaf })
		f(func(f *api.PFunc) { f.Code = append(f.Code, none) })
		f(func(f *api.PFunc) { f.Code = f.Code[:len(f.Code)-1] })
		f(func(f *api.PFunc) { f.Rels = append(f.Rels, api.PRel{}) })
		for j := range some().Funcs[k].Code {
			f(func(f *api.PFunc) { f.Code[j] ^= 1 })
			f(func(f *api.PFunc) { f.Code[j] ^= 1 << 31 })
		}
		for j := range some().Funcs[k].Rels {
			f(func(f *api.PFunc) { f.Rels[j].At++ })
			f(func(f *api.PFunc) { f.Rels[j].Kind++ })
			f(func(f *api.PFunc) { f.Rels[j].To-- })
			f(func(f *api.PFunc) { f.Rels[j].Add-- })
			f(func(f *api.PFunc) { f.Rels = f.Rels[:j] })
		}
	}
	for k := range some().Datas {
		d := func(do func(d *api.PData)) { l = append(l, func(p *api.Prog) { do(&p.Datas[k]) }) }
		d(func(d *api.PData) { d.Align *= 2 })
		d(func(d *api.PData) { d.Fixed = !d.Fixed })
		d(func(d *api.PData) { d.Size++ })
		d(func(d *api.PData) { d.Bytes = append(d.Bytes, 0) })
		d(func(d *api.PData) { d.Bytes = d.Bytes[1:] })
		d(func(d *api.PData) { d.Bytes[len(d.Bytes)-1]++ })
		d(func(d *api.PData) { d.Bytes[0] ^= 0x80 })
		d(func(d *api.PData) { d.Rels = append(d.Rels, api.PRel{}) })
		for j := range some().Datas[k].Rels {
			d(func(d *api.PData) { d.Rels[j].At++ })
			d(func(d *api.PData) { d.Rels[j].Kind++ })
			d(func(d *api.PData) { d.Rels[j].To++ })
			d(func(d *api.PData) { d.Rels[j].Add++ })
			d(func(d *api.PData) { d.Rels = d.Rels[:j] })
		}
	}
	return l
}

// P11.2: programs are alike, or differ in one part alone.
func TestSame(t *testing.T) {
	if !Same(some(), some()) || !Same(api.Prog{}, api.Prog{}) || Same(some(), api.Prog{}) || Same(api.Prog{}, some()) {
		t.Error("what is alike isn't, or the other way round")
	}
	one := some()
	if !Same(one, one) {
		t.Error("a program isn't like itself")
	}
	all := changes()
	for k, change := range all {
		p := some()
		change(&p)
		if Same(p, some()) || Same(some(), p) {
			t.Errorf("change %d: alike: %s", k, show(p))
		}
		q := some()
		change(&q)
		if !Same(p, q) || !Same(p, p) {
			t.Errorf("change %d, twice: not alike: %s", k, show(p))
		}
		for j, other := range all[k+1:] {
			q := some()
			other(&q)
			if got, want := Same(p, q), fmt.Sprintf("%+v", p) == fmt.Sprintf("%+v", q); got != want {
				t.Errorf("changes %d and %d: %v", k, k+1+j, got)
			}
		}
	}
}

// P11.2: nil and empty lists are one, and the room behind a length is nothing.
func TestSameOfEmpty(t *testing.T) {
	a := api.Prog{Funcs: []api.PFunc{{Name: "f"}}, Datas: []api.PData{{Size: 1}}}
	b := api.Prog{Funcs: []api.PFunc{{Name: "f", Code: []uint32{}, Rels: []api.PRel{}}}, Datas: []api.PData{{Size: 1, Bytes: []byte{}, Rels: []api.PRel{}}}}
	if !Same(a, b) || !Same(b, a) {
		t.Error("nil and empty lists of parts")
	}
	c := api.Prog{Funcs: []api.PFunc{}, Datas: []api.PData{}}
	if !Same(c, api.Prog{}) || !Same(api.Prog{}, c) {
		t.Error("nil and empty lists of a program")
	}
	if !Same(roomyProg(some()), some()) || !Same(some(), roomyProg(some())) {
		t.Error("the room behind lengths is asked for")
	}
}

// roomyList answers the list with others in the room behind its length.
func roomyList[T any](l []T, other T) []T {
	return append(slices.Clone(l), other, other, other)[:len(l)]
}

// roomyProg answers the program with something in the room behind each list's length.
func roomyProg(p api.Prog) api.Prog {
	rel := api.PRel{At: 77, Kind: 7, To: 777, Add: 7777}
	p.Funcs, p.Datas = roomyList(p.Funcs, api.PFunc{Name: "room"}), roomyList(p.Datas, api.PData{Size: 77})
	for k, f := range p.Funcs {
		p.Funcs[k].Code, p.Funcs[k].Rels = roomyList(f.Code, 0xeeeeeeee), roomyList(f.Rels, rel)
	}
	for k, d := range p.Datas {
		p.Datas[k].Bytes, p.Datas[k].Rels = roomyList(d.Bytes, 0xee), roomyList(d.Rels, rel)
	}
	return p
}

// roomy answers the objects with something in the room behind each list's length.
func roomy(l []api.Object) []api.Object {
	rel := api.Rel{At: 77, Kind: 7, Name: "room", Add: 777}
	l = roomyList(l, obj(fun("room", 1, 0)))
	for i, o := range l {
		o.Funcs, o.Datas, o.Notes = roomyList(o.Funcs, api.Func{Name: "room"}), roomyList(o.Datas, api.Data{Name: "room"}), roomyList(o.Notes, api.Note{Name: "main", Kind: 1})
		for k, f := range o.Funcs {
			o.Funcs[k].Code, o.Funcs[k].Rels = roomyList(f.Code, 0xeeeeeeee), roomyList(f.Rels, rel)
		}
		for k, d := range o.Datas {
			o.Datas[k].Bytes, o.Datas[k].Rels = roomyList(d.Bytes, 0xee), roomyList(d.Rels, rel)
		}
		l[i] = o
	}
	return l
}

// room answers the list with the room behind its length.
func room[T any](l []T) []T { return l[:cap(l)] }

// showObjects tells all of the objects, and what stands in the room behind each list's length.
func showObjects(l []api.Object) string {
	var text strings.Builder
	fmt.Fprintf(&text, "%+v", room(l))
	for _, o := range l {
		fmt.Fprintf(&text, " %+v %+v %+v", room(o.Funcs), room(o.Datas), room(o.Notes))
		for _, f := range o.Funcs {
			fmt.Fprintf(&text, " %x %+v", room(f.Code), room(f.Rels))
		}
		for _, d := range o.Datas {
			fmt.Fprintf(&text, " %x %+v", room(d.Bytes), room(d.Rels))
		}
	}
	return text.String()
}

// showProg tells all of the program, and what stands in the room behind each list's length.
func showProg(p api.Prog) string {
	var text strings.Builder
	fmt.Fprintf(&text, "%+v %+v %d", room(p.Funcs), room(p.Datas), p.Entry)
	for _, f := range p.Funcs {
		fmt.Fprintf(&text, " %x %+v", room(f.Code), room(f.Rels))
	}
	for _, d := range p.Datas {
		fmt.Fprintf(&text, " %x %+v", room(d.Bytes), room(d.Rels))
	}
	return text.String()
}

// spoilObjects writes over all of the objects, and over the room behind each list's length.
func spoilObjects(l []api.Object) {
	for _, o := range l {
		for _, f := range o.Funcs {
			fill(f.Code, 0x77777777)
			fill(f.Rels, api.Rel{At: 7, Kind: 7, Name: "spoilt", Add: 7})
		}
		for _, d := range o.Datas {
			fill(d.Bytes, 0x77)
			fill(d.Rels, api.Rel{At: 7, Kind: 7, Name: "spoilt", Add: 7})
		}
		fill(o.Funcs, fun("spoilt", 7, 7))
		fill(o.Datas, dat("spoilt", 7, 7))
		fill(o.Notes, api.Note{Name: "spoilt", Kind: 7})
	}
	fill(l, api.Object{})
}

// spoilProg writes over all of the program, and over the room behind each list's length.
func spoilProg(p api.Prog) {
	for _, f := range p.Funcs {
		fill(f.Code, 0x77777777)
		fill(f.Rels, api.PRel{At: 7, Kind: 7, To: 7, Add: 7})
	}
	for _, d := range p.Datas {
		fill(d.Bytes, 0x77)
		fill(d.Rels, api.PRel{At: 7, Kind: 7, To: 7, Add: 7})
	}
	fill(p.Funcs, api.PFunc{Name: "spoilt"})
	fill(p.Datas, api.PData{Size: 7})
}

// fill writes x over the list, and over the room behind its length.
func fill[T any](l []T, x T) {
	for k := range room(l) {
		room(l)[k] = x
	}
}

// wholes are lists of objects, some of them no program.
func wholes() [][]api.Object {
	c := chance(7)
	l := [][]api.Object{nil, {}, {start()}, {start(), obj(dat("d", 1, 1), common("x", 2, 2))}, make([]api.Object, 17), {obj(dat("main", 1, 1))}, {start(), start()}}
	for _, w := range wrongs() {
		l = append(l, []api.Object{start(), w.o})
	}
	for range 300 {
		l = append(l, c.objects())
	}
	return l
}

// P11.3: what is handed in stays, and so does the room behind each length, whether it is a program or not; asked again, the answer is the same.
func TestHandedInStays(t *testing.T) {
	for k, plain := range wholes() {
		l := roomy(plain)
		own := showObjects(l)
		p, e := Resolve(plain)
		q, d := Resolve(l)
		if all(p) != all(q) || e != d {
			t.Errorf("%d: with room: error %d, %s; want %d, %s", k, d, show(q), e, show(p))
		}
		if got := showObjects(l); got != own {
			t.Errorf("%d: became %.500s, want %.500s", k, got, own)
		}
		r, f := Resolve(l)
		if all(p) != all(r) || e != f {
			t.Errorf("%d: again: error %d, %s; want %d, %s", k, f, show(r), e, show(p))
		}
	}
	p, q := roomyProg(some()), roomyProg(some())
	own := showProg(p)
	Same(p, q)
	Same(p, api.Prog{})
	if showProg(p) != own || showProg(q) != own {
		t.Errorf("became %.500s, want %.500s", showProg(p), own)
	}
}

// P11.3: what is answered is new memory: neither what is handed in nor another answer changes it, and it changes neither of them.
func TestNewMemory(t *testing.T) {
	for k, plain := range wholes() {
		l := roomy(plain)
		p, e := Resolve(l)
		q, _ := Resolve(l)
		text := showProg(p)
		spoilObjects(l)
		if showProg(p) != text {
			t.Errorf("%d: what is handed in changes the answer: %.300s, want %.300s", k, showProg(p), text)
		}
		spoilProg(q)
		if showProg(p) != text {
			t.Errorf("%d: an answer changes another: %.300s, want %.300s", k, showProg(p), text)
		}
		l = roomy(plain)
		own := showObjects(l)
		r, d := Resolve(l)
		spoilProg(r)
		if showObjects(l) != own {
			t.Errorf("%d: the answer changes what is handed in: %.300s, want %.300s", k, showObjects(l), own)
		}
		if again, a := Resolve(l); all(again) != all(p) || a != e || d != e {
			t.Errorf("%d: after all: error %d, %s; want %d, %s", k, a, show(again), e, show(p))
		}
	}
}

// P11.3: no two lists of an answer share memory, even where the lists handed in do.
func TestListsApart(t *testing.T) {
	words, bytes := []uint32{call0, call0, halt, none}, []byte{1, 2, 3, 4, 5, 6, 7, 8}
	rels := []api.Rel{{At: 0, Kind: 1, Name: "main"}, {At: 1, Kind: 1, Name: "main"}, {At: 2, Kind: 1, Name: "main"}}
	points := []api.Rel{{At: 0, Kind: 4, Name: "d"}, {At: 4, Kind: 4, Name: "d"}}
	o := api.Object{
		Funcs: []api.Func{{Name: "main", Bind: 1, Code: words[:3], Rels: rels[:2]}, {Name: "f", Bind: 3, Code: words[:3], Rels: rels[:2]}},
		Datas: []api.Data{{Name: "d", Bind: 1, Align: 1, Size: 9, Bytes: bytes[:4], Rels: points[:1]}, {Name: "e", Bind: 1, Align: 1, Size: 9, Bytes: bytes[:6], Rels: points}, {Name: "z", Bind: 1, Align: 1, Size: 9, Bytes: bytes[6:], Rels: points[:1]}},
	}
	l := []api.Object{o, {Funcs: []api.Func{{Name: "g", Bind: 2, Code: words[:3], Rels: rels[:2]}}}}
	want := resolved(t, "shared", l)
	text := all(want)
	for k := range want.Funcs {
		p := resolved(t, "shared", l)
		fill(p.Funcs[k].Code, 9)
		fill(p.Funcs[k].Rels, api.PRel{At: 9})
		p.Funcs[k] = want.Funcs[k]
		if all(p) != text {
			t.Errorf("the lists of the function %d are others', too: %s", k, show(p))
		}
	}
	for k := range want.Datas {
		p := resolved(t, "shared", l)
		fill(p.Datas[k].Bytes, 9)
		fill(p.Datas[k].Rels, api.PRel{At: 9})
		p.Datas[k] = want.Datas[k]
		if all(p) != text {
			t.Errorf("the lists of the data %d are others', too: %s", k, show(p))
		}
	}
}

// chance answers numbers that look like chance, always the same ones.
type chance uint64

// below answers a number from 0 to n-1.
func (c *chance) below(n int) int {
	*c = *c*6364136223846793005 + 1442695040888963407
	return int(uint64(*c) >> 33 % uint64(n))
}

// name answers one of a few names of functions, or, of data, mostly others.
func (c *chance) name(data bool) string {
	if data == (c.below(40) > 0) {
		return []string{"p", "q", "r", "s", "t"}[c.below(5)]
	}
	return []string{"main", "f", "g", "h", "k"}[c.below(5)]
}

// function answers a function with calls and addresses.
func (c *chance) function(name string, bind int) api.Func {
	f := fun(name, bind, c.below(4))
	for range c.below(3) {
		kind := 1 + c.below(3)
		f.Rels = append(f.Rels, api.Rel{At: len(f.Rels), Kind: kind, Name: c.name(kind != 1)})
		if kind != 1 {
			f.Rels[len(f.Rels)-1].Add = c.below(9) - 4
		}
		f.Code = slices.Insert(f.Code, len(f.Rels)-1, []uint32{0, call0, high0, ori0}[kind])
	}
	return f
}

// data answers data with addresses, or Common ones.
func (c *chance) data(name string, bind int) api.Data {
	d := api.Data{Name: name, Bind: bind, Align: 1 << c.below(5), Size: 8 + c.below(20)}
	if bind == api.Common {
		return d
	}
	d.Fixed = c.below(2) == 0
	for range c.below(4) {
		d.Bytes = append(d.Bytes, byte(c.below(256)))
	}
	for range c.below(3) {
		d.Rels = append(d.Rels, api.Rel{At: 4 * len(d.Rels), Kind: 4, Name: c.name(true), Add: c.below(9) - 4})
	}
	return d
}

// objects answers a few right objects, whose names are few: often a program, and often not.
func (c *chance) objects() []api.Object {
	l := make([]api.Object, 1+c.below(5))
	for k := range l {
		var met []string
		var o api.Object
		for range c.below(8) {
			data := c.below(2) == 0
			name := c.name(data)
			if slices.Contains(met, name) {
				continue
			}
			met = append(met, name)
			bind := 1 + c.below(4)
			if bind == 1 && c.below(4) == 0 {
				bind = 2
			}
			if data {
				o.Datas = append(o.Datas, c.data(name, bind))
				continue
			}
			o.Funcs = append(o.Funcs, c.function(name, min(bind, 3)))
			if c.below(3) == 0 {
				o.Notes = append(o.Notes, api.Note{Name: name, Kind: c.below(4)})
			}
		}
		l[k] = o
	}
	if c.below(3) > 0 {
		last := &l[len(l)-1]
		last.Notes = nil
		for _, n := range []string{"main", "f", "g", "h", "k"} {
			drop(last, n)
			last.Funcs = append(last.Funcs, c.function(n, 2))
		}
		for _, n := range []string{"p", "q", "r", "s", "t"} {
			drop(last, n)
			last.Datas = append(last.Datas, c.data(n, 2+c.below(2)*2))
		}
	}
	return l
}

// drop leaves out what has the name in the object.
func drop(o *api.Object, name string) {
	o.Funcs = slices.DeleteFunc(o.Funcs, func(f api.Func) bool { return f.Name == name })
	o.Datas = slices.DeleteFunc(o.Datas, func(d api.Data) bool { return d.Name == name })
}

// one is one thing that has a name: its object, its place there (functions, then data), and what it is.
type one struct {
	object, place int
	data          bool
	name          string
	bind          int
}

// things answers all that has a name, in order.
func things(l []api.Object) []one {
	var all []one
	for k, o := range l {
		for j, f := range o.Funcs {
			all = append(all, one{k, j, false, f.Name, f.Bind})
		}
		for j, d := range o.Datas {
			all = append(all, one{k, len(o.Funcs) + j, true, d.Name, d.Bind})
		}
	}
	return all
}

// winner answers which of all, by its number, the name means in the object; -1: none. Asked of each name anew, by going through all.
func winner(all []one, object int, name string) int {
	at := func(bind int) int {
		return slices.IndexFunc(all, func(x one) bool {
			return x.name == name && x.bind == bind && (bind != api.Local || x.object == object)
		})
	}
	for _, bind := range []int{api.Local, api.Strong, api.Weak, api.Common} {
		if k := at(bind); k >= 0 {
			return k
		}
	}
	return -1
}

// maker makes a program of right objects as the chapter says, each thing looked for anew.
type maker struct {
	l   []api.Object
	all []one
	bad []api.Errno
}

// chosen tells whether the k-th of all is chosen.
func (m *maker) chosen(k int) bool {
	return m.all[k].bind == api.Local || winner(m.all, -1, m.all[k].name) == k
}

// place answers the place of the k-th of all in its list.
func (m *maker) place(k int) int {
	n := 0
	for j := range k {
		if m.all[j].data == m.all[k].data && m.chosen(j) {
			n++
		}
	}
	return n
}

// rels answers relocations of the object; what can't be is put down.
func (m *maker) rels(object int, rels []api.Rel) []api.PRel {
	var out []api.PRel
	for _, r := range rels {
		w := winner(m.all, object, r.Name)
		if w < 0 {
			m.bad = append(m.bad, api.ErrNone)
		} else if m.all[w].data != (r.Kind != 1) {
			m.bad = append(m.bad, api.ErrKind)
		} else {
			out = append(out, api.PRel{At: r.At, Kind: r.Kind, To: m.place(w), Add: r.Add})
		}
	}
	return out
}

// function answers the function that is x.
func (m *maker) function(x one) api.PFunc {
	f := m.l[x.object].Funcs[x.place]
	p := api.PFunc{Name: f.Name, Code: f.Code, Rels: m.rels(x.object, f.Rels)}
	for _, n := range m.l[x.object].Notes {
		p.Keep = p.Keep || n.Name == f.Name && n.Kind == 1
		p.Leaf = p.Leaf || n.Name == f.Name && n.Kind == 2
	}
	return p
}

// data answers the data that are x.
func (m *maker) data(x one) api.PData {
	d := m.l[x.object].Datas[x.place-len(m.l[x.object].Funcs)]
	p := api.PData{Align: d.Align, Fixed: d.Fixed, Size: d.Size, Bytes: d.Bytes, Rels: m.rels(x.object, d.Rels)}
	for _, o := range m.l {
		for _, e := range o.Datas {
			if d.Bind == 4 && e.Bind == 4 && e.Name == d.Name {
				p.Size, p.Align = max(p.Size, e.Size), max(p.Align, e.Align)
			}
		}
	}
	return p
}

// model answers what the chapter says of right objects.
func model(l []api.Object) (api.Prog, api.Errno) {
	m := maker{l: l, all: things(l)}
	for i, x := range m.all {
		for _, y := range m.all[:i] {
			if x.name == y.name && x.bind == 1 && y.bind == 1 {
				return api.Prog{}, api.ErrTwice
			}
		}
	}
	entry := winner(m.all, -1, "main")
	if entry < 0 {
		return api.Prog{}, api.ErrNone
	}
	if m.all[entry].data {
		return api.Prog{}, api.ErrKind
	}
	p := api.Prog{Entry: m.place(entry)}
	for k, x := range m.all {
		if !x.data && m.chosen(k) {
			p.Funcs = append(p.Funcs, m.function(x))
		}
	}
	for k, x := range m.all {
		if x.data && m.chosen(k) {
			p.Datas = append(p.Datas, m.data(x))
		}
	}
	if len(m.bad) > 0 {
		return api.Prog{}, m.bad[0]
	}
	return p, api.OK
}

// P11.1: objects by chance, against all that the chapter says.
func TestByChance(t *testing.T) {
	count := map[api.Errno]int{}
	c := chance(11)
	for range 30000 {
		l := c.objects()
		want, e := model(l)
		p, d := Resolve(l)
		count[e]++
		if d != e || all(p) != all(want) {
			t.Fatalf("%+v: error %d, %s\nwant %d, %s", l, d, show(p), e, show(want))
		}
	}
	for _, e := range []api.Errno{api.OK, api.ErrTwice, api.ErrNone, api.ErrKind} {
		if count[e] < 1000 {
			t.Errorf("by chance came %v", count)
		}
	}
}

// P11.2: all places of relocations, and the entry, are places of the lists.
func TestPlacesOfLists(t *testing.T) {
	c := chance(2)
	programs := 0
	for range 20000 {
		p, e := Resolve(c.objects())
		if e != api.OK {
			continue
		}
		programs++
		if p.Entry < 0 || p.Entry >= len(p.Funcs) || p.Funcs[p.Entry].Name != "main" {
			t.Fatalf("the entry is no place: %s", show(p))
		}
		for _, f := range p.Funcs {
			for _, r := range f.Rels {
				if r.To < 0 || r.Kind == 1 && r.To >= len(p.Funcs) || r.Kind != 1 && r.To >= len(p.Datas) || r.At < 0 || r.At >= len(f.Code) {
					t.Fatalf("%v is no place: %s", r, show(p))
				}
			}
		}
		for _, d := range p.Datas {
			for _, r := range d.Rels {
				if r.To < 0 || r.To >= len(p.Datas) || r.Kind != 4 || r.At < 0 || r.At+4 > d.Size {
					t.Fatalf("%v is no place: %s", r, show(p))
				}
			}
		}
	}
	if programs < 3000 {
		t.Errorf("by chance came %d programs", programs)
	}
}

// P11.2: an object behind all others, whose names are its own alone, changes nothing of what the others mean; its parts stand behind theirs.
func TestOneMoreObject(t *testing.T) {
	more := obj(calling("z1", 1, "z2", "main", "z1"), fun("z2", 3, 1), fun("z3", 2, 2), asking("z4", 1, "z5", "z6"),
		pointing("z5", 1, "z6", "z7"), common("z6", 4, 4), dat("z7", 3, 8), api.Note{Name: "z2", Kind: 2}, api.Note{Name: "z1", Kind: 1})
	c := chance(3)
	programs := 0
	for range 20000 {
		l := c.objects()
		p, e := Resolve(l)
		q, d := Resolve(append(slices.Clone(l), more))
		if d != e {
			t.Fatalf("%+v: with one more object: error %d, want %d", l, d, e)
		}
		if e != api.OK {
			continue
		}
		programs++
		n, m := len(p.Funcs), len(p.Datas)
		z := q
		q.Funcs, q.Datas = q.Funcs[:n], q.Datas[:m]
		if all(p) != all(q) {
			t.Fatalf("%+v: with one more object: %s\nwant %s", l, show(q), show(p))
		}
		z.Funcs, z.Datas = z.Funcs[n:], z.Datas[m:]
		want := api.Prog{
			Funcs: []api.PFunc{
				{Name: "z1", Keep: true, Code: []uint32{call0, call0, call0, ret}, Rels: []api.PRel{{Kind: 1, To: n + 1}, {At: 1, Kind: 1, To: p.Entry}, {At: 2, Kind: 1, To: n}}},
				pfun("z2", 1), pfun("z3", 2),
				{Name: "z4", Code: []uint32{high0, ori0, high0, ori0, ret}, Rels: []api.PRel{{Kind: 2, To: m}, {At: 1, Kind: 3, To: m}, {At: 2, Kind: 2, To: m + 1, Add: 1}, {At: 3, Kind: 3, To: m + 1, Add: 1}}},
			},
			Datas: []api.PData{{Align: 1, Size: 9, Rels: []api.PRel{{Kind: 4, To: m + 1}, {At: 4, Kind: 4, To: m + 2, Add: -1}}}, {Align: 4, Size: 4}, {Align: 1, Size: 8}},
			Entry: p.Entry,
		}
		want.Funcs[1].Leaf = true
		if all(z) != all(want) {
			t.Fatalf("%+v: of one more object: %s\nwant %s", l, show(z), show(want))
		}
	}
	if programs < 3000 {
		t.Errorf("by chance came %d programs", programs)
	}
}

// P11.1: as many objects and parts as may be, each named by all.
func TestMost(t *testing.T) {
	l := make([]api.Object, api.MaxObjects)
	name := func(k, j int) string { return fmt.Sprint("n", k, ".", j) }
	for k := range l {
		for j := range api.MaxItems {
			f := fun(name(k, j), 1, 0)
			if j%2 == 1 {
				f.Bind = api.Weak
			}
			for r := range api.MaxItems {
				f.Code = slices.Insert(f.Code, 0, uint32(call0))
				f.Rels = append(f.Rels, api.Rel{At: r, Kind: 1, Name: name((k+j+r)%16, (j*r+k)%64)})
			}
			d := common(name(k, j)+"d", 1+j, 1)
			if j == 5 {
				d = pointing(name(k, j)+"d", 1, name(15-k, 63)+"d", name(0, 0)+"d")
			}
			l[k].Funcs, l[k].Datas = append(l[k].Funcs, f), append(l[k].Datas, d)
		}
		l[k].Notes = slices.Repeat([]api.Note{{Name: name(k, 63), Kind: 2}}, api.MaxItems)
	}
	l[15].Funcs[63].Name, l[15].Notes = "main", nil
	for k := range l {
		for _, f := range l[k].Funcs {
			for r := range f.Rels {
				if f.Rels[r].Name == name(15, 63) {
					f.Rels[r].Name = "main"
				}
			}
		}
	}
	p := resolved(t, "most", l)
	if len(p.Funcs) != 1024 || len(p.Datas) != 1024 || p.Entry != 1023 {
		t.Fatalf("most: %d functions, %d data, Entry %d", len(p.Funcs), len(p.Datas), p.Entry)
	}
	for at, f := range p.Funcs {
		k, j := at/64, at%64
		if f.Leaf != (j == 63 && k < 15) || f.Keep || f.Name != l[k].Funcs[j].Name || len(f.Rels) != 64 {
			t.Errorf("most: the function %d is %q", at, f.Name)
		}
		for r, x := range f.Rels {
			if want := (api.PRel{At: r, Kind: 1, To: (k+j+r)%16*64 + (j*r+k)%64}); x != want {
				t.Errorf("most: of the function %d %v, want %v", at, x, want)
			}
		}
	}
	for k := range 16 {
		if got, want := p.Datas[k*64+5].Rels, []api.PRel{{Kind: 4, To: (15-k)*64 + 63}, {At: 4, Kind: 4, To: 0, Add: -1}}; !slices.Equal(got, want) {
			t.Errorf("most: of the data %d %v, want %v", k*64+5, got, want)
		}
	}
}

// P1: no call panics, whatever objects and programs it is given.
func TestWhatever(t *testing.T) {
	huge := []int{math.MinInt, math.MinInt32, -1, 0, 1, 2, 3, 4, 5, 16, 4096, 65536, math.MaxInt32, math.MaxInt}
	for _, x := range huge {
		for _, y := range huge {
			rels := []api.Rel{{At: x, Kind: y, Name: "main", Add: x}, {At: y, Kind: x, Add: y}}
			o := api.Object{
				Funcs: []api.Func{{Name: "main", Bind: x, Code: []uint32{uint32(y), call0, ret}, Rels: rels}},
				Datas: []api.Data{{Name: "main", Bind: y, Align: x, Size: y, Bytes: make([]byte, 3), Rels: rels}},
				Notes: []api.Note{{Name: "main", Kind: y}, {Kind: x}},
			}
			for _, l := range [][]api.Object{{o}, {start(), o}, {{Funcs: o.Funcs}}, {start(), {Datas: o.Datas}}, {{Notes: o.Notes}}, {o, o, o}} {
				if p, e := Resolve(l); e != api.OK && (p.Funcs != nil || p.Datas != nil || p.Entry != 0) {
					t.Errorf("%+v: error %d, %s", l, e, show(p))
				}
			}
			p := api.Prog{Entry: x, Funcs: []api.PFunc{{Rels: []api.PRel{{At: x, To: y}}}}, Datas: []api.PData{{Align: x, Size: y}, {Align: y}}}
			q := api.Prog{Entry: y, Funcs: []api.PFunc{{Rels: []api.PRel{{At: y, To: x}}}}, Datas: []api.PData{{Align: y, Size: x}, {Align: x}}}
			if Same(p, q) != (x == y) || !Same(p, p) {
				t.Errorf("%d, %d: alike %v", x, y, Same(p, q))
			}
		}
	}
}
