package object

import (
	"bytes"
	"fmt"
	"math"
	"slices"
	"strings"
	"testing"

	"splice/api"
)

// letters are all the bytes that a name may have.
const letters = "abcdefghijklmnopqrstuvwxyzABCDEFGHIJKLMNOPQRSTUVWXYZ0123456789_."

// longest is a name of 32 bytes.
const longest = "abcdefghijklmnopqrstuvwxyz_12345"

// written is an object, and its bytes.
type written struct {
	o api.Object
	b string
}

// sample is an object with something in each of its parts, and its bytes.
func sample() written {
	return written{
		api.Object{
			Funcs: []api.Func{
				{Name: "main", Bind: 1, Code: []uint32{0x14000000, 0xfedcba98, 0}, Rels: []api.Rel{{At: 0, Kind: 1, Name: "f", Add: 0}, {At: 258, Kind: 2, Name: "x.1", Add: 0x12345}}},
				{Name: "f", Bind: 255},
			},
			Datas: []api.Data{
				{Name: "x.1", Bind: 3, Align: 16, Fixed: true, Size: 772, Bytes: []byte{9, 0, 255}, Rels: []api.Rel{{At: 65535, Kind: 255, Name: "_Z9", Add: -1}}},
				{Name: "y", Bind: 4, Align: 255, Size: 65535},
			},
			Notes: []api.Note{{Name: "f", Kind: 3}, {Name: "main", Kind: 0}},
		},
		"SPL1" +
			"\x02\x00" +
			"\x04main\x01" + "\x03\x00" + "\x00\x00\x00\x14" + "\x98\xba\xdc\xfe" + "\x00\x00\x00\x00" +
			"\x02\x00" + "\x00\x00\x01\x01f\x00\x00\x00\x80" + "\x02\x01\x02\x03x.1\x45\x23\x01\x80" +
			"\x01f\xff" + "\x00\x00" + "\x00\x00" +
			"\x02\x00" +
			"\x03x.1\x03\x10\x01\x04\x03" + "\x03\x00" + "\x09\x00\xff" +
			"\x01\x00" + "\xff\xff\xff\x03_Z9\xff\xff\xff\x7f" +
			"\x01y\x04\xff\x00\xff\xff" + "\x00\x00" + "\x00\x00" +
			"\x02\x00" + "\x01f\x03" + "\x04main\x00",
	}
}

// examples are objects whose bytes are written out.
func examples() []written {
	return []written{
		{api.Object{}, "SPL1\x00\x00\x00\x00\x00\x00"},
		{api.Object{Funcs: []api.Func{{Name: "a", Bind: 2}}}, "SPL1\x01\x00" + "\x01a\x02\x00\x00\x00\x00" + "\x00\x00\x00\x00"},
		{api.Object{Funcs: []api.Func{{Name: "a", Bind: 1, Code: []uint32{math.MaxUint32}}}}, "SPL1\x01\x00" + "\x01a\x01\x01\x00\xff\xff\xff\xff\x00\x00" + "\x00\x00\x00\x00"},
		{api.Object{Datas: []api.Data{{Name: "d", Bind: 1}}}, "SPL1\x00\x00\x01\x00" + "\x01d\x01\x00\x00\x00\x00\x00\x00\x00\x00" + "\x00\x00"},
		{api.Object{Datas: []api.Data{{Name: "d", Bind: 255, Align: 1, Fixed: true, Size: 256, Bytes: []byte{1, 2}}}}, "SPL1\x00\x00\x01\x00" + "\x01d\xff\x01\x01\x00\x01\x02\x00\x01\x02\x00\x00" + "\x00\x00"},
		{api.Object{Notes: []api.Note{{Name: "n", Kind: 255}}}, "SPL1\x00\x00\x00\x00\x01\x00" + "\x01n\xff"},
		{api.Object{Notes: []api.Note{{Name: longest, Kind: 1}}}, "SPL1\x00\x00\x00\x00\x01\x00" + "\x20" + longest + "\x01"},
		{
			api.Object{Funcs: []api.Func{{Name: "f", Bind: 1, Rels: []api.Rel{{At: 0x0102, Kind: 3, Name: "g", Add: 1 << 20}, {At: 0, Kind: 0, Name: "h", Add: -1 << 20}}}}},
			"SPL1\x01\x00" + "\x01f\x01\x00\x00\x02\x00" + "\x02\x01\x03\x01g\x00\x00\x10\x80" + "\x00\x00\x00\x01h\x00\x00\xf0\x7f" + "\x00\x00\x00\x00",
		},
		{
			api.Object{Datas: []api.Data{{Name: "d", Bind: 1, Rels: []api.Rel{{At: 0xfffe, Kind: 4, Name: "d", Add: -0x54321}, {At: 3, Kind: 255, Name: "e", Add: 1}}}}},
			"SPL1\x00\x00\x01\x00" + "\x01d\x01\x00\x00\x00\x00\x00\x00\x02\x00" + "\xfe\xff\x04\x01d\xdf\xbc\xfa\x7f" + "\x03\x00\xff\x01e\x01\x00\x00\x80" + "\x00\x00",
		},
		sample(),
	}
}

// three is an object with three of each part, so that each may be wrong first, in the middle, and last.
func three() api.Object {
	var o api.Object
	for k, name := range []string{"one", "two", "three"} {
		l := func() []api.Rel {
			return []api.Rel{{At: k, Kind: 1, Name: name}, {At: k + 300, Kind: 2, Name: "r", Add: 7}, {At: 900, Kind: 3, Name: "s", Add: -70000}}
		}
		o.Funcs = append(o.Funcs, api.Func{Name: name, Bind: k + 1, Code: []uint32{8, 0x10203040, uint32(k)}, Rels: l()})
		o.Datas = append(o.Datas, api.Data{Name: "d" + name, Bind: k + 2, Align: 4, Fixed: k == 1, Size: k + 600, Bytes: []byte{5, byte(k), 7}, Rels: l()})
		o.Notes = append(o.Notes, api.Note{Name: name, Kind: k})
	}
	return o
}

// rels answers all of the object's relocations.
func rels(o *api.Object) []*api.Rel {
	var l []*api.Rel
	for k := range o.Funcs {
		for j := range o.Funcs[k].Rels {
			l = append(l, &o.Funcs[k].Rels[j])
		}
	}
	for k := range o.Datas {
		for j := range o.Datas[k].Rels {
			l = append(l, &o.Datas[k].Rels[j])
		}
	}
	return l
}

// names answers each place of the object where a name stands.
func names(o *api.Object) []*string {
	var l []*string
	for k := range o.Funcs {
		l = append(l, &o.Funcs[k].Name)
	}
	for k := range o.Datas {
		l = append(l, &o.Datas[k].Name)
	}
	for k := range o.Notes {
		l = append(l, &o.Notes[k].Name)
	}
	for _, r := range rels(o) {
		l = append(l, &r.Name)
	}
	return l
}

// each answers what of answers of each.
func each[T, U any](l []T, of func(x *T) U) []U {
	var all []U
	for k := range l {
		all = append(all, of(&l[k]))
	}
	return all
}

// field is a number of an object's parts: each place where it stands, and such as may be and may not be.
type field struct {
	what         string
	places       func(o *api.Object) []*int
	right, wrong []int
}

// beyond are numbers that no field may have.
var beyond = []int{math.MinInt, math.MinInt + 1, math.MinInt32, -1 << 31, -1 << 21, 1 << 21, 1 << 31, 1<<32 + 1, 1 << 40, 1<<48 + 4, math.MaxInt}

// fields are all numbers of an object's parts, with the ends of what may be.
func fields() []field {
	octet, pair := []int{0, 1, 2, 127, 128, 254, 255}, []int{0, 1, 255, 256, 257, 0x1234, 65534, 65535}
	notOctet := []int{-1, -2, -128, -255, -256, 256, 257, 300, 511, 512, 65535, 65536}
	notPair := []int{-1, -2, -255, -65535, -65536, 65536, 65537, 70000, 131072}
	return []field{
		{"a function's Bind", func(o *api.Object) []*int { return each(o.Funcs, func(f *api.Func) *int { return &f.Bind }) }, octet[1:], append([]int{0}, notOctet...)},
		{"a Bind of data", func(o *api.Object) []*int { return each(o.Datas, func(d *api.Data) *int { return &d.Bind }) }, octet[1:], append([]int{0}, notOctet...)},
		{"Align", func(o *api.Object) []*int { return each(o.Datas, func(d *api.Data) *int { return &d.Align }) }, octet, notOctet},
		{"Size", func(o *api.Object) []*int { return each(o.Datas, func(d *api.Data) *int { return &d.Size }) }, pair, notPair},
		{"a note's Kind", func(o *api.Object) []*int { return each(o.Notes, func(n *api.Note) *int { return &n.Kind }) }, octet, notOctet},
		{"At", func(o *api.Object) []*int { return each(rels(o), func(r **api.Rel) *int { return &(*r).At }) }, pair, notPair},
		{"a relocation's Kind", func(o *api.Object) []*int { return each(rels(o), func(r **api.Rel) *int { return &(*r).Kind }) }, octet, notOctet},
		{"Add", func(o *api.Object) []*int { return each(rels(o), func(r **api.Rel) *int { return &(*r).Add }) },
			[]int{-1 << 20, -1<<20 + 1, -65537, -1, 0, 1, 255, 65536, 0x54321, 1<<20 - 1, 1 << 20}, []int{-1<<20 - 1, -1<<20 - 2, 1<<20 + 1, 1<<20 + 2}},
	}
}

// length is how many there may be of some part: cut and fill each list of them to n.
type length struct {
	what  string
	most  int
	lists func(o *api.Object) []func(n int)
}

// filled answers n of the list's parts, again and again.
func filled[T any](l *[]T) func(n int) {
	return func(n int) {
		var all []T
		for k := range n {
			all = append(all, (*l)[k%len(*l)])
		}
		*l = all
	}
}

// lengths are those of all lists of an object.
func lengths() []length {
	return []length{
		{"functions", 64, func(o *api.Object) []func(int) { return []func(int){filled(&o.Funcs)} }},
		{"data", 64, func(o *api.Object) []func(int) { return []func(int){filled(&o.Datas)} }},
		{"notes", 64, func(o *api.Object) []func(int) { return []func(int){filled(&o.Notes)} }},
		{"a function's relocations", 64, func(o *api.Object) []func(int) {
			return each(o.Funcs, func(f *api.Func) func(int) { return filled(&f.Rels) })
		}},
		{"relocations of data", 64, func(o *api.Object) []func(int) {
			return each(o.Datas, func(d *api.Data) func(int) { return filled(&d.Rels) })
		}},
		{"words", 2000, func(o *api.Object) []func(int) {
			return each(o.Funcs, func(f *api.Func) func(int) { return filled(&f.Code) })
		}},
		{"bytes", 4096, func(o *api.Object) []func(int) {
			return each(o.Datas, func(d *api.Data) func(int) { return filled(&d.Bytes) })
		}},
	}
}

// show tells all of the object; nil and empty lists look alike.
func show(o api.Object) string { return fmt.Sprintf("%+v", o) }

// empty tells whether nothing is in the object.
func empty(o api.Object) bool { return o.Funcs == nil && o.Datas == nil && o.Notes == nil }

// low answers n's lowest bytes, reckoned by divisions.
func low(n, size int) string {
	var b []byte
	for range size {
		b = append(b, byte(n%256))
		n /= 256
	}
	return string(b)
}

// named answers a name's bytes.
func named(name string) string { return low(len(name), 1) + name }

// relBytes answers the relocations' bytes.
func relBytes(l []api.Rel) string {
	b := low(len(l), 2)
	for _, r := range l {
		b += low(r.At, 2) + low(r.Kind, 1) + named(r.Name) + low(r.Add+2147483648, 4)
	}
	return b
}

// byteText answers the object's bytes, as the chapter has them.
func byteText(o api.Object) string {
	var b strings.Builder
	b.WriteString("SPL1" + low(len(o.Funcs), 2))
	for _, f := range o.Funcs {
		b.WriteString(named(f.Name) + low(f.Bind, 1) + low(len(f.Code), 2))
		for _, w := range f.Code {
			b.WriteString(low(int(w), 4))
		}
		b.WriteString(relBytes(f.Rels))
	}
	b.WriteString(low(len(o.Datas), 2))
	for _, d := range o.Datas {
		fixed := "\x00"
		if d.Fixed {
			fixed = "\x01"
		}
		b.WriteString(named(d.Name) + low(d.Bind, 1) + low(d.Align, 1) + fixed + low(d.Size, 2) + low(len(d.Bytes), 2) + string(d.Bytes) + relBytes(d.Rels))
	}
	b.WriteString(low(len(o.Notes), 2))
	for _, n := range o.Notes {
		b.WriteString(named(n.Name) + low(n.Kind, 1))
	}
	return b.String()
}

// holds tells where the object isn't written as these bytes, or not read out of them.
func holds(t *testing.T, what string, o api.Object, b string) {
	t.Helper()
	got, e := Write(o)
	if e != api.OK || string(got) != b {
		t.Errorf("%s: is written as %.200q (%v), want %.200q", what, got, e, b)
	}
	p, e := Read([]byte(b))
	if e != api.OK || show(p) != show(o) {
		t.Errorf("%s: is read as %.300s (%v), want %.300s", what, show(p), e, show(o))
	}
	if !Same(p, o) || !Same(o, p) {
		t.Errorf("%s: what is read isn't the same", what)
	}
	if again, e := Write(p); e != api.OK || string(again) != b {
		t.Errorf("%s: what is read is written as %.200q (%v), want %.200q", what, again, e, b)
	}
}

// refused tells where the object is written.
func refused(t *testing.T, what string, o api.Object) {
	t.Helper()
	if b, e := Write(o); e != api.ErrForm || len(b) != 0 {
		t.Errorf("%s: is written as %.200q (%v)", what, b, e)
	}
}

// unread tells where the bytes are read, or another error is told.
func unread(t *testing.T, what, b string, want api.Errno) {
	t.Helper()
	if o, e := Read([]byte(b)); e != want || !empty(o) {
		t.Errorf("%s: %.200q is read as %.300s (%v), want the error %v", what, b, show(o), e, want)
	}
}

// P9.1, P9.2: objects whose bytes are written out.
func TestWrittenOut(t *testing.T) {
	for k, x := range examples() {
		holds(t, fmt.Sprint("example ", k), x.o, x.b)
		if got := byteText(x.o); got != x.b {
			t.Errorf("the test's own bytes of %d are %q, want %q", k, got, x.b)
		}
	}
	holds(t, "three of each", three(), byteText(three()))
}

// P9.1: each number, at each place where it stands, at the ends of what may be and just beyond.
func TestNumbers(t *testing.T) {
	for _, f := range fields() {
		o := three()
		for k := range f.places(&o) {
			for _, n := range f.right {
				o := three()
				*f.places(&o)[k] = n
				holds(t, fmt.Sprint(f.what, " ", k, " of ", n), o, byteText(o))
			}
			for _, n := range append(slices.Clone(f.wrong), beyond...) {
				o := three()
				*f.places(&o)[k] = n
				refused(t, fmt.Sprint(f.what, " ", k, " of ", n), o)
			}
		}
	}
}

// P9.1: names, and such as are none, at each place where one stands.
func TestNames(t *testing.T) {
	right := []string{"a", "Z", "0", "_", ".", "main", "7up", "...", longest, longest[1:], strings.Repeat("Z", 32), letters[:32], letters[32:]}
	wrong := []string{"", " ", "-", "a b", "a ", " a", "a-b", "a\n", "a\x00", "\x00", "@", "[", "`", "{", "/", ":", "ä", "a\u0301", "\xff", longest + "6", longest[:31] + "ä", strings.Repeat("a", 33), strings.Repeat("a", 64), strings.Repeat("a", 255), strings.Repeat("a", 256), strings.Repeat("a", 257), strings.Repeat("a", 288)}
	first := three()
	for k := range names(&first) {
		for _, name := range right {
			o := three()
			*names(&o)[k] = name
			holds(t, fmt.Sprintf("the name %d as %q", k, name), o, byteText(o))
		}
		for _, name := range wrong {
			o := three()
			*names(&o)[k] = name
			refused(t, fmt.Sprintf("the name %d as %q", k, name), o)
		}
	}
}

// P9.1: each list, empty, as long as may be, and longer.
func TestLengths(t *testing.T) {
	for _, l := range lengths() {
		o := three()
		for k := range l.lists(&o) {
			for _, n := range []int{0, 1, 2, 63, 64, 255, 256, 257, l.most - 1, l.most} {
				if n <= l.most {
					o := three()
					l.lists(&o)[k](n)
					holds(t, fmt.Sprint(n, " ", l.what, " at ", k), o, byteText(o))
				}
			}
			for _, n := range []int{l.most + 1, l.most + 2, 2 * l.most, 65535, 65536, 65537, 65536 + l.most} {
				o := three()
				l.lists(&o)[k](n)
				refused(t, fmt.Sprint(n, " ", l.what, " at ", k), o)
			}
		}
	}
}

// P9.1: all lists as long as may be, at once; what is counted is each list, not all of them.
func TestLongest(t *testing.T) {
	o := three()
	for _, l := range lengths() {
		for _, fill := range l.lists(&o) {
			fill(l.most)
		}
	}
	for k := range o.Funcs {
		o.Funcs[k].Name = fmt.Sprint("f", k)
		o.Datas[k].Name = fmt.Sprint("d", k)
		o.Notes[k].Kind = k
	}
	holds(t, "the longest", o, byteText(o))
	o.Notes = append(o.Notes, o.Notes[0])
	refused(t, "one note more than the longest", o)
}

// P9.1: words, whichever they are, and bytes, whichever they are.
func TestWhicheverWords(t *testing.T) {
	var words []uint32
	for k := range 32 {
		words = append(words, 1<<k, ^uint32(1<<k), 1<<k-1, uint32(k)<<26|0x3ffffff)
	}
	words = append(words, 0x12345678, 0x87654321, 0xffffffff)
	octets := make([]byte, 256)
	for k := range octets {
		octets[k] = byte(k)
	}
	o := three()
	o.Funcs[1].Code, o.Datas[1].Bytes = words, octets
	holds(t, "whichever words", o, byteText(o))
}

// P9.1: what isn't right, isn't asked: parts that chapter 10 refuses are written all the same.
func TestWrittenThoughNotRight(t *testing.T) {
	o := api.Object{
		Funcs: []api.Func{{Name: "a", Bind: 77, Rels: []api.Rel{{At: 9, Kind: 9, Name: "no"}, {At: 9, Name: "no"}}}, {Name: "a", Bind: 4}},
		Datas: []api.Data{{Name: "a", Bind: 4, Align: 3, Fixed: true, Bytes: []byte{1, 2, 3}}},
		Notes: []api.Note{{Name: "nobody", Kind: 200}, {Name: "nobody", Kind: 200}},
	}
	holds(t, "what isn't right", o, byteText(o))
}

// P9.1: each beginning of an object's bytes is cut, and so is what goes on behind them.
func TestCut(t *testing.T) {
	for k, x := range append(examples(), written{three(), byteText(three())}) {
		for n := range x.b {
			unread(t, fmt.Sprint("the first ", n, " bytes of ", k), x.b[:n], api.ErrCut)
		}
		for _, more := range []string{"\x00", "\x01", "a", "S", "\xff", "\x00\x00", "SPL1", x.b, strings.Repeat("\x00", 70000)} {
			unread(t, fmt.Sprintf("%.9q behind %d", more, k), x.b+more, api.ErrCut)
		}
	}
	if o, e := Read(nil); e != api.ErrCut || !empty(o) {
		t.Errorf("nil is read as %s (%v)", show(o), e)
	}
}

// P9.1: another beginning, in each of its bytes; it is met where all four are taken.
func TestOtherBeginning(t *testing.T) {
	for k := range 4 {
		for c := range 256 {
			b := []byte(sample().b)
			if b[k] != byte(c) {
				b[k] = byte(c)
				unread(t, fmt.Sprint("the byte ", k), string(b), api.ErrForm)
				unread(t, fmt.Sprint("the byte ", k, ", nothing behind"), string(b[:4]), api.ErrForm)
				unread(t, fmt.Sprint("the byte ", k, ", cut"), string(b[:3]), api.ErrCut)
			}
		}
	}
	for _, b := range []string{"spl1", "SPL2", "1LPS", "SPL\x00", "PL1S", " SPL", "\x00\x00\x00\x00", "SPL1"[1:] + "\x00", "S\x00\x00\x00\x00\x00\x00\x00\x00\x00"} {
		unread(t, "another beginning", b, api.ErrForm)
	}
	for _, b := range []string{"x", "XY", "XYZ", "\x00\x00\x00"} {
		unread(t, "fewer bytes of another beginning", b, api.ErrCut)
	}
}

// Beginnings of bytes, each up to some piece.
const (
	upToFuncs    = "SPL1"
	upToFuncName = upToFuncs + "\x01\x00"
	upToFuncBind = upToFuncName + "\x01f"
	upToWords    = upToFuncBind + "\x01"
	upToFuncRels = upToWords + "\x00\x00"
	upToFuncRel  = upToFuncRels + "\x01\x00"
	upToDatas    = "SPL1\x00\x00"
	upToDataName = upToDatas + "\x01\x00"
	upToDataBind = upToDataName + "\x01d"
	upToFixed    = upToDataBind + "\x01\x04"
	upToBytes    = upToFixed + "\x00\x08\x00"
	upToDataRels = upToBytes + "\x00\x00"
	upToDataRel  = upToDataRels + "\x01\x00"
	upToNotes    = "SPL1\x00\x00\x00\x00"
	upToNoteName = upToNotes + "\x01\x00"
)

// P9.1: a count of too many is met ahead of what is counted; of as many as may be, there are fewer.
func TestReadCounts(t *testing.T) {
	for _, x := range []struct {
		what, begin string
		most        int
	}{
		{"functions", upToFuncs, 64},
		{"words", upToWords, 2000},
		{"a function's relocations", upToFuncRels, 64},
		{"data", upToDatas, 64},
		{"bytes", upToBytes, 4096},
		{"relocations of data", upToDataRels, 64},
		{"notes", upToNotes, 64},
	} {
		for _, n := range []int{x.most + 1, x.most + 2, 2 * x.most, 1 << 13, 1 << 14, 1 << 15, 65535 - 255, 65535} {
			for _, behind := range []string{"", "\x00", "\x01a", strings.Repeat("\x01", 70000)} {
				unread(t, fmt.Sprint("a count of ", n, " ", x.what), x.begin+low(n, 2)+behind, api.ErrForm)
			}
		}
		for _, n := range []int{1, 2, x.most - 1, x.most} {
			unread(t, fmt.Sprint("a count of ", n, " ", x.what), x.begin+low(n, 2), api.ErrCut)
		}
		for _, half := range []string{"", "\x00", "\x01", "\xff"} {
			unread(t, fmt.Sprintf("half a count of %s: %q", x.what, half), x.begin+half, api.ErrCut)
		}
	}
}

// P9.1: what is no name, at each place where one stands, met where its bytes are taken.
func TestReadNames(t *testing.T) {
	for _, x := range []struct{ what, begin string }{
		{"a function's name", upToFuncName},
		{"a name of a function's relocation", upToFuncRel + "\x00\x00\x01"},
		{"a name of data", upToDataName},
		{"a name of a relocation of data", upToDataRel + "\x00\x00\x04"},
		{"a note's name", upToNoteName},
	} {
		for _, name := range []string{"", " ", "-", "a-", "a b", "\x00", "a\x00", "ä", "\xff", longest + "6", strings.Repeat("a", 33), strings.Repeat("a", 255)} {
			for _, behind := range []string{"", "\x00", "\x01\x00", strings.Repeat("\x01", 300)} {
				unread(t, fmt.Sprintf("%s, %q", x.what, name), x.begin+named(name)+behind, api.ErrForm)
			}
		}
		for _, cut := range []string{"", "\x01", "\x02a", "\x02-", "\x20" + longest[1:], "\x01a", "\x20" + longest} {
			unread(t, fmt.Sprintf("%s, cut: %q", x.what, cut), x.begin+cut, api.ErrCut)
		}
	}
}

// P9.1: a Bind of 0, a byte of Fixed that is neither 0 nor 1, an Add beyond what may be; each met where its bytes are taken.
func TestReadNumbers(t *testing.T) {
	for _, behind := range []string{"", "\x00", "\x01", "\x00\x00\x00\x00\x00\x00\x00\x00\x00\x00\x00\x00"} {
		unread(t, "a function's Bind of 0", upToFuncBind+"\x00"+behind, api.ErrForm)
		unread(t, "a Bind of 0 of data", upToDataBind+"\x00"+behind, api.ErrForm)
		for n := 2; n < 256; n++ {
			unread(t, fmt.Sprint("Fixed of ", n), upToFixed+low(n, 1)+behind, api.ErrForm)
		}
		for _, n := range []int{1<<31 - 1<<20 - 1, 1<<31 + 1<<20 + 1, 1<<31 - 1<<21, 1<<31 + 1<<21, 0, 1, 1 << 20, 1 << 30, 3 << 30, 1<<32 - 1, 1<<32 - 1<<20} {
			unread(t, fmt.Sprint("Add as ", n), upToFuncRel+"\x00\x00\x01\x01g"+low(n, 4)+behind, api.ErrForm)
			unread(t, fmt.Sprint("Add as ", n), upToDataRel+"\x00\x00\x04\x01g"+low(n, 4)+behind, api.ErrForm)
		}
	}
	for n := 1; n < 256; n++ {
		holds(t, fmt.Sprint("Bind of ", n), api.Object{Funcs: []api.Func{{Name: "f", Bind: n}}, Datas: []api.Data{{Name: "d", Bind: n}}},
			upToFuncBind+low(n, 1)+"\x00\x00\x00\x00"+"\x01\x00\x01d"+low(n, 1)+"\x00\x00\x00\x00\x00\x00\x00\x00"+"\x00\x00")
	}
	for n, fixed := range []bool{false, true} {
		holds(t, fmt.Sprint("Fixed of ", n), api.Object{Datas: []api.Data{{Name: "d", Bind: 1, Align: 4, Fixed: fixed, Size: 8}}}, upToFixed+low(n, 1)+"\x08\x00\x00\x00\x00\x00\x00\x00")
	}
	for _, n := range []int{1<<31 - 1<<20, 1<<31 - 1<<20 + 1, 1<<31 - 1, 1 << 31, 1<<31 + 1, 1<<31 + 1<<20} {
		o := api.Object{Funcs: []api.Func{{Name: "f", Bind: 1, Rels: []api.Rel{{Kind: 1, Name: "g", Add: n - 1<<31}}}}}
		holds(t, fmt.Sprint("Add as ", n), o, upToFuncRel+"\x00\x00\x01\x01g"+low(n, 4)+"\x00\x00\x00\x00")
	}
	unread(t, "three bytes of an Add", upToFuncRel+"\x00\x00\x01\x01g\x00\x00\x00", api.ErrCut)
	unread(t, "three bytes of an Add", upToDataRel+"\x00\x00\x04\x01g\xff\xff\xff", api.ErrCut)
}

// P9.1: the first of several errors is the one that is met first, going through the bytes.
func TestFirstError(t *testing.T) {
	for _, x := range []struct {
		what, b string
		want    api.Errno
	}{
		{"another beginning, and cut", "SPLX\x00", api.ErrForm},
		{"cut ahead of another beginning", "XPL", api.ErrCut},
		{"no name ahead of Bind that is cut", upToFuncName + "\x01-", api.ErrForm},
		{"cut ahead of no name", upToFuncName + "\x02-", api.ErrCut},
		{"Bind of 0 ahead of a count that is cut", upToFuncBind + "\x00\x00", api.ErrForm},
		{"words cut ahead of too many relocations", upToWords + "\x02\x00\xff\xff\xff\xff\xff\xff", api.ErrCut},
		{"too many words, and something behind", upToWords + "\xd1\x07" + strings.Repeat("\x00", 9000), api.ErrForm},
		{"a Bind of 0 of data, and Fixed of 2", upToDataBind + "\x00\x04\x02", api.ErrForm},
		{"Align that is cut, Bind of 0", upToDataBind + "\x00", api.ErrForm},
		{"Fixed of 2 ahead of Size that is cut", upToFixed + "\x02\x00", api.ErrForm},
		{"bytes cut, ahead of relocations", upToBytes + "\x05\x00\xff\xff\xff\xff", api.ErrCut},
		{"an Add beyond ahead of another's no name", upToFuncRels + "\x02\x00" + "\x00\x00\x01\x01g\xff\xff\xff\xff", api.ErrForm},
		{"the second function's Bind of 0", "SPL1\x02\x00" + "\x01f\x01\x00\x00\x00\x00" + "\x01g\x00", api.ErrForm},
		{"the second function cut", "SPL1\x02\x00" + "\x01f\x01\x00\x00\x00\x00" + "\x01g", api.ErrCut},
		{"no name of a note, and something behind", upToNoteName + "\x01-\x00\x00\x00", api.ErrForm},
		{"a count of notes of too many, where data were cut", upToDataName + "\x01d\x01\x04\x00\x08\x00\x00\x00\x00\x00\x41\x00", api.ErrForm},
		{"something behind", upToNoteName + "\x01n\x00\x00", api.ErrCut},
		{"another object behind", sample().b + "SPLX", api.ErrCut},
	} {
		unread(t, x.what, x.b, x.want)
	}
}

// model goes through bytes as the chapter says, without panics: it stops at the first error that it meets.
type model struct {
	b []byte
	e api.Errno
}

// number goes over a number of so many bytes; it must be from least to most.
func (m *model) number(size, least, most int) int {
	if m.e == api.OK && len(m.b) < size {
		m.e = api.ErrCut
	}
	if m.e != api.OK {
		return 0
	}
	n := 0
	for k := size - 1; k >= 0; k-- {
		n = n*256 + int(m.b[k])
	}
	m.b = m.b[size:]
	if n < least || n > most {
		m.e = api.ErrForm
		return 0
	}
	return n
}

// over goes over so many bytes, and answers them.
func (m *model) over(n int) []byte {
	if m.e == api.OK && len(m.b) < n {
		m.e = api.ErrCut
	}
	if m.e != api.OK {
		return nil
	}
	b := m.b[:n]
	m.b = m.b[n:]
	return b
}

// name goes over a name.
func (m *model) name() {
	b := m.over(m.number(1, 0, 255))
	if m.e != api.OK {
		return
	}
	other := func(c byte) bool { return strings.IndexByte(letters, c) < 0 }
	if len(b) < 1 || len(b) > 32 || slices.ContainsFunc(b, other) {
		m.e = api.ErrForm
	}
}

// rels goes over relocations.
func (m *model) rels() {
	for range m.number(2, 0, 64) {
		m.over(3)
		m.name()
		m.number(4, 1<<31-1<<20, 1<<31+1<<20)
	}
}

// object goes over an object, and answers its error.
func (m *model) object() api.Errno {
	if b := m.over(4); m.e == api.OK && string(b) != "SPL1" {
		m.e = api.ErrForm
	}
	for range m.number(2, 0, 64) {
		m.name()
		m.number(1, 1, 255)
		m.over(4 * m.number(2, 0, 2000))
		m.rels()
	}
	for range m.number(2, 0, 64) {
		m.name()
		m.number(1, 1, 255)
		m.over(1)
		m.number(1, 0, 1)
		m.over(2)
		m.over(m.number(2, 0, 4096))
		m.rels()
	}
	for range m.number(2, 0, 64) {
		m.name()
		m.over(1)
	}
	if m.e == api.OK && len(m.b) > 0 {
		m.e = api.ErrCut
	}
	return m.e
}

// asModel tells where the bytes aren't read as the model goes through them; what is read is written as it stood.
func asModel(t *testing.T, b []byte) api.Errno {
	t.Helper()
	want := (&model{b: b}).object()
	o, e := Read(b)
	if e != want || e != api.OK && !empty(o) {
		t.Errorf("%q is read as %s (%v), want the error %v", b, show(o), e, want)
	}
	if e == api.OK {
		if again, f := Write(o); f != api.OK || !bytes.Equal(again, b) {
			t.Errorf("%q is written as %q (%v)", b, again, f)
		}
	}
	return e
}

// P9.1, P9.2: bytes that differ in one byte from an object's, whole and cut.
func TestChangedBytes(t *testing.T) {
	count := map[api.Errno]int{}
	for _, x := range examples() {
		for k := range x.b {
			for c := range 256 {
				b := []byte(x.b)
				b[k] = byte(c)
				count[asModel(t, b)]++
				count[asModel(t, b[:k+1])]++
				count[asModel(t, b[:len(b)-1])]++
				count[asModel(t, append(b, 0))]++
			}
		}
	}
	if len(count) != 3 || count[api.OK] == 0 || count[api.ErrCut] == 0 || count[api.ErrForm] == 0 {
		t.Errorf("of changed bytes came %v", count)
	}
}

// chance answers numbers that look like chance, always the same ones.
type chance uint64

// below answers a number from 0 to n-1.
func (c *chance) below(n int) int {
	*c = *c*6364136223846793005 + 1442695040888963407
	return int(uint64(*c) >> 33 % uint64(n))
}

// name answers a name.
func (c *chance) name() string {
	var b []byte
	for range 1 + c.below(32) {
		b = append(b, letters[c.below(len(letters))])
	}
	return string(b)
}

// rels answers relocations.
func (c *chance) rels() []api.Rel {
	var l []api.Rel
	for range c.below(5) {
		l = append(l, api.Rel{At: c.below(65536), Kind: c.below(256), Name: c.name(), Add: c.below(1<<21+1) - 1<<20})
	}
	return l
}

// object answers an object that may be written.
func (c *chance) object() api.Object {
	var o api.Object
	for range c.below(4) {
		f := api.Func{Name: c.name(), Bind: 1 + c.below(255), Rels: c.rels()}
		for range c.below(9) {
			f.Code = append(f.Code, uint32(c.below(1<<31)*2+c.below(2)))
		}
		o.Funcs = append(o.Funcs, f)
	}
	for range c.below(4) {
		d := api.Data{Name: c.name(), Bind: 1 + c.below(255), Align: c.below(256), Fixed: c.below(2) == 1, Size: c.below(65536), Rels: c.rels()}
		for range c.below(9) {
			d.Bytes = append(d.Bytes, byte(c.below(256)))
		}
		o.Datas = append(o.Datas, d)
	}
	for range c.below(4) {
		o.Notes = append(o.Notes, api.Note{Name: c.name(), Kind: c.below(256)})
	}
	return o
}

// P9.2: what is written is read as it was, what is read is written as it stood; and bytes changed at several places.
func TestManyObjects(t *testing.T) {
	c := chance(7)
	for k := range 3000 {
		o := c.object()
		b := byteText(o)
		holds(t, fmt.Sprint("object ", k), o, b)
		for range 20 {
			changed := []byte(b)
			for range 1 + c.below(3) {
				changed[4+c.below(len(b)-4)] = byte(c.below(256))
			}
			asModel(t, changed[:len(b)-c.below(2)*c.below(len(b))])
		}
	}
}

// P9.1: bytes of no object at all.
func TestWhicheverBytes(t *testing.T) {
	c := chance(11)
	for range 20000 {
		b := []byte("SPL1")[:4*c.below(2)]
		for range c.below(40) {
			b = append(b, byte(c.below(4)*c.below(80)))
		}
		asModel(t, b)
	}
	asModel(t, make([]byte, 1<<20))
	asModel(t, []byte(strings.Repeat("SPL1", 1<<18)))
	asModel(t, []byte("SPL1"+strings.Repeat("\x01", 1<<20)))
	asModel(t, []byte("SPL1"+strings.Repeat("\x40\x00", 1<<20)))
}

// change changes an object in one of its parts.
type change struct {
	what string
	do   func(o *api.Object)
}

// changes are such as make an object of three of each unlike, each in another way.
func changes() []change {
	var l []change
	first := three()
	for k := range names(&first) {
		for _, name := range []string{"other", "", "r\x00", "S"} {
			l = append(l, change{fmt.Sprintf("the name %d as %q", k, name), func(o *api.Object) { *names(o)[k] = name }})
		}
	}
	for _, f := range fields() {
		for k := range f.places(&first) {
			for _, by := range []int{1, -1, 256, 65536, 1 << 32} {
				l = append(l, change{fmt.Sprint(f.what, " ", k, " and ", by), func(o *api.Object) { *f.places(o)[k] += by }})
			}
		}
	}
	for k := range 3 {
		l = append(l, change{fmt.Sprint("Fixed ", k), func(o *api.Object) { o.Datas[k].Fixed = !o.Datas[k].Fixed }})
		for j := range 3 {
			l = append(l,
				change{fmt.Sprint("the word ", j, " of ", k), func(o *api.Object) { o.Funcs[k].Code[j] ^= 1 << 31 }},
				change{fmt.Sprint("the byte ", j, " of ", k), func(o *api.Object) { o.Datas[k].Bytes[j] ^= 128 }})
		}
	}
	for _, x := range lengths() {
		for k := range x.lists(&first) {
			for _, n := range []int{0, 1, 2, 4, 6} {
				l = append(l, change{fmt.Sprint(n, " ", x.what, " at ", k), func(o *api.Object) { x.lists(o)[k](n) }})
			}
		}
	}
	return append(l, orders()...)
}

// orders are changes of the parts' order alone, and of the list in which they stand.
func orders() []change {
	l := []change{
		{"functions turned round", func(o *api.Object) { slices.Reverse(o.Funcs) }},
		{"data turned round", func(o *api.Object) { slices.Reverse(o.Datas) }},
		{"notes turned round", func(o *api.Object) { slices.Reverse(o.Notes) }},
		{"the last two functions the other way round", func(o *api.Object) { slices.Reverse(o.Funcs[1:]) }},
		{"the first two data the other way round", func(o *api.Object) { slices.Reverse(o.Datas[:2]) }},
		{"the last two notes the other way round", func(o *api.Object) { slices.Reverse(o.Notes[1:]) }},
		{"functions' words", func(o *api.Object) { o.Funcs[0].Code, o.Funcs[2].Code = o.Funcs[2].Code, o.Funcs[0].Code }},
		{"functions' relocations", func(o *api.Object) { o.Funcs[0].Rels, o.Funcs[1].Rels = o.Funcs[1].Rels, o.Funcs[0].Rels }},
		{"relocations of a function and of data", func(o *api.Object) { o.Funcs[0].Rels, o.Datas[2].Rels = o.Datas[2].Rels, o.Funcs[0].Rels }},
	}
	for k := range 3 {
		l = append(l,
			change{fmt.Sprint("words of ", k, " turned round"), func(o *api.Object) { slices.Reverse(o.Funcs[k].Code) }},
			change{fmt.Sprint("relocations of the function ", k, " turned round"), func(o *api.Object) { slices.Reverse(o.Funcs[k].Rels) }},
			change{fmt.Sprint("bytes of ", k, " turned round"), func(o *api.Object) { slices.Reverse(o.Datas[k].Bytes) }},
			change{fmt.Sprint("relocations of data ", k, " turned round"), func(o *api.Object) { slices.Reverse(o.Datas[k].Rels) }})
	}
	return l
}

// P9.2: objects alike, and unlike in each of their parts alone, whether they may be written or not.
func TestSame(t *testing.T) {
	for _, x := range changes() {
		a, b, c := three(), three(), three()
		x.do(&a)
		x.do(&c)
		if Same(a, b) || Same(b, a) {
			t.Errorf("%s: the same", x.what)
		}
		if !Same(a, a) || !Same(a, c) || !Same(c, a) {
			t.Errorf("%s: not the same as one changed alike", x.what)
		}
	}
	if !Same(three(), three()) {
		t.Error("three of each aren't the same")
	}
	l := examples()
	for k := range l {
		for j := range l {
			if Same(l[k].o, examples()[j].o) != (k == j) {
				t.Errorf("the examples %d and %d are the same: %v", k, j, k != j)
			}
		}
	}
}

// P9.2: nil and empty lists are one; the room behind a list's length doesn't count.
func TestSameOfEmptyLists(t *testing.T) {
	none := api.Object{Funcs: []api.Func{}, Datas: []api.Data{}, Notes: []api.Note{}}
	nils := api.Object{Funcs: []api.Func{{Name: "f", Bind: 1}}, Datas: []api.Data{{Name: "d", Bind: 1}}}
	empties := api.Object{
		Funcs: []api.Func{{Name: "f", Bind: 1, Code: []uint32{}, Rels: []api.Rel{}}},
		Datas: []api.Data{{Name: "d", Bind: 1, Bytes: []byte{}, Rels: []api.Rel{}}},
		Notes: []api.Note{},
	}
	for _, x := range [][2]api.Object{{{}, none}, {nils, empties}, {three(), roomy(three())}, {{}, roomy(api.Object{})}} {
		if !Same(x[0], x[1]) || !Same(x[1], x[0]) || !Same(x[1], x[1]) {
			t.Errorf("%s and %s aren't the same", show(x[0]), show(x[1]))
		}
		holds(t, "empty lists", x[1], byteText(x[0]))
	}
	for _, x := range []api.Object{none, nils, empties} {
		if Same(x, three()) || Same(three(), x) {
			t.Errorf("%s is the same as three of each", show(x))
		}
	}
	if Same(none, nils) || Same(empties, none) {
		t.Error("none is the same as one")
	}
}

// roomyList answers the list with others in the room behind its length.
func roomyList[T any](l []T, other T) []T {
	return append(slices.Clone(l), other, other, other)[:len(l)]
}

// roomy answers the object with something in the room behind each list's length.
func roomy(o api.Object) api.Object {
	rel := api.Rel{At: 77, Kind: 7, Name: "room", Add: 777}
	funcs, datas := roomyList(o.Funcs, api.Func{Name: "room"}), roomyList(o.Datas, api.Data{Name: "room"})
	for k := range funcs {
		funcs[k].Code, funcs[k].Rels = roomyList(funcs[k].Code, 0xeeeeeeee), roomyList(funcs[k].Rels, rel)
	}
	for k := range datas {
		datas[k].Bytes, datas[k].Rels = roomyList(datas[k].Bytes, 0xee), roomyList(datas[k].Rels, rel)
	}
	return api.Object{Funcs: funcs, Datas: datas, Notes: roomyList(o.Notes, api.Note{Name: "room"})}
}

// whole answers the list with the room behind its length.
func whole[T any](l []T) []T { return l[:cap(l)] }

// showAll tells all of the object, and what stands in the room behind each list's length.
func showAll(o api.Object) string {
	text := fmt.Sprintf("%+v %+v %+v", whole(o.Funcs), whole(o.Datas), whole(o.Notes))
	for _, f := range o.Funcs {
		text += fmt.Sprintf(" %x %+v", whole(f.Code), whole(f.Rels))
	}
	for _, d := range o.Datas {
		text += fmt.Sprintf(" %x %+v", whole(d.Bytes), whole(d.Rels))
	}
	return text
}

// spoilers change each list of the object in all its parts, and in the room behind its length, one list at a call.
func spoilers(o *api.Object) []func() {
	rel := api.Rel{At: 1, Kind: 99, Name: "spoilt", Add: 9}
	var l []func()
	for k := range o.Funcs {
		l = append(l, spoiler(o.Funcs[k].Code, 0xa5a5a5a5), spoiler(o.Funcs[k].Rels, rel))
	}
	for k := range o.Datas {
		l = append(l, spoiler(o.Datas[k].Bytes, 0xa5), spoiler(o.Datas[k].Rels, rel))
	}
	return append(l, spoiler(o.Funcs, api.Func{Name: "spoilt"}), spoiler(o.Datas, api.Data{Name: "spoilt"}), spoiler(o.Notes, api.Note{Name: "spoilt"}))
}

// spoiler changes all of the list, and the room behind it.
func spoiler[T any](l []T, with T) func() {
	return func() {
		for k := range whole(l) {
			whole(l)[k] = with
		}
	}
}

// P9.3: what is handed in stays, and so does the room behind each length.
func TestHandedInStays(t *testing.T) {
	for k, x := range append(examples(), written{three(), byteText(three())}) {
		o := roomy(x.o)
		own := showAll(o)
		Write(o)
		Same(o, x.o)
		Same(x.o, o)
		Same(o, three())
		Same(o, o)
		if got := showAll(o); got != own {
			t.Errorf("of the object %d became %s, want %s", k, got, own)
		}
		b := roomyList([]byte(x.b), 0xee)
		for n := range len(b) + 3 {
			Read(b[:n])
		}
		if string(whole(b)[:len(b)+3]) != x.b+"\xee\xee\xee" {
			t.Errorf("of the bytes %d became %q", k, whole(b))
		}
	}
	o := roomy(three())
	o.Notes[2].Name = "-"
	own := showAll(o)
	if Write(o); showAll(o) != own {
		t.Errorf("of the object that is refused became %s, want %s", showAll(o), own)
	}
}

// P9.3: what is handed in isn't kept: changed behind the call, it changes nothing of what was answered.
func TestHandedInIsNotKept(t *testing.T) {
	for k, x := range append(examples(), written{three(), byteText(three())}) {
		o := roomy(x.o)
		b, _ := Write(o)
		for _, spoil := range spoilers(&o) {
			spoil()
		}
		if string(b) != x.b {
			t.Errorf("of the changed object %d came %q, want %q", k, b, x.b)
		}
		p, _ := Read(b)
		spoiler(b, 0xa5)()
		if show(p) != show(x.o) {
			t.Errorf("of the changed bytes %d came %s, want %s", k, show(p), show(x.o))
		}
		holds(t, fmt.Sprint("behind changed ones, ", k), x.o, x.b)
	}
}

// P9.3: bytes that are written are new memory at every call.
func TestWrittenIsNew(t *testing.T) {
	for k, x := range append(examples(), written{three(), byteText(three())}) {
		o := roomy(x.o)
		own := showAll(o)
		first, _ := Write(o)
		second, _ := Write(o)
		spoiler(first, 0xa5)()
		third, _ := Write(o)
		if string(second) != x.b || string(third) != x.b || showAll(o) != own {
			t.Errorf("of changed bytes of %d came %q and %q, want %q", k, second, third, x.b)
		}
	}
}

// P9.3: objects that are read are new memory at every call, and no two lists of one share any.
func TestReadIsNew(t *testing.T) {
	for k, x := range append(examples(), written{three(), byteText(three())}) {
		b := []byte(x.b)
		first, _ := Read(b)
		for j := range spoilers(&first) {
			fresh, _ := Read(b)
			other, _ := Read(b)
			spoilers(&fresh)[j]()
			want := roomlessCopy(x.o)
			spoilers(&want)[j]()
			if show(fresh) != show(want) {
				t.Errorf("of the object %d whose list %d was changed came %s, want %s", k, j, show(fresh), show(want))
			}
			if show(other) != show(x.o) || show(first) != show(x.o) || string(b) != x.b {
				t.Errorf("of a changed object %d came %s and %s of %q", k, show(other), show(first), b)
			}
		}
	}
}

// roomlessCopy answers the object with lists of its own, and no room behind them.
func roomlessCopy(o api.Object) api.Object {
	p := roomy(o)
	for k := range p.Funcs {
		p.Funcs[k].Code, p.Funcs[k].Rels = slices.Clip(p.Funcs[k].Code), slices.Clip(p.Funcs[k].Rels)
	}
	for k := range p.Datas {
		p.Datas[k].Bytes, p.Datas[k].Rels = slices.Clip(p.Datas[k].Bytes), slices.Clip(p.Datas[k].Rels)
	}
	return api.Object{Funcs: slices.Clip(p.Funcs), Datas: slices.Clip(p.Datas), Notes: slices.Clip(p.Notes)}
}
