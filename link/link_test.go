package link

import (
	"fmt"
	"math"
	"slices"
	"strings"
	"testing"

	"splice/api"
	"splice/check"
	"splice/names"
	"splice/place"
	"splice/run"
)

// Words of instructions, written out.
const (
	ret   = 0x15000000
	none  = 0x18000000
	halt1 = 0x00100000 // Halt 1
	call0 = 0x14000000
	jump0 = 0x13000000
	high1 = 0x09100000 // High 1
	ori1  = 0x0a110000 // Ori 1, 1
)

// fn is a function of these words, with these relocations.
func fn(words []uint32, rels ...api.PRel) api.PFunc { return api.PFunc{Code: words, Rels: rels} }

// plain is a function of so many words None.
func plain(n int) api.PFunc { return fn(slices.Repeat([]uint32{none}, n)) }

// to is a relocation of a call or a jump.
func to(at, f int) api.PRel { return api.PRel{At: at, Kind: api.RelCall, To: f} }

// high, low and word are relocations that have an address.
func high(at, d, add int) api.PRel { return api.PRel{At: at, Kind: api.RelHigh, To: d, Add: add} }
func low(at, d, add int) api.PRel  { return api.PRel{At: at, Kind: api.RelLow, To: d, Add: add} }
func word(at, d, add int) api.PRel { return api.PRel{At: at, Kind: api.RelWord, To: d, Add: add} }

// fixed and other are data so aligned, of so many bytes, these of them told.
func fixed(align, size int, bytes ...byte) api.PData {
	return api.PData{Align: align, Fixed: true, Size: size, Bytes: bytes}
}
func other(align, size int, bytes ...byte) api.PData {
	return api.PData{Align: align, Size: size, Bytes: bytes}
}

// filler is so many bytes of data, that are not Fixed, in parts that an object may have.
func filler(n int) []api.PData {
	var l []api.PData
	for ; n > 0; n -= 4096 {
		l = append(l, other(1, min(n, 4096)))
	}
	return l
}

// tell tells an image.
func tell(m api.Image) string {
	return fmt.Sprintf("code %.400s, entry %d, data %.400s, write %d, more %d", fmt.Sprintf("%08x", m.Code), m.Entry, fmt.Sprintf("%02x", m.Data), m.Write, m.More)
}

// equal tells whether the images are alike, not by what is tested.
func equal(a, b api.Image) bool {
	return slices.Equal(a.Code, b.Code) && a.Entry == b.Entry && slices.Equal(a.Data, b.Data) && a.Write == b.Write && a.More == b.More
}

// is tells where the program's image is another one than this.
func is(t *testing.T, what string, p api.Prog, order []int, want api.Image) {
	t.Helper()
	m, e := Program(p, order)
	if e != api.OK || !equal(m, want) {
		t.Errorf("%s, order %v: error %d, %s; want %s", what, order, e, tell(m), tell(want))
	}
}

// refused tells where the answer is another one than this error, or something comes with it.
func refused(t *testing.T, what string, p api.Prog, order []int, want api.Errno) {
	t.Helper()
	if m, e := Program(p, order); e != want || !nothing(m) {
		t.Errorf("%s, order %.100s: error %d, %s; want %d and nothing", what, fmt.Sprint(order), e, tell(m), want)
	}
}

// objectsAre tells where the objects' image is another one than this.
func objectsAre(t *testing.T, what string, l []api.Object, want api.Image) {
	t.Helper()
	if m, e := Objects(l); e != api.OK || !equal(m, want) {
		t.Errorf("%s: error %d, %s; want %s", what, e, tell(m), tell(want))
	}
}

// objectsRefused tells where the answer is another one than this error, or something comes with it.
func objectsRefused(t *testing.T, what string, want api.Errno, l ...api.Object) {
	t.Helper()
	if m, e := Objects(l); e != want || !nothing(m) {
		t.Errorf("%s: error %d, %s; want %d and nothing", what, e, tell(m), want)
	}
}

// nothing tells whether the image is Image{}.
func nothing(m api.Image) bool {
	return len(m.Code) == 0 && m.Entry == 0 && len(m.Data) == 0 && m.Write == 0 && m.More == 0
}

// runs tells where the image's run, with this input, doesn't end with this number and output.
func runs(t *testing.T, what string, m api.Image, in string, code uint32, out string) {
	t.Helper()
	x := run.Do(m, []byte(in), 100000)
	if !x.Ended || x.Fault != api.FaultNone || x.Code != code || string(x.Out) != out {
		t.Errorf("%s: ended %v, fault %d, code %d, out %q; want %d, %q", what, x.Ended, x.Fault, x.Code, x.Out, code, out)
	}
}

// orders are all orders of all the numbers below n.
func orders(n int) [][]int {
	l := [][]int{nil}
	for range n {
		var next [][]int
		for _, o := range l {
			for f := range n {
				if !slices.Contains(o, f) {
					next = append(next, append(slices.Clone(o), f))
				}
			}
		}
		l = next
	}
	return l
}

// modelOrder tells whether the order can be one of the program's.
func modelOrder(p api.Prog, order []int) bool {
	count := map[int]int{}
	for _, f := range order {
		count[f]++
		if f < 0 || f >= len(p.Funcs) || count[f] > 1 {
			return false
		}
	}
	return count[p.Entry] == 1
}

// modelStand answers where each data stands, counted byte by byte, where what can be written begins, and where all ends.
func modelStand(l []api.PData) (at []int, write, end int) {
	at = make([]int, len(l))
	for _, fixed := range []bool{true, false} {
		for k, d := range l {
			if d.Fixed == fixed {
				for end%d.Align != 0 {
					end++
				}
				at[k] = end
				end += d.Size
			}
		}
		for fixed && end%16 != 0 {
			end++
		}
		if fixed {
			write = end
		}
	}
	return at, write, end
}

// model answers the image as the chapters say it: every word and byte is put where it stands first, and relocations are done on the whole then.
func model(p api.Prog, order []int) (api.Image, api.Errno) {
	if !modelOrder(p, order) {
		return api.Image{}, api.ErrArg
	}
	m := api.Image{More: 256}
	first := map[int]int{}
	for _, f := range order {
		first[f] = len(m.Code)
		m.Code = append(m.Code, p.Funcs[f].Code...)
	}
	at, write, end := modelStand(p.Datas)
	if len(m.Code) > 65536 || end > 65536 {
		return api.Image{}, api.ErrLong
	}
	m.Entry, m.Write, m.Data = first[p.Entry], write, make([]byte, end)
	fits := true
	value := func(r api.PRel) int {
		v := 65536 + at[r.To] + r.Add
		fits = fits && v >= 0 && v <= 4294967295
		return v
	}
	for _, f := range order {
		for _, r := range p.Funcs[f].Rels {
			modelWord(&m.Code[first[f]+r.At], r, func() int {
				g, ok := first[r.To]
				fits = fits && ok
				return g - first[f] - r.At - 1
			}, value)
		}
	}
	for k, d := range p.Datas {
		copy(m.Data[at[k]:], d.Bytes)
		for _, r := range d.Rels {
			v := value(r)
			for n := range 4 {
				m.Data[at[k]+r.At+n] = byte(v >> (8 * n))
			}
		}
	}
	if !fits {
		return api.Image{}, api.ErrRange
	}
	return m, api.OK
}

// modelWord does the relocation at the word.
func modelWord(w *uint32, r api.PRel, far func() int, value func(api.PRel) int) {
	switch r.Kind {
	case api.RelCall:
		*w = *w&0xff000000 | uint32(far())&0x00ffffff
	case api.RelHigh:
		*w = *w&0xffff0000 | uint32(value(r)/65536)&0xffff
	case api.RelLow:
		*w = *w&0xffff0000 | uint32(value(r))&0xffff
	}
}

// asModel tells where the answer isn't the model's; it answers the model's error.
func asModel(t *testing.T, what string, p api.Prog, order []int) api.Errno {
	t.Helper()
	want, e := model(p, order)
	if e != api.OK {
		refused(t, what, p, order, e)
	} else {
		is(t, what, p, order, want)
	}
	return e
}

// P14.1: the example: one function [Halt] is an image of one word.
func TestExample(t *testing.T) {
	want := api.Image{Code: []uint32{0x00300000}, More: 256}
	is(t, "one function", api.Prog{Funcs: []api.PFunc{fn([]uint32{0x00300000})}}, []int{0}, want)
	main := api.Func{Name: "main", Bind: api.Strong, Code: []uint32{0x00300000}}
	objectsAre(t, "one function", []api.Object{{Funcs: []api.Func{main}}}, want)
	runs(t, "one function", want, "", 0, "")
}

// ordinary is a program of functions and data that name one another: it puts out a byte of its input and one of its data twice each, and ends with the number 300.
func ordinary() api.Prog {
	return api.Prog{
		Entry: 1,
		Funcs: []api.PFunc{
			// twice: Out 2; Out 2; Ret
			fn([]uint32{0x17200000, 0x17200000, ret}),
			// main: In 2; Call twice; r1 = address of data 1, 4 on; r1 = the word there; r2 = the byte there; Call show; Jump last
			fn([]uint32{0x16200000, call0, high1, ori1, 0x0b110000, 0x0d210000, call0, jump0}, to(1, 0), high(2, 1, 4), low(3, 1, 4), to(6, 3), to(7, 2)),
			// last: r3 = address of data 0; r3 = the word there; Halt 3
			fn([]uint32{0x09300000, 0x0a330000, 0x0b330000, 0x00300000}, high(0, 0, 0), low(1, 0, 0)),
			// show: Jump twice
			fn([]uint32{jump0}, to(0, 0)),
		},
		Datas: []api.PData{
			fixed(4, 6, 44, 1),
			{Align: 8, Size: 9, Bytes: []byte{1, 2, 3}, Rels: []api.PRel{word(4, 2, 1)}},
			other(2, 3, 'x', 'y', 'z'),
			fixed(16, 1, 255),
		},
	}
}

// P14.1: a program of several functions and data that name one another, in several orders, all of it written out, and run to its end.
func TestOrdinary(t *testing.T) {
	p := ordinary()
	bytes := make([]byte, 45)
	copy(bytes, []byte{44, 1})
	bytes[16] = 255
	copy(bytes[32:], []byte{1, 2, 3, 0, 43, 0, 1, 0})
	copy(bytes[42:], "xyz")
	is(t, "ordinary", p, []int{0, 1, 2, 3}, api.Image{Entry: 3, Data: bytes, Write: 32, More: 256, Code: []uint32{
		0x17200000, 0x17200000, ret,
		0x16200000, 0x14fffffb, 0x09100001, 0x0a110024, 0x0b110000, 0x0d210000, 0x14000005, 0x13000000,
		0x09300001, 0x0a330000, 0x0b330000, 0x00300000,
		0x13fffff0,
	}})
	is(t, "ordinary", p, []int{3, 2, 1, 0}, api.Image{Entry: 5, Data: bytes, Write: 32, More: 256, Code: []uint32{
		0x1300000c,
		0x09300001, 0x0a330000, 0x0b330000, 0x00300000,
		0x16200000, 0x14000006, 0x09100001, 0x0a110024, 0x0b110000, 0x0d210000, 0x14fffff4, 0x13fffff4,
		0x17200000, 0x17200000, ret,
	}})
	is(t, "ordinary", p, []int{1, 3, 0, 2}, api.Image{Data: bytes, Write: 32, More: 256, Code: []uint32{
		0x16200000, 0x14000007, 0x09100001, 0x0a110024, 0x0b110000, 0x0d210000, 0x14000001, 0x13000004,
		0x13000000,
		0x17200000, 0x17200000, ret,
		0x09300001, 0x0a330000, 0x0b330000, 0x00300000,
	}})
	for _, o := range orders(4) {
		asModel(t, "ordinary", p, o)
		m, _ := Program(p, o)
		runs(t, fmt.Sprint("order ", o), m, "a", 300, "aayy")
	}
}

// P14.1: the Entry is the first word of the entry's function, wherever that stands in the order and in the list, and whatever it calls.
func TestEntry(t *testing.T) {
	lengths := []int{1, 3, 7, 0}
	for entry := range lengths {
		p := api.Prog{Entry: entry}
		for _, n := range lengths {
			p.Funcs = append(p.Funcs, plain(n))
		}
		for _, o := range orders(4) {
			want := 0
			for _, f := range o[:slices.Index(o, entry)] {
				want += lengths[f]
			}
			m, e := Program(p, o)
			if e != api.OK || m.Entry != want || len(m.Code) != 11 || len(m.Data) != 0 || m.Write != 0 || m.More != 256 {
				t.Errorf("order %v: error %d, %s; want the entry %d", o, e, tell(m), want)
			}
		}
	}
}

// P14.1: functions stand one behind the other in the order that is told, and those that it leaves out don't.
func TestLeftOut(t *testing.T) {
	p := api.Prog{Entry: 2}
	for f := range 5 {
		p.Funcs = append(p.Funcs, fn(slices.Repeat([]uint32{none + uint32(f)}, f+1)))
	}
	for _, all := range orders(5) {
		for n := range all {
			o := all[:n+1]
			if !slices.Contains(o, 2) {
				refused(t, "without Entry", p, o, api.ErrArg)
				continue
			}
			want := api.Image{More: 256}
			for _, f := range o {
				if f == 2 {
					want.Entry = len(want.Code)
				}
				want.Code = append(want.Code, slices.Repeat([]uint32{none + uint32(f)}, f+1)...)
			}
			is(t, "functions left out", p, o, want)
		}
	}
}

// P14.1: the data are what they are, whichever functions are left out, who asks for them, too.
func TestDataOfThoseLeftOut(t *testing.T) {
	p := ordinary()
	whole, _ := Program(p, place.All(p))
	p.Funcs[3] = fn([]uint32{high1, ori1}, high(0, 2, 0), low(1, 2, 0))
	p.Funcs[1] = fn([]uint32{none, halt1})
	is(t, "main alone", p, []int{1}, api.Image{Code: []uint32{none, halt1}, Data: whole.Data, Write: 32, More: 256})
	is(t, "main and another", p, []int{3, 1}, api.Image{Code: []uint32{0x09100001, 0x0a11002a, none, halt1}, Entry: 2, Data: whole.Data, Write: 32, More: 256})
}

// P14.1: a function without words stands where the next one does.
func TestNoWords(t *testing.T) {
	p := api.Prog{Entry: 1, Funcs: []api.PFunc{fn([]uint32{call0, halt1}, to(0, 1)), fn(nil), fn([]uint32{jump0}, to(0, 1))}}
	is(t, "between", p, []int{0, 1, 2}, api.Image{Code: []uint32{0x14000001, halt1, 0x13ffffff}, Entry: 2, More: 256})
	is(t, "the last", p, []int{2, 0, 1}, api.Image{Code: []uint32{0x13000002, 0x14000001, halt1}, Entry: 3, More: 256})
	is(t, "alone", p, []int{1}, api.Image{More: 256})
}

// P14.1: no data; Fixed ones alone; others alone; both: Write, how many bytes there are, and zeros in the room between.
func TestData(t *testing.T) {
	zeros := func(n int, more ...byte) []byte { return append(make([]byte, n), more...) }
	for _, row := range []struct {
		what  string
		datas []api.PData
		write int
		bytes []byte
	}{
		{"none", nil, 0, nil},
		{"an empty list", []api.PData{}, 0, nil},
		{"a Fixed one", []api.PData{fixed(1, 1, 9)}, 16, append([]byte{9}, zeros(15)...)},
		{"a Fixed one, none of it told", []api.PData{fixed(4, 3)}, 16, zeros(16)},
		{"a Fixed one of 15 bytes", []api.PData{fixed(2, 15, slices.Repeat([]byte{7}, 15)...)}, 16, append(slices.Repeat([]byte{7}, 15), 0)},
		{"a Fixed one of 16 bytes", []api.PData{fixed(16, 16, slices.Repeat([]byte{7}, 16)...)}, 16, slices.Repeat([]byte{7}, 16)},
		{"a Fixed one of 17 bytes", []api.PData{fixed(16, 17, slices.Repeat([]byte{7}, 17)...)}, 32, append(slices.Repeat([]byte{7}, 17), zeros(15)...)},
		{"Fixed ones", []api.PData{fixed(1, 1, 1), fixed(4, 3, 2, 3), fixed(2, 2, 4, 5), fixed(8, 1, 6)}, 32,
			append([]byte{1, 0, 0, 0, 2, 3, 0, 0, 4, 5, 0, 0, 0, 0, 0, 0, 6}, zeros(15)...)},
		{"another", []api.PData{other(16, 3, 8)}, 0, []byte{8, 0, 0}},
		{"another of a byte", []api.PData{other(1, 1)}, 0, []byte{0}},
		{"others", []api.PData{other(2, 1, 1), other(2, 1, 2), other(1, 1, 3), other(16, 2, 4, 5), other(8, 1, 6)}, 0,
			append([]byte{1, 0, 2, 3}, append(zeros(12), 4, 5, 0, 0, 0, 0, 0, 0, 6)...)},
		{"both", []api.PData{other(1, 1, 1), fixed(1, 1, 2)}, 16, append(append([]byte{2}, zeros(15)...), 1)},
		{"both, the Fixed one ahead", []api.PData{fixed(1, 1, 2), other(1, 1, 1)}, 16, append(append([]byte{2}, zeros(15)...), 1)},
		{"both, by turns", []api.PData{other(4, 2, 1), fixed(1, 17, 2, 3), other(4, 2, 4, 5), fixed(2, 1, 6), other(1, 3, 7)}, 32,
			append(append([]byte{2, 3}, zeros(16, 6)...), append(zeros(13), 1, 0, 0, 0, 4, 5, 7, 0, 0)...)},
	} {
		p := api.Prog{Funcs: []api.PFunc{fn([]uint32{halt1})}, Datas: row.datas}
		want := api.Image{Code: []uint32{halt1}, Data: row.bytes, Write: row.write, More: 256}
		is(t, row.what, p, []int{0}, want)
		if e := asModel(t, row.what, p, []int{0}); e != api.OK {
			t.Errorf("%s: the model answers the error %d", row.what, e)
		}
	}
}

// P14.1: with fewer Bytes than Size, zeros; told bytes stay where they are, in data of each kind, and a word of data stands over both.
func TestFewerBytes(t *testing.T) {
	for size := 1; size <= 12; size++ {
		for told := range size + 1 {
			b := slices.Repeat([]byte{0xee}, told)
			ahead, behind := other(1, 2, 1, 2), other(1, 2, 3, 4)
			p := api.Prog{Funcs: []api.PFunc{plain(1)}, Datas: []api.PData{ahead, other(1, size, b...), behind}}
			want := []byte{1, 2}
			want = append(append(want, b...), make([]byte, size-told)...)
			want = append(want, 3, 4)
			is(t, fmt.Sprint(told, " of ", size, " bytes"), p, []int{0}, api.Image{Code: []uint32{none}, Data: want, More: 256})
			if size < 4 {
				continue
			}
			p.Datas[1].Rels = []api.PRel{word(size-4, 2, 0)}
			copy(want[2+size-4:], []byte{byte(2 + size), 0, 1, 0})
			is(t, "a word at the end", p, []int{0}, api.Image{Code: []uint32{none}, Data: want, More: 256})
		}
	}
}

// P14.1: Write is where Fixed ones end, and on to a multiple of 16; More is 256 bytes, which aren't among the data.
func TestWriteAndMore(t *testing.T) {
	for size := 1; size < 70; size++ {
		for _, behind := range []int{0, 1, 5} {
			p := api.Prog{Funcs: []api.PFunc{plain(1)}, Datas: []api.PData{fixed(1, size)}}
			if behind > 0 {
				p.Datas = append(p.Datas, other(1, behind))
			}
			m, e := Program(p, []int{0})
			if want := (size + 15) / 16 * 16; e != api.OK || m.Write != want || len(m.Data) != want+behind || m.More != 256 {
				t.Errorf("%d bytes, %d behind: error %d, %s", size, behind, e, tell(m))
			}
		}
	}
	// What stands ahead of Write can't be written; the last of the bytes that More tells can.
	for _, row := range []struct {
		address uint32
		fault   int
	}{{0xf, api.FaultSave}, {0x10, api.FaultNone}, {0x10 + 3 + 255, api.FaultNone}, {0x10 + 3 + 256, api.FaultSave}} {
		p := api.Prog{Funcs: []api.PFunc{fn([]uint32{0x09100001, 0x0a110000 + row.address, 0x0e110000, 0x00000000})}, Datas: []api.PData{other(1, 3), fixed(1, 1)}}
		m, e := Program(p, []int{0})
		if x := run.Do(m, nil, 10); e != api.OK || !x.Ended || x.Fault != row.fault {
			t.Errorf("a byte at %x: error %d, fault %d, want %d", row.address, e, x.Fault, row.fault)
		}
	}
}

// P14.1: ErrArg: an order with what is no place, with twice the same, without Entry.
func TestOrdersThatCanNotBe(t *testing.T) {
	p := ordinary()
	for _, o := range [][]int{
		nil, {}, {0}, {0, 2, 3}, {1, 1}, {1, 0, 1}, {0, 1, 0}, {0, 0, 1}, {1, 2, 3, 3}, {-1}, {1, -1}, {-1, 1}, {4}, {1, 4}, {4, 1}, {0, 1, 2, 3, 4},
		{0, 1, 2, 3, 0}, {1, math.MinInt}, {1, math.MaxInt}, {1, 1 << 32},
	} {
		refused(t, "an order that can't be", p, o, api.ErrArg)
	}
	for _, entry := range []int{math.MinInt, -1, 4, math.MaxInt} {
		p.Entry = entry
		refused(t, "an Entry that there isn't", p, []int{0, 1, 2, 3}, api.ErrArg)
	}
	refused(t, "no program", api.Prog{}, nil, api.ErrArg)
	refused(t, "no program", api.Prog{}, []int{0}, api.ErrArg)
}

// P14.1: ErrLong of more than 65536 words, in the order; of as many there is an image.
func TestManyWords(t *testing.T) {
	p := api.Prog{Funcs: []api.PFunc{plain(65535), plain(1), plain(1), plain(0)}}
	for _, o := range [][]int{{0}, {0, 1}, {2, 0}, {3, 0, 2}} {
		if e := asModel(t, "so many words as may be", p, o); e != api.OK {
			t.Errorf("order %v: the model answers %d", o, e)
		}
	}
	for _, o := range [][]int{{0, 1, 2}, {1, 2, 0}, {3, 2, 0, 1}} {
		refused(t, "more words than may be", p, o, api.ErrLong)
	}
	p = api.Prog{Funcs: []api.PFunc{plain(65537)}}
	refused(t, "more words than may be", p, []int{0}, api.ErrLong)
	// From one end of the longest image to the other.
	p = api.Prog{Funcs: []api.PFunc{fn([]uint32{jump0}, to(0, 2)), plain(65534), fn([]uint32{jump0}, to(0, 0))}}
	m, e := Program(p, []int{0, 1, 2})
	if e != api.OK || len(m.Code) != 65536 || m.Code[0] != 0x1300fffe || m.Code[65535] != 0x13ff0000 || m.Code[1] != none || m.Code[65534] != none {
		t.Errorf("the longest: error %d, %d words", e, len(m.Code))
	}
}

// P14.1: ErrLong of more than 65536 bytes, whichever functions there are; of as many there is an image.
func TestManyBytes(t *testing.T) {
	p := api.Prog{Funcs: []api.PFunc{plain(1), plain(2)}, Datas: append(filler(65535), other(1, 1, 77))}
	if m, e := Program(p, []int{0}); e != api.OK || len(m.Data) != 65536 || m.Data[65535] != 77 || slices.Max(m.Data[:65535]) != 0 || m.Write != 0 {
		t.Errorf("so many bytes as may be: error %d, %d bytes", e, len(m.Data))
	}
	for _, more := range []api.PData{other(1, 1), other(16, 1), fixed(1, 1), fixed(16, 4096)} {
		long := api.Prog{Funcs: p.Funcs, Datas: append(slices.Clone(p.Datas), more)}
		refused(t, "more bytes than may be", long, []int{0}, api.ErrLong)
		refused(t, "more bytes than may be", long, []int{1, 0}, api.ErrLong)
	}
	// A Fixed byte more: its 16 bytes are too many, if there are more than 65520 others.
	for _, n := range []int{65519, 65520, 65521} {
		with := api.Prog{Funcs: p.Funcs, Datas: append(filler(n), fixed(1, 1, 66))}
		if e := asModel(t, fmt.Sprint(n, " and a Fixed one"), with, []int{0}); (e == api.OK) != (n <= 65520) {
			t.Errorf("%d bytes and a Fixed one: the model answers %d", n, e)
		}
	}
}

// bad is a relocation of the Kind, at the place 0, whose value is below 0.
func bad(kind int) api.PRel { return api.PRel{Kind: kind, Add: -1 << 20} }

// badCode and badData are parts with a relocation that doesn't fit.
func badCode() api.PFunc { return fn([]uint32{high1}, bad(api.RelHigh)) }
func badData() api.PData {
	return api.PData{Align: 1, Size: 4, Bytes: []byte{1}, Rels: []api.PRel{bad(api.RelWord)}}
}

// P14.1: ErrRange of a function's relocation that doesn't fit, of each Kind; of data's; of both; of any one of several parts.
func TestDoesNotFit(t *testing.T) {
	good := api.Prog{Funcs: []api.PFunc{plain(1), plain(2), plain(1)}, Datas: []api.PData{other(1, 1, 1), other(4, 4, 2), fixed(1, 2, 3)}}
	// change answers the good program with bad parts: bits tell which, functions first.
	change := func(set int) api.Prog {
		p := api.Prog{Funcs: slices.Clone(good.Funcs), Datas: slices.Clone(good.Datas)}
		for k := range 3 {
			if set>>k&1 == 1 {
				p.Funcs[k] = badCode()
			}
			if set>>(3+k)&1 == 1 {
				p.Datas[k] = badData()
			}
		}
		return p
	}
	for set := range 1 << 6 {
		p := change(set)
		for _, o := range orders(3) {
			if set == 0 {
				if e := asModel(t, "each fits", p, o); e != api.OK {
					t.Errorf("each fits: the model answers %d", e)
				}
			} else {
				refused(t, fmt.Sprintf("those that don't fit: %06b", set), p, o, api.ErrRange)
			}
		}
	}
	for _, f := range []api.PFunc{fn([]uint32{call0}, to(0, 1)), fn([]uint32{jump0}, to(0, 1)), fn([]uint32{high1}, bad(api.RelHigh)), fn([]uint32{ori1}, bad(api.RelLow)),
		fn([]uint32{none, high1, ori1}, high(1, 0, -65536), low(2, 0, -65537))} {
		p := api.Prog{Funcs: []api.PFunc{f, plain(1), plain(1)}, Datas: []api.PData{other(1, 1)}}
		refused(t, fmt.Sprintf("%+v", f.Rels), p, []int{0, 2}, api.ErrRange)
		refused(t, fmt.Sprintf("%+v", f.Rels), p, []int{2, 0}, api.ErrRange)
	}
	// About the address 0.
	for add := -65540; add <= -65530; add++ {
		p := api.Prog{Funcs: []api.PFunc{fn([]uint32{high1, ori1}, high(0, 1, add), low(1, 1, add))}, Datas: []api.PData{other(1, 2), other(1, 1)}}
		if e := asModel(t, fmt.Sprint("Add ", add), p, []int{0}); (e == api.OK) != (add >= -65538) {
			t.Errorf("Add %d: the model answers %d", add, e)
		}
	}
}

// P14.1: chapter 12's errors come ahead of chapter 13's, ErrArg ahead of ErrLong.
func TestWhichErrorFirst(t *testing.T) {
	p := api.Prog{Funcs: []api.PFunc{badCode(), plain(65536), plain(1)}, Datas: []api.PData{badData()}}
	refused(t, "does not fit", p, []int{0}, api.ErrRange)
	refused(t, "too long, and doesn't fit", p, []int{0, 1}, api.ErrLong)
	refused(t, "too long, and doesn't fit", p, []int{1, 0}, api.ErrLong)
	refused(t, "twice the same, and doesn't fit", p, []int{0, 0}, api.ErrArg)
	refused(t, "no place, and doesn't fit", p, []int{0, 3}, api.ErrArg)
	refused(t, "without Entry, and doesn't fit", p, []int{2}, api.ErrArg)
	refused(t, "twice the same, too long, and doesn't fit", p, []int{0, 1, 0}, api.ErrArg)
	refused(t, "no place, too long, and doesn't fit", p, []int{0, 1, -1}, api.ErrArg)
	refused(t, "without Entry, and too long", p, []int{1, 2}, api.ErrArg)
	p.Datas = append(p.Datas, filler(65536)...)
	refused(t, "too many bytes, and doesn't fit", p, []int{0}, api.ErrLong)
	refused(t, "no order, too many bytes, and doesn't fit", p, []int{0, 0}, api.ErrArg)
	p.Funcs[0] = plain(1)
	refused(t, "too many bytes, and data that don't fit", p, []int{0}, api.ErrLong)
	p = api.Prog{Funcs: []api.PFunc{fn([]uint32{call0}, to(0, 1)), plain(1)}, Datas: filler(65537)}
	refused(t, "too many bytes, and a call of one that is left out", p, []int{0}, api.ErrLong)
}

// P14.1: a function that doesn't fit is no fault, if it is left out; a call of it is.
func TestBadOneLeftOut(t *testing.T) {
	p := api.Prog{Funcs: []api.PFunc{fn([]uint32{halt1}), badCode(), fn([]uint32{jump0}, to(0, 1))}, Datas: []api.PData{other(1, 1, 5)}}
	is(t, "the bad one left out", p, []int{0}, api.Image{Code: []uint32{halt1}, Data: []byte{5}, More: 256})
	refused(t, "the bad one behind", p, []int{0, 1}, api.ErrRange)
	refused(t, "the bad one ahead", p, []int{1, 0}, api.ErrRange)
	refused(t, "a call of the bad one", p, []int{0, 2}, api.ErrRange)
	refused(t, "a call of the bad one, ahead", p, []int{2, 0}, api.ErrRange)
	p.Funcs[1] = plain(1)
	is(t, "no bad one", p, []int{2, 0, 1}, api.Image{Code: []uint32{0x13000001, halt1, none}, Entry: 1, Data: []byte{5}, More: 256})
}

// rel is a relocation of an object.
func rel(at, kind int, name string, add int) api.Rel {
	return api.Rel{At: at, Kind: kind, Name: name, Add: add}
}

// fun is a Strong function of an object.
func fun(name string, words []uint32, rels ...api.Rel) api.Func {
	return api.Func{Name: name, Bind: api.Strong, Code: words, Rels: rels}
}

// dat is Strong data of an object.
func dat(name string, align, size int, bytes []byte, rels ...api.Rel) api.Data {
	return api.Data{Name: name, Bind: api.Strong, Align: align, Size: size, Bytes: bytes, Rels: rels}
}

// funcs is an object of functions.
func funcs(l ...api.Func) api.Object { return api.Object{Funcs: l} }

// datas is an object of data.
func datas(l ...api.Data) api.Object { return api.Object{Datas: l} }

// ordinaryObjects are objects whose functions and data name one another, by local, weak, strong and common names: they put out a byte of each of two data, and end with the number 7.
func ordinaryObjects() []api.Object {
	weak := fun("show", []uint32{0x19000000})
	weak.Bind = api.Weak
	local := fun("f", []uint32{0x0d210000, 0x17200000, ret}) // r2 = the byte at r1; Out 2; Ret
	local.Bind = api.Local
	mine := dat("d", 2, 3, []byte{'m'})
	mine.Bind = api.Local
	mine.Fixed = true
	common := api.Data{Name: "c", Bind: api.Common, Align: 4, Size: 4}
	wide := api.Data{Name: "c", Bind: api.Common, Align: 8, Size: 6}
	return []api.Object{
		{
			Funcs: []api.Func{weak, local, fun("main", []uint32{high1, ori1, call0, call0, jump0},
				rel(0, api.RelHigh, "d", 0), rel(1, api.RelLow, "d", 0), rel(2, api.RelCall, "f", 0), rel(3, api.RelCall, "show", 0), rel(4, api.RelCall, "f.7", 0))},
			Datas: []api.Data{mine, common},
			Notes: []api.Note{{Name: "f", Kind: api.NoteLeaf}, {Name: "main", Kind: api.NoteKeep}},
		},
		{
			// r1 = the word at p; r2 = the byte there; Out 2; Ret
			Funcs: []api.Func{fun("show", []uint32{high1, ori1, 0x0b110000, 0x0d210000, 0x17200000, ret}, rel(0, api.RelHigh, "p", 0), rel(1, api.RelLow, "p", 0))},
			Datas: []api.Data{wide, dat("p", 4, 4, nil, rel(0, api.RelWord, "d", 2))},
		},
		{
			// r1 = 7; the word at c = r1; r1 = the word there; Halt 1
			Funcs: []api.Func{fun("f.7", []uint32{0x08100007, 0x09200000, 0x0a220000, 0x0c120000, 0x0b120000, halt1}, rel(1, api.RelHigh, "c", 0), rel(2, api.RelLow, "c", 0))},
			Datas: []api.Data{dat("d", 1, 3, []byte("abz"))},
		},
	}
}

// P14.1: Objects that are ordinary, all of it written out, and run to their end.
func TestOrdinaryObjects(t *testing.T) {
	l := ordinaryObjects()
	want := api.Image{Entry: 3, Write: 16, More: 256, Code: []uint32{
		0x0d210000, 0x17200000, ret,
		0x09100001, 0x0a110000, 0x14fffffa, 0x14000001, 0x13000006,
		0x09100001, 0x0a110018, 0x0b110000, 0x0d210000, 0x17200000, ret,
		0x08100007, 0x09200001, 0x0a220010, 0x0c120000, 0x0b120000, halt1,
	}}
	// mine at 0, Write at 16: c there (6 bytes, aligned by 8), p at 24, d behind it.
	want.Data = make([]byte, 31)
	want.Data[0] = 'm'
	copy(want.Data[24:], []byte{30, 0, 1, 0, 'a', 'b', 'z'})
	objectsAre(t, "ordinary", l, want)
	runs(t, "ordinary", want, "", 7, "mz")
	for _, o := range orders(3) {
		m, e := Objects([]api.Object{l[o[0]], l[o[1]], l[o[2]]})
		if e != api.OK {
			t.Errorf("the objects %v: error %d", o, e)
		}
		runs(t, fmt.Sprint("the objects ", o), m, "", 7, "mz")
	}
}

// P14.1: Objects is Program of what chapter 11 makes of them, all functions in order.
func TestObjectsIsProgram(t *testing.T) {
	l := ordinaryObjects()
	p, e := names.Resolve(l)
	if e != api.OK || len(p.Funcs) != 4 {
		t.Fatal(e, len(p.Funcs))
	}
	want, e := model(p, []int{0, 1, 2, 3})
	if e != api.OK {
		t.Fatal(e)
	}
	objectsAre(t, "as a program", l, want)
	is(t, "as objects", p, []int{0, 1, 2, 3}, want)
	// Functions that nobody calls stand there, too.
	l = []api.Object{funcs(fun("a", []uint32{ret}), fun("main", []uint32{halt1}), fun("z", []uint32{0x19000000}))}
	objectsAre(t, "functions that nobody calls", l, api.Image{Code: []uint32{ret, halt1, 0x19000000}, Entry: 1, More: 256})
}

// P14.1: each error of chapter 11 that Objects hands on.
func TestErrorsOfNames(t *testing.T) {
	main := fun("main", []uint32{halt1})
	begin := funcs(main)
	objectsRefused(t, "no objects", api.ErrNone)
	objectsRefused(t, "an object of nothing", api.ErrNone, api.Object{})
	objectsRefused(t, "no main", api.ErrNone, funcs(fun("f", []uint32{ret})))
	many := slices.Repeat([]api.Object{{}}, 15)
	objectsAre(t, "16 objects", append(slices.Clone(many), begin), api.Image{Code: []uint32{halt1}, More: 256})
	objectsRefused(t, "17 objects", api.ErrLong, append(slices.Clone(many), begin, api.Object{})...)
	objectsRefused(t, "17 objects, one of them wrong", api.ErrLong, append(slices.Clone(many), begin, funcs(fun("f", nil)))...)
	for _, row := range []struct {
		what string
		o    api.Object
		want api.Errno
	}{
		{"no code", funcs(fun("f", nil)), api.ErrForm},
		{"no instruction", funcs(fun("f", []uint32{0xffffffff, ret})), api.ErrCode},
		{"a Call without a relocation", funcs(fun("f", []uint32{call0, ret})), api.ErrForm},
		{"a Jump that leads out", funcs(fun("f", []uint32{0x13000001, ret})), api.ErrRange},
		{"it falls", funcs(fun("f", []uint32{none})), api.ErrForm},
		{"an Align that can't be", datas(dat("d", 3, 1, nil)), api.ErrForm},
		{"a Size of 0", datas(dat("d", 1, 0, nil)), api.ErrForm},
		{"a note of nobody", api.Object{Notes: []api.Note{{Name: "f", Kind: api.NoteKeep}}}, api.ErrForm},
		{"no name", funcs(fun("", []uint32{ret})), api.ErrForm},
		{"two strong", funcs(main), api.ErrTwice},
		{"two strong, one of them data", datas(dat("main", 1, 1, nil)), api.ErrTwice},
		{"a name that nothing has", funcs(fun("f", []uint32{call0, ret}, rel(0, api.RelCall, "g", 0))), api.ErrNone},
		{"data's name that nothing has", datas(dat("d", 1, 4, nil, rel(0, api.RelWord, "g", 0))), api.ErrNone},
		{"a call of data", api.Object{Funcs: []api.Func{fun("f", []uint32{call0, ret}, rel(0, api.RelCall, "d", 0))}, Datas: []api.Data{dat("d", 1, 1, nil)}}, api.ErrKind},
		{"the upper half of a function", funcs(fun("f", []uint32{high1, ret}, rel(0, api.RelHigh, "main", 0))), api.ErrKind},
		{"the lower half of a function", funcs(fun("f", []uint32{ori1, ret}, rel(0, api.RelLow, "main", 0))), api.ErrKind},
		{"a word that is a function", datas(dat("d", 1, 4, nil, rel(0, api.RelWord, "main", 0))), api.ErrKind},
	} {
		objectsRefused(t, row.what, row.want, begin, row.o)
		objectsRefused(t, row.what+", ahead", row.want, row.o, begin)
	}
	objectsRefused(t, "main is data", api.ErrKind, datas(dat("main", 1, 1, nil)))
	local := main
	local.Bind = api.Local
	objectsRefused(t, "main is local", api.ErrNone, funcs(local))
}

// longCode answers objects of so many words beside main's, named by a letter and numbers.
func longCode(n int) []api.Object {
	var l []api.Object
	for k := 0; n > 0; k++ {
		if k%60 == 0 {
			l = append(l, api.Object{})
		}
		some := min(n, 2000)
		f := fun(fmt.Sprint("w", k), append(slices.Repeat([]uint32{none}, some-1), ret))
		l[len(l)-1].Funcs = append(l[len(l)-1].Funcs, f)
		n -= some
	}
	return l
}

// longData answers objects of so many bytes of data, named by a letter and numbers.
func longData(n int) []api.Object {
	var l []api.Object
	for k := 0; n > 0; k++ {
		if k%60 == 0 {
			l = append(l, api.Object{})
		}
		some := min(n, 4096)
		l[len(l)-1].Datas = append(l[len(l)-1].Datas, dat(fmt.Sprint("b", k), 1, some, nil))
		n -= some
	}
	return l
}

// P14.1: chapter 12's and 13's errors of Objects, and which of all comes first.
func TestErrorsBehindNames(t *testing.T) {
	begin := funcs(fun("main", []uint32{halt1}))
	out := api.Object{Funcs: []api.Func{fun("f", []uint32{high1, ret}, rel(0, api.RelHigh, "d", -1<<20))}, Datas: []api.Data{dat("d", 1, 1, nil)}}
	outData := datas(dat("d", 1, 4, nil, rel(0, api.RelWord, "d", -65537)))
	with := func(l []api.Object, more ...api.Object) []api.Object { return append(more, l...) }
	if m, e := Objects(with(longCode(65535), begin)); e != api.OK || len(m.Code) != 65536 {
		t.Errorf("so many words as may be: error %d, %d words", e, len(m.Code))
	}
	if m, e := Objects(with(longData(65536), begin)); e != api.OK || len(m.Data) != 65536 {
		t.Errorf("so many bytes as may be: error %d, %d bytes", e, len(m.Data))
	}
	objectsRefused(t, "more words than may be", api.ErrLong, with(longCode(65536), begin)...)
	objectsRefused(t, "more bytes than may be", api.ErrLong, with(longData(65537), begin)...)
	objectsRefused(t, "a function that doesn't fit", api.ErrRange, begin, out)
	objectsRefused(t, "a function that doesn't fit, ahead", api.ErrRange, out, begin)
	objectsRefused(t, "data that don't fit", api.ErrRange, begin, outData)
	objectsRefused(t, "too many words, and doesn't fit", api.ErrLong, with(longCode(65536), begin, out)...)
	objectsRefused(t, "too many bytes, and doesn't fit", api.ErrLong, with(longData(65537), begin, outData)...)
	twice := funcs(fun("main", []uint32{ret}))
	objectsRefused(t, "two strong, too many words, and doesn't fit", api.ErrTwice, with(longCode(65536), begin, out, twice)...)
	objectsRefused(t, "two strong, and too many bytes", api.ErrTwice, with(longData(65537), begin, twice)...)
	objectsRefused(t, "no main, too many words, and doesn't fit", api.ErrNone, with(longCode(65537), out)...)
	missing := funcs(fun("g", []uint32{jump0}, rel(0, api.RelCall, "h", 0)))
	objectsRefused(t, "a name that nothing has, and doesn't fit", api.ErrNone, begin, out, missing)
	kind := funcs(fun("g", []uint32{jump0}, rel(0, api.RelCall, "d", 0)))
	objectsRefused(t, "a call of data, and doesn't fit", api.ErrKind, begin, out, kind)
	objectsRefused(t, "a wrong object, too many words, and doesn't fit", api.ErrCode, with(longCode(65536), begin, out, funcs(fun("x", []uint32{0xffffffff})))...)
}

// P14.1: Same: images that differ in one thing alone, and such as are alike.
func TestSame(t *testing.T) {
	base := func() api.Image {
		return api.Image{Code: []uint32{1, 2, 3}, Entry: 1, Data: []byte{4, 5, 6}, Write: 2, More: 7}
	}
	ask := func(what string, a, b api.Image, want bool) {
		t.Helper()
		if Same(a, b) != want || Same(b, a) != want {
			t.Errorf("%s: Same of %s and %s isn't %v", what, tell(a), tell(b), want)
		}
	}
	ask("alike", base(), base(), true)
	for what, change := range map[string]func(m *api.Image){
		"the first word":     func(m *api.Image) { m.Code[0]++ },
		"the middle word":    func(m *api.Image) { m.Code[1]++ },
		"the last word":      func(m *api.Image) { m.Code[2] ^= 1 << 31 },
		"two words turned":   func(m *api.Image) { m.Code[0], m.Code[1] = m.Code[1], m.Code[0] },
		"a word more":        func(m *api.Image) { m.Code = append(m.Code, 0) },
		"a word less":        func(m *api.Image) { m.Code = m.Code[:2] },
		"the first one less": func(m *api.Image) { m.Code = m.Code[1:] },
		"no words":           func(m *api.Image) { m.Code = nil },
		"Entry":              func(m *api.Image) { m.Entry++ },
		"Entry far":          func(m *api.Image) { m.Entry += 1 << 32 },
		"the first byte":     func(m *api.Image) { m.Data[0]++ },
		"the middle byte":    func(m *api.Image) { m.Data[1]++ },
		"the last byte":      func(m *api.Image) { m.Data[2] ^= 128 },
		"two bytes turned":   func(m *api.Image) { m.Data[1], m.Data[2] = m.Data[2], m.Data[1] },
		"a byte more":        func(m *api.Image) { m.Data = append(m.Data, 0) },
		"a byte less":        func(m *api.Image) { m.Data = m.Data[:2] },
		"no bytes":           func(m *api.Image) { m.Data = nil },
		"Write":              func(m *api.Image) { m.Write-- },
		"More":               func(m *api.Image) { m.More++ },
		"Write and More":     func(m *api.Image) { m.Write, m.More = m.More, m.Write },
		"Entry and Write":    func(m *api.Image) { m.Entry, m.Write = m.Write, m.Entry },
		"Entry and More":     func(m *api.Image) { m.Entry, m.More = m.More, m.Entry },
		"all":                func(m *api.Image) { *m = api.Image{} },
	} {
		m := base()
		change(&m)
		ask(what, base(), m, false)
		ask(what, m, m, true)
	}
	wide := base()
	wide.Code, wide.Data = append(wide.Code, 9)[:3], append(wide.Data, 9)[:3]
	ask("room behind", base(), wide, true)
	ask("nil and empty", api.Image{}, api.Image{Code: []uint32{}, Data: []byte{}}, true)
	ask("nil and empty words", api.Image{Data: []byte{1}}, api.Image{Code: []uint32{}, Data: []byte{1}}, true)
	ask("nil and a zero", api.Image{}, api.Image{Code: []uint32{0}}, false)
	ask("nil and a zero byte", api.Image{}, api.Image{Data: []byte{0}}, false)
	for _, entry := range []int{math.MinInt, -1, math.MaxInt} {
		ask("Entry", api.Image{Entry: entry}, api.Image{Entry: entry}, true)
		ask("Entry", api.Image{Entry: entry}, api.Image{}, false)
	}
}

// P14.1: Same holds of what is linked twice, and not of two orders whose words differ.
func TestSameOfLinked(t *testing.T) {
	p := ordinary()
	all := orders(4)
	for _, a := range all {
		m, _ := Program(p, a)
		for _, b := range all {
			n, _ := Program(p, b)
			if Same(m, n) != slices.Equal(a, b) {
				t.Errorf("the orders %v and %v: Same is %v", a, b, Same(m, n))
			}
		}
	}
}

// chance makes numbers, the same ones each time.
type chance struct{ state uint64 }

// below answers a number from 0 to n - 1.
func (c *chance) below(n int) int {
	c.state = c.state*6364136223846793005 + 1442695040888963407
	return int(c.state >> 33 % uint64(n))
}

// one answers whether a thing that comes once in n does.
func (c *chance) one(n int) bool { return c.below(n) == 0 }

// shuffled answers all the numbers below n in some order.
func (c *chance) shuffled(n int) []int {
	var l []int
	for f := range n {
		l = slices.Insert(l, c.below(len(l)+1), f)
	}
	return l
}

// order answers an order of so many functions; now and then without some, and now and then one that can't be.
func (c *chance) order(n int) []int {
	l := c.shuffled(n)
	if c.one(3) {
		l = l[:c.below(n+1)]
	}
	if c.one(12) {
		l = slices.Insert(l, c.below(len(l)+1), c.below(n+2)-1)
	}
	return l
}

// add answers an Add: a small one, or, now and then, one that leads near to the address 0, or any one.
func (c *chance) add() int {
	switch c.below(60) {
	case 0:
		return -65536 - c.below(200) + 80
	case 1:
		return c.below(1<<21+1) - 1<<20
	case 2:
		return c.below(1 << 20)
	}
	return c.below(2000) - 1000
}

// function answers a function of words of any kind, with relocations where they go.
func (c *chance) function(funcs, datas int) api.PFunc {
	var f api.PFunc
	dense := 1 + c.below(6)
	for n := range c.below(20) {
		if c.below(dense) > 0 {
			f.Code = append(f.Code, uint32(c.below(1<<31))<<1|uint32(c.below(2)))
			continue
		}
		kind := 1 + c.below(3)
		if datas == 0 {
			kind = api.RelCall
		}
		switch kind {
		case api.RelCall:
			f.Code, f.Rels = append(f.Code, uint32(jump0+c.below(2)<<24+c.below(1<<24))), append(f.Rels, to(n, c.below(funcs)))
		case api.RelHigh:
			f.Code, f.Rels = append(f.Code, uint32(0x09000000+c.below(16)<<20+c.below(1<<16))), append(f.Rels, high(n, c.below(datas), c.add()))
		case api.RelLow:
			f.Code, f.Rels = append(f.Code, uint32(0x0a000000+c.below(1<<24))), append(f.Rels, low(n, c.below(datas), c.add()))
		}
	}
	return f
}

// data answers data with relocations where they go.
func (c *chance) data(datas int) api.PData {
	d := api.PData{Align: 1 + c.below(16), Fixed: c.one(2), Size: 1 + c.below(60)}
	if c.one(8) {
		d.Size = 1 + c.below(4096)
	}
	for range c.below(d.Size + 1) {
		d.Bytes = append(d.Bytes, byte(c.below(256)))
	}
	for at := c.below(20); at+4 <= d.Size; at += 4 + c.below(5)*c.below(40) {
		d.Rels = append(d.Rels, word(at, c.below(datas), c.add()))
	}
	return d
}

// program answers a program whose relocations are right; now and then it has many words, or bytes.
func (c *chance) program() api.Prog {
	var p api.Prog
	funcs, datas := 1+c.below(8), c.below(8)
	for range funcs {
		p.Funcs = append(p.Funcs, c.function(funcs, datas))
	}
	for range datas {
		p.Datas = append(p.Datas, c.data(datas))
	}
	if c.one(100) {
		p.Funcs[c.below(funcs)] = plain(65536 - c.below(100))
	}
	if c.one(100) {
		p.Datas = append(p.Datas, filler(65536-c.below(300))...)
	}
	p.Entry = c.below(funcs)
	return p
}

// P14.1: programs by chance, in orders by chance, against the model.
func TestByChance(t *testing.T) {
	c := &chance{1}
	count := map[api.Errno]int{}
	for k := range 10000 {
		p := c.program()
		for range 2 {
			count[asModel(t, fmt.Sprint("the program ", k), p, c.order(len(p.Funcs)))]++
		}
		if t.Failed() {
			t.Fatal("the first program that goes wrong")
		}
	}
	if count[api.OK] < 5000 || count[api.ErrArg] < 1000 || count[api.ErrLong] < 100 || count[api.ErrRange] < 1000 {
		t.Errorf("by chance came, by error: %v", count)
	}
}

// writer writes the code of a right function by chance, one that calls others behind it alone, so that each run of it ends.
type writer struct {
	*chance
	words []uint32
	rels  []api.Rel
}

// put writes a word.
func (w *writer) put(word uint32) { w.words = append(w.words, word) }

// call writes a call, or a jump, of the name.
func (w *writer) call(instruction uint32, name string) {
	w.rels = append(w.rels, rel(len(w.words), api.RelCall, name, 0))
	w.put(instruction)
}

// address writes what has the register get the address of the name, and a bit more.
func (w *writer) address(register uint32, name string) {
	add := w.below(16) - 2
	w.rels = append(w.rels, rel(len(w.words), api.RelHigh, name, add), rel(len(w.words)+1, api.RelLow, name, add))
	w.put(0x09000000 + register<<20)
	w.put(0x0a000000 + register<<20 + register<<16)
}

// piece writes some instructions that go on behind them.
func (w *writer) piece(callees, datas []string) {
	a, b := uint32(1+w.below(6)), uint32(1+w.below(6))
	switch w.below(9) {
	case 0, 1:
		if len(callees) > 0 {
			w.call(call0, callees[w.below(len(callees))])
		}
	case 2, 3, 4:
		// An address, and a word or a byte there, loaded or saved; a word asks for one that is a multiple of 4 now and then, and faults.
		if len(datas) > 0 {
			w.address(a, datas[w.below(len(datas))])
			w.put(uint32(0x0b+[]int{0, 2, 2, 3, 3, 1}[w.below(6)])<<24 + b<<20 + a<<16)
		}
	case 5:
		w.put(0x17000000 + a<<20)
	case 6:
		w.put(0x16000000 + a<<20)
	case 7:
		w.put(uint32(0x0f+w.below(4))<<24 + a<<20 + b<<16 + 1) // a branch over the next one
		w.put(0x08000000 + a<<20 + b<<16 + uint32(w.below(1<<16)))
	case 8:
		w.put(uint32(1+w.below(7))<<24 + a<<20 + b<<16 + uint32(w.below(7)))
	}
}

// wordsOf answers a function of a name, right, which calls these alone and asks for these data.
func (c *chance) wordsOf(name string, callees, datas []string) api.Func {
	w := &writer{chance: c}
	for range 1 + c.below(9) {
		w.piece(callees, datas)
	}
	switch {
	case len(callees) > 0 && c.one(5):
		w.call(jump0, callees[c.below(len(callees))])
	case c.one(30):
		w.put(0x19000000)
	case name == "main" || c.one(20):
		w.put(uint32(1+c.below(6)) << 20)
	default:
		w.put(ret)
	}
	return api.Func{Name: name, Bind: api.Strong + c.below(2), Code: w.words, Rels: w.rels}
}

// dataOf answers data of a name, right, which have the addresses of some others.
func (c *chance) dataOf(name string, datas []string) api.Data {
	d := api.Data{Name: name, Bind: []int{api.Strong, api.Weak, api.Common}[c.below(3)], Align: 1 << c.below(5), Size: 1 + c.below(40)}
	if d.Bind == api.Common {
		return d
	}
	d.Fixed = c.one(3)
	for range c.below(d.Size + 1) {
		d.Bytes = append(d.Bytes, byte(c.below(256)))
	}
	for at := c.below(20); at+4 <= d.Size; at += 4 + c.below(9) {
		d.Rels = append(d.Rels, rel(at, api.RelWord, datas[c.below(len(datas))], c.below(20)-5))
	}
	return d
}

// objects answers right objects whose runs end: each function calls those of greater numbers alone.
func (c *chance) objects() []api.Object {
	functions, data := []string{"main"}, []string{}
	for k := range 1 + c.below(7) {
		functions = append(functions, fmt.Sprint("f", k))
	}
	for k := range c.below(7) {
		data = append(data, fmt.Sprint("d", k))
	}
	l := make([]api.Object, 1+c.below(4))
	for _, k := range c.shuffled(len(functions)) {
		o := &l[c.below(len(l))]
		o.Funcs = append(o.Funcs, c.wordsOf(functions[k], functions[k+1:], data))
	}
	for _, k := range c.shuffled(len(data)) {
		o := &l[c.below(len(l))]
		o.Datas = append(o.Datas, c.dataOf(data[k], data))
	}
	return l
}

// P14.1: Objects by chance against the model, of the program that chapter 11 makes of them.
func TestObjectsByChance(t *testing.T) {
	c := &chance{2}
	right := 0
	for k := range 3000 {
		l := c.objects()
		for _, o := range l {
			if e := check.Object(o); e != api.OK {
				t.Fatalf("the objects %d aren't right: error %d", k, e)
			}
		}
		p, e := names.Resolve(l)
		if e != api.OK {
			t.Fatalf("the objects %d: error %d", k, e)
		}
		want, e := model(p, place.All(p))
		if e != api.OK {
			objectsRefused(t, fmt.Sprint("the objects ", k), e, l...)
		} else {
			objectsAre(t, fmt.Sprint("the objects ", k), l, want)
			right++
		}
		if t.Failed() {
			t.Fatal("the first objects that go wrong")
		}
	}
	if right < 2900 {
		t.Errorf("by chance came %d images", right)
	}
}

// P14.2: whatever the order, with all functions, the data are the same, and a run that ends is alike, with its steps and its memory.
func TestOrderChangesNoRun(t *testing.T) {
	c := &chance{3}
	ended, faults, put, moved := 0, map[int]int{}, 0, 0
	for k := range 2000 {
		p, e := names.Resolve(c.objects())
		if e != api.OK {
			t.Fatalf("the objects %d: error %d", k, e)
		}
		m, e := Program(p, place.All(p))
		if e != api.OK {
			t.Fatalf("the program %d: error %d", k, e)
		}
		for _, in := range []string{"", "splice"} {
			want := run.Do(m, []byte(in), 20000)
			if want.Ended {
				ended, put = ended+1, put+len(want.Out)
				faults[want.Fault]++
			}
			for range 6 {
				o := c.shuffled(len(p.Funcs))
				n, e := Program(p, o)
				if e != api.OK || !slices.Equal(m.Data, n.Data) || m.Write != n.Write || m.More != n.More || len(m.Code) != len(n.Code) {
					t.Fatalf("the program %d, order %v: error %d, %s; in order %s", k, o, e, tell(n), tell(m))
				}
				if !slices.Equal(m.Code, n.Code) {
					moved++
				}
				x := run.Do(n, []byte(in), 20000)
				if want.Ended && (!run.Alike(x, want) || x.Steps != want.Steps) {
					t.Fatalf("the program %d, order %v: %+v; in order %+v", k, o, x, want)
				}
			}
		}
	}
	if ended < 3500 || faults[api.FaultNone] < 1000 || faults[api.FaultLoad] < 100 || faults[api.FaultSave] < 100 || faults[api.FaultTrap] < 20 || put < 3000 || moved < 10000 {
		t.Errorf("%d runs ended, by fault %v; %d bytes put out, %d orders whose words differ", ended, faults, put, moved)
	}
}

// P14.2: each order of a program whose functions call one another in a ring: five bytes, one by each.
func TestRing(t *testing.T) {
	p := api.Prog{Entry: 3}
	for f := range 5 {
		// r1 = r1 + 1; the branch goes on, but of the fifth, which Halts; Out 1; Jump to the next function
		p.Funcs = append(p.Funcs, fn([]uint32{0x08110001, 0x09300000, 0x0a330000, 0x0d230000, 0x11120001, halt1, 0x17100000, jump0},
			high(1, 0, f), low(2, 0, f), to(7, (f+1)%5)))
	}
	p.Datas = []api.PData{fixed(1, 5, 99, 99, 5, 99, 99)}
	for _, o := range orders(5) {
		m, e := Program(p, o)
		if e != api.OK {
			t.Fatal(e)
		}
		runs(t, fmt.Sprint("order ", o), m, "", 5, "\x01\x02\x03\x04")
	}
}

// roomy answers the list with others in the room behind its length.
func roomy[T any](l []T, other T) []T {
	return append(slices.Clone(l), other, other, other)[:len(l)]
}

// room answers the list with the room behind its length.
func room[T any](l []T) []T { return l[:cap(l)] }

// fill writes the same over the list, and over the room behind its length.
func fill[T any](l []T, with T) {
	for k := range room(l) {
		room(l)[k] = with
	}
}

// some is a program, with something in the room behind each list's length, and an order of it.
func some() (api.Prog, []int) {
	p := ordinary()
	p.Funcs = append(p.Funcs, fn(nil), fn([]uint32{5, 6}), badCode())
	p.Datas = append(p.Datas, fixed(1, 2, 5, 6), other(1, 3))
	for k, f := range p.Funcs {
		p.Funcs[k].Code, p.Funcs[k].Rels = roomy(f.Code, 0xee), roomy(f.Rels, api.PRel{At: 9})
	}
	for k, d := range p.Datas {
		p.Datas[k].Bytes, p.Datas[k].Rels = roomy(d.Bytes, 0xee), roomy(d.Rels, api.PRel{At: 9})
	}
	p.Funcs, p.Datas = roomy(p.Funcs, plain(9)), roomy(p.Datas, other(1, 9))
	return p, roomy([]int{2, 5, 0, 4, 1, 3}, 77)
}

// show tells all of a program and of an order, with what stands in the room behind each list's length.
func show(p api.Prog, order []int) string {
	var text strings.Builder
	fmt.Fprintf(&text, "%+v %+v %d %v", room(p.Funcs), room(p.Datas), p.Entry, room(order))
	for _, f := range p.Funcs {
		fmt.Fprintf(&text, " %x %+v", room(f.Code), room(f.Rels))
	}
	for _, d := range p.Datas {
		fmt.Fprintf(&text, " %x %+v", room(d.Bytes), room(d.Rels))
	}
	return text.String()
}

// P14.3: what is handed in to Program stays, and the room behind each length, with an error, too.
func TestHandedInStays(t *testing.T) {
	p, order := some()
	old := show(p, order)
	want, e := model(p, order)
	if e != api.OK {
		t.Fatal(e)
	}
	is(t, "with room", p, order, want)
	refused(t, "does not fit", p, append(order[:6:6], 6), api.ErrRange)
	refused(t, "no order", p, order[:2], api.ErrArg)
	if now := show(p, order); now != old {
		t.Errorf("was %s\nis %s", old, now)
	}
}

// P14.3: what is answered is new memory: written over, with the room behind its length, it changes nothing handed in, nor what is answered next.
func TestAnswersAreNew(t *testing.T) {
	p, order := some()
	old := show(p, order)
	want, _ := model(p, order)
	for range 3 {
		m, _ := Program(p, order)
		fill(m.Code, 0x77777777)
		fill(m.Data, 0x77)
		if now := show(p, order); now != old {
			t.Fatalf("was %s\nis %s", old, now)
		}
		is(t, "again", p, order, want)
	}
	// One function, whose words have no relocation, and data that fill all there is, too.
	words, bytes := []uint32{halt1, 5}, []byte{1, 2, 3}
	p = api.Prog{Funcs: []api.PFunc{fn(words)}, Datas: []api.PData{other(1, 3, bytes...)}}
	m, _ := Program(p, []int{0})
	fill(m.Code, 0x77777777)
	fill(m.Data, 0x77)
	if !slices.Equal(words, []uint32{halt1, 5}) || !slices.Equal(bytes, []byte{1, 2, 3}) {
		t.Errorf("written over: %08x, %02x", words, bytes)
	}
}

// P14.3: what is answered stays, when what was handed in is written over, and when more is answered.
func TestAnswersStay(t *testing.T) {
	p, order := some()
	want, _ := model(p, order)
	m, _ := Program(p, order)
	for _, f := range p.Funcs {
		fill(f.Code, 0x77777777)
		fill(f.Rels, to(0, 0))
	}
	for _, d := range p.Datas {
		fill(d.Bytes, 0x77)
		fill(d.Rels, word(0, 0, 0))
	}
	fill(order, 0)
	fill(p.Funcs, plain(5))
	fill(p.Datas, other(1, 5, 9))
	Program(p, []int{1})
	if !equal(m, want) {
		t.Errorf("it is %s now; was %s", tell(m), tell(want))
	}
}

// someObjects are objects with something in the room behind each list's length.
func someObjects() []api.Object {
	l := roomy(ordinaryObjects(), funcs(fun("other", nil)))
	for k, o := range l {
		for n, f := range o.Funcs {
			o.Funcs[n].Code, o.Funcs[n].Rels = roomy(f.Code, 0xee), roomy(f.Rels, api.Rel{At: 9})
		}
		for n, d := range o.Datas {
			o.Datas[n].Bytes, o.Datas[n].Rels = roomy(d.Bytes, 0xee), roomy(d.Rels, api.Rel{At: 9})
		}
		l[k].Funcs, l[k].Datas, l[k].Notes = roomy(o.Funcs, fun("g", nil)), roomy(o.Datas, dat("e", 1, 1, nil)), roomy(o.Notes, api.Note{Name: "n"})
	}
	return l
}

// showObjects tells all of the objects, with what stands in the room behind each list's length.
func showObjects(l []api.Object) string {
	var text strings.Builder
	fmt.Fprintf(&text, "%+v", room(l))
	for _, o := range l {
		fmt.Fprintf(&text, " %+v %+v %+v", room(o.Funcs), room(o.Datas), room(o.Notes))
		for _, f := range o.Funcs {
			fmt.Fprintf(&text, " %x %+v", room(f.Code), room(f.Rels))
		}
		for _, d := range o.Datas {
			fmt.Fprintf(&text, " %x %+v", room(d.Bytes), room(d.Rels))
		}
	}
	return text.String()
}

// P14.3: objects that are handed in stay, and the room behind each length, with an error, too; what is answered is new memory, and stays.
func TestObjectsStay(t *testing.T) {
	l := someObjects()
	old := showObjects(l)
	want, e := Objects(ordinaryObjects())
	if e != api.OK {
		t.Fatal(e)
	}
	for range 3 {
		m, _ := Objects(l)
		fill(m.Code, 0x77777777)
		fill(m.Data, 0x77)
		objectsRefused(t, "no main", api.ErrNone, l[1:]...)
		if now := showObjects(l); now != old {
			t.Fatalf("was %s\nis %s", old, now)
		}
		objectsAre(t, "again", l, want)
	}
	m, _ := Objects(l)
	for k, o := range l {
		for _, f := range o.Funcs {
			fill(f.Code, 0x77777777)
			fill(f.Rels, api.Rel{})
		}
		for _, d := range o.Datas {
			fill(d.Bytes, 0x77)
			fill(d.Rels, api.Rel{})
		}
		fill(l[k].Funcs, fun("main", []uint32{ret}))
		fill(l[k].Datas, dat("d", 1, 1, []byte{9}))
	}
	Objects(l)
	if !equal(m, want) {
		t.Errorf("it is %s now; was %s", tell(m), tell(want))
	}
}

// P14.3: images that are handed in to Same stay, and the room behind each length.
func TestSameChangesNothing(t *testing.T) {
	a := api.Image{Code: roomy([]uint32{3, 1, 2}, 9), Data: roomy([]byte{3, 1, 2}, 9), Entry: 1, Write: 2, More: 3}
	b := api.Image{Code: roomy([]uint32{3, 1}, 8), Data: roomy([]byte{3, 1, 2, 4}, 8), Entry: 1, Write: 2, More: 3}
	tellAll := func() string {
		return fmt.Sprint(a, b, room(a.Code), room(a.Data), room(b.Code), room(b.Data))
	}
	old := tellAll()
	for _, x := range []api.Image{a, b, {}} {
		for _, y := range []api.Image{a, b, {}} {
			Same(x, y)
		}
	}
	if now := tellAll(); now != old {
		t.Errorf("was %s\nis %s", old, now)
	}
}

// Rule 6: what is answered hangs on the arguments alone: the same again, whatever is linked between.
func TestAgain(t *testing.T) {
	c := &chance{4}
	for range 200 {
		l := c.objects()
		m, e := Objects(l)
		Objects(c.objects())
		Program(ordinary(), []int{1})
		n, f := Objects(l)
		if e != f || !equal(m, n) {
			t.Fatalf("error %d, %s; again error %d, %s", e, tell(m), f, tell(n))
		}
	}
}

// P1: no call panics, whatever programs, orders and objects it is given, and nothing comes with an error.
func TestWhatever(t *testing.T) {
	huge := []int{math.MinInt, math.MinInt32, -65537, -65536, -17, -16, -2, -1, 0, 1, 2, 3, 4, 5, 16, 17, 4097, 65535, 65536, 65537, 1 << 20, 1<<20 + 1, math.MaxUint32, 1 << 40, 1<<40 + 1, math.MaxInt - 65536, math.MaxInt}
	ask := func(p api.Prog, order []int) {
		if m, e := Program(p, order); e != api.OK && (e < api.ErrArg || e > api.ErrOption || !nothing(m)) {
			t.Errorf("%+v, order %v: error %d, %s", p, order, e, tell(m))
		}
	}
	for _, a := range huge {
		for _, b := range huge {
			for _, at := range []bool{false, true} {
				d := api.PData{Align: a, Size: b, Fixed: at, Bytes: []byte{1, 2}}
				for _, datas := range [][]api.PData{{d}, {other(1, 5), d}, {d, other(4, 5)}, {d, d}, {fixed(1, 5), d}, {d, fixed(4, 5)}, {other(1, 9), other(1, 2), d}, {fixed(1, 9), other(1, 2), d, other(2, 3)}} {
					ask(api.Prog{Funcs: []api.PFunc{plain(1)}, Datas: datas}, []int{0})
				}
			}
			for kind := range 6 {
				r := api.PRel{At: a, To: b, Kind: kind}
				add := api.PRel{Add: a, To: max(0, min(b, 2)), Kind: kind}
				for _, rels := range [][]api.PRel{{r}, {add}} {
					ask(api.Prog{Funcs: []api.PFunc{fn([]uint32{call0, ori1, 0xffffffff}, rels...), plain(2)}, Datas: []api.PData{other(1, 7)}}, []int{0, 1})
					d := other(1, 7)
					d.Rels = rels
					ask(api.Prog{Funcs: []api.PFunc{plain(2)}, Datas: []api.PData{d, other(1, 7)}}, []int{0})
				}
			}
			ask(api.Prog{Funcs: []api.PFunc{plain(1), plain(1)}, Entry: a}, []int{1, b, 0})
			Same(api.Image{Entry: a, Write: b, More: a}, api.Image{Entry: b, Write: a, Code: []uint32{1}})
			d := dat("d", a, b, []byte{1}, rel(a, api.RelWord, "d", b))
			f := fun("main", []uint32{high1, halt1}, rel(a, b, "d", a))
			if m, e := Objects([]api.Object{{Funcs: []api.Func{f}, Datas: []api.Data{d}}}); e != api.OK && !nothing(m) {
				t.Errorf("%+v, %+v: error %d, %s", f, d, e, tell(m))
			}
		}
	}
}
