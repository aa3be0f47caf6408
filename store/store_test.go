package store

import (
	"bytes"
	"math"
	"slices"
	"testing"

	"splice/api"
)

// base is the first byte's address, as the chapter tells it.
const base = 65536

// most is how many bytes a memory has at most.
const most = 1 << 20

// count answers so many bytes, each unlike its neighbours and none of them 0; the room behind them holds other bytes.
func count(n int) []byte {
	b := make([]byte, n+9)
	for k := range b {
		b[k] = byte(k%251 + 1)
	}
	for k := n; k < len(b); k++ {
		b[k] = 0xee
	}
	return b[:n]
}

// addresses are those about the ends of a memory with n bytes, about the ends of all addresses, and such as are one of the memory's when bits are lost.
func addresses(n int) []uint32 {
	var l []uint32
	for d := -9; d <= n+9; d++ {
		l = append(l, uint32(base+d))
	}
	for d := range uint32(6) {
		l = append(l, d, math.MaxUint32-d, 1<<31+d, 1<<31-1-d, 1<<31+base+d, 1<<17+base+d, 1<<24+base+d)
	}
	return l
}

// writes are the ends of Write for a memory with n bytes: each of its places, those behind its end, below 0, and the ends of int.
func writes(n int) []int {
	l := []int{math.MinInt, math.MinInt32, -base, base, math.MaxInt32, math.MaxInt}
	for k := -5; k <= n+5; k++ {
		l = append(l, k)
	}
	return l
}

// words are words whose bytes are unlike, 0, and full.
func words() []uint32 {
	return []uint32{0, 1, 0xff, 0x100, 0x80, 0xffffff00, 0x12345678, 0xaabbccdd, 0x80000000, 0xffffffff}
}

// by answers the places among the memory's bytes of those at the address; none, if the word or byte may not be loaded, in the chapter's words.
func by(m api.Mem, at uint32, wide bool) []int64 {
	first := int64(at) - base
	places := []int64{first}
	if wide {
		if at%4 != 0 {
			return nil
		}
		places = append(places, first+1, first+2, first+3)
	}
	for _, p := range places {
		if p < 0 || p >= int64(len(m.Bytes)) {
			return nil
		}
	}
	return places
}

// loaded answers what Load has to, reckoned by sums.
func loaded(m api.Mem, at uint32, wide bool) (uint32, bool) {
	places := by(m, at, wide)
	w, worth := int64(0), int64(1)
	for _, p := range places {
		w += int64(m.Bytes[p]) * worth
		worth *= 256
	}
	return uint32(w), len(places) > 0
}

// saved answers the bytes that Save's memory has to have, and whether it may be saved, reckoned by divisions.
func saved(m api.Mem, at, w uint32, wide bool) ([]byte, bool) {
	places := by(m, at, wide)
	for _, p := range places {
		if p < int64(m.Write) {
			return m.Bytes, false
		}
	}
	b := slices.Clone(m.Bytes)
	rest := int64(w)
	for _, p := range places {
		b[p] = byte(rest % 256)
		rest /= 256
	}
	return b, len(places) > 0
}

// P5.1: words and bytes, written out; Write doesn't matter.
func TestLoad(t *testing.T) {
	five := []byte{0x01, 0x80, 0xff, 0x7f, 0xfe}
	nine := []byte{1, 2, 3, 4, 5, 6, 7, 8, 9}
	for _, x := range []struct {
		bytes []byte
		at    uint32
		wide  bool
		want  uint32
		ok    bool
	}{
		{five, base, true, 0x7fff8001, true},
		{five, base, false, 0x01, true},
		{five, base + 1, false, 0x80, true},
		{five, base + 2, false, 0xff, true},
		{five, base + 4, false, 0xfe, true},
		{five, base + 5, false, 0, false},
		{five, base + 4, true, 0, false},
		{five, base + 1, true, 0, false},
		{five, base - 1, false, 0, false},
		{five, base - 4, true, 0, false},
		{nine, base, true, 0x04030201, true},
		{nine, base + 4, true, 0x08070605, true},
		{nine, base + 8, true, 0, false},
		{nine, base + 8, false, 9, true},
		{nine, base + 9, false, 0, false},
		{nine, base + 12, true, 0, false},
		{nine, base + 1, true, 0, false},
		{nine, base + 2, true, 0, false},
		{nine, base + 3, true, 0, false},
		{nine, base + 3, false, 4, true},
		{nine, base + 5, true, 0, false},
		{nine, 0, true, 0, false},
		{nine, 0, false, 0, false},
		{nine, 4, true, 0, false},
		{nine, 0x80000000, true, 0, false},
		{nine, 0x80010000, true, 0, false},
		{nine, 0xfffffffc, true, 0, false},
		{nine, 0xfffffffc, false, 0, false},
		{nine, 0xffffffff, true, 0, false},
		{nine, 0xffffffff, false, 0, false},
		{[]byte{0, 0, 0, 0}, base, true, 0, true},
		{[]byte{0, 0, 0, 0}, base + 3, false, 0, true},
		{[]byte{255, 255, 255, 255}, base, true, 0xffffffff, true},
		{[]byte{0, 0, 0, 0x80}, base, true, 0x80000000, true},
		{[]byte{7}, base, false, 7, true},
		{[]byte{7}, base, true, 0, false},
		{[]byte{7, 8, 9}, base, true, 0, false},
		{[]byte{}, base, false, 0, false},
		{[]byte{}, base, true, 0, false},
		{nil, base, false, 0, false},
		{nil, base, true, 0, false},
		{nil, 0, false, 0, false},
		{nil, 0xffffffff, false, 0, false},
	} {
		for _, write := range writes(len(x.bytes)) {
			w, ok := Load(api.Mem{Write: write, Bytes: x.bytes}, x.at, x.wide)
			if w != x.want || ok != x.ok {
				t.Errorf("Load(%v from %d on, %#x, %v) = %#x, %v, want %#x, %v", x.bytes, write, x.at, x.wide, w, ok, x.want, x.ok)
			}
		}
	}
}

// P5.1: memories of few bytes, at every address about them and at the ends of all; 0 and false, where nothing is to be loaded.
func TestLoadOfAll(t *testing.T) {
	for n := range 18 {
		m := api.Mem{Bytes: count(n)}
		for _, at := range addresses(n) {
			for _, wide := range []bool{false, true} {
				got, ok := Load(m, at, wide)
				want, may := loaded(m, at, wide)
				if got != want || ok != may {
					t.Errorf("Load(%d bytes, %#x, %v) = %#x, %v, want %#x, %v", n, at, wide, got, ok, want, may)
				}
			}
		}
	}
}

// P5.1: words and bytes, written out, with Write ahead of them, within, and behind.
func TestSave(t *testing.T) {
	old := []byte{1, 2, 3, 4, 5, 6, 7, 8, 9, 10}
	const w = 0xaabbccdd
	for _, x := range []struct {
		write int
		at    uint32
		wide  bool
		want  []byte
		ok    bool
	}{
		{0, base, true, []byte{0xdd, 0xcc, 0xbb, 0xaa, 5, 6, 7, 8, 9, 10}, true},
		{0, base + 4, true, []byte{1, 2, 3, 4, 0xdd, 0xcc, 0xbb, 0xaa, 9, 10}, true},
		{0, base, false, []byte{0xdd, 2, 3, 4, 5, 6, 7, 8, 9, 10}, true},
		{0, base + 3, false, []byte{1, 2, 3, 0xdd, 5, 6, 7, 8, 9, 10}, true},
		{0, base + 9, false, []byte{1, 2, 3, 4, 5, 6, 7, 8, 9, 0xdd}, true},
		{-1, base, true, []byte{0xdd, 0xcc, 0xbb, 0xaa, 5, 6, 7, 8, 9, 10}, true},
		{-1, base, false, []byte{0xdd, 2, 3, 4, 5, 6, 7, 8, 9, 10}, true},
		{math.MinInt, base + 4, true, []byte{1, 2, 3, 4, 0xdd, 0xcc, 0xbb, 0xaa, 9, 10}, true},
		{4, base + 4, true, []byte{1, 2, 3, 4, 0xdd, 0xcc, 0xbb, 0xaa, 9, 10}, true},
		{4, base + 4, false, []byte{1, 2, 3, 4, 0xdd, 6, 7, 8, 9, 10}, true},
		{3, base + 3, false, []byte{1, 2, 3, 0xdd, 5, 6, 7, 8, 9, 10}, true},
		{9, base + 9, false, []byte{1, 2, 3, 4, 5, 6, 7, 8, 9, 0xdd}, true},
		{4, base, true, old, false},
		{4, base, false, old, false},
		{4, base + 3, false, old, false},
		{1, base, true, old, false},
		{2, base, true, old, false},
		{3, base, true, old, false},
		{5, base + 4, true, old, false},
		{7, base + 4, true, old, false},
		{8, base + 4, true, old, false},
		{5, base + 4, false, old, false},
		{10, base + 9, false, old, false},
		{10, base + 10, false, old, false},
		{11, base + 9, false, old, false},
		{math.MaxInt, base + 9, false, old, false},
		{math.MaxInt, base + 4, true, old, false},
		{0, base + 8, true, old, false},
		{0, base + 10, false, old, false},
		{0, base + 12, true, old, false},
		{0, base + 1, true, old, false},
		{0, base + 2, true, old, false},
		{0, base + 3, true, old, false},
		{0, base + 6, true, old, false},
		{0, base - 1, false, old, false},
		{0, base - 4, true, old, false},
		{-4, base - 4, true, old, false},
		{-1, base - 1, false, old, false},
		{math.MinInt, 0, true, old, false},
		{math.MinInt, 0, false, old, false},
		{0, 0xfffffffc, true, old, false},
		{0, 0xffffffff, true, old, false},
		{0, 0xffffffff, false, old, false},
		{0, 0x80010000, true, old, false},
	} {
		m := api.Mem{Write: x.write, Bytes: slices.Clone(old)}
		n, ok := Save(m, x.at, w, x.wide)
		if ok != x.ok || n.Write != x.write || !bytes.Equal(n.Bytes, x.want) {
			t.Errorf("Save(from %d on, %#x, %v) = %v from %d on, %v, want %v, %v", x.write, x.at, x.wide, n.Bytes, n.Write, ok, x.want, x.ok)
		}
		if !bytes.Equal(m.Bytes, old) {
			t.Errorf("Save(from %d on, %#x, %v) made %v of what was handed in", x.write, x.at, x.wide, m.Bytes)
		}
	}
}

// P5.1: in memories without bytes nothing is saved, whatever Write is.
func TestSaveInNothing(t *testing.T) {
	for _, b := range [][]byte{nil, {}, count(0)} {
		for _, write := range writes(0) {
			for _, at := range addresses(0) {
				for _, wide := range []bool{false, true} {
					n, ok := Save(api.Mem{Write: write, Bytes: b}, at, 0xffffffff, wide)
					if ok || len(n.Bytes) != 0 || n.Write != write {
						t.Errorf("Save(nothing from %d on, %#x, %v) = %+v, %v", write, at, wide, n, ok)
					}
				}
			}
		}
	}
}

// agree tells where Save doesn't answer what it has to, changes what was handed in, or isn't loaded as it was saved.
func agree(t *testing.T, m api.Mem, at, w uint32, wide bool) {
	t.Helper()
	room := slices.Clone(m.Bytes[:cap(m.Bytes)])
	want, may := saved(m, at, w, wide)
	n, ok := Save(m, at, w, wide)
	if ok != may || n.Write != m.Write || !bytes.Equal(n.Bytes, want) {
		t.Errorf("Save(%v from %d on, %#x, %#x, %v) = %v from %d on, %v, want %v, %v", m.Bytes, m.Write, at, w, wide, n.Bytes, n.Write, ok, want, may)
	}
	if !bytes.Equal(m.Bytes[:cap(m.Bytes)], room) {
		t.Errorf("Save(from %d on, %#x, %#x, %v) made %v of %v", m.Write, at, w, wide, m.Bytes[:cap(m.Bytes)], room)
	}
	if !wide {
		w %= 256
	}
	if got, there := Load(n, at, wide); ok && (got != w || !there) {
		t.Errorf("Save(from %d on, %#x, %#x, %v) is loaded as %#x, %v", m.Write, at, w, wide, got, there)
	}
}

// P5.1, P5.2: memories of few bytes, every Write, every address about them and at the ends of all: what is refused answers the memory as it was, what is saved is loaded, and no other byte changes.
func TestSaveOfAll(t *testing.T) {
	for n := range 11 {
		for _, write := range writes(n) {
			m := api.Mem{Write: write, Bytes: count(n)}
			for _, at := range addresses(n) {
				for _, w := range words() {
					agree(t, m, at, w, false)
					agree(t, m, at, w, true)
				}
			}
		}
	}
}

// P5.1, P5.2: a byte saved is the lowest of the word; the word's others go nowhere.
func TestSaveOfLowestByte(t *testing.T) {
	for low := range uint32(256) {
		for _, upper := range []uint32{0, 0x00000100, 0x12345600, 0x80000000, 0xffffff00} {
			m := api.Mem{Bytes: []byte{9, 9, 9, 9, 9, 9, 9, 9}}
			for k := range 8 {
				n, ok := Save(m, uint32(base+k), upper|low, false)
				want := []byte{9, 9, 9, 9, 9, 9, 9, 9}
				want[k] = byte(low)
				if !ok || !bytes.Equal(n.Bytes, want) {
					t.Errorf("Save of %#x as the byte %d = %v, %v, want %v", upper|low, k, n.Bytes, ok, want)
				}
			}
		}
	}
}

// P5.1: of the most bytes that a memory has, the first, the last, and those behind them; an address isn't taken for a place.
func TestMostBytes(t *testing.T) {
	for _, spare := range []int{0, 1, 2, 3, 4} {
		n := most - spare
		m := api.Mem{Write: n - 6, Bytes: count(n)}
		for _, at := range append(addresses(0), base+most/2, base+most/2+1, most, most+base/2) {
			holds(t, m, at)
		}
		for d := -9; d <= 9; d++ {
			holds(t, m, uint32(base+n+d))
		}
	}
}

// holds tells where a word or a byte at the address isn't loaded or saved as it has to be.
func holds(t *testing.T, m api.Mem, at uint32) {
	t.Helper()
	const w = 0x98765432
	for _, wide := range []bool{false, true} {
		got, ok := Load(m, at, wide)
		if want, may := loaded(m, at, wide); got != want || ok != may {
			t.Errorf("Load(%d bytes, %#x, %v) = %#x, %v, want %#x, %v", len(m.Bytes), at, wide, got, ok, want, may)
		}
		n, ok := Save(m, at, w, wide)
		if want, may := saved(m, at, w, wide); ok != may || n.Write != m.Write || !bytes.Equal(n.Bytes, want) {
			t.Errorf("Save(%d bytes from %d on, %#x, %v): %v, want %v", len(m.Bytes), m.Write, at, wide, ok, may)
		}
	}
}

// P5.2: saves behind one another, some over others and some refused, against a plain list of bytes.
func TestSavesBehindOneAnother(t *testing.T) {
	const n, write = 23, 5
	m := api.Mem{Write: write, Bytes: count(n)}
	own := slices.Clone(m.Bytes)
	first := m
	for k := range uint32(5000) {
		at := base - 3 + k*7%(n+6)
		w, wide := k*0x9e3779b1, k%3 != 0
		own, _ = saved(api.Mem{Write: write, Bytes: own}, at, w, wide)
		m, _ = Save(m, at, w, wide)
		if !bytes.Equal(m.Bytes, own) || m.Write != write {
			t.Fatalf("behind %d saves %v from %d on, want %v", k+1, m.Bytes, m.Write, own)
		}
	}
	if !bytes.Equal(own[:write], count(n)[:write]) || bytes.Equal(own[8:], count(n)[8:]) {
		t.Errorf("the saves came to %v", own)
	}
	if !bytes.Equal(first.Bytes, count(n)) {
		t.Errorf("the first memory became %v", first.Bytes)
	}
}

// P5.2: of a word four bytes are loaded, the lowest first; of four bytes saved, a word.
func TestWordsOfBytes(t *testing.T) {
	for _, w := range words() {
		n, ok := Save(api.Mem{Bytes: make([]byte, 12)}, base+4, w, true)
		b := api.Mem{Bytes: make([]byte, 12)}
		for k := range uint32(4) {
			low, there := Load(n, base+4+k, false)
			if !ok || !there || low != w>>(8*k)%256 {
				t.Errorf("the byte %d of %#x is %#x", k, w, low)
			}
			b, _ = Save(b, base+4+k, low, false)
		}
		if got, _ := Load(b, base+4, true); got != w || !bytes.Equal(b.Bytes, n.Bytes) {
			t.Errorf("the bytes of %#x are the word %#x", w, got)
		}
	}
}

// P5.3: what is handed in stays, and so does the room behind its length; loads change nothing.
func TestHandedInStays(t *testing.T) {
	back := []byte{1, 2, 3, 4, 5, 6, 7, 8, 9, 10, 11, 12}
	own := slices.Clone(back)
	for _, n := range []int{4, 6, 8} {
		for _, at := range addresses(len(back)) {
			for _, wide := range []bool{false, true} {
				m := api.Mem{Bytes: back[:n]}
				Load(m, at, wide)
				Save(m, at, 0xffffffff, wide)
				if !bytes.Equal(back, own) || len(m.Bytes) != n || m.Write != 0 {
					t.Fatalf("a load and a save at %#x, %v of %d bytes made %v", at, wide, n, back)
				}
			}
		}
	}
}

// P5.3: what Save answers with true is new memory: it shares none with what was handed in, nor with another answer, the room behind it neither; that what is saved stood there before is no matter.
func TestSaveIsNew(t *testing.T) {
	for _, w := range []uint32{0xffffffff, 0x04030201} {
		for _, wide := range []bool{false, true} {
			m := api.Mem{Bytes: []byte{1, 2, 3, 4, 5, 6}}
			first, ok := Save(m, base, w, wide)
			second, again := Save(m, base, w, wide)
			want := slices.Clone(first.Bytes)
			if !ok || !again || !bytes.Equal(second.Bytes, want) {
				t.Errorf("two saves of %#x, %v: %v and %v", w, wide, first.Bytes, second.Bytes)
			}
			spoil(first.Bytes)
			if !bytes.Equal(second.Bytes, want) || !bytes.Equal(m.Bytes, []byte{1, 2, 3, 4, 5, 6}) {
				t.Errorf("of a changed answer came %v and %v", second.Bytes, m.Bytes)
			}
			spoil(m.Bytes)
			if !bytes.Equal(second.Bytes, want) {
				t.Errorf("of a changed memory came %v", second.Bytes)
			}
		}
	}
}

// spoil changes all of the bytes, and the room behind them.
func spoil(b []byte) {
	for k := range b[:cap(b)] {
		b[:cap(b)][k] ^= 0xa5
	}
}

// P1: no call panics, of memories of which nothing is promised either.
func TestWrongOnes(t *testing.T) {
	for _, b := range [][]byte{nil, {}, {1}, count(4), count(most + 5)} {
		for _, write := range []int{math.MinInt, -1, 0, len(b), len(b) + 1, math.MaxInt} {
			m := api.Mem{Write: write, Bytes: b}
			for _, at := range []uint32{0, 1, base - 1, base, base + 1, base + most, base + most + 4, 1 << 31, 0xfffffffc, 0xffffffff} {
				for _, wide := range []bool{false, true} {
					Load(m, at, wide)
					Save(m, at, 0xffffffff, wide)
				}
			}
		}
	}
}
