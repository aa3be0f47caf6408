package scan

import (
	"bytes"
	"errors"
	"math"
	"runtime"
	"slices"
	"strconv"
	"strings"
	"testing"

	"splice/api"
)

// letters are all the bytes that a name may have.
const letters = "abcdefghijklmnopqrstuvwxyzABCDEFGHIJKLMNOPQRSTUVWXYZ0123456789_."

// longest is a name of 32 bytes.
const longest = "abcdefghijklmnopqrstuvwxyz_12345"

// greatest answers the greatest number in so many bytes.
func greatest(size int) int {
	n := 1
	for range size {
		n *= 256
	}
	return n - 1
}

// numbers are numbers about the greatest ones of every size, those whose bytes are unlike, and the greatest int.
func numbers() []int {
	l := []int{0, 1, 2, 9, 127, 128, 0x1234, 0x123456, 0x12345678, 0x80000000, 0xfedcba98, 1<<40 + 5, math.MaxInt - 1, math.MaxInt}
	for size := 1; size <= 7; size++ {
		l = append(l, greatest(size)-1, greatest(size), greatest(size)+1, greatest(size)+2)
	}
	return l
}

// lowest answers n's lowest bytes, reckoned by divisions.
func lowest(n, size int) []byte {
	var b []byte
	for range size {
		b = append(b, byte(n%256))
		n /= 256
	}
	return b
}

// sum answers the number of the bytes, reckoned by sums.
func sum(b []byte) int {
	n, worth := 0, 1
	for _, x := range b {
		n += int(x) * worth
		worth *= 256
	}
	return n
}

// floatBits are floats' bits: zeros, infinities, the least and greatest ones, such as are NaN in many ways, and ordinary ones.
func floatBits() []uint64 {
	l := []uint64{
		0, 1 << 63, // zeros
		0x7ff0000000000000, 0xfff0000000000000, // infinities
		0x7fefffffffffffff, 0xffefffffffffffff, // the greatest, the least
		1, 1<<63 | 1, // the nearest to 0
		0x000fffffffffffff, 0x0010000000000000, 0x800fffffffffffff, 0x8010000000000000,
		0x7ff8000000000000, 0x7ff8000000000001, 0xfff8000000000000, 0x7fffffffffffffff, 0xffffffffffffffff, // NaN
		0x7ff0000000000001, 0xfff0000000000001, 0x7ff7ffffffffffff, 0x7ff4000000000000, 0x7ff00000ffffffff, 0x7ff0000100000000, // NaN whose highest bit of worth is 0
		0x3ff0000000000000, 0xbff0000000000000, 0x0102030405060708, 0xf1e2d3c4b5a69788, 0x00000000ffffffff, 0xffffffff00000000, 0x0000000080000000, 0x430c6bf526340000,
	}
	for k := range 64 {
		l = append(l, 1<<k, ^uint64(1<<k))
	}
	return l
}

// panicked answers what the call panics with; nil, if it doesn't.
func panicked(call func()) (p any) {
	defer func() { p = recover() }()
	call()
	return nil
}

// refused tells where the call doesn't panic with the Errno.
func refused(t *testing.T, what string, want api.Errno, call func()) {
	t.Helper()
	if p := panicked(call); p != want {
		t.Errorf("%s panics with %v, want %v", what, p, want)
	}
}

// room answers the bytes with others in the room behind their length.
func room(b ...byte) []byte {
	return append(slices.Clone(b), bytes.Repeat([]byte{0xee}, 9)...)[:len(b)]
}

// spoil changes all of the bytes, and the room behind them.
func spoil(b []byte) {
	for k := range b[:cap(b)] {
		b[:cap(b)][k] ^= 0xa5
	}
}

// P8.1: names written out, of 1 to 32 bytes, and others.
func TestNamed(t *testing.T) {
	for _, s := range []string{"a", "z", "A", "Z", "0", "9", "_", ".", "main", "_start", ".data", "a.b_C9", "7up", "...", "__", longest, strings.Repeat("Z", 31), strings.Repeat(".", 32), letters[:32], letters[32:]} {
		if !Named(s) {
			t.Errorf("%q is no name", s)
		}
	}
	for _, s := range []string{"", " ", "-", "a b", " a", "a ", "a-b", "a\n", "\x00", "a\x00", "a/b", "a:b", "@", "[", "`", "{", "$a", "a,b", "ä", "maın", "a\u0301", "ａ", "\u0660", "\x80", "a\xff", longest + "6", strings.Repeat("a", 33), strings.Repeat("a", 255), strings.Repeat("a", 256), strings.Repeat("a", 257), strings.Repeat("a", 288), letters} {
		if Named(s) {
			t.Errorf("%q is a name", s)
		}
	}
}

// P8.1: each byte that there is, alone, first, within, and last.
func TestNamedOfBytes(t *testing.T) {
	for c := range 256 {
		s := string([]byte{byte(c)})
		want := c < 128 && strings.Contains(letters, s)
		for _, x := range []string{s, s + "a", "a" + s, "a" + s + "a", longest[1:] + s, s + longest[1:]} {
			if Named(x) != want {
				t.Errorf("%q is a name: %v", x, !want)
			}
		}
	}
}

// P8.1: a name has at most 32 bytes, whichever they are.
func TestNamedOfLengths(t *testing.T) {
	for n := range 300 {
		if got := Named(strings.Repeat("_", n)); got != (n >= 1 && n <= 32) {
			t.Errorf("%d bytes are a name: %v", n, got)
		}
	}
}

// P8.1: bytes written out, the lowest first.
func TestPut(t *testing.T) {
	for _, x := range []struct {
		n, size int
		want    []byte
	}{
		{0, 1, []byte{0}},
		{0, 2, []byte{0, 0}},
		{0, 3, []byte{0, 0, 0}},
		{0, 4, []byte{0, 0, 0, 0}},
		{1, 4, []byte{1, 0, 0, 0}},
		{0x12, 1, []byte{0x12}},
		{0x1234, 1, []byte{0x34}},
		{0x1234, 2, []byte{0x34, 0x12}},
		{0x123456, 2, []byte{0x56, 0x34}},
		{0x123456, 3, []byte{0x56, 0x34, 0x12}},
		{0x12345678, 3, []byte{0x78, 0x56, 0x34}},
		{0x12345678, 4, []byte{0x78, 0x56, 0x34, 0x12}},
		{255, 1, []byte{255}},
		{256, 1, []byte{0}},
		{65535, 2, []byte{255, 255}},
		{65536, 2, []byte{0, 0}},
		{1<<24 - 1, 3, []byte{255, 255, 255}},
		{1 << 24, 3, []byte{0, 0, 0}},
		{1 << 31, 4, []byte{0, 0, 0, 0x80}},
		{1<<32 - 1, 4, []byte{255, 255, 255, 255}},
		{1 << 32, 4, []byte{0, 0, 0, 0}},
		{1<<32 + 0x0a0b0c0d, 4, []byte{0x0d, 0x0c, 0x0b, 0x0a}},
		{math.MaxInt, 4, []byte{255, 255, 255, 255}},
		{math.MaxInt, 1, []byte{255}},
	} {
		if got := Put(x.n, x.size); !bytes.Equal(got, x.want) {
			t.Errorf("Put(%#x, %d) = %v, want %v", x.n, x.size, got, x.want)
		}
	}
	for _, n := range numbers() {
		for size := 1; size <= 4; size++ {
			if got, want := Put(n, size), lowest(n, size); !bytes.Equal(got, want) {
				t.Errorf("Put(%#x, %d) = %v, want %v", n, size, got, want)
			}
		}
	}
}

// P8.1
func TestPutName(t *testing.T) {
	for _, x := range []struct {
		s    string
		want []byte
	}{
		{"a", []byte{1, 'a'}},
		{"main", []byte{4, 'm', 'a', 'i', 'n'}},
		{"_.Z9", []byte{4, '_', '.', 'Z', '9'}},
		{longest, append([]byte{32}, "abcdefghijklmnopqrstuvwxyz_12345"...)},
	} {
		if got := PutName(x.s); !bytes.Equal(got, x.want) {
			t.Errorf("PutName(%q) = %v, want %v", x.s, got, x.want)
		}
	}
	for n := 1; n <= 32; n++ {
		if got := PutName(longest[:n]); len(got) != n+1 || int(got[0]) != n || string(got[1:]) != longest[:n] {
			t.Errorf("PutName(%q) = %v", longest[:n], got)
		}
	}
}

// P8.1: the bytes of floats written out, the lowest first.
func TestPutFloat(t *testing.T) {
	for _, x := range []struct {
		x    float64
		want []byte
	}{
		{0, []byte{0, 0, 0, 0, 0, 0, 0, 0}},
		{math.Copysign(0, -1), []byte{0, 0, 0, 0, 0, 0, 0, 0x80}},
		{1, []byte{0, 0, 0, 0, 0, 0, 0xf0, 0x3f}},
		{-2.5, []byte{0, 0, 0, 0, 0, 0, 0x04, 0xc0}},
		{0.1, []byte{0x9a, 0x99, 0x99, 0x99, 0x99, 0x99, 0xb9, 0x3f}},
		{1e15, []byte{0, 0, 0x34, 0x26, 0xf5, 0x6b, 0x0c, 0x43}},
		{math.Inf(1), []byte{0, 0, 0, 0, 0, 0, 0xf0, 0x7f}},
		{math.Inf(-1), []byte{0, 0, 0, 0, 0, 0, 0xf0, 0xff}},
		{math.MaxFloat64, []byte{255, 255, 255, 255, 255, 255, 0xef, 0x7f}},
		{-math.MaxFloat64, []byte{255, 255, 255, 255, 255, 255, 0xef, 0xff}},
		{math.SmallestNonzeroFloat64, []byte{1, 0, 0, 0, 0, 0, 0, 0}},
		{-math.SmallestNonzeroFloat64, []byte{1, 0, 0, 0, 0, 0, 0, 0x80}},
		{math.Float64frombits(0x7ff8000000000001), []byte{1, 0, 0, 0, 0, 0, 0xf8, 0x7f}},
		{math.Float64frombits(0xfff0000000000002), []byte{2, 0, 0, 0, 0, 0, 0xf0, 0xff}},
		{math.Float64frombits(0x0102030405060708), []byte{8, 7, 6, 5, 4, 3, 2, 1}},
	} {
		if got := PutFloat(x.x); !bytes.Equal(got, x.want) {
			t.Errorf("PutFloat(%v) = %x, want %x", x.x, got, x.want)
		}
	}
	for _, w := range floatBits() {
		want := append(lowest(int(w&0xffffffff), 4), lowest(int(w>>32), 4)...)
		if got := PutFloat(math.Float64frombits(w)); !bytes.Equal(got, want) {
			t.Errorf("PutFloat of the bits %#x = %x, want %x", w, got, want)
		}
	}
}

// P8.2: a number of each size, of few bytes left and of more than it takes.
func TestNumber(t *testing.T) {
	b := []byte{0x81, 0x02, 0xff, 0x94, 0x75}
	for n, want := range map[int]int{1: 0x81, 2: 0x0281, 3: 0xff0281, 4: 0x94ff0281} {
		for _, l := range [][]byte{b, b[:n], b[:4]} {
			s := New(l)
			if got := s.Number(n); got != want || s.Left() != len(l)-n {
				t.Errorf("Number(%d) of %v = %#x with %d left, want %#x", n, l, got, s.Left(), want)
			}
		}
	}
	for size := 1; size <= 4; size++ {
		for _, x := range []byte{0, 1, 0x7f, 0x80, 0xff} {
			l := bytes.Repeat([]byte{x}, size)
			if got := New(l).Number(size); got != sum(l) {
				t.Errorf("Number(%d) of %v = %#x, want %#x", size, l, got, sum(l))
			}
		}
		if got := New(bytes.Repeat([]byte{0xff}, size)).Number(size); got != greatest(size) {
			t.Errorf("the greatest number of %d bytes is taken as %#x", size, got)
		}
		for n := range size {
			l := room(bytes.Repeat([]byte{1}, n)...)
			refused(t, "Number("+strconv.Itoa(size)+") of "+strconv.Itoa(n)+" bytes", api.ErrCut, func() { New(l).Number(size) })
		}
	}
}

// P8.2: texts of bytes, of 0 and of none left.
func TestBytes(t *testing.T) {
	b := room(1, 2, 3, 4, 5, 6, 7)
	for n := range len(b) + 1 {
		for m := range len(b) + 1 - n {
			s := New(b)
			first, second := s.Bytes(n), s.Bytes(m)
			if !bytes.Equal(first, b[:n]) || !bytes.Equal(second, b[n:n+m]) || s.Left() != len(b)-n-m {
				t.Errorf("Bytes(%d) = %v, and Bytes(%d) = %v with %d left", n, first, m, second, s.Left())
			}
		}
		for _, more := range []int{1, 2, 9, math.MaxInt32, math.MaxInt - len(b)} {
			refused(t, "Bytes of too many", api.ErrCut, func() {
				s := New(b)
				s.Bytes(n)
				s.Bytes(len(b) - n + more)
			})
		}
	}
	for _, none := range [][]byte{nil, {}, b[:0]} {
		s := New(none)
		if got := s.Bytes(0); len(got) != 0 || s.Left() != 0 {
			t.Errorf("Bytes(0) of nothing = %v with %d left", got, s.Left())
		}
		refused(t, "Bytes(1) of nothing", api.ErrCut, func() { New(none).Bytes(1) })
	}
}

// P8.2: floats, bit by bit.
func TestFloat(t *testing.T) {
	for _, w := range floatBits() {
		b := append(lowest(int(w&0xffffffff), 4), lowest(int(w>>32), 4)...)
		for _, l := range [][]byte{b, append(slices.Clone(b), 0x3f, 0xff)} {
			s := New(l)
			if got := math.Float64bits(s.Float()); got != w || s.Left() != len(l)-8 {
				t.Errorf("Float of %x has the bits %#x with %d left, want %#x", l, got, s.Left(), w)
			}
		}
	}
	s := New([]byte{8, 7, 6, 5, 4, 3, 2, 1, 0, 0, 0, 0, 0, 0, 0xf0, 0xbf, 0, 0, 0, 0, 0, 0, 0, 0x80})
	if x := s.Float(); x != math.Float64frombits(0x0102030405060708) {
		t.Error(x)
	}
	if x := s.Float(); x != -1 {
		t.Error(x)
	}
	if x := s.Float(); x != 0 || !math.Signbit(x) || s.Left() != 0 {
		t.Error(x, s.Left())
	}
	for n := range 8 {
		l := room(bytes.Repeat([]byte{1}, n)...)
		refused(t, "Float of "+strconv.Itoa(n)+" bytes", api.ErrCut, func() { New(l).Float() })
	}
}

// P8.2: a count of exactly most, one less, one more; most of 0, of the greatest number in two bytes, and beyond.
func TestCount(t *testing.T) {
	for _, most := range []int{0, 1, 2, 64, 255, 256, 257, 2000, 4096, 0x8000, 65534, 65535, 65536, math.MaxInt} {
		for _, n := range []int{0, 1, 2, 63, 64, 65, 255, 256, 257, 2000, 0x8000, most - 1, most, most + 1, 65534, 65535} {
			if n < 0 || n > 65535 {
				continue
			}
			s := New(append(lowest(n, 2), 9, 9, 9))
			if n > most {
				refused(t, "Count("+strconv.Itoa(most)+") of "+strconv.Itoa(n), api.ErrForm, func() { s.Count(most) })
			} else if got := s.Count(most); got != n || s.Left() != 3 {
				t.Errorf("Count(%d) of %d = %d with %d left", most, n, got, s.Left())
			}
		}
	}
	for _, l := range [][]byte{nil, {}, room(), {0}, {255}, room(0)} {
		for _, most := range []int{0, 1, 65535, math.MaxInt} {
			refused(t, "Count of too few bytes", api.ErrCut, func() { New(l).Count(most) })
		}
	}
}

// P8.2: names of 1 to 32 bytes, and nothing that stands behind them.
func TestName(t *testing.T) {
	for n := 1; n <= 32; n++ {
		for _, behind := range []string{"", "x", "-", "\x00", longest} {
			s := New([]byte(string([]byte{byte(n)}) + longest[:n] + behind))
			if got := s.Name(); got != longest[:n] || s.Left() != len(behind) {
				t.Errorf("Name = %q with %d left, want %q with %d", got, s.Left(), longest[:n], len(behind))
			}
		}
	}
	s := New([]byte("\x03abc\x01_\x0a.A_z.Z_0.9"))
	for _, want := range []string{"abc", "_", ".A_z.Z_0.9"} {
		if got := s.Name(); got != want {
			t.Errorf("Name = %q, want %q", got, want)
		}
	}
	if s.Left() != 0 {
		t.Error(s.Left())
	}
}

// P8.2: ErrCut, where the length says more than there is left, whatever it says; ErrForm of what is no name.
func TestNameOfOthers(t *testing.T) {
	for _, l := range []string{"", "\x01", "\x02a", "\x04abc", "\x03a ", "\x02-", "\x20" + longest[1:], "\x21", "\x21" + longest, "\x28a", "\xff", "\xff" + longest, "\x80\x80", "\xff" + strings.Repeat("a", 254)} {
		refused(t, "Name of "+strconv.Quote(l), api.ErrCut, func() { New(room([]byte(l)...)).Name() })
	}
	for _, l := range []string{"\x00", "\x00abc", "\x01 ", "\x01-", "\x03a-b", "\x02a\x00", "\x02ä", "\x01\x80", "\x01\xff", "\x04ab\n.", "\x20" + longest[1:] + "-", "\x21" + longest + "6", "\x21" + longest + "6a", "\x40" + letters, "\xff" + strings.Repeat("a", 255), "\x80" + strings.Repeat("a", 200)} {
		refused(t, "Name of "+strconv.Quote(l), api.ErrForm, func() { New(room([]byte(l)...)).Name() })
	}
	for c := range 256 {
		l := []byte{3, 'a', byte(c), 'z'}
		if c < 128 && strings.Contains(letters, string([]byte{byte(c)})) {
			if got := New(l).Name(); got != string(l[1:]) {
				t.Errorf("Name of %v = %q", l, got)
			}
		} else {
			refused(t, "Name with the byte "+strconv.Itoa(c), api.ErrForm, func() { New(l).Name() })
		}
	}
}

// P8.2: Left ahead of and behind each; it takes nothing.
func TestLeft(t *testing.T) {
	s := New(room(7, 1, 2, 1, 2, 3, 1, 2, 3, 4, 9, 9, 9, 1, 0, 3, 'a', 'b', 'c', 1, 2, 3, 4, 5, 6, 7, 8))
	for k, x := range []struct {
		take func()
		left int
	}{
		{func() {}, 27},
		{func() { s.Left() }, 27},
		{func() { s.Number(1) }, 26},
		{func() { s.Number(2) }, 24},
		{func() { s.Number(3) }, 21},
		{func() { s.Number(4) }, 17},
		{func() { s.Must(true) }, 17},
		{func() { s.Bytes(0) }, 17},
		{func() { s.Bytes(3) }, 14},
		{func() { s.Count(1) }, 12},
		{func() { s.Name() }, 8},
		{func() { s.Float() }, 0},
		{func() { s.Bytes(0) }, 0},
		{func() { s.Must(true) }, 0},
	} {
		x.take()
		if s.Left() != x.left || s.Left() != x.left {
			t.Errorf("behind the take %d there are %d left, want %d", k, s.Left(), x.left)
		}
	}
	for n := range 40 {
		if got := New(room(make([]byte, n)...)).Left(); got != n {
			t.Errorf("of %d bytes %d are left", n, got)
		}
	}
	if New(nil).Left() != 0 {
		t.Error(New(nil).Left())
	}
}

// P8.2: Must of true does nothing, of false it panics, wherever the scanner is.
func TestMust(t *testing.T) {
	for _, l := range [][]byte{nil, {}, {1}, {1, 2, 3}} {
		s := New(l)
		if p := panicked(func() { s.Must(true) }); p != nil || s.Left() != len(l) {
			t.Errorf("Must(true) of %v: %v with %d left", l, p, s.Left())
		}
		refused(t, "Must(false)", api.ErrForm, func() { New(l).Must(false) })
	}
}

// P8.2, P8.4: pieces of every kind behind one another are taken as they were put.
func TestTakenBehindOneAnother(t *testing.T) {
	var b []byte
	for _, n := range numbers() {
		for size := 1; size <= 4; size++ {
			b = append(b, Put(n, size)...)
		}
		b = append(append(append(b, PutName(longest[:n%32+1])...), PutFloat(float64(n)/3)...), Put(n, 2)...)
		b = append(b, longest[:n%7]...)
	}
	s := New(b)
	for _, n := range numbers() {
		for size := 1; size <= 4; size++ {
			if got, want := s.Number(size), n%(greatest(size)+1); got != want {
				t.Errorf("%d in %d bytes is taken as %d, want %d", n, size, got, want)
			}
		}
		if got := s.Name(); got != longest[:n%32+1] {
			t.Errorf("%q is taken as %q", longest[:n%32+1], got)
		}
		if got := s.Float(); got != float64(n)/3 {
			t.Errorf("%v is taken as %v", float64(n)/3, got)
		}
		if got := s.Count(65535); got != n%65536 {
			t.Errorf("the count %d is taken as %d", n%65536, got)
		}
		if got := s.Bytes(n % 7); string(got) != longest[:n%7] {
			t.Errorf("%q is taken as %q", longest[:n%7], got)
		}
	}
	if s.Left() != 0 {
		t.Errorf("%d bytes are left", s.Left())
	}
}

// P8.3: the reader is called once, with a scanner over all of the bytes.
func TestTryCallsReader(t *testing.T) {
	for n := range 20 {
		b, calls := room([]byte(longest[:n])...), 0
		e := Try(b, func(s *Scanner) {
			calls++
			if s.Left() != n {
				t.Errorf("of %d bytes %d are left", n, s.Left())
			}
			if got := s.Bytes(n); string(got) != longest[:n] {
				t.Errorf("%q is taken as %q", longest[:n], got)
			}
		})
		if e != api.OK || calls != 1 {
			t.Errorf("a reader that takes all of %d bytes: %v, and %d calls", n, e, calls)
		}
	}
}

// trial is a reader, the bytes that it has, and what Try has to answer.
type trial struct {
	name string
	b    []byte
	read func(s *Scanner)
	want api.Errno
}

// trials are those of every end that there is.
func trials() []trial {
	return []trial{
		{"nothing of nil", nil, func(s *Scanner) {}, api.OK},
		{"nothing of no bytes", []byte{}, func(s *Scanner) {}, api.OK},
		{"no bytes of nothing", nil, func(s *Scanner) { s.Bytes(0) }, api.OK},
		{"all", []byte{1, 2, 0, 1, 'a'}, func(s *Scanner) { s.Number(1); s.Count(2); s.Name() }, api.OK},
		{"a float", make([]byte, 8), func(s *Scanner) { s.Float() }, api.OK},
		{"nothing of a byte", []byte{1}, func(s *Scanner) {}, api.ErrCut},
		{"nothing of the byte 0", []byte{0}, func(s *Scanner) {}, api.ErrCut},
		{"one left", []byte{1, 2, 3}, func(s *Scanner) { s.Number(2) }, api.ErrCut},
		{"many left", make([]byte, 5000), func(s *Scanner) { s.Float() }, api.ErrCut},
		{"one left behind a float", make([]byte, 9), func(s *Scanner) { s.Float() }, api.ErrCut},
		{"Must of true, one left", []byte{1}, func(s *Scanner) { s.Must(true) }, api.ErrCut},
		{"a byte of nothing", nil, func(s *Scanner) { s.Bytes(1) }, api.ErrCut},
		{"a number of too few", []byte{1, 2, 3}, func(s *Scanner) { s.Number(4) }, api.ErrCut},
		{"a float of 7", make([]byte, 7), func(s *Scanner) { s.Float() }, api.ErrCut},
		{"a count of one", []byte{0}, func(s *Scanner) { s.Count(9) }, api.ErrCut},
		{"a name of too few", []byte{2, 'a'}, func(s *Scanner) { s.Name() }, api.ErrCut},
		{"a name of nothing", nil, func(s *Scanner) { s.Name() }, api.ErrCut},
		{"a count of too many", []byte{9, 0}, func(s *Scanner) { s.Count(8) }, api.ErrForm},
		{"no name", []byte{1, '-'}, func(s *Scanner) { s.Name() }, api.ErrForm},
		{"a name of 0", []byte{0}, func(s *Scanner) { s.Name() }, api.ErrForm},
		{"Must of false", nil, func(s *Scanner) { s.Must(false) }, api.ErrForm},
		{"Must of false, something left", []byte{1, 2}, func(s *Scanner) { s.Must(false) }, api.ErrForm},
		{"Must of false behind one", []byte{1, 2}, func(s *Scanner) { s.Number(1); s.Must(false) }, api.ErrForm},
		{"a count of too many, something left", []byte{9, 0, 1}, func(s *Scanner) { s.Count(8) }, api.ErrForm},
		{"no name, something left", []byte{1, ' ', 1}, func(s *Scanner) { s.Name() }, api.ErrForm},
		{"ErrForm ahead of ErrCut", []byte{9, 0}, func(s *Scanner) { s.Count(8); s.Number(1) }, api.ErrForm},
		{"ErrCut ahead of ErrForm", []byte{9, 0}, func(s *Scanner) { s.Number(3); s.Must(false) }, api.ErrCut},
		{"ErrForm ahead of another", []byte{9, 0}, func(s *Scanner) { s.Must(false); panic(api.ErrLong) }, api.ErrForm},
		{"an Errno of the reader's own", []byte{1}, func(s *Scanner) { panic(api.ErrTwice) }, api.ErrTwice},
		{"another, nothing left", nil, func(s *Scanner) { panic(api.ErrOption) }, api.ErrOption},
		{"a panic that the reader recovers", nil, func(s *Scanner) { panicked(func() { s.Number(1) }) }, api.OK},
	}
}

// P8.3
func TestTry(t *testing.T) {
	for _, x := range trials() {
		if got := Try(x.b, x.read); got != x.want {
			t.Errorf("%s: %v, want %v", x.name, got, x.want)
		}
	}
}

// P8.3: what stands behind an error isn't done any more.
func TestTryStopsAtError(t *testing.T) {
	for _, fail := range []func(s *Scanner){
		func(s *Scanner) { s.Number(3) },
		func(s *Scanner) { s.Bytes(3) },
		func(s *Scanner) { s.Float() },
		func(s *Scanner) { s.Name() },
		func(s *Scanner) { s.Count(256) },
		func(s *Scanner) { s.Must(false) },
	} {
		behind := false
		e := Try([]byte{1, 1}, func(s *Scanner) {
			fail(s)
			behind = true
		})
		if behind || e == api.OK {
			t.Errorf("the reader went on behind an error: %v", e)
		}
	}
}

// P8.3: an error is that of the Try about the reader that met it, and of no other.
func TestTryInTry(t *testing.T) {
	var within api.Errno
	e := Try([]byte{5}, func(s *Scanner) {
		within = Try([]byte{1, 2}, func(s *Scanner) { s.Must(false) })
		s.Number(1)
	})
	if e != api.OK || within != api.ErrForm {
		t.Errorf("within %v, without %v", within, e)
	}
	e = Try([]byte{5}, func(outer *Scanner) {
		within = Try(nil, func(s *Scanner) {
			outer.Number(2)
		})
	})
	if e != api.ErrCut || within != api.ErrCut {
		t.Errorf("within %v, without %v", within, e)
	}
}

// P8.3: another panic isn't held, and goes on as it was; numbers like an Errno's are none.
func TestTryHoldsNoOther(t *testing.T) {
	for _, p := range []any{"other", 2, int(api.ErrForm), uint8(2), 2.0, errors.New("other"), struct{ api.Errno }{api.ErrCut}, new(api.Errno), api.Ins{Op: 4}} {
		for _, b := range [][]byte{nil, {1}} {
			if got := panicked(func() { Try(b, func(s *Scanner) { panic(p) }) }); got != p {
				t.Errorf("the panic %v went on as %v", p, got)
			}
		}
	}
	var l []int
	p := panicked(func() { Try([]byte{1}, func(s *Scanner) { l[s.Left()]++ }) })
	if e, ok := p.(runtime.Error); !ok || !strings.Contains(e.Error(), "index out of range [1]") {
		t.Errorf("a fault of the reader went on as %v", p)
	}
	p = panicked(func() { Try(nil, func(s *Scanner) { panic(nil) }) })
	if _, ok := p.(*runtime.PanicNilError); !ok {
		t.Errorf("a panic of nil went on as %v", p)
	}
	p = panicked(func() { Try(nil, func(s *Scanner) { Try(nil, func(s *Scanner) { panic("deep") }) }) })
	if p != "deep" {
		t.Errorf("a panic of deep below went on as %v", p)
	}
}

// P8.4: numbers, counts and names are taken as they were put.
func TestPutIsTaken(t *testing.T) {
	for _, n := range numbers() {
		for size := 1; size <= 4; size++ {
			if got := New(Put(n, size)).Number(size); (got == n) != (n <= greatest(size)) || got != n%(greatest(size)+1) {
				t.Errorf("%d in %d bytes is taken as %d", n, size, got)
			}
		}
	}
	for n := range 65536 {
		if got := New(Put(n, 2)).Count(n); got != n {
			t.Errorf("the count %d is taken as %d", n, got)
		}
	}
	for k := range len(letters) {
		for n := 1; n <= 32; n++ {
			name := strings.Repeat(letters[k:k+1], n)
			s := New(PutName(name))
			if got := s.Name(); got != name || s.Left() != 0 {
				t.Errorf("%q is taken as %q with %d left", name, got, s.Left())
			}
		}
	}
}

// P8.4: a float is taken bit by bit, whichever it is.
func TestPutFloatIsTaken(t *testing.T) {
	l := floatBits()
	for k := range uint64(20000) {
		l = append(l, k*0x9e3779b97f4a7c15, 0x7ff0000000000000|k*0x9e3779b97f4a7c15)
	}
	for _, w := range l {
		s := New(PutFloat(math.Float64frombits(w)))
		if got := math.Float64bits(s.Float()); got != w || s.Left() != 0 {
			t.Errorf("the float of the bits %#x is taken as %#x with %d left", w, got, s.Left())
		}
	}
}

// takeAll takes pieces of every kind; the bytes handed in have to be those of pieces.
func takeAll(s *Scanner) string {
	text := strconv.Itoa(s.Number(1)) + string(s.Bytes(3)) + s.Name() + strconv.Itoa(s.Count(300))
	return text + strconv.FormatUint(math.Float64bits(s.Float()), 16) + string(s.Bytes(s.Left()))
}

// pieces are bytes that takeAll takes, with room behind their length, and what it tells of them.
func pieces() ([]byte, string) {
	b := slices.Concat([]byte{7}, []byte("xyz"), PutName("main"), Put(259, 2), PutFloat(-2.5), []byte("end"))
	return room(b...), "7xyzmain259c004000000000000end"
}

// P8.5: what is handed in stays, and so does the room behind its length.
func TestHandedInStays(t *testing.T) {
	b, want := pieces()
	own := slices.Clone(b[:cap(b)])
	if got := takeAll(New(b)); got != want {
		t.Errorf("the pieces are taken as %q, want %q", got, want)
	}
	if e := Try(b, func(s *Scanner) { takeAll(s) }); e != api.OK {
		t.Error(e)
	}
	Try(b, func(s *Scanner) { spoil(s.Bytes(5)); spoil(s.Bytes(0)); spoil(s.Bytes(s.Left())) })
	Try(b, func(s *Scanner) { s.Must(false) })
	Try(b[:4], func(s *Scanner) { s.Bytes(5) })
	if !bytes.Equal(b[:cap(b)], own) {
		t.Errorf("of the bytes became %v, want %v", b[:cap(b)], own)
	}
}

// P8.5: what is handed in isn't kept: changed ahead of the takes or between them, it changes nothing of them.
func TestHandedInIsNotKept(t *testing.T) {
	b, want := pieces()
	s := New(b)
	spoil(b)
	if got := takeAll(s); got != want {
		t.Errorf("of changed bytes are taken %q, want %q", got, want)
	}
	b, _ = pieces()
	e := Try(b, func(s *Scanner) {
		s.Number(1)
		spoil(b)
		if got := s.Bytes(3); string(got) != "xyz" {
			t.Errorf("of changed bytes are taken %q", got)
		}
		if got := s.Name(); got != "main" {
			t.Errorf("of changed bytes is taken %q", got)
		}
		s.Bytes(s.Left())
	})
	if e != api.OK {
		t.Error(e)
	}
}

// P8.5: two scanners over the same bytes, and a second Try, have a place of their own.
func TestScannersApart(t *testing.T) {
	b, want := pieces()
	first, second := New(b), New(b)
	first.Bytes(4)
	if second.Left() != len(b) || first.Left() != len(b)-4 {
		t.Errorf("%d and %d bytes are left", first.Left(), second.Left())
	}
	for range 2 {
		Try(b, func(s *Scanner) {
			if got := takeAll(s); got != want {
				t.Errorf("the pieces are taken as %q, want %q", got, want)
			}
		})
	}
	if got := takeAll(second); got != want {
		t.Errorf("the pieces are taken as %q, want %q", got, want)
	}
}

// P8.5: bytes that are taken are new memory: changed, they change neither what stands behind them, nor other answers.
func TestTakenIsNew(t *testing.T) {
	b, _ := pieces()
	own := slices.Clone(b[:cap(b)])
	s := New(b)
	first := s.Bytes(4)
	spoil(first)
	_ = append(first[:0], "other bytes, and more than there were"...)
	if got := s.Name(); got != "main" {
		t.Errorf("behind changed bytes is taken %q", got)
	}
	second := s.Bytes(2)
	spoil(first)
	if !bytes.Equal(second, []byte{3, 1}) {
		t.Errorf("beside changed bytes are taken %v", second)
	}
	spoil(second)
	third := s.Bytes(s.Left())
	if !bytes.Equal(third[8:], []byte("end")) || !bytes.Equal(b[:cap(b)], own) {
		t.Errorf("behind changed bytes are taken %v of %v", third, b)
	}
	spoil(third)
	if !bytes.Equal(b[:cap(b)], own) {
		t.Errorf("of changed answers came %v", b[:cap(b)])
	}
}

// P8.5: what is put is new memory, at every call.
func TestPutIsNew(t *testing.T) {
	for _, put := range []func() []byte{
		func() []byte { return Put(0x12345678, 4) },
		func() []byte { return Put(0, 1) },
		func() []byte { return PutName(longest) },
		func() []byte { return PutName("a") },
		func() []byte { return PutFloat(0) },
		func() []byte { return PutFloat(math.Inf(-1)) },
	} {
		first, second := put(), put()
		want := slices.Clone(second)
		spoil(first)
		if !bytes.Equal(second, want) || !bytes.Equal(put(), want) {
			t.Errorf("of changed bytes came %v and %v, want %v", second, put(), want)
		}
	}
}

// P1: of arguments of which nothing is promised, no call panics but with an Errno.
func TestWrongOnes(t *testing.T) {
	wrong := []int{math.MinInt, math.MinInt32, -256, -5, -1, 0, 1, 4, 5, 8, 9, 64, math.MaxInt32, math.MaxInt}
	for _, n := range wrong {
		for _, size := range wrong {
			if p := panicked(func() { Put(n, size) }); p != nil {
				t.Errorf("Put(%d, %d) panics with %v", n, size, p)
			}
		}
		for _, l := range [][]byte{nil, {1}, {255, 255}, make([]byte, 100)} {
			for _, take := range []func(s *Scanner){
				func(s *Scanner) { s.Number(n) },
				func(s *Scanner) { s.Bytes(n) },
				func(s *Scanner) { s.Count(n) },
			} {
				Try(l, func(s *Scanner) {
					s.Bytes(min(1, s.Left()))
					take(s)
				})
			}
		}
	}
	for _, n := range []int{0, 33, 255, 256, 1000} {
		if p := panicked(func() { PutName(strings.Repeat("-", n)) }); p != nil {
			t.Errorf("PutName of %d bytes panics with %v", n, p)
		}
	}
}
