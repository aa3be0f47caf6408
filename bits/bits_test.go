package bits

import (
	"bytes"
	"math"
	"testing"
)

// words are words with bits at both ends, in the middle, and all over.
var words = []uint32{0, 1, 2, 0x7f, 0x80, 0xff, 0x100, 0x7fff, 0x8000, 0xffff, 0x10000, 0x12345678, 0x7fffffff, 0x80000000, 0x80000001, 0xdeadbeef, 0xfffffffe, 0xffffffff}

// wrongWidths are numbers of bits that no number has.
var wrongWidths = []int{math.MinInt, -64, -32, -1, 0, 33, 34, 63, 64, 65, math.MaxInt}

// numbers are numbers about the ends of every width, and the ends of int.
func numbers() []int {
	l := []int{math.MinInt, math.MinInt + 1, math.MaxInt - 1, math.MaxInt}
	for n := range 63 {
		for d := -2; d <= 2; d++ {
			l = append(l, 1<<n+d, -(1<<n)+d)
		}
	}
	return l
}

// mod answers what x leaves at 2^n, from 0 on.
func mod(x, n int) int {
	m := x % (1 << n)
	if m < 0 {
		m += 1 << n
	}
	return m
}

// P1.1
func TestPut(t *testing.T) {
	for _, x := range []struct {
		w    uint32
		want [4]byte
	}{
		{0, [4]byte{0, 0, 0, 0}},
		{1, [4]byte{1, 0, 0, 0}},
		{0x100, [4]byte{0, 1, 0, 0}},
		{0x10000, [4]byte{0, 0, 1, 0}},
		{0x1000000, [4]byte{0, 0, 0, 1}},
		{0x12345678, [4]byte{0x78, 0x56, 0x34, 0x12}},
		{0x80ff7f01, [4]byte{0x01, 0x7f, 0xff, 0x80}},
		{0xffffffff, [4]byte{255, 255, 255, 255}},
	} {
		if got := Put(x.w); got != x.want {
			t.Errorf("Put(%#x) = %v, want %v", x.w, got, x.want)
		}
	}
}

// P1.1
func TestGet(t *testing.T) {
	for _, x := range []struct {
		b    []byte
		want uint32
	}{
		{nil, 0},
		{[]byte{}, 0},
		{[]byte{0x81}, 0x81},
		{[]byte{0x81, 0x92}, 0x9281},
		{[]byte{0x81, 0x92, 0xa3}, 0xa39281},
		{[]byte{0x81, 0x92, 0xa3, 0xb4}, 0xb4a39281},
		{[]byte{0x81, 0x92, 0xa3, 0xb4, 0xff}, 0xb4a39281},
		{[]byte{0, 0, 0, 0, 1, 2, 3, 4}, 0},
		{[]byte{0, 0, 0, 1}, 0x1000000},
		{[]byte{255, 255, 255, 255}, 0xffffffff},
	} {
		if got := Get(x.b); got != x.want {
			t.Errorf("Get(%v) = %#x, want %#x", x.b, got, x.want)
		}
	}
}

// P1.1: bytes beyond the slice's length aren't there, though its array has them.
func TestGetOfPiece(t *testing.T) {
	b := []byte{1, 2, 3, 4}
	for n, want := range []uint32{0, 0x1, 0x201, 0x30201, 0x4030201} {
		if got := Get(b[:n]); got != want {
			t.Errorf("Get of %d bytes = %#x, want %#x", n, got, want)
		}
	}
}

// Rule 5: what is handed in isn't changed.
func TestGetLeavesBytes(t *testing.T) {
	b := []byte{9, 8, 7, 6, 5}
	Get(b)
	Get(b[:3])
	if !bytes.Equal(b, []byte{9, 8, 7, 6, 5}) {
		t.Error(b)
	}
}

// P1.2
func TestFits(t *testing.T) {
	for n := 1; n <= 32; n++ {
		low, high := -(1 << (n - 1)), 1<<(n-1)-1
		for _, x := range append(numbers(), low-1, low, low+1, -1, 0, high-1, high, high+1) {
			if want := x >= low && x <= high; Fits(x, n) != want {
				t.Errorf("Fits(%d, %d) isn't %v", x, n, want)
			}
		}
	}
}

// P1.2
func TestCut(t *testing.T) {
	for _, x := range []struct {
		x, n int
		want uint32
	}{
		{5, 3, 5}, {5, 2, 1}, {8, 3, 0}, {-1, 1, 1}, {-1, 24, 0xffffff}, {-1, 32, 0xffffffff},
		{-2, 8, 0xfe}, {-128, 8, 0x80}, {-129, 8, 0x7f}, {-256, 8, 0}, {0x12345678, 16, 0x5678},
		{1 << 31, 32, 1 << 31}, {1 << 32, 32, 0}, {1<<32 + 7, 32, 7}, {-(1 << 32), 32, 0}, {-(1 << 31), 32, 1 << 31},
		{math.MaxInt, 32, 0xffffffff}, {math.MinInt, 32, 0}, {math.MinInt + 1, 8, 1},
	} {
		if got := Cut(x.x, x.n); got != x.want {
			t.Errorf("Cut(%d, %d) = %#x, want %#x", x.x, x.n, got, x.want)
		}
	}
	for n := 1; n <= 32; n++ {
		for _, x := range numbers() {
			if got, want := Cut(x, n), uint32(mod(x, n)); got != want {
				t.Errorf("Cut(%d, %d) = %#x, want %#x", x, n, got, want)
			}
		}
	}
}

// P1.2
func TestSign(t *testing.T) {
	for _, x := range []struct {
		w    uint32
		n    int
		want int
	}{
		{0xff, 8, -1}, {0x7f, 8, 127}, {0x80, 8, -128}, {0x17f, 8, 127}, {0xffffff80, 8, -128}, {0xffffff00, 8, 0},
		{1, 1, -1}, {2, 1, 0}, {3, 1, -1}, {0x800000, 24, -8388608}, {0x7fffff, 24, 8388607}, {0xff000001, 24, 1},
		{0x7fffffff, 31, -1}, {0xbfffffff, 31, 0x3fffffff}, {0x7fffffff, 32, 0x7fffffff}, {0x80000000, 32, -(1 << 31)}, {0xffffffff, 32, -1},
	} {
		if got := Sign(x.w, x.n); got != x.want {
			t.Errorf("Sign(%#x, %d) = %d, want %d", x.w, x.n, got, x.want)
		}
	}
	for n := 1; n <= 32; n++ {
		for _, w := range words {
			want := mod(int(w), n)
			if want >= 1<<(n-1) {
				want -= 1 << n
			}
			if got := Sign(w, n); got != want {
				t.Errorf("Sign(%#x, %d) = %d, want %d", w, n, got, want)
			}
		}
	}
}

// P1.2
func TestSigned(t *testing.T) {
	for _, x := range []struct {
		w    uint32
		want int
	}{
		{0, 0}, {1, 1}, {0x8000, 0x8000}, {0x7fffffff, math.MaxInt32}, {0x80000000, math.MinInt32}, {0xfffffffe, -2}, {0xffffffff, -1},
	} {
		if got := Signed(x.w); got != x.want {
			t.Errorf("Signed(%#x) = %d, want %d", x.w, got, x.want)
		}
	}
	for _, w := range words {
		if Signed(w) != Sign(w, 32) {
			t.Errorf("Signed(%#x) isn't Sign in 32 bits", w)
		}
	}
}

// P1.2: of a width that isn't one: false, 0, 0.
func TestWrongWidths(t *testing.T) {
	for _, n := range wrongWidths {
		for _, x := range numbers() {
			if Fits(x, n) || Cut(x, n) != 0 {
				t.Errorf("%d in %d bits: %v, %#x", x, n, Fits(x, n), Cut(x, n))
			}
		}
		for _, w := range words {
			if got := Sign(w, n); got != 0 {
				t.Errorf("Sign(%#x, %d) = %d, want 0", w, n, got)
			}
		}
	}
}

// P1.3
func TestUp(t *testing.T) {
	const maxX, most = 1 << 40, 1 << 20
	for _, x := range [][3]int{
		{0, 1, 0}, {0, 4, 0}, {1, 4, 4}, {3, 4, 4}, {4, 4, 4}, {5, 4, 8}, {8, 8, 8}, {9, 1, 9}, {9, 16, 16},
		{1, 3, 3}, {7, 3, 9}, {9, 3, 9}, {10, 7, 14}, {1, 1000, 1000},
		{0, most, 0}, {1, most, most}, {most, most, most}, {most + 1, most, 2 * most},
		{maxX, 1, maxX}, {maxX - 1, 1, maxX - 1}, {maxX - 1, 2, maxX}, {maxX, most, maxX}, {maxX, 3, maxX + 2}, {maxX, most - 1, (most + 2) * (most - 1)},
	} {
		if got := Up(x[0], x[1]); got != x[2] {
			t.Errorf("Up(%d, %d) = %d, want %d", x[0], x[1], got, x[2])
		}
	}
	for x := range 100 {
		for align := 1; align <= 40; align++ {
			want := 0
			for want < x {
				want += align
			}
			if got := Up(x, align); got != want {
				t.Errorf("Up(%d, %d) = %d, want %d", x, align, got, want)
			}
		}
	}
}

// P1.3: -1 of others.
func TestUpOutside(t *testing.T) {
	for _, x := range [][2]int{
		{-1, 4}, {-4, 4}, {-1, 1}, {math.MinInt, 1}, {1<<40 + 1, 1}, {1<<40 + 1, 4}, {1 << 41, 2}, {math.MaxInt, 1}, {math.MaxInt, 1 << 20},
		{5, 0}, {0, 0}, {5, -1}, {8, -4}, {5, math.MinInt}, {5, 1<<20 + 1}, {0, 1<<20 + 1}, {5, math.MaxInt},
		{-1, 0}, {1<<40 + 1, 1<<20 + 1}, {math.MinInt, math.MinInt}, {math.MaxInt, math.MaxInt}, {math.MinInt, -1},
	} {
		if got := Up(x[0], x[1]); got != -1 {
			t.Errorf("Up(%d, %d) = %d, want -1", x[0], x[1], got)
		}
	}
}

// P1.4: what is put is got as it was.
func TestPutIsGot(t *testing.T) {
	for _, w := range words {
		b := Put(w)
		if got := Get(b[:]); got != w {
			t.Errorf("%#x is got as %#x", w, got)
		}
	}
	for k := range 32 {
		b := Put(1 << k)
		if got := Get(b[:]); got != 1<<k {
			t.Errorf("bit %d is got as %#x", k, got)
		}
	}
}

// P1.4: a number that fits is cut and read as it was; one that doesn't isn't.
func TestCutIsRead(t *testing.T) {
	for n := 1; n <= 32; n++ {
		for _, x := range numbers() {
			if got := Sign(Cut(x, n), n); (got == x) != Fits(x, n) {
				t.Errorf("%d in %d bits is read as %d", x, n, got)
			}
		}
	}
}
