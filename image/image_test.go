package image

import (
	"bytes"
	"fmt"
	"math"
	"slices"
	"strings"
	"testing"

	"splice/api"
	"splice/code"
	"splice/link"
	"splice/run"
)

// written is an image, and its bytes.
type written struct {
	m api.Image
	b string
}

// zeros answers so many zeros.
func zeros(n int) string { return strings.Repeat("\x00", n) }

// sample is an image with something in each of its parts, and its bytes.
func sample() written {
	return written{
		api.Image{Code: []uint32{0x14000003, 0xfedcba98, 0, 0x01020304}, Entry: 2, Data: []byte{9, 0, 255, 7, 128}, Write: 3, More: 0xabcd},
		"SPX1" +
			"\x04\x00\x00\x00" + "\x03\x00\x00\x14" + "\x98\xba\xdc\xfe" + "\x00\x00\x00\x00" + "\x04\x03\x02\x01" +
			"\x02\x00\x00\x00" +
			"\x05\x00\x00\x00" + "\x09\x00\xff\x07\x80" +
			"\x03\x00\x00\x00" +
			"\xcd\xab\x00\x00",
	}
}

// examples are images whose bytes are written out.
func examples() []written {
	return []written{
		{api.Image{}, "SPX1" + zeros(20)},
		{api.Image{Code: []uint32{math.MaxUint32}}, "SPX1\x01\x00\x00\x00\xff\xff\xff\xff" + zeros(16)},
		{api.Image{Code: []uint32{0}}, "SPX1\x01" + zeros(23)},
		{api.Image{Code: []uint32{1, 2}, Entry: 1}, "SPX1\x02\x00\x00\x00\x01\x00\x00\x00\x02\x00\x00\x00\x01\x00\x00\x00" + zeros(12)},
		{api.Image{Data: []byte{255}}, "SPX1" + zeros(8) + "\x01\x00\x00\x00\xff" + zeros(8)},
		{api.Image{Data: []byte{0, 1}, Write: 2}, "SPX1" + zeros(8) + "\x02\x00\x00\x00\x00\x01" + "\x02\x00\x00\x00" + zeros(4)},
		{api.Image{More: 256}, "SPX1" + zeros(16) + "\x00\x01\x00\x00"},
		{api.Image{More: 65536}, "SPX1" + zeros(16) + "\x00\x00\x01\x00"},
		{api.Image{More: 65535}, "SPX1" + zeros(16) + "\xff\xff\x00\x00"},
		sample(),
	}
}

// show tells all of the image; nil and empty lists look alike.
func show(m api.Image) string { return fmt.Sprintf("%+v", m) }

// empty tells whether nothing is in the image.
func empty(m api.Image) bool {
	return m.Code == nil && m.Entry == 0 && m.Data == nil && m.Write == 0 && m.More == 0
}

// low answers n's four lowest bytes, reckoned by divisions.
func low(n int) string {
	var b []byte
	for range 4 {
		b = append(b, byte(n%256))
		n /= 256
	}
	return string(b)
}

// byteText answers the image's bytes, as the chapter has them.
func byteText(m api.Image) string {
	var b strings.Builder
	b.WriteString("SPX1" + low(len(m.Code)))
	for _, w := range m.Code {
		b.WriteString(low(int(w)))
	}
	b.WriteString(low(m.Entry) + low(len(m.Data)) + string(m.Data) + low(m.Write) + low(m.More))
	return b.String()
}

// holds tells where the image isn't written as these bytes, or not read out of them.
func holds(t *testing.T, what string, m api.Image, b string) {
	t.Helper()
	got, e := Write(m)
	if e != api.OK || string(got) != b {
		t.Errorf("%s: is written as %.200q (%v), want %.200q", what, got, e, b)
	}
	n, e := Read([]byte(b))
	if e != api.OK || !alike(n, m) {
		t.Errorf("%s: is read as %.300s (%v), want %.300s", what, show(n), e, show(m))
	}
	if again, e := Write(n); e != api.OK || string(again) != b {
		t.Errorf("%s: what is read is written as %.200q (%v), want %.200q", what, again, e, b)
	}
}

// alike tells whether the images have the same in each of their parts.
func alike(a, b api.Image) bool {
	return slices.Equal(a.Code, b.Code) && a.Entry == b.Entry && bytes.Equal(a.Data, b.Data) && a.Write == b.Write && a.More == b.More
}

// refused tells where the image is written.
func refused(t *testing.T, what string, m api.Image) {
	t.Helper()
	if b, e := Write(m); e != api.ErrForm || len(b) != 0 {
		t.Errorf("%s: is written as %.200q (%v)", what, b, e)
	}
}

// unread tells where the bytes are read, or another error is told.
func unread(t *testing.T, what, b string, want api.Errno) {
	t.Helper()
	if m, e := Read([]byte(b)); e != want || !empty(m) {
		t.Errorf("%s: %.200q is read as %.300s (%v), want the error %v", what, b, show(m), e, want)
	}
}

// words answers so many words, each another one.
func words(n int) []uint32 {
	l := make([]uint32, n)
	for k := range l {
		l[k] = uint32(k)*0x9e3779b1 + 1
	}
	return l
}

// octets answers so many bytes.
func octets(n int) []byte {
	l := make([]byte, n)
	for k := range l {
		l[k] = byte(k*7 + k/256 + 1)
	}
	return l
}

// beyond are numbers that none of an image's fields may have, some of them with lowest bytes that one may have.
var beyond = []int{math.MinInt, math.MinInt + 1, math.MinInt32, -1 << 32, -1 << 31, -65536, -256, -2, -1, 65537, 65538, 1 << 17, 1<<24 + 1, 1 << 31, 1<<32 - 1, 1 << 32, 1<<32 + 1, 1 << 40, 1<<48 + 2, math.MaxInt}

// P15.1, P15.2: images whose bytes are written out.
func TestWrittenOut(t *testing.T) {
	for k, x := range examples() {
		holds(t, fmt.Sprint("example ", k), x.m, x.b)
		if got := byteText(x.m); got != x.b {
			t.Errorf("the test's own bytes of %d are %q, want %q", k, got, x.b)
		}
	}
}

// P15.1: nil and empty lists are one.
func TestEmptyLists(t *testing.T) {
	holds(t, "empty lists", api.Image{Code: []uint32{}, Data: []byte{}}, "SPX1"+zeros(20))
	holds(t, "no words", api.Image{Code: []uint32{}, Data: []byte{1}, Write: 1, More: 1}, "SPX1"+zeros(8)+"\x01\x00\x00\x00\x01\x01\x00\x00\x00\x01\x00\x00\x00")
	holds(t, "no data", api.Image{Code: []uint32{5, 6}, Entry: 1, Data: []byte{}, More: 2}, "SPX1\x02\x00\x00\x00\x05\x00\x00\x00\x06\x00\x00\x00\x01"+zeros(11)+"\x02\x00\x00\x00")
}

// P15.1: as many words as may be, and more.
func TestWords(t *testing.T) {
	for _, n := range []int{0, 1, 2, 3, 255, 256, 257, 2000, 2001, 65535, 65536} {
		m := api.Image{Code: words(n), Data: octets(3), Write: 1, More: 2}
		holds(t, fmt.Sprint(n, " words"), m, byteText(m))
		m.Entry = max(n-1, 0)
		holds(t, fmt.Sprint(n, " words, Entry the last one"), m, byteText(m))
	}
	for _, n := range []int{65537, 65538, 65792, 1 << 17, 1<<17 + 1, 1 << 18} {
		refused(t, fmt.Sprint(n, " words"), api.Image{Code: words(n)})
		refused(t, fmt.Sprint(n, " words, and data"), api.Image{Code: words(n), Entry: 1, Data: octets(3), Write: 1, More: 2})
	}
}

// P15.1: as many bytes of data as may be, and more.
func TestData(t *testing.T) {
	for _, n := range []int{0, 1, 2, 3, 255, 256, 257, 4096, 4097, 65535, 65536} {
		m := api.Image{Code: words(3), Entry: 2, Data: octets(n), More: 2}
		holds(t, fmt.Sprint(n, " bytes"), m, byteText(m))
		m.Write = n
		holds(t, fmt.Sprint(n, " bytes, none that can be written"), m, byteText(m))
	}
	for _, n := range []int{65537, 65538, 65792, 1 << 17, 1<<17 + 1, 1 << 18} {
		refused(t, fmt.Sprint(n, " bytes"), api.Image{Data: octets(n)})
		refused(t, fmt.Sprint(n, " bytes, and words"), api.Image{Code: words(3), Entry: 1, Data: octets(n), Write: 1, More: 2})
	}
}

// P15.1: the longest image, all of whose parts are as great as may be, and with one more in each of them alone.
func TestLongest(t *testing.T) {
	longest := func() api.Image {
		return api.Image{Code: words(65536), Entry: 65535, Data: octets(65536), Write: 65536, More: 65536}
	}
	m := longest()
	holds(t, "the longest", m, byteText(m))
	for k, grow := range []func(m *api.Image){
		func(m *api.Image) { m.Code = append(m.Code, 0) },
		func(m *api.Image) { m.Entry++ },
		func(m *api.Image) { m.Data = append(m.Data, 0) },
		func(m *api.Image) { m.Write++ },
		func(m *api.Image) { m.More++ },
	} {
		m := longest()
		grow(&m)
		refused(t, fmt.Sprint("the longest, and one more of ", k), m)
	}
	b := byteText(m)
	for _, n := range []int{0, 3, 7, 8, 11, 12, 262150, 262151, 262152, 262155, 262156, 262159, 262160, 300000, 327695, 327696, 327699, 327700, len(b) - 1} {
		unread(t, fmt.Sprint("the longest's first bytes: ", n), b[:n], api.ErrCut)
	}
	unread(t, "the longest, and a byte more", b+"\x00", api.ErrCut)
}

// P15.1: Entry below 0, at each end of the words, and behind them.
func TestEntry(t *testing.T) {
	for _, n := range []int{0, 1, 2, 3, 5, 255, 256, 257, 258, 65535, 65536} {
		m := api.Image{Code: words(n), Data: octets(9), Write: 4, More: 5}
		for _, entry := range []int{0, 1, 2, n / 2, n - 2, n - 1} {
			if m.Entry = entry; entry >= 0 && entry < n || entry == 0 {
				holds(t, fmt.Sprint("Entry of ", entry, " of ", n, " words"), m, byteText(m))
			}
		}
		for _, entry := range append([]int{-n, max(n, 1), n + 1, n + 2, n + 256, n + 65536, n + 1<<32}, beyond...) {
			if m.Entry = entry; entry != 0 {
				refused(t, fmt.Sprint("Entry of ", entry, " of ", n, " words"), m)
			}
		}
	}
}

// P15.1: Entry of an image without words is 0, whatever data it has.
func TestEntryWithoutWords(t *testing.T) {
	holds(t, "Entry of 0 without words", api.Image{Data: octets(9)}, byteText(api.Image{Data: octets(9)}))
	for _, entry := range append([]int{1, 2, 8, 9, 255, 256, 65535, 65536}, beyond...) {
		refused(t, fmt.Sprint("Entry of ", entry, " without words"), api.Image{Entry: entry, Data: octets(9)})
		refused(t, fmt.Sprint("Entry of ", entry, " alone"), api.Image{Entry: entry})
	}
}

// P15.1: Write below 0, at each end of the bytes, and beyond them.
func TestWritable(t *testing.T) {
	for _, n := range []int{0, 1, 2, 3, 5, 255, 256, 257, 258, 65535, 65536} {
		m := api.Image{Code: words(7), Entry: 6, Data: octets(n), More: 70}
		for _, from := range []int{0, 1, n / 2, n - 1, n} {
			if m.Write = from; from >= 0 && from <= n {
				holds(t, fmt.Sprint("Write of ", from, " of ", n, " bytes"), m, byteText(m))
			}
		}
		for _, from := range append([]int{-n, n + 1, n + 2, n + 70, n + 256, n + 65536, n + 1<<32}, beyond...) {
			if m.Write = from; from != 0 {
				refused(t, fmt.Sprint("Write of ", from, " of ", n, " bytes"), m)
			}
		}
	}
}

// P15.1: More below 0, up to MaxData, and beyond it, whatever data there are.
func TestMore(t *testing.T) {
	for _, m := range []api.Image{{}, {Code: words(2), Entry: 1, Data: octets(5), Write: 2}, {Data: octets(65536), Write: 65536}} {
		for _, m.More = range []int{0, 1, 2, 255, 256, 257, 4096, 32768, 65534, 65535, 65536} {
			holds(t, fmt.Sprint("More of ", m.More), m, byteText(m))
		}
		for _, m.More = range beyond {
			refused(t, fmt.Sprint("More of ", m.More), m)
		}
	}
}

// P15.1: words, whichever they are, and bytes, whichever they are; what the words mean isn't asked.
func TestWhicheverWords(t *testing.T) {
	var l []uint32
	for k := range 32 {
		l = append(l, 1<<k, ^uint32(1<<k), 1<<k-1, uint32(k)<<26|0x3ffffff)
	}
	l = append(l, 0x12345678, 0x87654321, 0xffffffff)
	all := make([]byte, 256)
	for k := range all {
		all[k] = byte(k)
	}
	m := api.Image{Code: l, Entry: 7, Data: all, Write: 100, More: 1000}
	holds(t, "whichever words", m, byteText(m))
	m = api.Image{Code: []uint32{0x31585053, 0x31585053}, Data: []byte("SPX1"), Write: 1}
	holds(t, "words and bytes that look like a beginning", m, byteText(m))
}

// P15.1: each beginning of an image's bytes is cut, and so is what goes on behind them.
func TestCut(t *testing.T) {
	for k, x := range examples() {
		for n := range x.b {
			unread(t, fmt.Sprint("the first ", n, " bytes of ", k), x.b[:n], api.ErrCut)
		}
		for _, more := range []string{"\x00", "\x01", "a", "S", "\xff", "\x00\x00", "SPX1", x.b, zeros(70000)} {
			unread(t, fmt.Sprintf("%.9q behind %d", more, k), x.b+more, api.ErrCut)
		}
	}
	if m, e := Read(nil); e != api.ErrCut || !empty(m) {
		t.Errorf("nil is read as %s (%v)", show(m), e)
	}
	if m, e := Read([]byte{}); e != api.ErrCut || !empty(m) {
		t.Errorf("no bytes are read as %s (%v)", show(m), e)
	}
}

// P15.1: another beginning, in each of its bytes; it is met where all four are taken.
func TestOtherBeginning(t *testing.T) {
	for k := range 4 {
		for c := range 256 {
			b := []byte(sample().b)
			if b[k] != byte(c) {
				b[k] = byte(c)
				unread(t, fmt.Sprint("the byte ", k), string(b), api.ErrForm)
				unread(t, fmt.Sprint("the byte ", k, ", a byte more"), string(b)+"\x00", api.ErrForm)
				unread(t, fmt.Sprint("the byte ", k, ", nothing behind"), string(b[:4]), api.ErrForm)
				unread(t, fmt.Sprint("the byte ", k, ", cut"), string(b[:3]), api.ErrCut)
			}
		}
	}
	for _, b := range []string{"spx1", "SPX2", "SPL1", "SPP1", "1XPS", "SPX\x00", "PX1S", " SPX", zeros(4), "PX1\x00", "S" + zeros(23), zeros(24), "\x31\x58\x50\x53" + zeros(20)} {
		unread(t, "another beginning", b, api.ErrForm)
	}
	for _, b := range []string{"x", "XY", "XYZ", zeros(3)} {
		unread(t, "fewer bytes of another beginning", b, api.ErrCut)
	}
}

// piece is a number in an image's bytes: what stands ahead of it, how great it may be, and what must come behind it, if it is so great.
type piece struct {
	what, ahead string
	most        int
	behind      func(n int) string
}

// pieces are the numbers of images, each where it may be of several sizes.
func pieces() []piece {
	l := []piece{
		{"words", "SPX1", 65536, func(n int) string { return strings.Repeat("\x01\x02\x03\x04", n) + zeros(16) }},
		{"More", "SPX1" + zeros(16), 65536, func(int) string { return "" }},
		{"More with all else", sample().b[:len(sample().b)-4], 65536, func(int) string { return "" }},
	}
	for _, n := range []int{0, 1, 2, 255, 256, 257, 65536} {
		wordBytes, dataBytes := low(n)+strings.Repeat("\x00\xff\x02\xfe", n), low(n)+strings.Repeat("\xfe", n)
		l = append(l,
			piece{fmt.Sprint("Entry of ", n, " words"), "SPX1" + wordBytes, max(n-1, 0), func(int) string { return zeros(12) }},
			piece{fmt.Sprint("bytes behind ", n, " words"), "SPX1" + wordBytes + zeros(4), 65536, func(n int) string { return strings.Repeat("\xff", n) + zeros(8) }},
			piece{fmt.Sprint("Write of ", n, " bytes"), "SPX1" + zeros(8) + dataBytes, n, func(int) string { return zeros(4) }},
			piece{fmt.Sprint("Write of ", n, " bytes and words"), "SPX1" + wordBytes + low(max(n-1, 0)) + dataBytes, n, func(int) string { return low(256) }},
			piece{fmt.Sprint("More behind ", n, " bytes"), "SPX1" + zeros(8) + dataBytes + low(n), 65536, func(int) string { return "" }})
	}
	return l
}

// P15.1: a number beyond what may be is met where its bytes are taken, whatever comes behind them, and if nothing does.
func TestNumbersBeyond(t *testing.T) {
	for _, x := range pieces() {
		for _, n := range []int{x.most + 1, x.most + 2, x.most + 255, x.most + 256, 65537, 65538, x.most + 65536, 1 << 17, 1 << 24, 1<<24 + x.most, 1<<31 - 1, 1 << 31, 1<<31 + x.most, 3 << 30, 1<<32 - 65536, 1<<32 - 256, 1<<32 - 2, 1<<32 - 1} {
			for _, behind := range []string{"", "\x00", "\xff", zeros(4), x.behind(x.most), x.behind(x.most) + "\x00", zeros(3), "\xff\xff\xff\xff\xff\xff\xff\xff"} {
				unread(t, fmt.Sprint(x.what, " of ", n, ", ", len(behind), " bytes behind"), x.ahead+low(n)+behind, api.ErrForm)
			}
		}
		plenty := x.ahead + low(x.most+1) + zeros(300000)
		unread(t, fmt.Sprint(x.what, " of one more, all behind"), plenty, api.ErrForm)
		unread(t, fmt.Sprint(x.what, " of ff ff ff ff, all behind"), x.ahead+"\xff\xff\xff\xff"+zeros(300000), api.ErrForm)
	}
}

// P15.1: a number as great as may be is taken; of what must come behind it there may be all, less, or more; a number that is cut isn't held against anything.
func TestNumbersWithin(t *testing.T) {
	for _, x := range pieces() {
		for _, n := range []int{0, 1, 2, x.most / 2, x.most - 1, x.most} {
			if n < 0 || n > x.most {
				continue
			}
			what := fmt.Sprint(x.what, " of ", n)
			begin, rest := x.ahead+low(n), x.behind(n)
			m, e := Read([]byte(begin + rest))
			if e != api.OK || byteText(m) != begin+rest {
				t.Errorf("%s is read as %.300s (%v)", what, show(m), e)
			}
			for _, k := range []int{0, 1, 2, 3, 4, len(rest) / 2, len(rest) - 4, len(rest) - 1} {
				if k >= 0 && k < len(rest) {
					unread(t, fmt.Sprint(what, ", ", k, " bytes behind"), begin+rest[:k], api.ErrCut)
				}
			}
			unread(t, what+", and one more", begin+rest+"\x00", api.ErrCut)
		}
		for _, part := range []string{"", "\x00", "\xff", "\xff\xff", "\xff\xff\xff", zeros(3), "\x01\x00\x01"} {
			unread(t, fmt.Sprintf("%s, cut: %q", x.what, part), x.ahead+part, api.ErrCut)
		}
	}
}

// P15.1: the first of several errors is the one that is met first, going through the bytes.
func TestFirstError(t *testing.T) {
	ones := "\xff\xff\xff\xff"
	for _, x := range []struct {
		what, b string
		want    api.Errno
	}{
		{"another beginning, and cut", "SPXX\x00", api.ErrForm},
		{"another beginning, and too many words", "SPL1" + ones, api.ErrForm},
		{"cut ahead of another beginning", "XPS", api.ErrCut},
		{"words cut ahead of Entry", "SPX1" + low(3) + ones + ones, api.ErrCut},
		{"words cut within one", "SPX1" + low(2) + ones + "\xff\xff\xff", api.ErrCut},
		{"words that take Entry's bytes", "SPX1" + low(4) + low(1) + low(9) + low(9) + low(9), api.ErrCut},
		{"Entry without words ahead of what is cut", "SPX1" + low(0) + low(1), api.ErrForm},
		{"Entry behind the words, ahead of too many bytes", "SPX1" + low(1) + ones + low(1) + ones, api.ErrForm},
		{"Entry cut ahead of too many bytes", "SPX1" + low(1) + ones + "\xff\xff", api.ErrCut},
		{"too many bytes ahead of Write", "SPX1" + low(1) + ones + low(0) + low(65537) + low(9) + low(9), api.ErrForm},
		{"bytes cut ahead of Write", "SPX1" + low(0) + low(0) + low(9) + ones + ones, api.ErrCut},
		{"bytes that take Write's and More's bytes", "SPX1" + low(0) + low(0) + low(9) + low(1) + ones, api.ErrCut},
		{"Write beyond the bytes, ahead of More that is cut", "SPX1" + low(0) + low(0) + low(1) + "a" + low(2) + "\x00", api.ErrForm},
		{"Write of data, where words are more", "SPX1" + low(2) + ones + ones + low(0) + low(1) + "a" + low(2) + low(0), api.ErrForm},
		{"Entry of words, where bytes are more", "SPX1" + low(1) + ones + low(1) + low(2) + "ab" + low(2) + low(0), api.ErrForm},
		{"Write cut ahead of More", "SPX1" + low(0) + low(0) + low(0) + "\xff\xff\xff", api.ErrCut},
		{"More beyond ahead of what is behind", "SPX1" + low(0) + low(0) + low(0) + low(0) + low(65537) + "a", api.ErrForm},
		{"something behind", "SPX1" + zeros(20) + "\xff", api.ErrCut},
		{"another image behind", sample().b + sample().b, api.ErrCut},
	} {
		unread(t, x.what, x.b, x.want)
	}
}

// model goes through bytes as the chapter says, without panics: it stops at the first error that it meets.
type model struct {
	b []byte
	e api.Errno
}

// over goes over so many bytes, and answers them.
func (m *model) over(n int) []byte {
	if m.e == api.OK && len(m.b) < n {
		m.e = api.ErrCut
	}
	if m.e != api.OK {
		return nil
	}
	b := m.b[:n]
	m.b = m.b[n:]
	return b
}

// number goes over a number, which is at most so much.
func (m *model) number(most int) int {
	n := 0
	for k, c := range m.over(4) {
		n += int(c) << (8 * k)
	}
	if m.e == api.OK && n > most {
		m.e = api.ErrForm
	}
	if m.e != api.OK {
		return 0
	}
	return n
}

// image goes over an image, and answers its error.
func (m *model) image() api.Errno {
	if b := m.over(4); m.e == api.OK && string(b) != "SPX1" {
		m.e = api.ErrForm
	}
	count := m.number(65536)
	m.over(4 * count)
	m.number(max(count, 1) - 1)
	size := m.number(65536)
	m.over(size)
	m.number(size)
	m.number(65536)
	if m.e == api.OK && len(m.b) > 0 {
		m.e = api.ErrCut
	}
	return m.e
}

// asModel tells where the bytes aren't read as the model goes through them; what is read is written as it stood.
func asModel(t *testing.T, b []byte) api.Errno {
	t.Helper()
	want := (&model{b: b}).image()
	m, e := Read(b)
	if e != want || e != api.OK && !empty(m) {
		t.Errorf("%.200q is read as %.300s (%v), want the error %v", b, show(m), e, want)
	}
	if e == api.OK {
		if again, f := Write(m); f != api.OK || !bytes.Equal(again, b) {
			t.Errorf("%.200q is written as %.200q (%v)", b, again, f)
		}
	}
	return e
}

// P15.1, P15.2: bytes that differ in one byte from an image's, whole and cut.
func TestChangedBytes(t *testing.T) {
	count := map[api.Errno]int{}
	for _, x := range examples() {
		for k := range x.b {
			for c := range 256 {
				b := []byte(x.b)
				b[k] = byte(c)
				count[asModel(t, b)]++
				count[asModel(t, b[:k+1])]++
				count[asModel(t, b[:len(b)-1])]++
				count[asModel(t, append(b, 0))]++
			}
		}
	}
	if len(count) != 3 || count[api.OK] == 0 || count[api.ErrCut] == 0 || count[api.ErrForm] == 0 {
		t.Errorf("of changed bytes came %v", count)
	}
}

// chance answers numbers that look like chance, always the same ones.
type chance uint64

// below answers a number from 0 to n-1.
func (c *chance) below(n int) int {
	*c = *c*6364136223846793005 + 1442695040888963407
	return int(uint64(*c) >> 33 % uint64(n))
}

// image answers an image that may be written.
func (c *chance) image() api.Image {
	var m api.Image
	for range c.below(9) {
		m.Code = append(m.Code, uint32(c.below(1<<31)*2+c.below(2)))
	}
	for range c.below(9) {
		m.Data = append(m.Data, byte(c.below(256)))
	}
	m.Entry, m.Write, m.More = c.below(max(len(m.Code), 1)), c.below(len(m.Data)+1), c.below(65537)
	return m
}

// P15.2: what is written is read as it was, what is read is written as it stood; and bytes changed at several places.
func TestManyImages(t *testing.T) {
	c := chance(7)
	for k := range 10000 {
		m := c.image()
		b := byteText(m)
		holds(t, fmt.Sprint("image ", k), m, b)
		for range 10 {
			changed := []byte(b)
			for range 1 + c.below(3) {
				changed[4+c.below(len(b)-4)] = byte(c.below(4) * c.below(86))
			}
			asModel(t, changed[:len(b)-c.below(2)*c.below(len(b))])
		}
	}
}

// P15.1: images by chance, with one number or another beyond what may be.
func TestManyRefused(t *testing.T) {
	c := chance(5)
	for range 10000 {
		m := c.image()
		fields := []*int{&m.Entry, &m.Write, &m.More}
		for range 2 {
			*fields[c.below(3)] += (c.below(7) - 3) << c.below(63)
		}
		right := m.Entry >= 0 && (m.Entry == 0 || m.Entry < len(m.Code)) && m.Write >= 0 && m.Write <= len(m.Data) && m.More >= 0 && m.More <= 65536
		if right {
			holds(t, show(m), m, byteText(m))
		} else {
			refused(t, show(m), m)
		}
	}
}

// P15.1: bytes of no image at all.
func TestWhicheverBytes(t *testing.T) {
	c := chance(11)
	count := map[api.Errno]int{}
	for range 50000 {
		b := []byte("SPX1")[:4*min(c.below(9), 1)]
		for range c.below(40) {
			b = append(b, byte(max(c.below(9)-6, 0)*c.below(128)))
		}
		count[asModel(t, b)]++
	}
	if len(count) != 3 {
		t.Errorf("of whichever bytes came %v", count)
	}
	asModel(t, make([]byte, 1<<20))
	asModel(t, []byte(strings.Repeat("SPX1", 1<<18)))
	asModel(t, []byte("SPX1"+zeros(1<<20)))
	asModel(t, []byte("SPX1"+strings.Repeat("\xff", 1<<20)))
	asModel(t, []byte("SPX1"+strings.Repeat("\x00\x00\x01\x00", 1<<18)))
}

// codeOf answers the words of the instructions.
func codeOf(t *testing.T, l ...api.Ins) []uint32 {
	t.Helper()
	var all []uint32
	for _, i := range l {
		w, e := code.Put(i)
		if e != api.OK {
			t.Fatalf("%+v has no word: %v", i, e)
		}
		all = append(all, w)
	}
	return all
}

// linked is an object whose program puts a byte of its data out, saves it, and ends with the number in it.
func linked(t *testing.T) api.Object {
	get := codeOf(t, api.Ins{Op: api.OpHigh, A: 1}, api.Ins{Op: api.OpOri, A: 1, B: 1}, api.Ins{Op: api.OpLdb, A: 2, B: 1, Imm: 1}, api.Ins{Op: api.OpRet})
	main := codeOf(t, api.Ins{Op: api.OpCall}, api.Ins{Op: api.OpOut, A: 2}, api.Ins{Op: api.OpStb, A: 2, B: 1, Imm: 2}, api.Ins{Op: api.OpHalt, A: 2})
	return api.Object{
		Funcs: []api.Func{
			{Name: "get", Bind: api.Local, Code: get, Rels: []api.Rel{{At: 0, Kind: api.RelHigh, Name: "e"}, {At: 1, Kind: api.RelLow, Name: "e"}}},
			{Name: "main", Bind: api.Strong, Code: main, Rels: []api.Rel{{At: 0, Kind: api.RelCall, Name: "get"}}},
		},
		Datas: []api.Data{
			{Name: "d", Bind: api.Strong, Align: 4, Fixed: true, Size: 4, Bytes: []byte{1, 2, 3, 4}},
			{Name: "e", Bind: api.Strong, Align: 16, Size: 8, Bytes: []byte{5, 66, 7, 8}, Rels: []api.Rel{{At: 4, Kind: api.RelWord, Name: "d", Add: 1}}},
		},
	}
}

// P15.2: images of the linker go to bytes and back, and run as they did.
func TestLinked(t *testing.T) {
	m, e := link.Objects([]api.Object{linked(t)})
	if e != api.OK {
		t.Fatalf("the object isn't linked: %v", e)
	}
	holds(t, "the linked image", m, byteText(m))
	b, _ := Write(m)
	n, _ := Read(b)
	was, is := run.Do(m, nil, 100), run.Do(n, nil, 100)
	if !link.Same(m, n) || !run.Alike(was, is) || string(is.Out) != "B" || is.Code != 66 {
		t.Errorf("%s is read as %s, and came to %+v, want %+v", show(m), show(n), is, was)
	}
}

// roomyList answers the list with others in the room behind its length.
func roomyList[T any](l []T, other T) []T {
	return append(slices.Clone(l), other, other, other)[:len(l)]
}

// roomy answers the image with something in the room behind each list's length.
func roomy(m api.Image) api.Image {
	m.Code, m.Data = roomyList(m.Code, 0xeeeeeeee), roomyList(m.Data, 0xee)
	return m
}

// whole answers the list with the room behind its length.
func whole[T any](l []T) []T { return l[:cap(l)] }

// showAll tells all of the image, and what stands in the room behind each list's length.
func showAll(m api.Image) string {
	return fmt.Sprintf("%+v %x %x", m, whole(m.Code), whole(m.Data))
}

// spoil changes all of the list, and the room behind it.
func spoil[T any](l []T, with T) {
	for k := range whole(l) {
		whole(l)[k] = with
	}
}

// kept are the images by which it is tested what becomes of what is handed in.
func kept() []written {
	m := api.Image{Code: words(300), Entry: 299, Data: octets(700), Write: 650, More: 9}
	return append(examples(), written{m, byteText(m)})
}

// P15.3: what is handed in stays, and so does the room behind each length.
func TestHandedInStays(t *testing.T) {
	for k, x := range kept() {
		m := roomy(x.m)
		for _, m.More = range []int{x.m.More, -1} {
			own := showAll(m)
			Write(m)
			if got := showAll(m); got != own {
				t.Errorf("of the image %d became %s, want %s", k, got, own)
			}
		}
		b := roomyList([]byte(x.b), 0xee)
		for n := range len(b) + 3 {
			Read(b[:n])
		}
		if string(whole(b)[:len(b)+3]) != x.b+"\xee\xee\xee" {
			t.Errorf("of the bytes %d became %q", k, whole(b))
		}
	}
}

// P15.3: what stands in the room behind a length isn't read.
func TestRoomIsNotRead(t *testing.T) {
	for k, x := range kept() {
		if b, e := Write(roomy(x.m)); e != api.OK || string(b) != x.b {
			t.Errorf("the image %d with room is written as %q (%v), want %q", k, b, e, x.b)
		}
		for n := range x.b {
			if m, e := Read([]byte(x.b)[:n]); e != api.ErrCut || !empty(m) {
				t.Errorf("the first %d bytes of %d, the others in the room behind them, are read as %s (%v)", n, k, show(m), e)
			}
		}
	}
}

// P15.3: what is handed in isn't kept: changed behind the call, it changes nothing of what was answered, nor of what will be.
func TestHandedInIsNotKept(t *testing.T) {
	for k, x := range kept() {
		m := roomy(x.m)
		b, _ := Write(m)
		spoil(m.Code, 0xa5a5a5a5)
		spoil(m.Data, 0xa5)
		if string(b) != x.b {
			t.Errorf("of the changed image %d came %q, want %q", k, b, x.b)
		}
		n, _ := Read(b)
		spoil(b, 0xa5)
		if !alike(n, x.m) {
			t.Errorf("of the changed bytes %d came %s, want %s", k, show(n), show(x.m))
		}
		holds(t, fmt.Sprint("behind changed ones, ", k), x.m, x.b)
	}
}

// P15.3: bytes that are written are new memory at every call.
func TestWrittenIsNew(t *testing.T) {
	for k, x := range kept() {
		m := roomy(x.m)
		own := showAll(m)
		first, _ := Write(m)
		second, _ := Write(m)
		spoil(first, 0xa5)
		third, _ := Write(m)
		if string(second) != x.b || string(third) != x.b || showAll(m) != own {
			t.Errorf("of changed bytes of %d came %q and %q, want %q", k, second, third, x.b)
		}
	}
}

// P15.3: images that are read are new memory at every call, and their lists share none.
func TestReadIsNew(t *testing.T) {
	for k, x := range kept() {
		b := []byte(x.b)
		first, _ := Read(b)
		second, _ := Read(b)
		spoil(first.Code, 0xa5a5a5a5)
		if !bytes.Equal(first.Data, x.m.Data) {
			t.Errorf("of the image %d whose words were changed came %s", k, show(first))
		}
		spoil(second.Data, 0x5a)
		if !slices.Equal(second.Code, x.m.Code) {
			t.Errorf("of the image %d whose data were changed came %s", k, show(second))
		}
		third, _ := Read(b)
		if !bytes.Equal(first.Data, x.m.Data) || !alike(third, x.m) || string(b) != x.b {
			t.Errorf("of changed images %d came %s and %s of %q", k, show(first), show(third), b)
		}
	}
}

// P15.3, P1: an answer hangs on what is handed in alone, whatever was asked ahead of it.
func TestAskedAgain(t *testing.T) {
	x := sample()
	for k, y := range kept() {
		Write(api.Image{Entry: -1})
		Read([]byte(y.b[:len(y.b)-1]))
		Read([]byte(y.b[:4] + "\xff\xff\xff\xff"))
		Write(y.m)
		Read([]byte(y.b))
		holds(t, fmt.Sprint("asked behind ", k), x.m, x.b)
	}
}
