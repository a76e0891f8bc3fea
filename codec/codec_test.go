package codec

import (
	"bytes"
	"encoding/binary"
	"hash/crc32"
	"math"
	"math/big"
	"math/rand"
	"testing"

	"scupper/api"
)

// edgeNums are the numbers at which one byte more is needed, and their neighbours.
func edgeNums() []uint64 {
	list := []uint64{0, 1, 2, 127, 128, math.MaxUint64, math.MaxUint64 - 1, math.MaxInt64, 1 << 63}
	for size := 1; size < 8; size++ {
		first := uint64(1) << (8 * size)
		list = append(list, first-1, first, first+1)
	}
	return list
}

// wantNum is a number's bytes as the chapter tells them, by way of numbers of any size.
func wantNum(n uint64) []byte {
	digits := new(big.Int).SetUint64(n).Bytes()
	return append([]byte{byte(len(digits))}, digits...)
}

// wantFrame is a frame as the chapter tells it, by way of the library's sum.
func wantFrame(data []byte) []byte {
	size := binary.BigEndian.AppendUint32(nil, uint32(len(data)))
	sum := crc32.ChecksumIEEE(append(bytes.Clone(size), data...))
	return append(binary.BigEndian.AppendUint32(size, sum), data...)
}

// noise is n bytes that hang on seed alone.
func noise(seed int64, n int) []byte {
	b := make([]byte, n)
	rand.New(rand.NewSource(seed)).Read(b)
	return b
}

// P2.1: the chapter's example of numbers, and what stands ahead of them.
func TestPutNumByHand(t *testing.T) {
	for _, c := range []struct {
		b    []byte
		n    uint64
		want []byte
	}{
		{nil, 0, []byte{0}},
		{[]byte{}, 0, []byte{0}},
		{nil, 1, []byte{1, 1}},
		{nil, 255, []byte{1, 0xFF}},
		{nil, 256, []byte{2, 1, 0}},
		{nil, 65535, []byte{2, 0xFF, 0xFF}},
		{nil, 65536, []byte{3, 1, 0, 0}},
		{[]byte{9, 8}, 0x1234, []byte{9, 8, 2, 0x12, 0x34}},
		{[]byte{0}, 1 << 56, []byte{0, 8, 1, 0, 0, 0, 0, 0, 0, 0}},
		{nil, math.MaxUint64, []byte{8, 0xFF, 0xFF, 0xFF, 0xFF, 0xFF, 0xFF, 0xFF, 0xFF}},
	} {
		if got := PutNum(c.b, c.n); !bytes.Equal(got, c.want) {
			t.Errorf("PutNum(%x, %d): %x; want %x", c.b, c.n, got, c.want)
		}
	}
}

// P2.1: lists of bytes, one, none and many, behind something and behind nothing.
func TestPutBytesByHand(t *testing.T) {
	for _, c := range []struct {
		b    []byte
		list [][]byte
		want []byte
	}{
		{nil, [][]byte{{7}, nil}, []byte{1, 1, 7, 0}},
		{nil, nil, nil},
		{[]byte{5, 6}, nil, []byte{5, 6}},
		{[]byte{5, 6}, [][]byte{{}}, []byte{5, 6, 0}},
		{[]byte{5}, [][]byte{{1, 2, 3}, {4}}, []byte{5, 1, 3, 1, 2, 3, 1, 1, 4}},
		{nil, [][]byte{nil, nil, nil}, []byte{0, 0, 0}},
		{nil, [][]byte{make([]byte, 256)}, append([]byte{2, 1, 0}, make([]byte, 256)...)},
		{nil, [][]byte{make([]byte, 255)}, append([]byte{1, 0xFF}, make([]byte, 255)...)},
	} {
		if got := PutBytes(c.b, c.list...); !bytes.Equal(got, c.want) {
			t.Errorf("PutBytes(%x, %x): %x; want %x", c.b, c.list, got, c.want)
		}
	}
}

type readCase struct {
	b    []byte
	at   int
	data []byte // of Num: unused
	n    uint64 // of Bytes and Unframe: unused
	next int
	e    api.Errno
}

// P2.1: Num by hand: what it reads, and every error, each ahead of the ones that come behind it.
func TestNumByHand(t *testing.T) {
	for _, c := range []readCase{
		{b: []byte{0}, n: 0, next: 1},
		{b: []byte{1, 0xFF}, n: 255, next: 2},
		{b: []byte{2, 1, 0}, n: 256, next: 3},
		{b: []byte{2, 1, 0, 9}, n: 256, next: 3},
		{b: []byte{9, 9, 1, 5, 9}, at: 2, n: 5, next: 4},
		{b: []byte{9, 0}, at: 1, n: 0, next: 2},
		{b: []byte{8, 1, 0, 0, 0, 0, 0, 0, 0}, n: 1 << 56, next: 9},
		{b: []byte{8, 0xFF, 0xFF, 0xFF, 0xFF, 0xFF, 0xFF, 0xFF, 0xFF}, n: math.MaxUint64, next: 9},
		{b: nil, at: -1, e: api.ErrArg},
		{b: nil, at: 1, e: api.ErrArg},
		{b: []byte{9}, at: -1, e: api.ErrArg},
		{b: []byte{9}, at: 2, e: api.ErrArg},
		{b: []byte{0}, at: math.MinInt, e: api.ErrArg},
		{b: []byte{0}, at: math.MaxInt, e: api.ErrArg},
		{b: nil, at: 0, e: api.ErrShort},
		{b: []byte{0}, at: 1, e: api.ErrShort},
		{b: []byte{1}, e: api.ErrShort},
		{b: []byte{2, 1}, e: api.ErrShort},
		{b: []byte{8}, e: api.ErrShort},
		{b: []byte{8, 1, 0, 0, 0, 0, 0, 0}, e: api.ErrShort},
		{b: []byte{1, 0}, e: api.ErrText},
		{b: []byte{2, 0}, e: api.ErrText},
		{b: []byte{2, 0, 1}, e: api.ErrText},
		{b: []byte{8, 0}, e: api.ErrText},
		{b: []byte{8, 0, 1, 1, 1, 1, 1, 1, 1}, e: api.ErrText},
		{b: []byte{9}, e: api.ErrText},
		{b: []byte{9, 1, 1, 1, 1, 1, 1, 1, 1, 1}, e: api.ErrText},
		{b: []byte{9, 0}, e: api.ErrText},
		{b: []byte{0xFF}, e: api.ErrText},
		{b: []byte{0, 0x80}, at: 1, e: api.ErrText},
	} {
		if n, next, e := Num(c.b, c.at); n != c.n || next != c.next || e != c.e {
			t.Errorf("Num(%x, %d): %d, %d, %d; want %d, %d, %d", c.b, c.at, n, next, e, c.n, c.next, c.e)
		}
	}
}

// P2.1: Bytes by hand: what it reads, the length's errors, and a list that is not all there, were it as long as no list can be.
func TestBytesByHand(t *testing.T) {
	for _, c := range []readCase{
		{b: []byte{0}, next: 1},
		{b: []byte{1, 1, 7, 0}, data: []byte{7}, next: 3},
		{b: []byte{1, 1, 7, 0}, at: 3, next: 4},
		{b: []byte{9, 1, 2, 7, 8, 9}, at: 1, data: []byte{7, 8}, next: 5},
		{b: append([]byte{2, 1, 0}, make([]byte, 256)...), data: make([]byte, 256), next: 259},
		{b: nil, at: -1, e: api.ErrArg},
		{b: []byte{9}, at: -1, e: api.ErrArg},
		{b: []byte{9}, at: 2, e: api.ErrArg},
		{b: []byte{0}, at: math.MinInt, e: api.ErrArg},
		{b: []byte{0}, at: math.MaxInt, e: api.ErrArg},
		{b: nil, e: api.ErrShort},
		{b: []byte{0}, at: 1, e: api.ErrShort},
		{b: []byte{1}, e: api.ErrShort},
		{b: []byte{2, 1}, e: api.ErrShort},
		{b: []byte{9}, e: api.ErrText},
		{b: []byte{1, 0}, e: api.ErrText},
		{b: []byte{2, 0}, e: api.ErrText},
		{b: []byte{2, 0, 1, 7}, e: api.ErrText},
		{b: []byte{1, 1}, e: api.ErrShort},
		{b: []byte{1, 3, 7, 7}, e: api.ErrShort},
		{b: append([]byte{2, 1, 0}, make([]byte, 255)...), e: api.ErrShort},
		{b: []byte{8, 0x7F, 0xFF, 0xFF, 0xFF, 0xFF, 0xFF, 0xFF, 0xFF, 1}, e: api.ErrShort},
		{b: []byte{8, 0x80, 0, 0, 0, 0, 0, 0, 0, 1}, e: api.ErrShort},
		{b: []byte{8, 0xFF, 0xFF, 0xFF, 0xFF, 0xFF, 0xFF, 0xFF, 0xFF, 1}, e: api.ErrShort},
		{b: []byte{8, 0xFF, 0xFF, 0xFF, 0xFF, 0xFF, 0xFF, 0xFF, 0xF7, 1}, e: api.ErrShort},
		{b: []byte{5, 1, 0, 0, 0, 1, 1}, e: api.ErrShort}, // its low 32 bits alone would be there
	} {
		data, next, e := Bytes(c.b, c.at)
		if !bytes.Equal(data, c.data) || next != c.next || e != c.e {
			t.Errorf("Bytes(%x, %d): %x, %d, %d; want %x, %d, %d", c.b, c.at, data, next, e, c.data, c.next, c.e)
		}
		if e != api.OK && data != nil {
			t.Errorf("Bytes(%x, %d): %v beside error %d", c.b, c.at, data, e)
		}
	}
}

// P2.1: numbers of every length, there and back, at any place; cut short they are ErrShort at every place.
func TestNumThereAndBack(t *testing.T) {
	r := rand.New(rand.NewSource(1))
	list := edgeNums()
	for range 2000 {
		list = append(list, r.Uint64()>>r.Intn(64))
	}
	for _, n := range list {
		ahead := noise(int64(n), r.Intn(4))
		b := PutNum(ahead, n)
		if want := append(bytes.Clone(ahead), wantNum(n)...); !bytes.Equal(b, want) {
			t.Fatalf("PutNum(%x, %d): %x; want %x", ahead, n, b, want)
		}
		for _, whole := range [][]byte{b, append(bytes.Clone(b), 0xFF)} {
			if got, next, e := Num(whole, len(ahead)); got != n || next != len(b) || e != api.OK {
				t.Fatalf("Num(%x, %d): %d, %d, %d; want %d, %d", whole, len(ahead), got, next, e, n, len(b))
			}
		}
		for end := len(ahead); end < len(b); end++ {
			if got, next, e := Num(b[:end], len(ahead)); got != 0 || next != 0 || e != api.ErrShort {
				t.Fatalf("Num(%x, %d): %d, %d, %d; want ErrShort", b[:end], len(ahead), got, next, e)
			}
		}
	}
}

// refNum reads a number as the chapter tells it, by undoing: it is the one of all whose bytes stand there.
func refNum(b []byte, at int) (uint64, int, api.Errno) {
	if at < 0 || at > len(b) {
		return 0, 0, api.ErrArg
	}
	rest := b[at:]
	if len(rest) > 0 && rest[0] > 8 || len(rest) > 1 && rest[0] > 0 && rest[1] == 0 {
		return 0, 0, api.ErrText
	}
	if len(rest) == 0 || len(rest) <= int(rest[0]) {
		return 0, 0, api.ErrShort
	}
	n := new(big.Int).SetBytes(rest[1 : 1+rest[0]]).Uint64()
	return n, at + len(wantNum(n)), api.OK
}

// P2.1: all short texts of a few telling bytes, at all places: Num as told, Bytes with what the length says.
func TestAllShortTexts(t *testing.T) {
	bytesOf := []byte{0, 1, 2, 3, 8, 9, 0xFF}
	texts := [][]byte{nil}
	for first := 0; len(texts[first]) < 5; first++ {
		for _, c := range bytesOf {
			texts = append(texts, append(bytes.Clone(texts[first]), c))
		}
	}
	for _, b := range texts {
		for at := -1; at <= len(b)+1; at++ {
			wantN, wantNext, wantE := refNum(b, at)
			if n, next, e := Num(b, at); n != wantN || next != wantNext || e != wantE {
				t.Fatalf("Num(%x, %d): %d, %d, %d; want %d, %d, %d", b, at, n, next, e, wantN, wantNext, wantE)
			}
			var want []byte
			if wantE == api.OK && wantN > uint64(len(b)-wantNext) {
				wantNext, wantE = 0, api.ErrShort
			} else if wantE == api.OK {
				want = b[wantNext : wantNext+int(wantN)]
				wantNext += int(wantN)
			}
			if data, next, e := Bytes(b, at); !bytes.Equal(data, want) || next != wantNext || e != wantE {
				t.Fatalf("Bytes(%x, %d): %x, %d, %d; want %x, %d, %d", b, at, data, next, e, want, wantNext, wantE)
			}
		}
	}
}

// P2.1: many lists of bytes are read back one by one, and there is none behind the last.
func TestBytesThereAndBack(t *testing.T) {
	list := [][]byte{nil, {0}, {1, 2, 3}, nil, noise(1, 255), noise(2, 256), noise(3, 70000), {9}}
	b := PutBytes([]byte{1, 2, 3, 4}, list...)
	at := 4
	for i, want := range list {
		data, next, e := Bytes(b, at)
		if !bytes.Equal(data, want) || next != at+len(wantNum(uint64(len(want))))+len(want) || e != api.OK {
			t.Fatalf("list %d at %d: %d bytes, %d, %d", i, at, len(data), next, e)
		}
		at = next
	}
	if at != len(b) {
		t.Errorf("behind all lists: %d of %d", at, len(b))
	}
	if data, next, e := Bytes(b, at); data != nil || next != 0 || e != api.ErrShort {
		t.Errorf("behind all lists: %x, %d, %d; want ErrShort", data, next, e)
	}
}

// P2.2: Sum, by hand and against the library's; how the bytes are dealt among the lists is all one.
func TestSum(t *testing.T) {
	for _, c := range []struct {
		list [][]byte
		want uint32
	}{
		{nil, 0},
		{[][]byte{nil}, 0},
		{[][]byte{nil, {}, nil}, 0},
		{[][]byte{[]byte("123456789")}, 0xCBF43926},
		{[][]byte{[]byte("1234"), nil, []byte("56789"), nil}, 0xCBF43926},
		{[][]byte{[]byte("56789"), []byte("1234")}, crc32.ChecksumIEEE([]byte("567891234"))},
		{[][]byte{{0}}, 0xD202EF8D},
		{[][]byte{{0, 0, 0, 0}}, 0x2144DF1C},
		{[][]byte{{0xFF, 0xFF, 0xFF, 0xFF}}, 0xFFFFFFFF},
	} {
		if got := Sum(c.list...); got != c.want {
			t.Errorf("Sum(%x): %08X; want %08X", c.list, got, c.want)
		}
	}
	r := rand.New(rand.NewSource(4))
	for i := range 300 {
		data := noise(int64(i), r.Intn(600))
		want := crc32.ChecksumIEEE(data)
		var list [][]byte
		for rest := data; len(rest) > 0; {
			n := r.Intn(len(rest) + 1)
			list, rest = append(list, rest[:n]), rest[n:]
		}
		if got := Sum(list...); got != want {
			t.Fatalf("Sum of %x in %d lists: %08X; want %08X", data, len(list), got, want)
		}
	}
	for c := range 256 {
		if got, want := Sum([]byte{byte(c)}), crc32.ChecksumIEEE([]byte{byte(c)}); got != want {
			t.Errorf("Sum of %02x: %08X; want %08X", c, got, want)
		}
	}
}

// P2.2: Frame by hand, and at each length up to the greatest that may be; one more is refused.
func TestFrame(t *testing.T) {
	if got, e := Frame(nil); !bytes.Equal(got, []byte{0, 0, 0, 0, 0x21, 0x44, 0xDF, 0x1C}) || e != api.OK {
		t.Errorf("Frame of nothing: %x, %d", got, e)
	}
	for _, n := range []int{0, 1, 2, 7, 8, 9, 255, 256, 257, 65534, 65535, api.MaxFrame} {
		data := noise(int64(n), n)
		if got, e := Frame(data); !bytes.Equal(got, wantFrame(data)) || e != api.OK {
			t.Errorf("Frame of %d bytes: %d bytes, %d", n, len(got), e)
		}
	}
	for _, n := range []int{api.MaxFrame + 1, 2 * api.MaxFrame, 1 << 20} {
		if got, e := Frame(make([]byte, n)); got != nil || e != api.ErrLarge {
			t.Errorf("Frame of %d bytes: %d bytes, %d; want ErrLarge", n, len(got), e)
		}
	}
}

// unframeCases are all errors of Unframe, each with those that come behind it there too.
func unframeCases() []readCase {
	empty, three := wantFrame(nil), wantFrame([]byte{7, 8, 9})
	both := append(bytes.Clone(empty), three...)
	large := append([]byte{0, 1, 0, 1, 0, 0, 0, 0}, make([]byte, api.MaxFrame+1)...)
	binary.BigEndian.PutUint32(large[4:], crc32.ChecksumIEEE(append(bytes.Clone(large[:4]), large[8:]...)))
	// The sum of the data alone, and of the data ahead of its length.
	bare := append([]byte{0, 0, 0, 3, 0, 0, 0, 0}, 7, 8, 9)
	binary.BigEndian.PutUint32(bare[4:], crc32.ChecksumIEEE(bare[8:]))
	turned := bytes.Clone(three)
	binary.BigEndian.PutUint32(turned[4:], crc32.ChecksumIEEE([]byte{7, 8, 9, 0, 0, 0, 3}))
	// The last place behind the greatest length: one less is all there.
	full := wantFrame(noise(5, api.MaxFrame))
	return []readCase{
		{b: empty, next: 8},
		{b: three, data: []byte{7, 8, 9}, next: 11},
		{b: both, next: 8},
		{b: both, at: 8, data: []byte{7, 8, 9}, next: 19},
		{b: append(bytes.Clone(three), 1, 2), data: []byte{7, 8, 9}, next: 11},
		{b: full, data: noise(5, api.MaxFrame), next: 8 + api.MaxFrame},
		{b: full[:len(full)-1], e: api.ErrShort},
		{b: nil, at: -1, e: api.ErrArg},
		{b: nil, at: 1, e: api.ErrArg},
		{b: empty, at: -1, e: api.ErrArg},
		{b: empty, at: 9, e: api.ErrArg},
		{b: empty, at: math.MinInt, e: api.ErrArg},
		{b: empty, at: math.MaxInt, e: api.ErrArg},
		{b: nil, e: api.ErrShort},
		{b: empty, at: 1, e: api.ErrShort},
		{b: empty, at: 8, e: api.ErrShort},
		{b: empty[:7], e: api.ErrShort},
		{b: []byte{0xFF, 0xFF, 0xFF, 0xFF, 0, 0, 0}, e: api.ErrShort},
		{b: []byte{0xFF, 0xFF, 0xFF, 0xFF, 0, 0, 0, 0}, e: api.ErrLarge},
		{b: []byte{0x80, 0, 0, 0, 0, 0, 0, 0}, e: api.ErrLarge},
		{b: []byte{0, 1, 0, 1, 0, 0, 0, 0}, e: api.ErrLarge},
		{b: large, e: api.ErrLarge},
		{b: []byte{0, 1, 0, 0, 0, 0, 0, 0}, e: api.ErrShort},
		{b: three[:10], e: api.ErrShort},
		{b: []byte{0, 0, 0, 1, 0, 0, 0, 0}, e: api.ErrShort},
		{b: []byte{0, 0, 0, 0, 0, 0, 0, 0}, e: api.ErrSum},
		{b: []byte{0, 0, 0, 0, 0x1C, 0xDF, 0x44, 0x21}, e: api.ErrSum},
		{b: append(bytes.Clone(three[:10]), 8), e: api.ErrSum},
		{b: bare, e: api.ErrSum},
		{b: turned, e: api.ErrSum},
	}
}

// P2.2: Unframe by hand.
func TestUnframeByHand(t *testing.T) {
	for i, c := range unframeCases() {
		data, next, e := Unframe(c.b, c.at)
		if !bytes.Equal(data, c.data) || next != c.next || e != c.e {
			t.Errorf("case %d: Unframe of %d bytes at %d: %d bytes, %d, %d; want %d bytes, %d, %d", i, len(c.b), c.at, len(data), next, e, len(c.data), c.next, c.e)
		}
		if e != api.OK && data != nil {
			t.Errorf("case %d: %v beside error %d", i, data, e)
		}
	}
}

// P2.2: frames one behind the other, there and back; cut short they are ErrShort at every place.
func TestFrameThereAndBack(t *testing.T) {
	var b []byte
	var list [][]byte
	for i := range 40 {
		list = append(list, noise(int64(i), i*i))
		frame, e := Frame(list[i])
		if e != api.OK {
			t.Fatalf("Frame of %d bytes: %d", i*i, e)
		}
		b = append(b, frame...)
	}
	at := 0
	for i, want := range list {
		data, next, e := Unframe(b, at)
		if !bytes.Equal(data, want) || next != at+8+len(want) || e != api.OK {
			t.Fatalf("frame %d at %d: %d bytes, %d, %d", i, at, len(data), next, e)
		}
		for end := at; end < next; end++ {
			if data, next, e := Unframe(b[:end], at); data != nil || next != 0 || e != api.ErrShort {
				t.Fatalf("frame %d at %d of %d: %d bytes, %d, %d; want ErrShort", i, at, end, len(data), next, e)
			}
		}
		at = next
	}
	if at != len(b) {
		t.Errorf("behind all frames: %d of %d", at, len(b))
	}
}

// P2.2: a frame of which one bit is turned is refused, wherever that bit is.
func TestFrameWithABitTurned(t *testing.T) {
	for _, n := range []int{0, 1, 5, 40} {
		frame, _ := Frame(noise(int64(n), n))
		for bit := range 8 * len(frame) {
			b := bytes.Clone(frame)
			b[bit/8] ^= 1 << (bit % 8)
			want := api.ErrSum
			if size := binary.BigEndian.Uint32(b); size > api.MaxFrame {
				want = api.ErrLarge
			} else if int(size) > n {
				want = api.ErrShort
			}
			if data, next, e := Unframe(b, 0); data != nil || next != 0 || e != want {
				t.Errorf("%d bytes, bit %d turned: %x, %d, %d; want %d", n, bit, data, next, e, want)
			}
		}
	}
}

// roomy is data with spare room behind it, all of it filled with what must stay.
func roomy(data []byte) (part, whole []byte) {
	whole = append(bytes.Clone(data), bytes.Repeat([]byte{0xA5}, 64)...)
	return whole[:len(data)], whole
}

// spoil changes all of b, its spare room too.
func spoil(b []byte) {
	b = b[:cap(b)]
	for i := range b {
		b[i] ^= 0xFF
	}
}

// oneCall is a call whose list answer, and whose arguments' memory, P2.3 speaks of.
type oneCall struct {
	name string
	call func(b []byte) []byte
	b    []byte
}

func oneCalls() []oneCall {
	list := PutBytes(nil, []byte{1, 2, 3, 4, 5})
	frame, _ := Frame([]byte{1, 2, 3, 4, 5})
	return []oneCall{
		{"PutNum", func(b []byte) []byte { return PutNum(b, 0x1234) }, []byte{1, 2, 3}},
		{"PutNum of 0", func(b []byte) []byte { return PutNum(b, 0) }, []byte{1, 2, 3}},
		{"PutNum behind nothing", func(b []byte) []byte { return PutNum(b, 7) }, nil},
		{"PutBytes of none", func(b []byte) []byte { return PutBytes(b) }, []byte{1, 2, 3}},
		{"PutBytes of none behind nothing", func(b []byte) []byte { return PutBytes(b) }, nil},
		{"PutBytes of an empty one", func(b []byte) []byte { return PutBytes(b, nil) }, []byte{1, 2, 3}},
		{"PutBytes of two", func(b []byte) []byte { return PutBytes(b, []byte{6, 7}, []byte{8}) }, []byte{1, 2, 3}},
		{"PutBytes of itself", func(b []byte) []byte { return PutBytes(b, b, b[1:]) }, []byte{1, 2, 3}},
		{"PutBytes of it alone", func(b []byte) []byte { return PutBytes(nil, b) }, []byte{1, 2, 3}},
		{"Bytes", func(b []byte) []byte { data, _, _ := Bytes(b, 0); return data }, list},
		{"Bytes of none", func(b []byte) []byte { data, _, _ := Bytes(b, 0); return data }, []byte{0}},
		{"Frame", func(b []byte) []byte { frame, _ := Frame(b); return frame }, []byte{1, 2, 3}},
		{"Frame of nothing", func(b []byte) []byte { frame, _ := Frame(b); return frame }, nil},
		{"Unframe", func(b []byte) []byte { data, _, _ := Unframe(b, 0); return data }, frame},
		{"Sum", func(b []byte) []byte { return []byte{byte(Sum(b, b))} }, []byte{1, 2, 3}},
		{"Num", func(b []byte) []byte { n, _, _ := Num(b, 0); return []byte{byte(n)} }, []byte{1, 7}},
	}
}

// P2.3: what is handed in stays as it is, spare room too, also when the answer is changed; the answer stays when that is changed, or another answer.
func TestNothingIsShared(t *testing.T) {
	for _, c := range oneCalls() {
		b, whole := roomy(c.b)
		before := bytes.Clone(whole)
		first, second := c.call(b), c.call(b)
		if !bytes.Equal(whole, before) {
			t.Errorf("%s changed what it was handed: %x to %x", c.name, before, whole)
		}
		want := bytes.Clone(first)
		if !bytes.Equal(second, want) {
			t.Errorf("%s answered %x, then %x", c.name, first, second)
		}
		spoil(second)
		if !bytes.Equal(whole, before) || !bytes.Equal(first, want) {
			t.Errorf("%s shares its answer: %x with what it was handed, or %x with another answer", c.name, whole, first)
		}
		spoil(whole)
		if !bytes.Equal(first, want) {
			t.Errorf("%s shares its answer with what it was handed: %x; want %x", c.name, first, want)
		}
	}
}

// P2.3: neither the lists that are put and summed nor the list of them are changed or kept.
func TestListsOfListsStay(t *testing.T) {
	one, oneWhole := roomy([]byte{1, 2, 3})
	two, twoWhole := roomy(nil)
	oneBefore, twoBefore := bytes.Clone(oneWhole), bytes.Clone(twoWhole)
	lists := [][]byte{one, two, {9}, {10}}
	put := PutBytes(nil, lists[:3]...)
	want := bytes.Clone(put)
	Sum(lists[:3]...)
	if !bytes.Equal(oneWhole, oneBefore) || !bytes.Equal(twoWhole, twoBefore) {
		t.Errorf("lists changed: %x, %x", oneWhole, twoWhole)
	}
	for i, list := range [][]byte{{1, 2, 3}, nil, {9}, {10}} {
		if !bytes.Equal(lists[i], list) {
			t.Errorf("list %d changed: %x; want %x", i, lists[i], list)
		}
	}
	spoil(oneWhole)
	if !bytes.Equal(put, want) {
		t.Errorf("PutBytes shares its answer with a list: %x; want %x", put, want)
	}
}
