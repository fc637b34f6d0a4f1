package bits

import (
	"math"
	"math/rand"
	"strings"
	"testing"

	"portmanteau/api"
)

// want: a test fails, if something is another thing than was wanted.
func want[T comparable](t *testing.T, what string, got, wanted T) {
	t.Helper()
	if got != wanted {
		t.Errorf("%s: %v, wanted %v", what, got, wanted)
	}
}

// signs: the bits of bytes as signs 0 and 1, in their order.
func signs(s string) string {
	out := []byte{}
	for i := range len(s) * 8 {
		out = append(out, '0'+s[i/8]/(1<<(i%8))%2)
	}
	return string(out)
}

// number: what signs are, the lowest first.
func number(signs string) uint32 {
	var n uint32
	for i := len(signs); i > 0; i-- {
		n = n*2 + uint32(signs[i-1]-'0')
	}
	return n
}

// told: the lowest n bits of v as signs, the lowest first.
func told(v uint32, n int) string {
	out := ""
	for range n {
		out += string([]byte{'0' + byte(v%2)})
		v /= 2
	}
	return out
}

// backward: signs in the other order.
func backward(signs string) string {
	out := ""
	for i := range len(signs) {
		out = signs[i:i+1] + out
	}
	return out
}

// packed: signs as bytes, bits 0 behind them.
func packed(signs string) string {
	out := []byte{}
	for len(signs)%8 > 0 {
		signs += "0"
	}
	for i := 0; i < len(signs); i += 8 {
		out = append(out, byte(number(signs[i:i+8])))
	}
	return string(out)
}

// sample: n bytes, the same for each n and seed.
func sample(n int, seed int64) string {
	r := rand.New(rand.NewSource(seed))
	out := make([]byte, n)
	for i := range out {
		out[i] = byte(r.Intn(256))
	}
	return string(out)
}

// at: a reader that has passed so many bits.
func at(s string, bits int) *Reader {
	r := Over(s)
	r.Skip(bits)
	return r
}

// state: where a reader is, and what went wrong.
func state(t *testing.T, what string, r *Reader, at int, err api.Errno) {
	t.Helper()
	want(t, what+": at", r.At(), at)
	want(t, what+": error", r.Err(), err)
}

var wrongCounts = []int{-1, -2, -32, 33, 34, 40, 64, 65, math.MaxInt32, math.MinInt32, math.MaxInt, math.MinInt}

func TestReadAtEachPlace(t *testing.T) { // P3.1
	s := sample(7, 1)
	all := signs(s)
	for place := range len(all) + 1 {
		for n := range 33 {
			r := at(s, place)
			if place+n > len(all) {
				want(t, "read of too many", r.Read(n), 0)
				state(t, "read of too many", r, place, api.ErrShort)
				continue
			}
			want(t, "read", r.Read(n), number(all[place:place+n]))
			state(t, "read", r, place+n, api.OK)
		}
	}
}

func TestReadOfWrongCounts(t *testing.T) { // P3.1
	for _, s := range []string{"", "\xff", strings.Repeat("\xff", 40)} {
		for _, n := range wrongCounts {
			r := at(s, min(3, len(s)*8))
			want(t, "read", r.Read(n), 0)
			state(t, "read", r, min(3, len(s)*8), api.ErrArg)
		}
		r := Over(s)
		want(t, "read of none", r.Read(0), 0)
		state(t, "read of none", r, 0, api.OK)
	}
	r := Over("")
	want(t, "read of nothing", r.Read(1), 0)
	state(t, "read of nothing", r, 0, api.ErrShort)
}

func TestPeek(t *testing.T) { // P3.1
	s := sample(6, 2)
	all := signs(s)
	for place := range len(all) + 1 {
		for n := range 33 {
			r := at(s, place)
			there := all[place:min(place+n, len(all))]
			v, many := r.Peek(n)
			want(t, "peek", v, number(there))
			want(t, "peek: how many", many, len(there))
			state(t, "peek", r, place, api.OK)
		}
		for _, n := range wrongCounts {
			r := at(s, place)
			v, many := r.Peek(n)
			want(t, "peek of a wrong count", v == 0 && many == 0, true)
			state(t, "peek of a wrong count", r, place, api.OK)
		}
	}
}

func TestSkip(t *testing.T) { // P3.1
	s := sample(20, 3)
	for place := range 161 {
		for _, n := range []int{0, 1, 7, 8, 9, 32, 33, 64, 65, 100, 159, 160} {
			r := at(s, place)
			r.Skip(n)
			if place+n > 160 {
				state(t, "skip of too many", r, place, api.ErrShort)
			} else {
				state(t, "skip", r, place+n, api.OK)
			}
		}
		for _, n := range []int{161, 1 << 31, 1 << 32, 1<<61 + 1, math.MaxInt - 1, math.MaxInt} {
			r := at(s, place)
			r.Skip(n)
			state(t, "skip of far too many", r, place, api.ErrShort)
		}
		for _, n := range []int{-1, -8, -160, math.MinInt32, math.MinInt, math.MinInt + 1} {
			r := at(s, place)
			r.Skip(n)
			state(t, "skip of fewer than none", r, place, api.ErrArg)
		}
	}
}

func TestReaderAlign(t *testing.T) { // P3.1
	for place := range 25 {
		r := at("abc", place)
		r.Align()
		state(t, "align", r, (place+7)/8*8, api.OK)
		r.Align()
		state(t, "align again", r, (place+7)/8*8, api.OK)
	}
	r := Over("")
	r.Align()
	state(t, "align of nothing", r, 0, api.OK)
}

func TestReaderBytes(t *testing.T) { // P3.1
	s := sample(5, 4)
	for place := range 41 {
		first := (place + 7) / 8
		for n := range 9 {
			r := at(s, place)
			if first+n > 5 {
				want(t, "bytes past the end", r.Bytes(n), "")
				state(t, "bytes past the end", r, first*8, api.ErrShort)
				continue
			}
			want(t, "bytes", r.Bytes(n), s[first:first+n])
			state(t, "bytes", r, (first+n)*8, api.OK)
		}
		for _, n := range []int{-1, -5, math.MinInt32, math.MinInt} {
			r := at(s, place)
			want(t, "bytes below 0", r.Bytes(n), "")
			state(t, "bytes below 0", r, first*8, api.ErrArg)
		}
		// 8 times these are few again, if they go round.
		for _, n := range []int{math.MaxInt32, 1 << 61, 1<<61 + 1, 1 << 62, math.MaxInt} {
			r := at(s, place)
			want(t, "far too many bytes", r.Bytes(n), "")
			state(t, "far too many bytes", r, first*8, api.ErrShort)
		}
	}
}

// failures: ways to an error of a reader at the bit 11 of four bytes or more.
func failures() map[string]func(r *Reader) api.Errno {
	return map[string]func(r *Reader) api.Errno{
		"read -1":  func(r *Reader) api.Errno { r.Read(-1); return api.ErrArg },
		"read 33":  func(r *Reader) api.Errno { r.Read(33); return api.ErrArg },
		"read 32":  func(r *Reader) api.Errno { r.Read(32); return api.ErrShort },
		"skip -1":  func(r *Reader) api.Errno { r.Skip(-1); return api.ErrArg },
		"skip 22":  func(r *Reader) api.Errno { r.Skip(22); return api.ErrShort },
		"bytes -1": func(r *Reader) api.Errno { r.Bytes(-1); return api.ErrArg },
		"bytes 3":  func(r *Reader) api.Errno { r.Bytes(3); return api.ErrShort },
	}
}

func TestAfterAnError(t *testing.T) { // P3.1
	for what, fail := range failures() {
		r := at("\xff\xff\xff\xff", 11)
		err := fail(r)
		place := 11
		if strings.HasPrefix(what, "bytes") {
			place = 16
		}
		state(t, what, r, place, err)
		for _, n := range append([]int{0, 1, 5, 16, 32}, wrongCounts...) {
			v, many := r.Peek(n)
			want(t, what+", then peek", v == 0 && many == 0, true)
			want(t, what+", then read", r.Read(n), 0)
			want(t, what+", then bytes", r.Bytes(n), "")
			r.Skip(n)
			r.Align()
			state(t, what+", then more", r, place, err)
		}
		for then, other := range failures() {
			other(r)
			state(t, what+", then "+then, r, place, err)
		}
	}
}

func TestTurn(t *testing.T) { // P3.2
	want(t, "turn", Turn(1, 4), 8)
	want(t, "turn", Turn(6, 3), 3)
	values := []uint32{0, 1, 2, 5, 0x80000000, 0xffffffff, 0x12345678, 0xedb88320, 0xf0000001}
	for i := range 32 {
		values = append(values, 1<<i)
	}
	for _, v := range values {
		for n := 1; n <= 32; n++ {
			want(t, "turn", Turn(v, n), number(backward(told(v, n))))
		}
		for _, n := range append([]int{0}, wrongCounts...) {
			want(t, "turn of a wrong count", Turn(v, n), 0)
		}
	}
}

// check: a writer has just these bits.
func check(t *testing.T, what string, w *Writer, signs string) {
	t.Helper()
	want(t, what+": length", w.Len(), len(signs))
	want(t, what+": done", w.Done(), packed(signs))
	want(t, what+": length, once done", w.Len(), len(signs))
	want(t, what+": done again", w.Done(), packed(signs))
}

func TestWrite(t *testing.T) { // P3.2
	w := &Writer{}
	check(t, "nothing", w, "")
	w.Write(1, 1)
	w.Write(2, 2)
	want(t, "the chapter's example", w.Done(), "\x05")
	for place := range 17 {
		for _, v := range []uint32{0, 1, 0xffffffff, 0x12345678, 0x87654321, 0xaaaaaaaa} {
			ahead := strings.Repeat("1", place)
			for n := range 33 {
				w := &Writer{}
				for range place {
					w.Write(0xffffffff, 1)
				}
				w.Write(v, n)
				check(t, "write", w, ahead+told(v, n))
				w.Write(1, 1)
				check(t, "write, and one more", w, ahead+told(v, n)+"1")
			}
			for _, n := range wrongCounts {
				w := &Writer{}
				for range place {
					w.Write(0xffffffff, 1)
				}
				w.Write(v, n)
				check(t, "write of a wrong count", w, ahead)
			}
		}
	}
}

func TestWriterAlign(t *testing.T) { // P3.2
	for place := range 25 {
		w := &Writer{}
		for range place {
			w.Write(1, 1)
		}
		wanted := strings.Repeat("1", place) + strings.Repeat("0", (8-place%8)%8)
		w.Align()
		check(t, "align", w, wanted)
		w.Align()
		check(t, "align again", w, wanted)
		w.Write(1, 1)
		check(t, "align, and one more", w, wanted+"1")
	}
}

func TestWriterBytes(t *testing.T) { // P3.2
	for place := range 17 {
		for _, s := range []string{"", "a", "hi", sample(100, 5)} {
			w := &Writer{}
			for range place {
				w.Write(1, 1)
			}
			wanted := strings.Repeat("1", place) + strings.Repeat("0", (8-place%8)%8) + signs(s)
			w.Bytes(s)
			check(t, "bytes", w, wanted)
			w.Write(5, 3)
			check(t, "bytes, and more bits", w, wanted+"101")
		}
	}
}

func TestDoneStays(t *testing.T) { // P3.2
	w := &Writer{}
	w.Write(1, 3)
	first := w.Done()
	w.Write(3, 2)
	second := w.Done()
	w.Bytes("x")
	third := w.Done()
	want(t, "first", first, "\x01")
	want(t, "second", second, "\x19")
	want(t, "third", third, "\x19x")
}

func TestNil(t *testing.T) { // P3.3
	var r *Reader
	for _, n := range append([]int{0, 1, 8, 32}, wrongCounts...) {
		want(t, "read", r.Read(n), 0)
		v, many := r.Peek(n)
		want(t, "peek", v == 0 && many == 0, true)
		r.Skip(n)
		r.Align()
		want(t, "bytes", r.Bytes(n), "")
		state(t, "nil", r, 0, api.ErrNil)
	}
	var w *Writer
	for _, n := range append([]int{0, 1, 8, 32}, wrongCounts...) {
		w.Write(1, n)
		w.Align()
		w.Bytes("x")
		want(t, "length", w.Len(), 0)
		want(t, "done", w.Done(), "")
	}
}

// piece is what was written: a number of bits, bytes, or bits 0 up to a byte.
type piece struct {
	kind, n int
	v       uint32
	text    string
}

// pieces: some, the same for each seed.
func pieces(seed int64) []piece {
	r := rand.New(rand.NewSource(seed))
	var out []piece
	for range 60 {
		p := piece{kind: r.Intn(8), n: 1 + r.Intn(32), v: r.Uint32()}
		p.text = sample(r.Intn(6), seed+int64(p.n))
		out = append(out, p)
	}
	return out
}

func TestThereAndBack(t *testing.T) { // P3.4
	for seed := range int64(200) {
		w := &Writer{}
		all := ""
		for _, p := range pieces(seed) {
			switch p.kind {
			case 0:
				w.Align()
			case 1:
				w.Bytes(p.text)
			default:
				w.Write(p.v, p.n)
				all += told(p.v, p.n)
				continue
			}
			all += strings.Repeat("0", (8-len(all)%8)%8)
			if p.kind == 1 {
				all += signs(p.text)
			}
		}
		check(t, "written", w, all)
		back(t, pieces(seed), Over(w.Done()), (len(all)+7)/8*8)
	}
}

// back: the pieces are read as they were.
func back(t *testing.T, pieces []piece, r *Reader, length int) {
	t.Helper()
	for _, p := range pieces {
		switch p.kind {
		case 0:
			r.Align()
		case 1:
			want(t, "bytes", r.Bytes(len(p.text)), p.text)
		default:
			peeked, many := r.Peek(p.n)
			want(t, "peeked", peeked == number(told(p.v, p.n)) && many == p.n, true)
			want(t, "read", r.Read(p.n), peeked)
		}
	}
	r.Align()
	state(t, "at the end", r, length, api.OK)
	want(t, "read past the end", r.Read(1), 0)
	state(t, "past the end", r, length, api.ErrShort)
}
