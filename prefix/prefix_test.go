package prefix

import (
	"math"
	"math/rand"
	"slices"
	"strings"
	"testing"

	"portmanteau/api"
	"portmanteau/bits"
)

// want: a test fails, if something is another thing than was wanted.
func want[T comparable](t *testing.T, what string, got, wanted T) {
	t.Helper()
	if got != wanted {
		t.Errorf("%s: %v, wanted %v", what, got, wanted)
	}
}

// next: a word's signs, and 1 more; none, where they were all 1.
func next(word string) string {
	zero := strings.LastIndex(word, "0")
	if zero < 0 {
		return ""
	}
	return word[:zero] + "1" + strings.Repeat("0", len(word)-zero-1)
}

// spelt: the words as signs 0 and 1, as the chapter makes them.
func spelt(lengths []uint8) []string {
	words := make([]string, len(lengths))
	last := ""
	for length := 1; length <= 15; length++ {
		for sign, l := range lengths {
			if int(l) != length {
				continue
			}
			if last != "" {
				last = next(last)
			}
			last += strings.Repeat("0", length-len(last))
			words[sign] = last
		}
	}
	return words
}

// number: what a word is, its first sign the highest.
func number(word string) uint32 {
	var n uint32
	for i := range len(word) {
		n = n*2 + uint32(word[i]-'0')
	}
	return n
}

// filled: how far lengths fill a code, of those that may be.
func filled(lengths []uint8) int {
	fill := 0
	for _, l := range lengths {
		if l > 0 {
			fill += int(math.Pow(2, 15-float64(l)))
		}
	}
	return fill
}

// lists: all of up to most lengths, each from 0 to longest.
func lists(most int, longest uint8) [][]uint8 {
	out := [][]uint8{{}}
	for i := 0; i < len(out); i++ {
		if len(out[i]) == most {
			break
		}
		for l := range longest + 1 {
			out = append(out, append(slices.Clone(out[i]), l))
		}
	}
	return out
}

// same: so many times one length.
func same(many int, length uint8) []uint8 {
	return slices.Repeat([]uint8{length}, many)
}

// fixed: the lengths of the fixed code of a stream.
func fixed() []uint8 {
	return slices.Concat(same(144, 8), same(112, 9), same(24, 7), same(8, 8))
}

// split: lengths of a whole code, of so many signs, none longer than 15, in an order by chance; the same for each seed.
func split(signs int, seed int64) []uint8 {
	r := rand.New(rand.NewSource(seed))
	lengths := []uint8{0}
	for len(lengths) < signs {
		i := r.Intn(len(lengths))
		if lengths[i] < 15 {
			lengths[i]++
			lengths = append(lengths, lengths[i])
		}
	}
	r.Shuffle(len(lengths), func(i, j int) { lengths[i], lengths[j] = lengths[j], lengths[i] })
	return lengths
}

// steep: one word of each length from 1 on, and one more of the last.
func steep(last uint8) []uint8 {
	out := []uint8{last}
	for l := last; l > 0; l-- {
		out = append(out, l)
	}
	return out
}

// greater: lists with long words, and with many signs.
func greater() [][]uint8 {
	out := [][]uint8{fixed(), same(30, 5), same(32, 5), steep(15), steep(14), same(4096, 12), same(4096, 15), same(4096, 0), {15}, {0, 15, 0, 15}, {14, 15}}
	for seed := range int64(20) {
		out = append(out, split(2+int(seed)*int(seed), seed))
	}
	return append(out, split(4096, 5))
}

func TestFill(t *testing.T) { // P4.1
	for _, lengths := range append(lists(4, 4), greater()...) {
		fill, err := Fill(lengths)
		want(t, "fill", fill, filled(lengths))
		want(t, "error", err, api.OK)
	}
	for length := range uint8(16) {
		fill, err := Fill([]uint8{length})
		want(t, "one", fill, []int{0, 16384, 8192, 4096, 2048, 1024, 512, 256, 128, 64, 32, 16, 8, 4, 2, 1}[length])
		want(t, "error", err, api.OK)
	}
	fill, err := Fill(same(4096, 1))
	want(t, "the most", fill == 4096*16384 && err == api.OK, true)
	fill, err = Fill(nil)
	want(t, "none", fill == 0 && err == api.OK, true)
}

// wrongs: lengths that no code has, and the error.
func wrongs() map[api.Errno][][]uint8 {
	long := same(4096, 12)
	long[4095] = 16
	return map[api.Errno][][]uint8{
		api.ErrMany:  {same(4097, 0), same(4097, 12), same(4097, 15), same(5000, 16), append(same(4096, 0), 16), append([]uint8{255}, same(4096, 1)...)},
		api.ErrRange: {{16}, {17}, {255}, {128}, {1, 1, 16}, {16, 1, 1}, {1, 1, 1, 16}, {16, 1, 1, 1}, {0, 32}, long},
	}
}

func TestWrongLengths(t *testing.T) { // P4.1, P4.2
	for wanted, all := range wrongs() {
		for _, lengths := range all {
			fill, err := Fill(lengths)
			want(t, "fill", fill == 0 && err == wanted, true)
			words, err := Words(lengths)
			want(t, "words", len(words) == 0 && err == wanted, true)
			for _, open := range []bool{false, true} {
				c, err := New(lengths, open)
				want(t, "new", c == nil && err == wanted, true)
			}
		}
	}
}

func TestWords(t *testing.T) { // P4.1
	words, err := Words([]uint8{2, 1, 3, 3})
	want(t, "the chapter's example", slices.Equal(words, []uint32{2, 0, 6, 7}) && err == api.OK, true)
	for _, lengths := range append(lists(5, 4), greater()...) {
		words, err := Words(lengths)
		if filled(lengths) > 1<<15 {
			want(t, "over", len(words) == 0 && err == api.ErrCode, true)
			continue
		}
		want(t, "error", err, api.OK)
		want(t, "how many", len(words), len(lengths))
		for sign, word := range spelt(lengths) {
			want(t, "word", words[sign], number(word))
		}
	}
	for length := uint8(1); length <= 15; length++ {
		_, err := Words(append(steep(length), 15))
		want(t, "over by the least", err, api.ErrCode)
	}
}

// may: does New make a code of lengths, each from 0 to 15?
func may(lengths []uint8, open bool) bool {
	used := slices.DeleteFunc(slices.Clone(lengths), func(l uint8) bool { return l == 0 })
	lone := len(used) == 0 || slices.Equal(used, []uint8{1})
	return filled(lengths) == 1<<15 || open && lone
}

func TestNew(t *testing.T) { // P4.2
	for _, lengths := range append(lists(5, 4), greater()...) {
		for _, open := range []bool{false, true} {
			c, err := New(lengths, open)
			if !may(lengths, open) {
				want(t, "no code", c == nil && err == api.ErrCode, true)
				continue
			}
			if c == nil || err != api.OK {
				t.Fatalf("new of %v, %v: %v", lengths, open, err)
			}
			want(t, "signs", c.Signs(), len(lengths))
			for sign, l := range lengths {
				want(t, "length", c.Length(sign), int(l))
			}
			for _, sign := range []int{-1, -2, math.MinInt, len(lengths), len(lengths) + 1, 4096, math.MaxInt} {
				want(t, "length of no sign", c.Length(sign), 0)
			}
		}
	}
}

func TestNewOfFew(t *testing.T) { // P4.2
	for _, c := range []struct {
		lengths []uint8
		open    bool
		err     api.Errno
	}{
		{nil, false, api.ErrCode}, {nil, true, api.OK},
		{[]uint8{0}, false, api.ErrCode}, {[]uint8{0, 0, 0}, true, api.OK},
		{[]uint8{1}, false, api.ErrCode}, {[]uint8{1}, true, api.OK},
		{[]uint8{0, 1, 0}, false, api.ErrCode}, {[]uint8{0, 0, 1}, true, api.OK},
		{[]uint8{2}, true, api.ErrCode}, {[]uint8{0, 15}, true, api.ErrCode},
		{[]uint8{1, 2}, true, api.ErrCode}, {[]uint8{2, 2}, true, api.ErrCode}, {[]uint8{15, 15}, true, api.ErrCode},
		{[]uint8{1, 1}, false, api.OK}, {[]uint8{1, 1}, true, api.OK},
		{[]uint8{1, 1, 1}, false, api.ErrCode}, {[]uint8{1, 1, 1}, true, api.ErrCode}, {[]uint8{1, 1, 15}, true, api.ErrCode},
		{[]uint8{1, 2, 2}, true, api.OK}, {steep(15), false, api.OK}, {steep(15)[1:], false, api.ErrCode}, {steep(15)[1:], true, api.ErrCode},
	} {
		code, err := New(c.lengths, c.open)
		want(t, "new", err, c.err)
		want(t, "a code", code != nil, c.err == api.OK)
	}
}

func TestMemory(t *testing.T) { // P4.1, P4.2
	room := []uint8{2, 1, 3, 3, 9, 9}
	lengths := room[:4]
	first, _ := Words(lengths)
	c, _ := New(lengths, false)
	Fill(lengths)
	want(t, "what was handed in", slices.Equal(room, []uint8{2, 1, 3, 3, 9, 9}), true)
	copy(lengths, []uint8{1, 2, 0, 0})
	first[0] = 77
	second, _ := Words([]uint8{2, 1, 3, 3})
	want(t, "words again", slices.Equal(second, []uint32{2, 0, 6, 7}), true)
	want(t, "length", c.Length(0) == 2 && c.Length(2) == 3, true)
	w := &bits.Writer{}
	c.Put(w, 0)
	want(t, "put", w.Len(), 2)
}

// reader: one at the first of these signs, that has passed some bits 1.
func reader(ahead int, signs string) *bits.Reader {
	w := &bits.Writer{}
	for range (8 - len(signs)%8) % 8 {
		w.Write(1, 1)
	}
	for range ahead {
		w.Write(0xff, 8)
	}
	for i := range len(signs) {
		w.Write(uint32(signs[i]-'0'), 1)
	}
	r := bits.Over(w.Done())
	r.Skip(w.Len() - len(signs))
	return r
}

// found: the sign whose word begins these signs, and its length; or the error.
func found(words []string, signs string) (int, int, api.Errno) {
	on := false
	for sign, word := range words {
		if word != "" && strings.HasPrefix(signs, word) {
			return sign, len(word), api.OK
		}
		on = on || word != "" && strings.HasPrefix(word, signs)
	}
	if on {
		return -1, 0, api.ErrShort
	}
	return -1, 0, api.ErrCode
}

// finds: Sign tells what stands there, and the reader is behind it, or stays.
func finds(t *testing.T, c *Code, words []string, ahead int, signs string) {
	t.Helper()
	r := reader(ahead, signs)
	place := r.At()
	sign, length, wanted := found(words, signs)
	got, err := c.Sign(r)
	if got != sign || err != wanted {
		t.Errorf("words %q, bits %q: %v, %v, wanted %v, %v", words, signs, got, err, sign, wanted)
	}
	want(t, "at", r.At(), place+length)
	want(t, "the reader's error", r.Err(), api.OK)
}

// allSigns: all rows of so many signs 0 and 1 at most.
func allSigns(most int) []string {
	out := []string{""}
	for i := 0; len(out[i]) < most; i++ {
		out = append(out, out[i]+"0", out[i]+"1")
	}
	return out
}

func TestSign(t *testing.T) { // P4.3
	rows := allSigns(6)
	for _, lengths := range lists(5, 4) {
		c, err := New(lengths, true)
		if err != api.OK {
			continue
		}
		words := spelt(lengths)
		for _, row := range rows {
			finds(t, c, words, 0, row)
		}
	}
}

func TestSignOfLongWords(t *testing.T) { // P4.3
	for _, lengths := range greater() {
		c, err := New(lengths, true)
		if err != api.OK {
			continue
		}
		words := spelt(lengths)
		for _, word := range words[max(0, len(words)-300):] {
			for cut := range len(word) + 1 {
				finds(t, c, words, 1, word[:cut])
			}
			finds(t, c, words, 2, word+"0")
			finds(t, c, words, 0, word+"1111111111111111111")
		}
	}
}

func TestSignOfOpenCodes(t *testing.T) { // P4.3
	none, _ := New([]uint8{0, 0}, true)
	one, _ := New([]uint8{0, 0, 1}, true)
	for _, many := range []int{0, 1, 2, 7, 14, 15, 16, 40} {
		finds(t, none, []string{"", ""}, 0, strings.Repeat("0", many))
		finds(t, none, []string{"", ""}, 0, strings.Repeat("1", many))
		finds(t, one, []string{"", "", "0"}, 0, strings.Repeat("0", many))
		finds(t, one, []string{"", "", "0"}, 0, strings.Repeat("1", many))
	}
	_, err := one.Sign(bits.Over(""))
	want(t, "one, no bits", err, api.ErrShort)
	_, err = one.Sign(reader(0, "1"))
	want(t, "one, a bit 1", err, api.ErrCode)
	_, err = none.Sign(bits.Over(""))
	want(t, "none, no bits", err, api.ErrCode)
}

func TestSignOfWrongReaders(t *testing.T) { // P4.3
	whole, _ := New([]uint8{1, 1}, false)
	none, _ := New(nil, true)
	for _, c := range []*Code{whole, none} {
		sign, err := c.Sign(nil)
		want(t, "nil reader", sign == -1 && err == api.ErrNil, true)
		r := bits.Over("abc")
		r.Skip(3)
		r.Read(-1)
		sign, err = c.Sign(r)
		want(t, "reader with an error", sign == -1 && err == api.ErrArg && r.At() == 3, true)
		r = bits.Over("abc")
		r.Skip(25)
		sign, err = c.Sign(r)
		want(t, "reader past the end", sign == -1 && err == api.ErrShort && r.At() == 0, true)
	}
}

func TestPut(t *testing.T) { // P4.3
	for _, lengths := range append(lists(4, 3), greater()...) {
		c, err := New(lengths, true)
		if err != api.OK {
			continue
		}
		for sign, word := range spelt(lengths) {
			w := &bits.Writer{}
			w.Write(5, 3)
			if word == "" {
				want(t, "put of none", c.Put(w, sign) == api.ErrArg && w.Len() == 3, true)
				continue
			}
			want(t, "put", c.Put(w, sign), api.OK)
			want(t, "length", w.Len(), 3+len(word))
			r := bits.Over(w.Done())
			want(t, "what was there", r.Read(3), 5)
			got := ""
			for range word {
				got += string([]byte{'0' + byte(r.Read(1))})
			}
			want(t, "bits", got, word)
		}
		for _, sign := range []int{-1, math.MinInt, len(lengths), len(lengths) + 5, math.MaxInt} {
			w := &bits.Writer{}
			want(t, "put of no sign", c.Put(w, sign) == api.ErrArg && w.Len() == 0, true)
		}
	}
}

func TestNil(t *testing.T) { // P4.3
	var c *Code
	r := bits.Over("abc")
	sign, err := c.Sign(r)
	want(t, "sign", sign == -1 && err == api.ErrNil && r.At() == 0, true)
	sign, err = c.Sign(nil)
	want(t, "sign of no reader", sign == -1 && err == api.ErrNil, true)
	w := &bits.Writer{}
	want(t, "put", c.Put(w, 0) == api.ErrNil && w.Len() == 0, true)
	want(t, "put with no writer", c.Put(nil, 0), api.ErrNil)
	want(t, "signs", c.Signs(), 0)
	for _, sign := range []int{-1, 0, 1, math.MaxInt} {
		want(t, "length", c.Length(sign), 0)
	}
	c, _ = New([]uint8{1, 1}, false)
	want(t, "put to no writer", c.Put(nil, 0), api.ErrNil)
}

func TestThereAndBack(t *testing.T) { // P4.4
	for seed, lengths := range greater() {
		c, err := New(lengths, false)
		if err != api.OK {
			continue
		}
		r := rand.New(rand.NewSource(int64(seed)))
		w := &bits.Writer{}
		put := []int{}
		for range 500 {
			sign := r.Intn(len(lengths))
			if c.Put(w, sign) == api.OK {
				put = append(put, sign)
			}
		}
		back := bits.Over(w.Done())
		for _, sign := range put {
			got, err := c.Sign(back)
			want(t, "sign", got == sign && err == api.OK, true)
		}
		want(t, "at", back.At(), w.Len())
	}
}

func TestNoWordBeginsAnother(t *testing.T) { // P4.4
	for _, lengths := range append(lists(5, 4), fixed(), steep(15), split(300, 7)) {
		words, err := Words(lengths)
		if err != api.OK {
			continue
		}
		for a, long := range words {
			for b, short := range words {
				if a != b && lengths[b] > 0 && lengths[a] >= lengths[b] {
					want(t, "begins with another", long>>(lengths[a]-lengths[b]) == short, false)
				}
			}
		}
	}
}

func TestAnyBitsAreSigns(t *testing.T) { // P4.4
	chance := rand.New(rand.NewSource(1))
	text := make([]byte, 300)
	for i := range text {
		text[i] = byte(chance.Intn(256))
	}
	for _, lengths := range greater() {
		c, err := New(lengths, false)
		if err != api.OK {
			continue
		}
		r := bits.Over(string(text))
		for r.At() <= len(text)*8-15 {
			place := r.At()
			sign, err := c.Sign(r)
			want(t, "error", err, api.OK)
			want(t, "at", r.At(), place+c.Length(sign))
			if err != api.OK {
				break
			}
		}
	}
}
