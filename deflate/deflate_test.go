package deflate

import (
	"compress/flate"
	"io"
	"math"
	"math/rand"
	"slices"
	"strconv"
	"strings"
	"testing"

	"portmanteau/api"
	"portmanteau/inflate"
)

const most = 1 << 20 // bytes of a text

// want: a test fails, if something is another thing than was wanted.
func want[T comparable](t *testing.T, what string, got, wanted T) {
	t.Helper()
	if got != wanted {
		t.Errorf("%s: %v, wanted %v", what, got, wanted)
	}
}

// chance: n bytes, each below signs, the same for each n, signs and seed.
func chance(n, signs int, seed int64) string {
	r := rand.New(rand.NewSource(seed))
	out := make([]byte, n)
	for i := range out {
		out[i] = byte(r.Intn(signs))
	}
	return string(out)
}

// prose: n bytes of words.
func prose(n int, seed int64) string {
	r := rand.New(rand.NewSource(seed))
	words := strings.Fields("a tree and an archive are kept alike so that what is in one is in the other")
	var out strings.Builder
	for out.Len() < n {
		out.WriteString(words[r.Intn(len(words))] + " ")
	}
	return out.String()[:n]
}

// raised: bytes below 112 as such above 143, whose words in a fixed block have 9 bits.
func raised(s string) string {
	out := []byte(s)
	for i := range out {
		out[i] = 144 + out[i]%112
	}
	return string(out)
}

// mixed: about n bytes, of words, of chance, of one byte, one behind the other, and of what was there once more.
func mixed(n int, seed int64) string {
	r := rand.New(rand.NewSource(seed))
	out := ""
	for i := seed; len(out) < n; i++ {
		many := 1 + r.Intn(1<<r.Intn(15))
		switch r.Intn(4) {
		case 0:
			out += prose(many, i)
		case 1:
			out += chance(many, 1+r.Intn(256), i)
		case 2:
			out += strings.Repeat(string([]byte{byte(r.Intn(256))}), many)
		case 3:
			from := r.Intn(len(out) + 1)
			out += out[from:min(from+many, len(out))]
		}
	}
	return out
}

// bounded: a second reckoning of Bound, for a text's length.
func bounded(n int) int {
	out := 5
	for left := n; left > 0; left -= 32768 {
		out += 5 + min(left, 32768)
	}
	return out
}

// isRead: a text's stream is short enough, and layer 6 and Go's library read it as the text again, to its last byte.
func isRead(t *testing.T, what, s string, level int) string {
	t.Helper()
	what += ", " + strconv.Itoa(len(s)) + " bytes, level " + strconv.Itoa(level)
	z, err := Deflate(s, level)
	want(t, what+": error", err, api.OK)
	want(t, what+": is it short enough", len(z) <= bounded(len(s)), true)
	want(t, what+": is it short enough for Bound", len(z) <= Bound(len(s)), true)
	for _, behind := range []string{"", "behind"} {
		again, took, err := inflate.Inflate(z+behind, len(s))
		want(t, what+": error of layer 6", err, api.OK)
		want(t, what+": is it the text again", again == s, true)
		want(t, what+": how much of it was taken", took, len(z))
	}
	other, e := io.ReadAll(flate.NewReader(strings.NewReader(z)))
	want(t, what+": error of the library", e, nil)
	want(t, what+": is it the text for the library", string(other) == s, true)
	return z
}

// ofEachLevel: a test of each level from one on, side by side.
func ofEachLevel(t *testing.T, from int, test func(t *testing.T, level int)) {
	for level := from; level <= 9; level++ {
		t.Run(strconv.Itoa(level), func(t *testing.T) {
			t.Parallel()
			test(t, level)
		})
	}
}

func TestDeflate(t *testing.T) { // P9.1, P9.4
	ofEachLevel(t, 0, func(t *testing.T, level int) {
		isRead(t, "nothing", "", level)
		isRead(t, "noughts and ones", "\x00\xff\x01", level)
		isRead(t, "all bytes", strings.Repeat(chance(9000, 256, 1), 3), level)
		isRead(t, "one byte and words", strings.Repeat("a", 40000)+prose(40000, 2), level)
		isRead(t, "the same far away", chance(32768, 256, 3)+chance(32768, 256, 3), level)
		for b := level; b < 256; b += 7 {
			isRead(t, "one byte", string([]byte{byte(b)}), level)
		}
		for n := 1; n < 300; n += 1 + n/9 {
			isRead(t, "words", prose(n, int64(n)), level)
			isRead(t, "one byte again and again", strings.Repeat("x", n), level)
			isRead(t, "two signs", chance(n, 2, int64(n)), level)
			isRead(t, "chance", chance(n, 256, int64(n)), level)
		}
	})
}

func TestDeflateOfAnyText(t *testing.T) { // P9.1, P9.4
	ofEachLevel(t, 0, func(t *testing.T, level int) {
		for i := range 34 {
			isRead(t, "any text", mixed(1<<(i%17), int64(i*10+level)), level)
		}
		isRead(t, "any long text", mixed(300000, int64(level)), level)
	})
}

func TestDeflateAtTheEdgesOfParts(t *testing.T) { // P9.1, P9.4
	ofEachLevel(t, 0, func(t *testing.T, level int) {
		for _, n := range []int{257, 258, 259, 32511, 32767, 32768, 32769, 33026, 65535, 65536, 65537, 98304, 98305} {
			isRead(t, "words", prose(n, int64(n)), level)
			isRead(t, "one byte again and again", strings.Repeat("\xff", n), level)
			isRead(t, "chance", chance(n, 256, int64(n)), level)
			isRead(t, "words of bytes above 143", raised(prose(n, 4)), level)
		}
	})
}

func TestDeflateOfTheLongestText(t *testing.T) { // P9.1, P9.4
	words, noise, one := prose(most, 5), chance(most, 256, 6), strings.Repeat("y", most)
	ofEachLevel(t, 0, func(t *testing.T, level int) {
		isRead(t, "words", words, level)
		isRead(t, "one byte again and again", one, level)
		isRead(t, "chance", noise, level)
		z, err := Deflate(one+"y", level)
		want(t, "one byte more: error", err, api.ErrLong)
		want(t, "one byte more: how long is the stream", len(z), 0)
	})
}

func TestDeflateRefuses(t *testing.T) { // P9.1
	long := chance(most+1, 256, 7)
	for _, level := range []int{math.MinInt, math.MinInt32, -256, -10, -9, -2, -1, 10, 11, 16, 256, 1 << 32, math.MaxInt32, math.MaxInt} {
		for _, s := range []string{"", "a", prose(100, 8), long} {
			z, err := Deflate(s, level)
			want(t, "a wrong level", err, api.ErrArg)
			want(t, "how long is the stream beside it", len(z), 0)
		}
	}
	for level := range 10 {
		for _, s := range []string{long, long + long} {
			z, err := Deflate(s, level)
			want(t, "too long", err, api.ErrLong)
			want(t, "how long is the stream beside it", len(z), 0)
		}
	}
}

// stored: the texts of a stream's blocks, all of which are stored, and whose bits passed over are 0.
func stored(t *testing.T, what, z string) []string {
	t.Helper()
	var texts []string
	for {
		if len(z) < 5 {
			t.Fatalf("%s: a block without a head", what)
		}
		// Stored blocks end with a byte: the five bits behind a block's first three are passed over.
		if z[0] > 1 {
			t.Fatalf("%s: a block that begins with %d", what, z[0])
		}
		many := int(z[1]) + int(z[2])<<8
		want(t, what+": the length turned", int(z[3])+int(z[4])<<8, 65535-many)
		if len(z) < 5+many {
			t.Fatalf("%s: a block of fewer bytes than %d", what, many)
		}
		texts = append(texts, z[5:5+many])
		last := z[0] == 1
		z = z[5+many:]
		if last {
			want(t, what+": how much is behind the last one", len(z), 0)
			return texts
		}
	}
}

func TestLevelNoughtStores(t *testing.T) { // P9.1
	for _, n := range []int{0, 1, 2, 3, 255, 256, 257, 32767, 32768, 32769, 65534, 65535, 65536, 65537, 131072, 500000, most - 1, most} {
		for _, s := range []string{prose(n, 9), strings.Repeat("s", n), strings.Repeat("\x00", n), chance(n, 256, 10)} {
			z, err := Deflate(s, 0)
			want(t, "error", err, api.OK)
			want(t, "are the blocks the text", strings.Join(stored(t, strconv.Itoa(n), z), "") == s, true)
		}
	}
}

func TestBound(t *testing.T) { // P9.2
	for n, bound := range map[int]int{
		0: 5, 1: 11, 2: 12, 32767: 32777, 32768: 32778, 32769: 32784, 65535: 65550, 65536: 65551, 65537: 65557,
		most - 1: 1048740, most: 1048741,
	} {
		want(t, "Bound of "+strconv.Itoa(n), Bound(n), bound)
	}
	for n := 0; n <= most; n += 1 + n%97 {
		want(t, "Bound of "+strconv.Itoa(n), Bound(n), bounded(n))
	}
	for _, n := range []int{-1, -2, -5, -32768, -32769, -most, math.MinInt32, math.MinInt + 1, math.MinInt} {
		want(t, "Bound of "+strconv.Itoa(n), Bound(n), 5)
	}
	for _, n := range []int{most + 1, most + 32768, most + 32769, 2 * most, math.MaxInt32, 1 << 32, math.MaxInt - 5, math.MaxInt - 1, math.MaxInt} {
		want(t, "Bound of "+strconv.Itoa(n), Bound(n), 1048741)
	}
}

// crossed: n bytes by chance, in which a copy that hardly makes them shorter lies across the end of each part of 32768 bytes at most.
func crossed(n, wide int, seed int64) string {
	out := []byte(chance(n, 256, seed))
	ahead := wide / 2
	for end := 32768; end+wide < n; end += 32768 - ahead {
		copy(out[end-ahead:], out[end-ahead-500:][:wide])
	}
	return string(out)
}

func TestDeflateOfWhatHasNoCopies(t *testing.T) { // P9.1, P9.2
	ofEachLevel(t, 0, func(t *testing.T, level int) {
		for n := range 200 {
			z, _ := Deflate(chance(n, 256, int64(level)), level)
			want(t, "is it short enough, of "+strconv.Itoa(n), len(z) <= bounded(n), true)
		}
		for i, n := range []int{5000, 32768, 65535, 98304} {
			isRead(t, "chance of bytes above 143", raised(chance(n, 112, int64(i))), level)
		}
		for _, wide := range []int{6, 20} {
			isRead(t, "a copy across each end", crossed(3*32768, wide, 11), level)
		}
		isRead(t, "a copy across each end", crossed(most, 16, 12), level)
	})
}

func TestOneByteAThousandTimes(t *testing.T) { // P9.4
	for level := 1; level <= 9; level++ {
		for _, b := range []byte{0, 1, 'a', 143, 144, 255} {
			z := isRead(t, "one byte", strings.Repeat(string([]byte{b}), 1000), level)
			want(t, "is it short", len(z) < 100, true)
		}
	}
}

func TestTheSameAgain(t *testing.T) { // P9.1
	texts := []string{"", "a", prose(70000, 13), strings.Repeat("z", 40000), chance(40000, 256, 14), mixed(90000, 15)}
	for level := range 10 {
		var first []string
		for _, s := range texts {
			z, _ := Deflate(s, level)
			first = append(first, z)
		}
		for i, s := range slices.Backward(texts) {
			Deflate(texts[(i+1)%len(texts)], 9-level)
			// Other bytes in memory, the same text.
			z, err := Deflate(strings.Clone(s), level)
			want(t, "error", err, api.OK)
			want(t, "is it the same stream", z == first[i], true)
			Deflate("", 10)
			z, _ = Deflate(s, level)
			want(t, "is it the same behind an error", z == first[i], true)
		}
	}
}
