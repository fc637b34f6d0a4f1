package inflate

import (
	"bytes"
	"compress/flate"
	"fmt"
	"io"
	"math"
	"math/rand"
	"slices"
	"strings"
	"testing"

	"portmanteau/api"
)

// deflated: a text as Go's own library makes it small.
func deflated(text string, level int) string {
	out := &bytes.Buffer{}
	w, _ := flate.NewWriter(out, level)
	io.WriteString(w, text)
	w.Close()
	return out.String()
}

// levels are those of Go's own library.
func levels() []int { return []int{-2, 0, 1, 2, 5, 6, 9} }

// texts: of many sorts, short ones first.
func texts() []string {
	words := &strings.Builder{}
	for i := range 2000 {
		fmt.Fprintf(words, "%d files and %x directories; ", i*i, i*7)
	}
	return []string{
		"", "a", "ab", "\x00", "\xff\xfe", "aaaaaaaaaaaaaaaaaaaa", "abcabcabcabcabd", strings.Repeat("\x00", 5000),
		great(10), great(300), strings.Repeat("to be or not to be, ", 40), great(700) + great(700), words.String(), great(70000), strings.Repeat(great(33000), 3),
	}
}

func TestOfGo(t *testing.T) { // P6.1
	for _, text := range texts() {
		for _, level := range levels() {
			stream := deflated(text, level)
			is(t, "of Go", stream, text, len(stream))
			is(t, "and bytes behind", stream+"\x00\xffabc", text, len(stream))
		}
	}
}

// laid: streams of each kind of block, to whole bytes.
func laid() []string {
	f := fixed()
	mixed := storedBlock(fixedBlock(0, "hi\xff"), 0, "stored") + shaped(0, few(258), []uint8{1}).head() + body(few(258), "0") + fixedHead(1) + f.copied(20, 5) + f.end()
	return []string{
		packed(fixedBlock(1, "")), packed(storedBlock("", 1, "")), packed(fixedBlock(1, "hello")), packed(storedBlock("", 1, "hello")), packed(mixed),
		packed(shaped(1, few(286), times(30, 0)).head() + words(few(286))['x'] + words(few(286))[256]),
		packed(storedBlock(fixedBlock(0, "")+fixedBlock(0, ""), 0, "") + fixedBlock(1, "\xff")),
	}
}

func TestLimit(t *testing.T) { // P6.1, P6.3
	streams := laid()
	for _, text := range texts()[:12] {
		for _, level := range levels() {
			streams = append(streams, deflated(text, level))
		}
	}
	for _, stream := range streams {
		text, took, _ := Inflate(stream, wide)
		limits := []int{math.MinInt, math.MinInt + 1, -70000, -1, len(text) / 2, len(text) - 1, len(text), len(text) + 1, wide}
		for limit := range min(40, len(text)+3) {
			limits = append(limits, limit)
		}
		for _, limit := range limits {
			if max(limit, 0) < len(text) {
				fails(t, "too much", stream, limit, api.ErrLimit)
				continue
			}
			got, n, err := Inflate(stream, limit)
			want(t, "enough", got == text && n == took && err == api.OK, true)
		}
	}
}

func TestLimitOfStored(t *testing.T) { // P6.1
	for _, many := range []int{1, 2, 5, 300, 65535} {
		stream := packed(storedBlock("", 1, great(many)))
		for _, there := range []int{0, many / 2, many - 1} {
			for _, limit := range []int{math.MinInt, -1, 0, many - 1} {
				fails(t, "ahead of the bytes", stream[:5+there], limit, api.ErrLimit)
			}
			fails(t, "enough", stream[:5+there], many, api.ErrShort)
		}
		fails(t, "ahead of the second number", stream[:4], 0, api.ErrShort)
	}
	second := packed(storedBlock(storedBlock("", 0, "abc"), 1, "def"))
	fails(t, "the first one", second, 2, api.ErrLimit)
	fails(t, "the second one", second[:8+5], 5, api.ErrLimit)
	fails(t, "ahead of the second one", second[:8+4], 3, api.ErrShort)
	fails(t, "both", second[:8+7], 6, api.ErrShort)
	fails(t, "wrong numbers of the second one", second[:8+3]+"\x00\x00def", 3, api.ErrStored)
	fails(t, "the first one ahead of them", second[:8+3]+"\x00\x00def", 2, api.ErrLimit)
}

func TestLimitOfSigns(t *testing.T) { // P6.1
	f := fixed()
	stream, says := ending(fixedHead(1) + f.text("abc"))
	for fewer := range 3 {
		fails(t, "ahead of a byte", stream, len(says)+fewer, api.ErrLimit)
	}
	fails(t, "enough", stream, len(says)+3, api.ErrShort)
	fails(t, "the byte's word is cut", stream[:len(stream)-1], len(says)+2, api.ErrShort)

	stream, says = ending(fixedHead(1) + f.text("abc") + f.copied(12, 3))
	for more := range 12 {
		fails(t, "ahead of a length's bytes", stream, len(says)+3+more, api.ErrLimit)
	}
	fails(t, "enough", stream, len(says)+15, api.ErrShort)
	fails(t, "the distance is cut", stream[:len(stream)-1], len(says)+3, api.ErrShort)

	far := fixedHead(1) + f.text("abc") + f.copied(258, 5)
	stream, says = ending(far)
	fails(t, "too far, ahead of the limit", stream, len(says)+3, api.ErrDist)
	stream, says = ending(far[:len(far)-1])
	fails(t, "too far, and a bit of it is missing", stream, len(says)+3, api.ErrShort)
	stream, says = ending(fixedHead(1) + f.text("abc") + f.signs[257+8])
	fails(t, "the length's bits are missing", stream, len(says)+3, api.ErrShort)
}

func TestFirst(t *testing.T) { // P6.1
	f := fixed()
	a := fixedHead(0) + f.text("a")
	for _, c := range []struct {
		signs string
		limit int
		err   api.Errno
	}{
		{fixedBlock(0, "abc") + "111", 2, api.ErrLimit},
		{fixedBlock(0, "abc") + "111", 3, api.ErrBlock},
		{a + f.copied(3, 2) + f.end() + "111", wide, api.ErrDist},
		{a + f.copied(3, 1) + f.end() + "111", 3, api.ErrLimit},
		{a + f.copied(3, 1) + f.copied(3, 5) + f.signs[286], 6, api.ErrDist},
		{a + f.copied(3, 1) + f.signs[286] + f.copied(3, 5), 6, api.ErrCode},
		{a + f.copied(3, 1) + f.signs[257] + f.distances[30], 4, api.ErrCode},
		{storedHead(a+f.end(), 0, 5, 5) + "111", wide, api.ErrStored},
		{storedHead(a+f.end(), 0, 5, 65530) + "111", 5, api.ErrLimit},
		{storedHead(a+f.end(), 0, 5, 65530) + "111", 6, api.ErrShort},
		{a + f.end() + rowed(times(257, 1), []uint8{1}, run{16, 0}), 0, api.ErrLimit},
		{a + f.end() + rowed(times(257, 1), []uint8{1}, run{16, 0}), 1, api.ErrCode},
		{a + f.end() + "0", 1, api.ErrShort},
	} {
		fails(t, "the first of several", packed(c.signs), c.limit, c.err)
	}
}

func TestCut(t *testing.T) { // P6.3
	streams := laid()
	for _, text := range texts()[:12] {
		for _, level := range levels() {
			streams = append(streams, deflated(text, level))
		}
	}
	for _, stream := range streams {
		text, took, err := Inflate(stream, wide)
		want(t, "the whole stream", took == len(stream) && err == api.OK, true)
		for cut := range len(stream) {
			for _, limit := range []int{len(text), wide} {
				got, n, err := Inflate(stream[:cut], limit)
				if got != "" || n != 0 || err != api.ErrShort && err != api.ErrCode {
					t.Fatalf("cut at %v of %q: %q, %v, %v", cut, stream, got, n, err)
				}
			}
		}
	}
}

// agrees: Inflate answers what the model does, and once more the same.
func agrees(t *testing.T, stream string, limit int) {
	t.Helper()
	text, took, wanted := modelled(stream, limit)
	for range 2 {
		got, n, err := Inflate(stream, limit)
		if got != text || n != took || err != wanted {
			t.Fatalf("of %q, limit %v: %q, %v, %v, wanted %q, %v, %v", stream, limit, got, n, err, text, took, wanted)
		}
	}
}

// chanced: so many bytes by chance.
func chanced(r *rand.Rand, many int) string {
	out := make([]byte, many)
	for i := range out {
		out[i] = byte(r.Intn(256))
	}
	return string(out)
}

func TestAnyBytes(t *testing.T) { // P6.1, P6.3, P1
	r := rand.New(rand.NewSource(1))
	for i := range 1 << 16 {
		agrees(t, packed(told(i, 16)), wide)
	}
	for range 5000 {
		agrees(t, chanced(r, r.Intn(40)), r.Intn(50)-2)
		// Of a fixed block.
		agrees(t, packed(fixedHead(r.Intn(2)))+chanced(r, r.Intn(40)), r.Intn(100))
	}
}

// changed: a stream with some bits turned, some bytes taken away.
func changed(r *rand.Rand, stream string) string {
	out := []byte(stream)
	for range r.Intn(4) {
		out[r.Intn(len(out))] ^= 1 << r.Intn(8)
	}
	if r.Intn(4) == 0 {
		at := r.Intn(len(out))
		out = slices.Delete(out, at, min(len(out), at+r.Intn(3)))
	}
	return string(out)
}

func TestChangedStreams(t *testing.T) { // P6.1, P6.3, P1
	r := rand.New(rand.NewSource(2))
	streams := laid()
	for _, text := range texts()[:11] {
		for _, level := range levels() {
			streams = append(streams, deflated(text, level))
		}
	}
	for _, stream := range streams {
		for range 60 {
			agrees(t, changed(r, stream), r.Intn(1000))
		}
	}
}

// split: lengths of a whole code of so many words, none longer than most, among many signs, by chance.
func split(r *rand.Rand, used, many int, most uint8) []uint8 {
	lengths := []uint8{0}
	for len(lengths) < used {
		i := r.Intn(len(lengths))
		if lengths[i] < most {
			lengths[i]++
			lengths = append(lengths, lengths[i])
		}
	}
	lengths = append(lengths, times(many-used, 0)...)
	r.Shuffle(len(lengths), func(i, j int) { lengths[i], lengths[j] = lengths[j], lengths[i] })
	return lengths
}

func TestChancedCodes(t *testing.T) { // P6.1, P6.3, P1
	r := rand.New(rand.NewSource(3))
	for range 1500 {
		signs, distances := 257+r.Intn(32), 1+r.Intn(32)
		s := shaped(r.Intn(2), split(r, 2+r.Intn(40), signs, 15), split(r, 1+r.Intn(distances), distances, 15))
		s.outer = split(r, 2+r.Intn(18), 19, 7)
		if r.Intn(2) == 0 {
			s.outer = outerLengths()
		}
		if r.Intn(3) > 0 {
			// So that there is an end, and more often a code that may be.
			used := 20 + r.Intn(100)
			s = shaped(r.Intn(2), append(times(256-used, 0), split(r, used+1, used+1, 15)...), split(r, 2, 2+r.Intn(20), 15))
		}
		agrees(t, packed(s.head())+chanced(r, 30), wide)
		agrees(t, packed(fixedBlock(0, "some bytes ahead")+s.head())+chanced(r, 30), r.Intn(60))
		s.runs = nil
		agrees(t, packed(s.front())+chanced(r, 60), wide)
	}
}

func TestAsGo(t *testing.T) { // P6.1
	r := rand.New(rand.NewSource(4))
	for _, text := range texts()[:12] {
		for _, level := range levels() {
			for range 40 {
				stream := changed(r, deflated(text, level))
				got, took, err := Inflate(stream, wide)
				in := strings.NewReader(stream)
				other, wrong := io.ReadAll(flate.NewReader(in))
				if wrong != nil {
					want(t, "an error of Go's", err == api.OK, false)
				} else if err == api.OK {
					want(t, "as Go", got == string(other) && took == len(stream)-in.Len(), true)
				}
			}
		}
	}
}
