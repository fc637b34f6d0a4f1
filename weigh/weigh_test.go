package weigh

import (
	"math"
	"math/rand"
	"slices"
	"testing"

	"portmanteau/api"
	"portmanteau/prefix"
)

// want: a test fails, if something is another thing than was wanted.
func want[T comparable](t *testing.T, what string, got, wanted T) {
	t.Helper()
	if got != wanted {
		t.Errorf("%s: %v, wanted %v", what, got, wanted)
	}
}

// come: how many signs do.
func come(counts []uint32) int {
	many := 0
	for _, count := range counts {
		if count != 0 {
			many++
		}
	}
	return many
}

// reckoned: the cost, straight from its words.
func reckoned(counts []uint32, lengths []uint8) uint64 {
	var cost uint64
	for i, count := range counts {
		cost += uint64(count) * uint64(lengths[i])
	}
	return cost
}

// isWhole: do lengths fill just a code?
func isWhole(lengths []uint8) bool {
	fill, err := prefix.Fill(lengths)
	return err == api.OK && fill == 1<<15
}

// tried: the least cost of all lengths that are whole, each from 1 to most; 0 for those that don't come.
func tried(counts []uint32, most uint8) uint64 {
	best := uint64(math.MaxUint64)
	lengths := make([]uint8, len(counts))
	var try func(sign int)
	try = func(sign int) {
		switch {
		case sign == len(counts) && isWhole(lengths):
			best = min(best, reckoned(counts, lengths))
		case sign == len(counts):
		case counts[sign] == 0:
			try(sign + 1)
		default:
			for l := range most {
				lengths[sign] = l + 1
				try(sign + 1)
			}
			lengths[sign] = 0
		}
	}
	try(0)
	return best
}

// level: the least costs, by how many signs have a word and how many words of the level are free; the greatest number, where there is none.
type level [][]uint64

// nothing: a level without any.
func nothing(signs int) level {
	l := make(level, signs+1)
	for i := range l {
		l[i] = slices.Repeat([]uint64{math.MaxUint64}, signs+1)
	}
	return l
}

// grown: the least cost of a whole code, found from its shortest words on: each free word is taken by the most frequent sign that has none, or gets two of one bit more. For many signs (two or more), where not all lengths can be tried.
func grown(counts []uint32, most int) uint64 {
	used := slices.DeleteFunc(slices.Clone(counts), func(count uint32) bool { return count == 0 })
	slices.Sort(used)
	slices.Reverse(used)
	n := len(used)
	now := nothing(n)
	now[0][1] = 0
	for length := range most + 1 {
		deeper := nothing(n)
		for signs := range n + 1 {
			for free := n - signs; free > 0; free-- {
				cost := now[signs][free]
				if cost == math.MaxUint64 {
					continue
				}
				taken := &now[signs+1][free-1]
				*taken = min(*taken, cost+uint64(length)*uint64(used[signs]))
				if 2*free <= n-signs {
					deeper[signs][2*free] = min(deeper[signs][2*free], cost)
				}
			}
		}
		if length == most {
			break
		}
		deeper[n][0] = now[n][0]
		now = deeper
	}
	return now[n][0]
}

// cheapest: the least cost of a whole code.
func cheapest(counts []uint32, most int) uint64 {
	if come(counts) > 5 || most > 5 {
		return grown(counts, most)
	}
	return tried(counts, uint8(most))
}

// weighs: Lengths answers, for counts of which at most 2^most come, what the chapter says.
func weighs(t *testing.T, counts []uint32, most int) uint64 {
	t.Helper()
	lengths, err := Lengths(counts, most)
	if err != api.OK || len(lengths) != len(counts) {
		t.Fatalf("lengths of %v, %v: %v, %v", counts, most, lengths, err)
	}
	many := come(counts)
	for sign, count := range counts {
		l := int(lengths[sign])
		switch {
		case count == 0:
			want(t, "length of one that doesn't come", l, 0)
		case many == 1:
			want(t, "length of the one that comes", l, 1)
		case l < 1 || l > most:
			t.Errorf("length of counts %v, %v: %v", counts, most, l)
		}
	}
	if many > 1 {
		want(t, "whole", isWhole(lengths), true)
		if cost, least := reckoned(counts, lengths), cheapest(counts, most); cost != least {
			t.Errorf("counts %v, %v: lengths %v cost %v, wanted %v", counts, most, lengths, cost, least)
		}
	}
	want(t, "Cost", Cost(counts, lengths), reckoned(counts, lengths))
	again, _ := Lengths(counts, most)
	want(t, "the same again", slices.Equal(again, lengths), true)
	return reckoned(counts, lengths)
}

// refuses: Lengths answers an error, and nothing else.
func refuses(t *testing.T, counts []uint32, most int, wanted api.Errno) {
	t.Helper()
	lengths, err := Lengths(counts, most)
	if err != wanted || len(lengths) != 0 {
		t.Errorf("%v counts, %v: %v lengths, %v, wanted %v", len(counts), most, len(lengths), err, wanted)
	}
}

// same: so many times one count.
func same(many int, count uint32) []uint32 { return slices.Repeat([]uint32{count}, many) }

// spread: so many signs, of which the first ones come.
func spread(signs, many int, count uint32) []uint32 {
	return append(same(many, count), same(signs-many, 0)...)
}

// among: counts with signs that don't come between them.
func among(counts []uint32) []uint32 {
	var out []uint32
	for _, count := range counts {
		out = append(out, 0, count, 0)
	}
	return out
}

// grows: each count the sum of the two ahead, as many as fit; unlike enough for a word of nearly as many bits as there are counts.
func grows(many int) []uint32 {
	counts := []uint32{1, 1}
	for len(counts) < many {
		counts = append(counts, counts[len(counts)-1]+counts[len(counts)-2])
	}
	return counts[:many]
}

// doubles: 1, 2, 4 and so on.
func doubles(many int) []uint32 {
	var counts []uint32
	for i := range many {
		counts = append(counts, 1<<i)
	}
	return counts
}

// chance: counts by chance, the same for each seed: below a bound, about one of four of them 0.
func chance(many int, bound uint32, seed int64) []uint32 {
	r := rand.New(rand.NewSource(seed))
	counts := make([]uint32, many)
	for i := range counts {
		if r.Intn(4) > 0 {
			counts[i] = uint32(r.Int63n(int64(bound)))
		}
	}
	return counts
}

// mosts: those from 1 to 15 of which no fewer words can be than signs that come.
func mosts(counts []uint32) []int {
	var out []int
	for most := 1; most <= 15; most++ {
		if come(counts) <= 1<<most {
			out = append(out, most)
		}
	}
	return out
}

// all: lists of up to most counts, each below a bound.
func all(most int, bound uint32) [][]uint32 {
	out := [][]uint32{{}}
	for i := 0; i < len(out) && len(out[i]) < most; i++ {
		for count := range bound {
			out = append(out, append(slices.Clone(out[i]), count))
		}
	}
	return out
}

// lists: counts of many sorts, few enough signs for each most from 9 on.
func lists() [][]uint32 {
	out := [][]uint32{
		{45, 13, 12, 16, 9, 5}, same(256, 1), same(257, 1), same(400, 1), same(400, 7), same(286, 3),
		grows(16), grows(17), grows(30), grows(47), doubles(15), doubles(16), doubles(17), doubles(32),
		among(grows(40)), among(doubles(32)), slices.Concat(grows(47), same(353, 1)), slices.Concat(same(353, 1), doubles(32)),
		same(400, math.MaxUint32), slices.Concat(same(200, math.MaxUint32), same(200, 1)), slices.Concat(same(399, math.MaxUint32), []uint32{1}), append(same(399, 1), math.MaxUint32),
	}
	for seed := range int64(15) {
		bound := []uint32{2, 3, 10, 1000, math.MaxUint32}[seed%5]
		out = append(out, chance(2+int(seed)*28, bound, seed))
	}
	return out
}

func TestExamples(t *testing.T) { // P5.1
	lengths, err := Lengths([]uint32{1, 1, 2}, 15)
	want(t, "the chapter's example", slices.Equal(lengths, []uint8{2, 2, 1}) && err == api.OK, true)
	lengths, err = Lengths([]uint32{45, 13, 12, 16, 9, 5}, 15)
	want(t, "six signs", slices.Equal(lengths, []uint8{1, 3, 3, 3, 4, 4}) && err == api.OK, true)
	lengths, err = Lengths([]uint32{45, 13, 12, 16, 9, 5}, 3)
	want(t, "six signs cut short", Cost([]uint32{45, 13, 12, 16, 9, 5}, lengths) == 239 && err == api.OK, true)
	lengths, err = Lengths([]uint32{1, 2, 4, 8}, 2)
	want(t, "four signs cut short", slices.Equal(lengths, []uint8{2, 2, 2, 2}) && err == api.OK, true)
	lengths, err = Lengths([]uint32{1, 2, 4, 8}, 3)
	want(t, "four signs", slices.Equal(lengths, []uint8{3, 3, 2, 1}) && err == api.OK, true)
}

func TestCheapestOfAll(t *testing.T) { // P5.1
	for _, counts := range all(4, 5) {
		for _, most := range mosts(counts) {
			weighs(t, counts, most)
		}
	}
	for seed := range int64(60) {
		counts := among(chance(6, 40, seed))
		for _, most := range mosts(counts) {
			weighs(t, counts, most)
		}
	}
	unlike := [][]uint32{grows(5), doubles(5), {1, 10, 100, 1000, 10000}, {math.MaxUint32, 1, math.MaxUint32 - 1, 2, 3}}
	for _, counts := range unlike {
		for most := 3; most <= 5; most++ {
			weighs(t, counts, most)
		}
	}
}

// TestGrown: the model for many signs tells what all lengths tried tell, for few.
func TestGrown(t *testing.T) {
	for _, counts := range append(all(4, 4), grows(5), doubles(5), chance(5, 9, 1), chance(5, math.MaxUint32, 2)) {
		for most := 1; most <= 5; most++ {
			if many := come(counts); many > 1 && many <= 1<<most {
				want(t, "model", grown(counts, most), tried(counts, uint8(most)))
			}
		}
	}
}

func TestManySigns(t *testing.T) { // P5.1
	for _, counts := range lists() {
		for _, most := range mosts(counts) {
			weighs(t, counts, most)
		}
	}
}

func TestFewSigns(t *testing.T) { // P5.1
	for _, most := range []int{1, 2, 7, 14, 15} {
		for _, many := range []int{0, 1, 2, 3, 399, 400} {
			weighs(t, same(many, 0), most)
		}
		for _, count := range []uint32{1, 2, 1 << 16, 1 << 31, math.MaxUint32} {
			weighs(t, []uint32{count}, most)
			weighs(t, []uint32{0, 0, count}, most)
			weighs(t, []uint32{count, 0}, most)
			weighs(t, spread(400, 1, count), most)
			for _, other := range []uint32{1, count, math.MaxUint32} {
				two := []uint32{0, count, 0, other}
				lengths, _ := Lengths(two, most)
				want(t, "two", slices.Equal(lengths, []uint8{0, 1, 0, 1}), true)
				weighs(t, two, most)
			}
		}
	}
	lengths, err := Lengths(nil, 15)
	want(t, "no counts", len(lengths) == 0 && err == api.OK, true)
}

func TestJustAsMany(t *testing.T) { // P5.1
	for most := 1; most <= 8; most++ {
		full := 1 << most
		for _, counts := range [][]uint32{same(full, 1), spread(400, full, 5), chance(400, 1<<20, int64(most))} {
			counts = slices.Clone(counts)
			for i := range counts { // no more than 2^most come
				if i < full {
					counts[i] = max(counts[i], 1)
				} else {
					counts[i] = 0
				}
			}
			weighs(t, counts, most)
			lengths, _ := Lengths(counts, most)
			for _, l := range lengths[:full] {
				want(t, "each word as long as can be", int(l), most)
			}
		}
		refuses(t, same(full+1, 1), most, api.ErrMany)
		refuses(t, spread(400, full+1, 1), most, api.ErrMany)
		refuses(t, append(same(400-full-1, 0), same(full+1, math.MaxUint32)...), most, api.ErrMany)
		refuses(t, same(400, 1), most, api.ErrMany)
	}
	for most := 9; most <= 15; most++ {
		weighs(t, same(400, 1), most)
	}
}

func TestErrors(t *testing.T) { // P5.1
	for _, most := range []int{0, -1, -15, 16, 17, 31, 32, 63, 64, 65, 257, 271, 1<<32 + 1, math.MinInt, math.MaxInt} {
		for _, counts := range [][]uint32{nil, {0}, {1}, {1, 1, 2}, same(400, 1), same(401, 1), same(401, 0), spread(5000, 2, 1)} {
			refuses(t, counts, most, api.ErrRange)
		}
	}
	for most := 1; most <= 15; most++ {
		for _, many := range []int{401, 402, 512, 4096, 40000} {
			refuses(t, same(many, 0), most, api.ErrMany)
			refuses(t, spread(many, 1, 1), most, api.ErrMany)
			refuses(t, spread(many, 2, 9), most, api.ErrMany)
			refuses(t, same(many, 1), most, api.ErrMany)
		}
		weighs(t, spread(400, 2, 9), most)
	}
}

func TestMemory(t *testing.T) { // P5.1, P5.2
	room := []uint32{5, 1, 0, 2, 77, 78}
	counts := room[:4]
	first, _ := Lengths(counts, 15)
	second, _ := Lengths(counts, 15)
	lengths := slices.Clone(first)
	kept := append(slices.Clone(lengths), 9)[:len(lengths)]
	Cost(counts, kept)
	want(t, "counts", slices.Equal(room, []uint32{5, 1, 0, 2, 77, 78}), true)
	want(t, "lengths", slices.Equal(kept[:len(kept)+1], append(slices.Clone(lengths), 9)), true)
	first[0] = 99
	want(t, "another answer", slices.Equal(second, lengths), true)
	room[0] = 0
	want(t, "an answer", slices.Equal(second, lengths), true)
}

func TestCost(t *testing.T) { // P5.2
	for _, c := range []struct {
		counts  []uint32
		lengths []uint8
		cost    uint64
	}{
		{nil, nil, 0}, {nil, []uint8{3}, 0}, {[]uint32{3}, nil, 0},
		{[]uint32{3}, []uint8{0}, 0}, {[]uint32{0}, []uint8{3}, 0},
		{[]uint32{1, 1, 2}, []uint8{2, 2, 1}, 6},
		{[]uint32{1, 1, 2}, []uint8{2, 2}, 4}, {[]uint32{1, 1, 2}, []uint8{2}, 2},
		{[]uint32{1, 1, 2}, []uint8{2, 2, 1, 15, 255}, 6}, {[]uint32{7}, []uint8{2, 2, 1}, 14},
		{[]uint32{10, 20, 30}, []uint8{16, 200, 255}, 160 + 4000 + 7650},
		{[]uint32{math.MaxUint32}, []uint8{1}, 4294967295},
		{[]uint32{math.MaxUint32}, []uint8{255}, 1095216660225},
		{[]uint32{math.MaxUint32, math.MaxUint32}, []uint8{1, 1}, 8589934590},
		{[]uint32{math.MaxUint32, 5, math.MaxUint32}, []uint8{15, 1, 15}, 128849018855},
	} {
		want(t, "cost", Cost(c.counts, c.lengths), c.cost)
	}
	want(t, "many great counts", Cost(same(400, math.MaxUint32), slices.Repeat([]uint8{15}, 400)), 25769803770000)
	want(t, "of more than 400 signs", Cost(same(5000, 3), slices.Repeat([]uint8{2}, 5000)), 30000)
}

// TestCostEnds: the greatest cost that a number can tell, and one more, which doesn't go round.
func TestCostEnds(t *testing.T) { // P5.2
	const many = 1<<24 + 1<<16 + 1<<8 + 1 // so many times 255 are 2^32 - 1
	counts := append(same(many, math.MaxUint32), math.MaxUint32, math.MaxUint32, 1, 4)
	lengths := append(slices.Repeat([]uint8{255}, many), 1, 1)
	want(t, "the greatest", Cost(counts, lengths), math.MaxUint64)
	want(t, "one more", Cost(counts, append(lengths, 1)), math.MaxUint64)
	want(t, "and more behind", Cost(counts, append(lengths, 255, 255)), math.MaxUint64)
	counts[many]--
	want(t, "one less", Cost(counts, lengths), math.MaxUint64-1)
}

func TestGreaterMost(t *testing.T) { // P5.3
	for _, counts := range lists() {
		last := uint64(math.MaxUint64)
		for _, most := range mosts(counts) {
			lengths, _ := Lengths(counts, most)
			cost := reckoned(counts, lengths)
			if cost > last {
				t.Errorf("counts %v, %v: cost %v, above %v", counts, most, cost, last)
			}
			last = cost
		}
	}
}

func TestCutShort(t *testing.T) { // P5.1, P5.3
	for _, counts := range [][]uint32{grows(47), doubles(32), among(doubles(20))} {
		last := uint64(0)
		for _, most := range slices.Backward(mosts(counts)) {
			cost := weighs(t, counts, most)
			want(t, "dearer", cost > last, true)
			lengths, _ := Lengths(counts, most)
			want(t, "the longest word", int(slices.Max(lengths)), most)
			last = cost
		}
	}
}

func TestOftenerIsntLonger(t *testing.T) { // P5.3
	for seed := range int64(400) {
		bound := []uint32{3, 20, 1000, 1 << 16}[seed%4]
		counts := chance(int(seed)%13, bound, seed)
		lengths, err := Lengths(counts, 15)
		want(t, "error", err, api.OK)
		for a := range counts {
			for b := range counts {
				if counts[b] > 0 && counts[a] > counts[b] && lengths[a] > lengths[b] {
					t.Errorf("counts %v: lengths %v", counts, lengths)
				}
			}
		}
	}
}
