package tail

import (
	"math/big"
	"math/rand"
	"strings"
	"testing"

	"portmanteau/api"
)

// number: what so many bytes at a place are, reckoned by multiplying.
func number(s string, at, bytes int) *big.Int {
	n := new(big.Int)
	for i := bytes - 1; i >= 0; i-- {
		n.Mul(n, big.NewInt(256))
		n.Add(n, big.NewInt(int64(s[at+i])))
	}
	return n
}

// is: is that the number?
func is(n *big.Int, wanted uint64) bool { return n.Cmp(new(big.Int).SetUint64(wanted)) == 0 }

// begins: do bytes stand at a place?
func begins(s string, at int, what string) bool {
	return at >= 0 && at+len(what) <= len(s) && s[at:at+len(what)] == what
}

// second: Find once more, from the first byte on, by numbers that have no end.
func second(s string) (End, api.Errno) {
	at := -1
	for i := 0; i+22 <= len(s); i++ {
		if begins(s, i, "PK\x05\x06") && is(number(s, i+20, 2), uint64(len(s)-i-22)) {
			at = i
		}
	}
	if at < 0 || !is(number(s, at+4, 2), 0) || !is(number(s, at+6, 2), 0) || number(s, at+8, 2).Cmp(number(s, at+10, 2)) != 0 {
		return End{}, api.ErrZip
	}
	entries, size, offset := number(s, at+10, 2), number(s, at+12, 4), number(s, at+16, 4)
	if !is(entries, 1<<16-1) && !is(size, 1<<32-1) && !is(offset, 1<<32-1) {
		return End{At: at, Entries: entries.Uint64(), Size: size.Uint64(), Offset: offset.Uint64(), Comment: s[at+22:]}, api.OK
	}
	behind := at - 20
	if behind < 0 || !begins(s, behind, "PK\x06\x07") || !is(number(s, behind+4, 4), 0) || !is(number(s, behind+16, 4), 1) {
		return End{}, api.ErrZip64
	}
	told := number(s, behind+8, 8)
	for place := 0; place+56 <= behind; place++ {
		if !is(told, uint64(place)) || !begins(s, place, "PK\x06\x06") || !is(number(s, place+4, 8), uint64(behind-place-12)) {
			continue
		}
		if !is(number(s, place+16, 4), 0) || !is(number(s, place+20, 4), 0) || number(s, place+24, 8).Cmp(number(s, place+32, 8)) != 0 {
			break
		}
		all, bytes, from := number(s, place+32, 8), number(s, place+40, 8), number(s, place+48, 8)
		if !is(entries, 1<<16-1) && entries.Cmp(all) != 0 || !is(size, 1<<32-1) && size.Cmp(bytes) != 0 || !is(offset, 1<<32-1) && offset.Cmp(from) != 0 {
			break
		}
		return End{At: place, Entries: all.Uint64(), Size: bytes.Uint64(), Offset: from.Uint64(), Comment: s[at+22:], Wide: true}, api.OK
	}
	return End{}, api.ErrZip64
}

// piece: bytes such as an archive ends with, right ones and wrong ones.
func piece(r *rand.Rand, ahead int) string {
	numbers := []uint64{0, 1, 2, 65535, 1<<32 - 1, uint64(ahead), uint64(ahead) - 56, 1 << 63, r.Uint64()}
	one := func() uint64 { return numbers[r.Intn(len(numbers))] }
	seldom := func(usual uint64) uint64 {
		if r.Intn(12) == 0 {
			return one()
		}
		return usual
	}
	entries, size, offset := one(), one(), one()
	switch r.Intn(6) {
	case 0:
		return strings.Repeat("x", r.Intn(30))
	case 1:
		return "PK\x05\x06" + low(seldom(0), 2, seldom(0), 2, seldom(entries), 2, entries, 2, size, 4, offset, 4, uint64(r.Intn(30)), 2)
	}
	bytes := wideRecord(seldom(44), seldom(0), seldom(0), seldom(entries), entries, size, offset)
	bytes += "PK\x06\x07" + low(seldom(0), 4, seldom(uint64(ahead)), 8, seldom(1), 4)
	return bytes + "PK\x05\x06" + low(seldom(0), 2, seldom(0), 2, seldom(65535), 2, seldom(65535), 2, seldom(1<<32-1), 4, seldom(1<<32-1), 4, uint64(r.Intn(2)*r.Intn(150)), 2)
}

func TestAgainstSecond(t *testing.T) { // P18.1
	r := rand.New(rand.NewSource(18))
	wide, narrow, errors := 0, 0, map[api.Errno]int{}
	for range 60000 {
		s := strings.Repeat("\x00", r.Intn(3))
		for range 1 + r.Intn(3) {
			s += piece(r, len(s))
		}
		if r.Intn(4) == 0 { // the last end record's comment
			s += strings.Repeat("c", r.Intn(20))
		}
		if at := strings.LastIndex(s, "PK\x05\x06"); at >= 0 && len(s)-at >= 22 && r.Intn(3) > 0 {
			s = s[:at+20] + low(uint64(len(s)-at-22), 2) + s[at+22:]
		}
		if s != "" && r.Intn(4) == 0 {
			at := r.Intn(len(s))
			s = s[:at] + string([]byte{byte(r.Intn(256))}) + s[at+1:]
		}
		got, err := Find(s)
		wanted, errWanted := second(s)
		if got != wanted || err != errWanted {
			t.Fatalf("%q: %v %v, wanted %v %v", s, got, err, wanted, errWanted)
		}
		errors[err]++
		if err == api.OK && got.Wide {
			wide++
		} else if err == api.OK {
			narrow++
		}
	}
	if min(wide, narrow, errors[api.ErrZip], errors[api.ErrZip64]) < 1000 {
		t.Errorf("too few of a kind: %d wide, %d narrow, %v", wide, narrow, errors)
	}
}

func TestAnyBytes(t *testing.T) { // P1: each call ends and none panics
	r := rand.New(rand.NewSource(1))
	for range 20000 {
		s := ""
		for range r.Intn(8) {
			s += []string{"PK\x05\x06", "PK\x06\x06", "PK\x06\x07", low(r.Uint64(), 8), "\xff\xff\xff\xff", low(0, 8), strings.Repeat("\x00", 20)}[r.Intn(7)]
		}
		got, err := Find(s)
		wanted, errWanted := second(s)
		want(t, "found", got, wanted)
		want(t, "error", err, errWanted)
	}
}
