package name

import (
	"math/rand"
	"slices"
	"strconv"
	"strings"
	"testing"
	"unicode/utf8"

	"portmanteau/api"
)

// want: a test fails, if something is another thing than was wanted.
func want[T comparable](t *testing.T, what string, got, wanted T) {
	t.Helper()
	if got != wanted {
		t.Errorf("%s: %v, wanted %v", what, got, wanted)
	}
}

// chapter is the chapter's list of CP437's runes from 128 on, in base sixteen.
const chapter = `
c7 fc e9 e2 e4 e0 e5 e7 ea eb e8 ef ee ec c4 c5
c9 e6 c6 f4 f6 f2 fb f9 ff d6 dc a2 a3 a5 20a7 192
e1 ed f3 fa f1 d1 aa ba bf 2310 ac bd bc a1 ab bb
2591 2592 2593 2502 2524 2561 2562 2556 2555 2563 2551 2557 255d 255c 255b 2510
2514 2534 252c 251c 2500 253c 255e 255f 255a 2554 2569 2566 2560 2550 256c 2567
2568 2564 2565 2559 2558 2552 2553 256b 256a 2518 250c 2588 2584 258c 2590 2580
3b1 df 393 3c0 3a3 3c3 b5 3c4 3a6 398 3a9 3b4 221e 3c6 3b5 2229
2261 b1 2265 2264 2320 2321 f7 2248 b0 2219 b7 221a 207f b2 25a0 a0`

// listed: the rune of each byte, as the chapter has it.
func listed(t *testing.T) []rune {
	t.Helper()
	var out []rune
	for b := range 128 {
		out = append(out, rune(b))
	}
	for _, field := range strings.Fields(chapter) {
		r, err := strconv.ParseInt(field, 16, 32)
		want(t, "a rune of the list", err, nil)
		out = append(out, rune(r))
	}
	want(t, "as many runes as bytes", len(out), 256)
	return out
}

// stray is texts with a byte that belongs to no rune.
func stray() []string {
	return []string{
		"\x80", "\xbf", "\xff", "\xfe", "\xc0", "\xf8", // none begins with these
		"\xc3", "\xe2\x82", "\xe2", "\xf0\x9f\x98", "\xf0\x9f", "\xf0", // a byte cut off
		"é\xa9", "€\x80", "😀\x80", "a\x80", // one too many
		"\xed\xa0\x80", "\xed\xbf\xbf", "\xed\xa0\xbd\xed\xb8\x80", // surrogates
		"\xf4\x90\x80\x80", "\xf5\x80\x80\x80", "\xf7\xbf\xbf\xbf", "\xfb\xbf\xbf\xbf\xbf", // more than U+10FFFF
		"\xc0\xaf", "\xc1\xbf", "\xe0\x80\xaf", "\xe0\x9f\xbf", "\xf0\x80\x80\xaf", "\xf0\x8f\xbf\xbf", "\xc0\x80", // longer than is needed
		"\ufffd\x80", "\xef\xbf", "\xef\xbf\ufffd", "\x80\ufffd", "\xef\ufffd\xbd", // beside U+FFFD, or what begins like it
	}
}

// whole is texts of UTF-8.
func whole() []string {
	return []string{"", "a", "\x00", "\x7f", "\u0080", "\u07ff", "\u0800", "\ud7ff", "\ue000", "\ufffd", "\ufffd\ufffd", "a\ufffd", "\ufffe", "\uffff", "\U00010000", "\U0010ffff", "é€😀", "a/b\\c"}
}

func TestDecodeUTF8(t *testing.T) { // P10.1
	for _, s := range whole() {
		got, err := Decode(s, true)
		want(t, strconv.Quote(s)+": text", got, s)
		want(t, strconv.Quote(s)+": error", err, api.OK)
	}
	for _, s := range stray() {
		for _, around := range []string{s, "a" + s, s + "a", "é" + s + "/é"} {
			got, err := Decode(around, true)
			want(t, strconv.Quote(around)+": text", got, "")
			want(t, strconv.Quote(around)+": error", err, api.ErrName)
		}
	}
}

func TestDecodeAnyBytesAsUTF8(t *testing.T) { // P10.1
	r := rand.New(rand.NewSource(1))
	for range 20000 {
		s := ""
		for range r.Intn(6) {
			s += slices.Concat(whole(), stray())[r.Intn(len(whole())+len(stray()))]
		}
		if r.Intn(2) == 0 {
			s = s[:r.Intn(len(s)+1)]
		}
		got, err := Decode(s, true)
		if utf8.ValidString(s) {
			want(t, strconv.Quote(s), got == s && err == api.OK, true)
		} else {
			want(t, strconv.Quote(s), got == "" && err == api.ErrName, true)
		}
	}
}

func TestCP437(t *testing.T) { // P10.1, P10.4
	bytes, runes := "", ""
	for b, r := range listed(t) {
		one := string([]byte{byte(b)})
		got, err := Decode(one, false)
		want(t, strconv.Quote(one)+": rune", got, string(r))
		want(t, strconv.Quote(one)+": error", err, api.OK)
		back, ok := Encode(got)
		want(t, strconv.Quote(one)+": there and back", back, one)
		want(t, strconv.Quote(one)+": is it there", ok, true)
		bytes, runes = bytes+one, runes+string(r)
	}
	got, err := Decode(bytes, false)
	want(t, "all of them", got, runes)
	want(t, "all of them: error", err, api.OK)
	back, ok := Encode(runes)
	want(t, "all of them, back", back, bytes)
	want(t, "all of them: are they there", ok, true)
}

func TestDecodeCP437OfAnyBytes(t *testing.T) { // P10.1, P10.4
	for _, s := range append(stray(), whole()...) {
		got, err := Decode(s, false)
		want(t, strconv.Quote(s)+": error", err, api.OK)
		want(t, strconv.Quote(s)+": as many runes as bytes", utf8.RuneCountInString(got), len(s))
		back, ok := Encode(got)
		want(t, strconv.Quote(s)+": there and back", back, s)
		want(t, strconv.Quote(s)+": is it there", ok, true)
	}
	long := strings.Repeat("\xff\x00", 100000)
	got, _ := Decode(long, false)
	want(t, "a long one", got, strings.Repeat("\u00a0\x00", 100000))
}

func TestEncodeEachRune(t *testing.T) { // P10.1
	bytes := map[rune]int{}
	for b, r := range listed(t) {
		bytes[r] = b + 1
	}
	for r := rune(0); r <= utf8.MaxRune; r++ {
		if !utf8.ValidRune(r) {
			continue
		}
		got, ok := Encode(string(r))
		if b := bytes[r]; b > 0 {
			want(t, strconv.QuoteRune(r), got == string([]byte{byte(b - 1)}) && ok, true)
		} else {
			want(t, strconv.QuoteRune(r), got == "" && !ok, true)
		}
	}
}

func TestEncodeWrong(t *testing.T) { // P10.1
	for _, s := range append(stray(), "\u0080", "\u009f", "ā", "€", "a€", "€a", "éé😀", "\ufffd", "\u03bc", "\u2126", "e\u0301") {
		for _, around := range []string{s, "a" + s, s + "é"} {
			got, ok := Encode(around)
			want(t, strconv.Quote(around)+": bytes", got, "")
			want(t, strconv.Quote(around)+": is it there", ok, false)
		}
	}
	got, ok := Encode("")
	want(t, "nothing", got == "" && ok, true)
}
