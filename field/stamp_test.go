package field

import (
	"math"
	"strconv"
	"strings"
	"testing"

	"portmanteau/api"
)

// stamps: times that all differ, below 0 too, and ends.
func stamps() []Stamp {
	return []Stamp{
		{},
		{Changed: -1, Used: 5, Made: -7},
		{Changed: math.MinInt32, Used: math.MaxInt32, Made: math.MinInt32 + 1},
		{Changed: 0x01020304, Used: 0x11121314, Made: 0x21222324},
		{Changed: math.MaxInt32, Used: math.MinInt32, Made: -2},
	}
}

// told: what of a stamp is told, and its bytes.
func told(x Stamp, central bool) (Stamp, string) {
	out := Stamp{Flags: x.Flags % 8}
	s := string([]byte{out.Flags})
	if x.Flags%2 == 1 {
		out.Changed = x.Changed
		s += four(uint32(x.Changed))
	}
	if x.Flags/2%2 == 1 && !central {
		out.Used = x.Used
		s += four(uint32(x.Used))
	}
	if x.Flags/4%2 == 1 && !central {
		out.Made = x.Made
		s += four(uint32(x.Made))
	}
	return out, s
}

func TestStamp(t *testing.T) { // P14.2, P14.5
	for flags := range uint8(8) {
		for _, central := range []bool{false, true} {
			for _, x := range stamps() {
				x.Flags = flags
				wanted, s := told(x, central)
				what := "flags " + strconv.Itoa(int(flags)) + ", central " + strconv.FormatBool(central) + ", " + strconv.Quote(s)
				want(t, what+": printed", PrintStamp(x, central), s)
				got, err := ParseStamp(s, central)
				want(t, what, got, wanted)
				want(t, what+": error", err, api.OK)
				for n := range len(s) {
					got, err = ParseStamp(s[:n], central)
					want(t, what+": too few", got == Stamp{} && err == api.ErrExtra, true)
				}
				for _, more := range []string{"\x00", "a", "\x00\x00\x00\x00", "\x01\x02\x03\x04\x05\x06\x07\x08", strings.Repeat("m", 65000)} {
					got, err = ParseStamp(s+more, central)
					if central {
						want(t, what+": too many, passed over", got == wanted && err == api.OK, true)
					} else {
						want(t, what+": too many", got == Stamp{} && err == api.ErrExtra, true)
					}
				}
			}
		}
	}
}

func TestStampOfTheChapter(t *testing.T) { // P14.2
	for _, x := range []struct {
		s       string
		central bool
		wanted  Stamp
		err     api.Errno
	}{
		{"\x03\xff\xff\xff\xff\x05\x00\x00\x00", false, Stamp{3, -1, 5, 0}, api.OK},
		{"\x03\xff\xff\xff\xff", true, Stamp{3, -1, 0, 0}, api.OK},
		{"\x03\xff\xff\xff\xff\x05\x00\x00\x00", true, Stamp{3, -1, 0, 0}, api.OK},
		{"\x03\xff\xff\xff\xff", false, Stamp{}, api.ErrExtra},
		{"\x07\x01\x00\x00\x00\x02\x00\x00\x00\x03\x00\x00\x80", false, Stamp{7, 1, 2, math.MinInt32 + 3}, api.OK},
		{"\x05\x01\x00\x00\x00\x03\x00\x00\x00", false, Stamp{5, 1, 0, 3}, api.OK},
		{"\x06\x02\x00\x00\x00\x03\x00\x00\x00", false, Stamp{6, 0, 2, 3}, api.OK},
		{"\x04\x03\x00\x00\x00", false, Stamp{4, 0, 0, 3}, api.OK},
		{"\x06", true, Stamp{6, 0, 0, 0}, api.OK},
		{"\x00", false, Stamp{}, api.OK},
		{"\x00", true, Stamp{}, api.OK},
		{"", false, Stamp{}, api.ErrExtra},
		{"", true, Stamp{}, api.ErrExtra},
	} {
		got, err := ParseStamp(x.s, x.central)
		want(t, strconv.Quote(x.s), got, x.wanted)
		want(t, strconv.Quote(x.s)+": error", err, x.err)
	}
}

func TestStampOfFlagsAbove(t *testing.T) { // P14.2
	for flags := 8; flags < 256; flags++ {
		for _, central := range []bool{false, true} {
			for n := range 20 {
				got, err := ParseStamp(string([]byte{byte(flags)})+strings.Repeat("\x01", n), central)
				want(t, "flags "+strconv.Itoa(flags), got, Stamp{})
				want(t, "flags "+strconv.Itoa(flags)+": error", err, api.ErrExtra)
			}
			x := Stamp{uint8(flags), -1, -2, -3}
			lowest := Stamp{uint8(flags % 8), -1, -2, -3}
			want(t, "the lowest three of "+strconv.Itoa(flags), PrintStamp(x, central), PrintStamp(lowest, central))
			wanted, s := told(x, central)
			got, err := ParseStamp(s, central)
			want(t, "printed and parsed", got == wanted && err == api.OK, true)
		}
	}
}
