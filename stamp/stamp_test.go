package stamp

import (
	"fmt"
	"math"
	"math/rand"
	"strconv"
	"testing"
	"time"

	"portmanteau/api"
)

// want: a test fails, if something is another thing than was wanted.
func want[T comparable](t *testing.T, what string, got, wanted T) {
	t.Helper()
	if got != wanted {
		t.Errorf("%s: %v, wanted %v", what, got, wanted)
	}
}

// The first and the last second of the years 1 and 9999, told by the library.
var (
	begin = time.Date(1, 1, 1, 0, 0, 0, 0, time.UTC).Unix()
	end   = time.Date(9999, 12, 31, 23, 59, 59, 0, time.UTC).Unix()
)

// date: a second reckoning of Of.
func date(at int64) Date {
	x := time.Unix(at, 0).UTC()
	return Date{x.Year(), int(x.Month()), x.Day(), x.Hour(), x.Minute(), x.Second()}
}

// moment: that of a date's seconds; false, where the library has to turn the date into another one, or the year is none.
func moment(d Date) (int64, bool) {
	at := time.Date(d.Year, time.Month(d.Month), d.Day, d.Hour, d.Minute, d.Second, 0, time.UTC).Unix()
	return at, d.Year >= 1 && d.Year <= 9999 && date(at) == d
}

// there: a time has this date, and the date this time.
func there(t *testing.T, at int64, wanted Date) {
	t.Helper()
	d, err := Of(at)
	if d != wanted || err != api.OK {
		t.Errorf("of %d: %v, %v, wanted %v", at, d, err, wanted)
	}
	back, err := wanted.Seconds()
	if back != at || err != api.OK {
		t.Errorf("seconds of %v: %d, %v, wanted %d", wanted, back, err, at)
	}
}

func TestOf(t *testing.T) { // P12.1
	for _, x := range []struct {
		at int64
		d  Date
	}{
		{0, Date{1970, 1, 1, 0, 0, 0}},
		{1, Date{1970, 1, 1, 0, 0, 1}},
		{-1, Date{1969, 12, 31, 23, 59, 59}},
		{59, Date{1970, 1, 1, 0, 0, 59}},
		{60, Date{1970, 1, 1, 0, 1, 0}},
		{3599, Date{1970, 1, 1, 0, 59, 59}},
		{3600, Date{1970, 1, 1, 1, 0, 0}},
		{86399, Date{1970, 1, 1, 23, 59, 59}},
		{86400, Date{1970, 1, 2, 0, 0, 0}},
		{-86400, Date{1969, 12, 31, 0, 0, 0}},
		{-86401, Date{1969, 12, 30, 23, 59, 59}},
		{-62135596800, Date{1, 1, 1, 0, 0, 0}},
		{-62135596799, Date{1, 1, 1, 0, 0, 1}},
		{253402300799, Date{9999, 12, 31, 23, 59, 59}},
		{253402300798, Date{9999, 12, 31, 23, 59, 58}},
		{math.MinInt32, Date{1901, 12, 13, 20, 45, 52}},
		{math.MaxInt32, Date{2038, 1, 19, 3, 14, 7}},
		{951782399, Date{2000, 2, 28, 23, 59, 59}},
		{951782400, Date{2000, 2, 29, 0, 0, 0}},
		{951868799, Date{2000, 2, 29, 23, 59, 59}},
		{951868800, Date{2000, 3, 1, 0, 0, 0}},
		{-2203891201, Date{1900, 2, 28, 23, 59, 59}},
		{-2203891200, Date{1900, 3, 1, 0, 0, 0}},
		{4107542399, Date{2100, 2, 28, 23, 59, 59}},
		{4107542400, Date{2100, 3, 1, 0, 0, 0}},
		{315532800, Date{1980, 1, 1, 0, 0, 0}},
		{4354819199, Date{2107, 12, 31, 23, 59, 59}},
	} {
		there(t, x.at, x.d)
	}
}

func TestOfOtherYears(t *testing.T) { // P12.1
	for _, at := range []int64{-62135596801, 253402300800, begin - 1, end + 1, begin - 86400, end + 86400, begin - 400*366*86400, end + 400*366*86400, 1 << 40, -1 << 40, 1 << 60, -1 << 60, math.MinInt64, math.MinInt64 + 1, math.MaxInt64, math.MaxInt64 - 1} {
		d, err := Of(at)
		want(t, strconv.FormatInt(at, 10), d, Date{})
		want(t, strconv.FormatInt(at, 10)+": error", err, api.ErrTime)
	}
}

func TestEveryDay(t *testing.T) { // P12.1, P12.4
	for at := begin; at <= end; at += 86400 {
		wanted := date(at)
		d, err := Of(at)
		back, other := d.Seconds()
		if d != wanted || err != api.OK || back != at || other != api.OK {
			t.Fatalf("%d: %v, %v, and back %d, %v, wanted %v", at, d, err, back, other, wanted)
		}
	}
	r := rand.New(rand.NewSource(12))
	for range 200000 {
		at := begin + r.Int63n(end-begin+1)
		there(t, at, date(at))
	}
	for _, day := range []int64{0, begin, end - 86399, 951782400} {
		for second := range int64(86400) {
			there(t, day+second, date(day+second))
		}
	}
}

func TestEndsOfMonths(t *testing.T) { // P12.1
	lengths := []int{31, 28, 31, 30, 31, 30, 31, 31, 30, 31, 30, 31}
	leap := map[int]bool{4: true, 400: true, 1600: true, 1904: true, 1972: true, 1980: true, 2000: true, 2024: true, 2096: true, 2104: true, 2400: true, 9996: true}
	for _, year := range []int{1, 2, 3, 4, 5, 99, 100, 101, 200, 300, 400, 401, 1500, 1600, 1700, 1800, 1899, 1900, 1901, 1904, 1969, 1970, 1972, 1980, 1999, 2000, 2001, 2023, 2024, 2096, 2100, 2104, 2107, 2200, 2400, 9996, 9998, 9999} {
		for month := range 14 {
			for _, day := range []int{-1, 0, 1, 27, 28, 29, 30, 31, 32, 33, 255} {
				is := month >= 1 && month <= 12 && day >= 1
				if is {
					last := lengths[month-1]
					if month == 2 && leap[year] {
						last++
					}
					is = day <= last
				}
				at, err := Date{Year: year, Month: month, Day: day}.Seconds()
				want(t, fmt.Sprint(year, "-", month, "-", day), err == api.OK, is)
				if !is {
					want(t, fmt.Sprint(year, "-", month, "-", day, ": error"), err, api.ErrTime)
					want(t, fmt.Sprint(year, "-", month, "-", day, ": time"), at, 0)
				}
			}
		}
	}
}

func TestSecondsOfWhatIsNone(t *testing.T) { // P12.1
	right := Date{2000, 2, 29, 23, 59, 59}
	_, err := right.Seconds()
	want(t, "right", err, api.OK)
	_, err = Date{1, 1, 1, 0, 0, 0}.Seconds()
	want(t, "the first one", err, api.OK)
	wrong := map[string][]int{
		"year":   {0, -1, -2000, 10000, 10001, 1 << 40, math.MinInt, math.MaxInt, -400, 1900, 2100},
		"month":  {0, -1, 13, 14, 1<<32 + 2, math.MinInt, math.MaxInt},
		"day":    {0, -1, 30, 31, 32, 1<<32 + 1, math.MinInt, math.MaxInt},
		"hour":   {-1, 24, 25, 1 << 32, math.MinInt, math.MaxInt},
		"minute": {-1, 60, 61, 1 << 32, math.MinInt, math.MaxInt},
		"second": {-1, 60, 61, 1 << 32, math.MinInt, math.MaxInt},
	}
	for part, numbers := range wrong {
		for _, n := range numbers {
			d := right
			*map[string]*int{"year": &d.Year, "month": &d.Month, "day": &d.Day, "hour": &d.Hour, "minute": &d.Minute, "second": &d.Second}[part] = n
			at, err := d.Seconds()
			want(t, part+" "+strconv.Itoa(n), at, 0)
			want(t, part+" "+strconv.Itoa(n)+": error", err, api.ErrTime)
		}
	}
	at, err := Date{}.Seconds()
	want(t, "the zero one", at == 0 && err == api.ErrTime, true)
}

func TestAnyDate(t *testing.T) { // P12.1
	r := rand.New(rand.NewSource(13))
	right := 0
	for range 300000 {
		d := Date{r.Intn(10200) - 100, r.Intn(15) - 1, r.Intn(35) - 1, r.Intn(27) - 1, r.Intn(64) - 2, r.Intn(64) - 2}
		wanted, is := moment(d)
		at, err := d.Seconds()
		if !is && (at != 0 || err != api.ErrTime) || is && (at != wanted || err != api.OK) {
			t.Fatalf("%v: %d, %v, wanted %d, %v", d, at, err, wanted, is)
		}
		if is {
			right++
		}
	}
	want(t, "are there enough that are", right > 100000, true)
}

func TestToDOS(t *testing.T) { // P12.2
	const first, last = 0x00210000, 0xff9fbf7d
	for at, n := range map[int64]uint32{
		0:              first,
		-1:             first,
		math.MinInt64:  first,
		begin - 1:      first,
		begin:          first,
		315532798:      first,
		315532799:      first,
		315532800:      first,
		315532801:      first,
		315532802:      first + 1,
		315532803:      first + 1,
		315532859:      first + 29,
		315532860:      first + 1<<5,
		315536400:      first + 1<<11,
		315619200:      first + 1<<16,
		951782399:      20<<25 | 2<<21 | 28<<16 | 23<<11 | 59<<5 | 29,
		951782400:      20<<25 | 2<<21 | 29<<16,
		951782401:      20<<25 | 2<<21 | 29<<16,
		951782402:      20<<25 | 2<<21 | 29<<16 | 1,
		4354819196:     last - 1,
		4354819197:     last - 1,
		4354819198:     last,
		4354819199:     last,
		4354819200:     last,
		4354819201:     last,
		end:            last,
		end + 1:        last,
		1 << 40:        last,
		math.MaxInt64:  last,
		math.MaxUint32: 126<<25 | 2<<21 | 7<<16 | 6<<11 | 28<<5 | 7,
	} {
		want(t, strconv.FormatInt(at, 10), ToDOS(at), n)
	}
}

// pieces: a DOS time as a date, told by division.
func pieces(n uint32) Date {
	day, second := int(n/65536), int(n%65536)
	return Date{1980 + day/512, day / 32 % 16, day % 32, second / 2048, second / 32 % 64, second % 32 * 2}
}

func TestFromDOSOfWhatIsNotRight(t *testing.T) { // P12.2
	const right = 20<<25 | 2<<21 | 29<<16 | 23<<11 | 59<<5 | 29
	at, err := FromDOS(right)
	want(t, "right", at == 951868798 && err == api.OK, true)
	for what, n := range map[string]uint32{
		"nothing":             0,
		"all bits":            math.MaxUint32,
		"month 0":             right &^ (15 << 21),
		"month 13":            right&^(15<<21) | 13<<21,
		"month 14":            right&^(15<<21) | 14<<21,
		"month 15":            right&^(15<<21) | 15<<21,
		"day 0":               right &^ (31 << 16),
		"30th of February":    right&^(31<<16) | 30<<16,
		"31st of February":    right&^(31<<16) | 31<<16,
		"29th, no leap":       right + 1<<25,
		"29th of 2100":        120<<25 | 2<<21 | 29<<16,
		"31st of April":       20<<25 | 4<<21 | 31<<16,
		"hour 24":             right + 1<<11,
		"hour 31":             right | 31<<11,
		"minute 60":           right + 1<<5,
		"minute 63":           right | 63<<5,
		"halved second of 30": right + 1,
		"halved second of 31": right + 2,
		"the time of a right": right & 0xffff,
	} {
		at, err := FromDOS(n)
		want(t, what, at, 0)
		want(t, what+": error", err, api.ErrTime)
	}
}

func TestFromDOSOfAny(t *testing.T) { // P12.2, P12.4
	var some []uint32
	for half := range uint32(65536) {
		for _, other := range []uint32{0, 0x0021, 0xbf7d, 0xff9f, 0x2abc, 0x285d, 0xffff} {
			some = append(some, half<<16|other, other<<16|half)
		}
	}
	right := 0
	for _, n := range some {
		wanted, is := moment(pieces(n))
		at, err := FromDOS(n)
		if !is && (at != 0 || err != api.ErrTime) || is && (at != wanted || err != api.OK || ToDOS(at) != n || ToDOS(at+1) != n) {
			t.Fatalf("%x: %d, %v, wanted %d, %v", n, at, err, wanted, is)
		}
		if is {
			right++
		}
	}
	want(t, "are there enough that are right", right > 100000, true)
}

func TestDOSThereAndBack(t *testing.T) { // P12.2, P12.4
	const first, last = 315532800, 4354819199
	r := rand.New(rand.NewSource(14))
	times := []int64{first, first + 1, last - 1, last}
	for range 200000 {
		times = append(times, first+r.Int63n(last-first+1))
	}
	for _, at := range times {
		n := ToDOS(at)
		back, err := FromDOS(n)
		if back != at-at%2 || err != api.OK {
			t.Fatalf("%d: %x, and back %d, %v", at, n, back, err)
		}
	}
	for range 100000 { // of all times what is made is right
		at := int64(r.Uint64())
		back, err := FromDOS(ToDOS(at))
		wanted := min(max(at, first), last) &^ 1
		if back != wanted || err != api.OK {
			t.Fatalf("%d: back %d, %v", at, back, err)
		}
	}
}

func TestFits(t *testing.T) { // P12.3
	for at, is := range map[int64]bool{
		0: true, -1: true, 1: true, -1 << 31: true, 1<<31 - 1: true, -1<<31 + 1: true, 1<<31 - 2: true,
		-1<<31 - 1: false, 1 << 31: false, -1 << 32: false, 1 << 32: false, 1<<32 - 1: false, 1<<32 + 1: false, 1 << 62: false, math.MinInt64: false, math.MaxInt64: false,
	} {
		want(t, strconv.FormatInt(at, 10), Fits(at), is)
	}
}

func TestText(t *testing.T) { // P12.3
	for s, d := range map[string]Date{
		"1970-01-01T00:00:00":          {1970, 1, 1, 0, 0, 0},
		"2000-12-31T23:59:58":          {2000, 12, 31, 23, 59, 58},
		"0000-00-00T00:00:00":          {},
		"0001-02-03T04:05:06":          {1, 2, 3, 4, 5, 6},
		"0010-10-09T11:12:13":          {10, 10, 9, 11, 12, 13},
		"0999-01-01T00:00:00":          {999, 1, 1, 0, 0, 0},
		"1000-01-01T00:00:00":          {1000, 1, 1, 0, 0, 0},
		"9999-99-99T99:99:99":          {9999, 99, 99, 99, 99, 99},
		"10000-100-101T102:103:104":    {10000, 100, 101, 102, 103, 104},
		"-0001--01--02T-03:-04:-05":    {-1, -1, -2, -3, -4, -5},
		"-0999--09--10T-11:-99:-100":   {-999, -9, -10, -11, -99, -100},
		"-1000-01-01T00:00:00":         {-1000, 1, 1, 0, 0, 0},
		"-12345-01-01T00:00:00":        {-12345, 1, 1, 0, 0, 0},
		"2021-06-07T08:09:-1234567890": {2021, 6, 7, 8, 9, -1234567890},
	} {
		want(t, s, Text(d), s)
	}
	ends := Date{math.MinInt, math.MaxInt, math.MinInt, math.MaxInt, math.MinInt, math.MaxInt}
	least, most := strconv.Itoa(math.MinInt), strconv.Itoa(math.MaxInt)
	want(t, "ends of numbers", Text(ends), least+"-"+most+"-"+least+"T"+most+":"+least+":"+most)
	r := rand.New(rand.NewSource(15))
	for range 50000 {
		at := begin + r.Int63n(end-begin+1)
		d, _ := Of(at)
		want(t, strconv.FormatInt(at, 10), Text(d), time.Unix(at, 0).UTC().Format("2006-01-02T15:04:05"))
		d = Date{r.Intn(200000), r.Intn(200), r.Intn(200), r.Intn(200), r.Intn(200), r.Intn(200)}
		want(t, "any", Text(d), fmt.Sprintf("%04d-%02d-%02dT%02d:%02d:%02d", d.Year, d.Month, d.Day, d.Hour, d.Minute, d.Second))
	}
}
