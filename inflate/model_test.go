package inflate

import (
	"strings"

	"portmanteau/api"
)

// model is a second reckoning, by signs 0 and 1; its errors are panics.
type model struct {
	signs string
	at    int
	out   []byte
	limit int
}

// modelled: what Inflate is to answer.
func modelled(s string, limit int) (text string, took int, err api.Errno) {
	m := &model{signs: bytesOf(s), limit: max(limit, 0)}
	defer func() {
		if e, ok := recover().(api.Errno); ok {
			text, took, err = "", 0, e
		}
	}()
	for !m.block() {
	}
	return string(m.out), len(packed(m.signs[:m.at])), api.OK
}

// need: an error, where something isn't so.
func need(so bool, err api.Errno) {
	if !so {
		panic(err)
	}
}

// number: the next n bits.
func (m *model) number(n int) int {
	need(len(m.signs)-m.at >= n, api.ErrShort)
	v := 0
	for i := range n {
		v += int(m.signs[m.at+i]-'0') << i
	}
	m.at += n
	return v
}

// sign: by the word that stands next.
func (m *model) sign(b book) int {
	on := false
	for sign, word := range b {
		if word == "" {
			continue
		}
		if strings.HasPrefix(m.signs[m.at:], word) {
			m.at += len(word)
			return sign
		}
		on = on || strings.HasPrefix(word, m.signs[m.at:])
	}
	need(!on, api.ErrShort)
	panic(api.ErrCode)
}

// grow: by bytes, if they may be.
func (m *model) grow(many int) {
	need(len(m.out)+many <= m.limit, api.ErrLimit)
}

// block: is the next one the last one?
func (m *model) block() bool {
	last := m.number(1) == 1
	switch m.number(2) {
	case 0:
		m.stored()
	case 1:
		m.body(fixed())
	case 2:
		m.body(m.dynamic())
	default:
		panic(api.ErrBlock)
	}
	return last
}

func (m *model) stored() {
	m.at = (m.at + 7) / 8 * 8
	length := m.number(16)
	need(m.number(16)+length == 65535, api.ErrStored)
	m.grow(length)
	need(len(m.signs)-m.at >= 8*length, api.ErrShort)
	m.out = append(m.out, packed(m.signs[m.at:m.at+8*length])...)
	m.at += 8 * length
}

// may: can these be the lengths of a code?
func may(lengths []uint8, open bool) bool {
	fill, many, all := 0, 0, 0
	for _, length := range lengths {
		if length > 0 {
			fill += 32768 >> length
			many++
			all += int(length)
		}
	}
	return fill == 32768 || open && (many == 0 || many == 1 && all == 1)
}

func (m *model) dynamic() coding {
	signs, distances, told := 257+m.number(5), 1+m.number(5), 4+m.number(4)
	need(signs <= 286 && distances <= 30, api.ErrCode)
	outer := make([]uint8, 19)
	for _, sign := range toldOrder()[:told] {
		outer[sign] = uint8(m.number(3))
	}
	need(may(outer, false), api.ErrCode)
	row := m.row(words(outer), signs+distances)
	need(row[256] > 0, api.ErrCode)
	need(may(row[:signs], true) && may(row[signs:], true), api.ErrCode)
	return coding{words(row[:signs]), words(row[signs:])}
}

func (m *model) row(outer book, many int) []uint8 {
	row := []uint8{}
	for len(row) < many {
		length, times := m.sign(outer), 1
		switch length {
		case 16:
			need(len(row) > 0, api.ErrCode)
			length, times = int(row[len(row)-1]), 3+m.number(2)
		case 17:
			length, times = 0, 3+m.number(3)
		case 18:
			length, times = 0, 11+m.number(7)
		}
		for range times {
			need(len(row) < many, api.ErrCode)
			row = append(row, uint8(length))
		}
	}
	return row
}

func (m *model) body(c coding) {
	for {
		sign := m.sign(c.signs)
		switch {
		case sign < 256:
			m.grow(1)
			m.out = append(m.out, byte(sign))
		case sign == 256:
			return
		default:
			need(sign < 286, api.ErrCode)
			l := lengthSpans()[sign-257]
			length := l.least + m.number(l.more)
			far := m.sign(c.distances)
			need(far < 30, api.ErrCode)
			d := distanceSpans()[far]
			distance := d.least + m.number(d.more)
			need(distance <= len(m.out), api.ErrDist)
			m.grow(length)
			m.out = []byte(again(string(m.out), length, distance))
		}
	}
}
