package glob

// The readers below tell what the first runes of some are, and how many of these it takes: none, where they are nothing.

// plain: one rune as itself, perhaps behind a \.
func plain(left []rune) (rune, int) {
	switch {
	case left[0] != '\\':
		return left[0], 1
	case len(left) == 1:
		return 0, 0
	}
	return left[1], 2
}

// span: one rune, or two with a - between.
func span(left []rune) (Range, int) {
	low, took := plain(left)
	if took == 0 {
		return Range{}, 0
	}
	rest := left[took:]
	if len(rest) < 2 || rest[0] != '-' || rest[1] == ']' {
		return Range{low, low}, took
	}
	high, more := plain(rest[1:])
	if more == 0 || high < low {
		return Range{}, 0
	}
	return Range{low, high}, took + 1 + more
}

// set: what stands behind a [, its ] too.
func set(left []rune) (Atom, int) {
	a, at := Atom{Kind: Set}, 0
	if len(left) > 0 && (left[0] == '!' || left[0] == '^') {
		a.Not, at = true, 1
	}
	// A ] that would end a set without runes is its first one.
	for at < len(left) && (left[at] != ']' || len(a.Ranges) == 0) {
		within, took := span(left[at:])
		if took == 0 {
			return Atom{}, 0
		}
		a.Ranges = append(a.Ranges, within)
		at += took
	}
	if at == len(left) {
		return Atom{}, 0
	}
	return a, at + 1
}

// atom: one of any kind.
func atom(left []rune) (Atom, int) {
	switch left[0] {
	case '*':
		return Atom{Kind: Many}, 1
	case '?':
		return Atom{Kind: One}, 1
	case '[':
		a, took := set(left[1:])
		if took == 0 {
			return Atom{}, 0
		}
		return a, took + 1
	}
	r, took := plain(left)
	return Atom{Kind: Rune, Rune: r}, took
}
