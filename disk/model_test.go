package disk

import (
	"math/rand"
	"slices"
	"sort"
	"strconv"
	"strings"
	"testing"

	"portmanteau/api"
)

// model is a second reckoning of a disk: all that it shows is done anew, from what lasts on, whenever it is asked.
type model struct {
	limit        int
	lasts        []api.Item
	waits        []wait
	steps        int
	fuse, fails  int
	fused, power bool
}

// wait is a change that waits: what it makes of items, with at most so many bytes where it gives some.
type wait struct {
	do   func(items []api.Item, most int) []api.Item
	lays string // to which path it gives bytes
	file bool   // to a file
	sure bool
}

const whole = 1 << 40 // bytes that are never cut

// gone: items but the one at a path.
func gone(items []api.Item, path string) []api.Item {
	return slices.DeleteFunc(slices.Clone(items), func(it api.Item) bool { return it.Path == path })
}

// held: the node at a path.
func held(items []api.Item, path string) (api.Node, bool) {
	for _, it := range items {
		if it.Path == path {
			return it.Node, true
		}
	}
	return api.Node{}, false
}

// ordered: items in the order of their parts.
func ordered(items []api.Item) []api.Item {
	out := slices.Clone(items)
	sort.Slice(out, func(i, j int) bool {
		return slices.Compare(strings.Split(out[i].Path, "/"), strings.Split(out[j].Path, "/")) < 0
	})
	return out
}

func (m *model) shown() []api.Item {
	out := m.lasts
	for _, w := range m.waits {
		out = w.do(out, whole)
	}
	return out
}

// real: by a list of the parts that are still to be gone through.
func (m *model) real(path string) (string, api.Errno) {
	parts := strings.Split(path, "/")
	for _, p := range parts {
		if p == "" || p == "." || p == ".." {
			return "", api.ErrName
		}
	}
	if len(parts) > 32 {
		return "", api.ErrName
	}
	items, at, links := m.shown(), []string{}, 0
	last, todo := parts[len(parts)-1], parts[:len(parts)-1]
	for len(todo) > 0 {
		p := todo[0]
		todo = todo[1:]
		if p == ".." && len(at) > 0 {
			at = at[:len(at)-1]
		}
		if p == "" || p == "." || p == ".." {
			continue
		}
		next := append(slices.Clone(at), p)
		n, ok := held(items, strings.Join(next, "/"))
		switch {
		case !ok:
			return "", api.ErrNone
		case n.Kind == api.File:
			return "", api.ErrKind
		case n.Kind == api.Dir:
			at = next
			continue
		}
		if links++; links > 16 {
			return "", api.ErrLoop
		}
		if strings.HasPrefix(n.Data, "/") {
			at = nil
		}
		todo = append(strings.Split(n.Data, "/"), todo...)
	}
	if len(at) == 32 {
		return "", api.ErrLong
	}
	return strings.Join(append(at, last), "/"), api.OK
}

// bytes: of all Data that is shown, but that at a path.
func (m *model) bytes(but string) int {
	sum := 0
	for _, it := range m.shown() {
		if it.Path != but {
			sum += len(it.Node.Data)
		}
	}
	return sum
}

// step: the errors that all steps have, and what is done, if there is none; own answers what waits, or an error.
func (m *model) step(own func() (*wait, api.Errno)) api.Errno {
	if !m.power || m.fused && m.fuse == 0 {
		m.power = false
		return api.ErrPower
	}
	if m.fails > 0 {
		if m.fails--; m.fails == 0 {
			return api.ErrIO
		}
	}
	w, err := own()
	if err != api.OK {
		return err
	}
	if w != nil {
		m.waits = append(m.waits, *w)
	}
	m.steps++
	m.fuse--
	return api.OK
}

func first(s string, most int) string { return s[:min(len(s), most)] }

func (m *model) make(path string, n api.Node) api.Errno {
	return m.step(func() (*wait, api.Errno) {
		real, err := m.real(path)
		_, there := held(m.shown(), real)
		switch {
		case err != api.OK:
			return nil, err
		case n.Kind < 1 || n.Kind > 3 || n.Kind == api.Dir && n.Data != "":
			return nil, api.ErrKind
		case there:
			return nil, api.ErrThere
		case m.bytes("")+len(n.Data) > m.limit:
			return nil, api.ErrFull
		}
		n.Mode %= 1 << 12
		do := func(items []api.Item, most int) []api.Item {
			n := n
			n.Data = first(n.Data, most)
			return append(slices.Clone(items), at(real, n))
		}
		return &wait{do: do, lays: real, file: n.Kind == api.File}, api.OK
	})
}

// found: the real path, and the node there.
func (m *model) found(path string) (string, api.Node, api.Errno) {
	real, err := m.real(path)
	n, there := held(m.shown(), real)
	if err == api.OK && !there {
		err = api.ErrNone
	}
	return real, n, err
}

func (m *model) write(path, data string) api.Errno {
	return m.step(func() (*wait, api.Errno) {
		real, n, err := m.found(path)
		switch {
		case err != api.OK:
			return nil, err
		case n.Kind != api.File:
			return nil, api.ErrKind
		case m.bytes(real)+len(data) > m.limit:
			return nil, api.ErrFull
		}
		do := func(items []api.Item, most int) []api.Item {
			n, _ := held(items, real)
			n.Data = first(data, most)
			return append(gone(items, real), at(real, n))
		}
		return &wait{do: do, lays: real, file: true}, api.OK
	})
}

func (m *model) sync(path string) api.Errno {
	return m.step(func() (*wait, api.Errno) {
		real, n, err := m.found(path)
		if err == api.OK && n.Kind != api.File {
			err = api.ErrKind
		}
		for i := range m.waits {
			if err == api.OK && m.waits[i].lays == real {
				m.waits[i].sure = true
			}
		}
		return nil, err
	})
}

func (m *model) remove(path string) api.Errno {
	return m.step(func() (*wait, api.Errno) {
		real, _, err := m.found(path)
		if err != api.OK {
			return nil, err
		}
		for _, it := range m.shown() {
			if strings.HasPrefix(it.Path, real+"/") {
				return nil, api.ErrEmpty
			}
		}
		return &wait{do: func(items []api.Item, _ int) []api.Item { return gone(items, real) }}, api.OK
	})
}

func (m *model) rename(from, to string) api.Errno {
	return m.step(func() (*wait, api.Errno) {
		here, n, err := m.found(from)
		there, o, other := m.found(to)
		switch {
		case err != api.OK && here == "":
			return nil, err
		case other != api.OK && there == "":
			return nil, other
		case err != api.OK:
			return nil, err
		case n.Kind == api.Dir || o.Kind == api.Dir:
			return nil, api.ErrKind
		}
		do := func(items []api.Item, _ int) []api.Item {
			n, _ := held(items, here)
			return append(gone(gone(items, here), there), at(there, n))
		}
		return &wait{do: do}, api.OK
	})
}

func (m *model) meta(path string, by api.Node) api.Errno {
	return m.step(func() (*wait, api.Errno) {
		real, _, err := m.found(path)
		do := func(items []api.Item, _ int) []api.Item {
			n, _ := held(items, real)
			by.Kind, by.Data, by.Mode = n.Kind, n.Data, by.Mode%(1<<12)
			return append(gone(items, real), at(real, by))
		}
		return &wait{do: do}, err
	})
}

func (m *model) flush() api.Errno {
	return m.step(func() (*wait, api.Errno) {
		m.lasts, m.waits = m.shown(), nil
		return nil, api.OK
	})
}

func (m *model) crash(c api.Crash) {
	number := 0
	for i, w := range m.waits {
		if i >= c.Keep {
			break
		}
		most := whole
		if w.lays != "" && w.file && !w.sure {
			if number < 64 && c.Mask>>number%2 == 1 {
				most = max(c.Cut, 0)
			}
			number++
		}
		m.lasts = w.do(m.lasts, most)
	}
	m.waits, m.power, m.fused, m.fails = nil, true, false, 0
}

// isTree: a test fails, if items aren't a tree.
func isTree(t *testing.T, what string, items []api.Item) {
	t.Helper()
	kinds := map[string]int{"": api.Dir}
	for i, it := range items {
		parent, _, _ := strings.Cut(it.Path, "\x00")
		parent = parent[:max(strings.LastIndex(parent, "/"), 0)]
		right := it.Node.Kind >= 1 && it.Node.Kind <= 3 && (it.Node.Kind != api.Dir || it.Node.Data == "") && kinds[parent] == api.Dir
		want(t, what+": "+strconv.Itoa(i)+", "+it.Path, right && kinds[it.Path] == 0, true)
		kinds[it.Path] = it.Node.Kind
	}
	want(t, what+": in order", said(items), said(ordered(items)))
}

// anyPath: a path that often leads to something.
func anyPath(r *rand.Rand) string {
	parts := []string{"a", "b", "c", "a", "b", "l", "m", ".", "a-"}
	many := len(parts)
	if r.Intn(8) > 0 {
		many -= 2
	}
	var out []string
	for range 1 + r.Intn(3) {
		out = append(out, parts[r.Intn(many)])
	}
	return strings.Join(out, "/")
}

// anyNode: mostly one that may be.
func anyNode(r *rand.Rand) api.Node {
	n := api.Node{Kind: 1 + r.Intn(3), Mode: r.Uint32(), UID: r.Uint32(), GID: r.Uint32(), Mtime: int64(r.Uint64()), Atime: int64(r.Uint64())}
	whereto := []string{"a", "..", "/", "b/c", "../a", "/a/b", "", "l", "m/a", "./", "../../b", "//a/.", "nothing"}
	switch n.Kind {
	case api.Link:
		n.Data = whereto[r.Intn(len(whereto))]
	case api.File:
		n.Data = strings.Repeat("data", r.Intn(4))
	}
	switch r.Intn(30) {
	case 0:
		n.Kind = r.Intn(7) - 1
	case 1:
		n.Data = strings.Repeat("much", r.Intn(30))
	}
	return n
}

// both: one step, done to the disk and to the model.
func both(r *rand.Rand, d *Disk, m *model) (string, api.Errno, api.Errno) {
	path, other, n := anyPath(r), anyPath(r), anyNode(r)
	switch r.Intn(18) {
	default:
		return "make " + path, d.Make(path, n), m.make(path, n)
	case 0, 1, 2:
		return "write " + path, d.Write(path, n.Data), m.write(path, n.Data)
	case 3, 4:
		return "sync " + path, d.Sync(path), m.sync(path)
	case 5, 6:
		return "remove " + path, d.Remove(path), m.remove(path)
	case 7, 8:
		return "rename " + path + " " + other, d.Rename(path, other), m.rename(path, other)
	case 9:
		return "meta " + path, d.Meta(path, n), m.meta(path, n)
	case 10:
		if r.Intn(3) > 0 {
			return "real " + path, api.OK, api.OK
		}
		return "flush", d.Flush(), m.flush()
	}
}

// disturb: sometimes a fuse, a step that fails, a crash.
func disturb(r *rand.Rand, d *Disk, m *model) {
	switch r.Intn(60) {
	case 0:
		n := r.Intn(20) - 2
		d.Fuse(n)
		m.fuse, m.fused = n, n >= 0
	case 1:
		n := r.Intn(5) - 1
		d.Fail(n)
		m.fails = max(n, 0)
	case 2, 3:
		c := api.Crash{Keep: r.Intn(50) - 3, Mask: r.Uint64(), Cut: r.Intn(12) - 2}
		if r.Intn(3) == 0 {
			c.Keep = 1 << 40
		}
		d.Crash(c)
		m.crash(c)
	}
}

// alike: a test fails, if the disk isn't as the model is.
func alike(t *testing.T, r *rand.Rand, what string, d *Disk, m *model) {
	t.Helper()
	want(t, what+": all", said(d.All()), said(ordered(m.shown())))
	want(t, what+": lasts", said(d.Lasts()), said(ordered(m.lasts)))
	counts(t, what, d, len(m.waits), m.steps)
	path := anyPath(r)
	real, err := d.Real(path)
	wanted, no := m.real(path)
	want(t, what+": real of "+path, real, wanted)
	want(t, what+": error of "+path, err, no)
	l, err := d.List(path)
	_, n, no := m.found(path)
	if no == api.OK && n.Kind != api.Dir {
		no = api.ErrKind
	}
	want(t, what+": error of list of "+path, err, no)
	var in []string
	for _, it := range ordered(m.shown()) {
		if base, under := strings.CutPrefix(it.Path, wanted+"/"); under && no == api.OK && !strings.Contains(base, "/") {
			in = append(in, base)
		}
	}
	want(t, what+": list of "+path, strings.Join(l, "/"), strings.Join(in, "/"))
}

func TestAnySteps(t *testing.T) { // P15.1 to P15.4
	r := rand.New(rand.NewSource(15))
	for round := range 300 {
		limit := r.Intn(120)
		d, m := New(limit), &model{limit: limit, power: true}
		for i := range 100 {
			what, got, wanted := both(r, d, m)
			what = strconv.Itoa(round) + "." + strconv.Itoa(i) + " " + what
			want(t, what, got, wanted)
			disturb(r, d, m)
			alike(t, r, what, d, m)
			isTree(t, what+": all", d.All())
			isTree(t, what+": lasts", d.Lasts())
			if t.Failed() {
				return
			}
		}
	}
}

// TestCrashesLeaveTrees: of the same steps, whatever a crash keeps of them is a tree, and what was sure is whole.
func TestCrashesLeaveTrees(t *testing.T) { // P15.4
	for seed := range int64(60) {
		for keep := range 41 {
			r := rand.New(rand.NewSource(seed))
			d, m := New(200), &model{limit: 200, power: true}
			for range 60 {
				both(r, d, m)
			}
			flushed := d.Lasts()
			good(t, "make", d.Make("sure", file("these bytes")))
			good(t, "sync", d.Sync("sure"))
			d.Crash(api.Crash{Keep: keep, Mask: 1<<64 - 1})
			isTree(t, "behind a crash", d.All())
			n, err := d.Stat("sure")
			want(t, "a file that was sure is there whole, or isn't", err == api.OK && n.Data == "these bytes" || err == api.ErrNone, true)
			if keep == 0 {
				want(t, "what was flushed", said(d.All()), said(flushed))
			}
		}
	}
}
