package syncer

import (
	"slices"
	"strconv"
	"strings"
	"testing"

	"portmanteau/api"
	"portmanteau/disk"
	"portmanteau/plan"
	"portmanteau/tree"
)

// case of a job whose steps fail: the disk ahead of it, and the archive that is there; - none.
type start struct{ what, disk, archive, old string }

// starts: an archive that is there, one that isn't, one without bytes, one that is reached through a link.
func starts(t *testing.T) []start {
	t.Helper()
	return []start{
		{"an archive", ofTree, "z", zipped(t, ofArchive)},
		{"no archive", ofTree, "z", "-"},
		{"a file without bytes", ofTree, "z", ""},
		{"an archive through a link", ofTree + " u:lt", "u/z", foreign(t, "said", strings.Fields(ofArchive)...)},
	}
}

// set: the disk, with the archive.
func (s start) set(t *testing.T, limit int) *disk.Disk {
	t.Helper()
	d := with(t, limit, items(s.disk))
	if s.old != "-" {
		put(t, d, s.archive, s.old)
	}
	return d
}

// job: the one that is to be done.
func (s start) job() Job { return Job{Root: "t", Archive: s.archive, Mode: plan.Sync, Level: 6} }

// renewed: the archive's bytes behind the job, and what it tells.
func (s start) renewed(t *testing.T) (string, Report) {
	t.Helper()
	d := s.set(t, roomy)
	r := runs(t, s.what, d, s.job())
	return data(d, s.archive), r
}

// beside: what is shown beside an archive and its temporary file.
func beside(d *disk.Disk, archive string) string {
	real, _ := d.Real(archive)
	return text(slices.DeleteFunc(d.All(), func(x api.Item) bool { return x.Path == real || x.Path == Temp(real) }))
}

// whole: a test fails, if something else than an archive's old bytes, or all the new ones, is there, or a temporary file, or if the rest isn't as it was; are they the new ones?
func (s start) whole(t *testing.T, what string, d *disk.Disk, renewed string) bool {
	t.Helper()
	now := data(d, s.archive)
	want(t, what+": old bytes, or new ones", now == s.old || now == renewed, true)
	want(t, what+": a temporary file", data(d, Temp(s.archive)), "-")
	want(t, what+": the rest", beside(d, s.archive), s.disk)
	return now == renewed
}

func TestStepsInOrder(t *testing.T) { // P27.2
	for _, s := range starts(t) {
		renewed, _ := s.renewed(t)
		for fuse := range 7 {
			what := of(s.what+", steps", fuse)
			d := s.set(t, roomy)
			before := d.All()
			n := api.Node{Kind: api.File, Mode: 0o644}
			if s.old != "-" {
				n, _ = d.Stat(s.archive)
				n.Data = ""
			}
			steps := d.Steps()
			d.Fuse(fuse)
			_, err := ran(t, what, d, s.job())
			if fuse < 5 {
				want(t, what+": error", err, api.ErrPower)
			} else {
				want(t, what+": error", err, api.OK)
			}
			want(t, what+": that were done", d.Steps()-steps, min(fuse, 5))
			want(t, what+": what waits", d.Waits(), []int{0, 1, 2, 2, 3, 0, 0}[fuse])
			want(t, what+": what lasts", slices.Equal(d.Lasts(), before), fuse < 5)
			want(t, what+": the rest", beside(d, s.archive), s.disk)
			archive, temp := s.old, "-"
			switch {
			case fuse > 3:
				archive = renewed
			case fuse > 1:
				temp = renewed
			case fuse == 1:
				temp = ""
			}
			want(t, what+": the archive", data(d, s.archive), archive)
			want(t, what+": the temporary file", data(d, Temp(s.archive)), temp)
			for _, path := range []string{s.archive, Temp(s.archive)} {
				if now, err := d.Stat(path); err == api.OK {
					now.Data = ""
					want(t, what+": node of "+path, now, n)
				}
			}
			d.Crash(api.Crash{Keep: 2, Mask: 3, Cut: 4})
			if fuse > 1 && fuse < 5 {
				wanted := renewed
				if fuse == 2 {
					wanted = renewed[:4]
				}
				want(t, what+": what a crash leaves", data(d, Temp(s.archive)), wanted)
			}
		}
	}
}

func TestStepsFail(t *testing.T) { // P27.2, P27.4
	for _, s := range starts(t) {
		renewed, wanted := s.renewed(t)
		for fail := 1; fail < 7; fail++ {
			what := of(s.what+", fails", fail)
			d := s.set(t, roomy)
			steps := d.Steps()
			d.Fail(fail)
			_, err := ran(t, what, d, s.job())
			want(t, what+": steps", d.Steps()-steps, []int{0, 0, 2, 3, 4, 4, 5}[fail]) // Remove is one
			if fail == 6 {
				want(t, what+": error", err, api.OK)
			} else {
				want(t, what+": error", err, api.ErrIO)
			}
			want(t, what+": new", s.whole(t, what, d, renewed), fail > 4)
			d.Fail(0)
			if fail > 4 {
				idles(t, what+": once more", d, s.job())
			} else {
				want(t, what+": once more", runs(t, what, d, s.job()), wanted)
			}
			want(t, what+": then", s.whole(t, what, d, renewed), true)
		}
	}
}

func TestNoRoom(t *testing.T) { // P27.2, P27.4
	for _, s := range starts(t) {
		renewed, wanted := s.renewed(t)
		there := int(tree.Bytes(s.set(t, roomy).All()))
		for _, less := range []int{0, 1, 2, len(renewed)} {
			what := of(s.what+", bytes less than there must be", less)
			d := s.set(t, there+len(renewed)-less)
			r, err := ran(t, what, d, s.job())
			if less == 0 {
				want(t, what, err, api.OK)
				want(t, what+": report", r, wanted)
			} else {
				want(t, what, err, api.ErrFull)
			}
			want(t, what+": new", s.whole(t, what, d, renewed), less == 0)
		}
		// What the taking away answers counts for nothing.
		d := s.set(t, there)
		d.Fail(3)
		_, err := ran(t, s.what, d, s.job())
		want(t, s.what+": two that fail", err, api.ErrFull)
		want(t, s.what+": what couldn't be taken away", data(d, Temp(s.archive)), "")
		_, err = ran(t, s.what, d, s.job())
		want(t, s.what+": it is there", err, api.ErrThere)
		want(t, s.what+": Clean", Clean(d, s.archive), api.OK)
		want(t, s.what+": new", s.whole(t, s.what, d, renewed), false)
	}
}

func TestNoRoomForANode(t *testing.T) { // P27.2: Make itself
	d := with(t, 5, items("t:d t/a:fhello"))
	_, err := ran(t, "no room", d, Job{Root: "t", Archive: "z", Mode: plan.Sync})
	want(t, "no room", err, api.ErrFull)
	want(t, "what is shown", text(d.All()), "t:d t/a:fhello")
	want(t, "steps", d.Steps(), 5)
}

// crashes: what may be left of so many changes that wait.
func crashes(bytes int) []api.Crash {
	var out []api.Crash
	for keep := range 4 {
		for mask := range uint64(4) {
			for _, cut := range []int{0, 1, bytes - 1, bytes} {
				out = append(out, api.Crash{Keep: keep, Mask: mask, Cut: cut})
			}
		}
	}
	return append(out, api.Crash{Keep: 1 << 40, Mask: 1<<64 - 1}, api.Crash{Keep: -1 << 63, Mask: 1<<64 - 1, Cut: 1 << 40})
}

func TestPower(t *testing.T) { // P27.4, P5
	for _, s := range starts(t) {
		renewed, wanted := s.renewed(t)
		for fuse := range 6 {
			for i, c := range crashes(len(renewed)) {
				what := of(of(s.what+", steps", fuse)+", crash", i)
				d := s.set(t, roomy)
				d.Fuse(fuse)
				ran(t, what, d, s.job())
				d.Crash(c)
				want(t, what+": clean", Clean(d, s.archive), api.OK)
				isNew := s.whole(t, what, d, renewed)
				want(t, what+": new", isNew, fuse == 5 || fuse == 4 && c.Keep > 2)
				shown := d.All()
				d.Crash(api.Crash{})
				want(t, what+": it lasts", slices.Equal(d.All(), shown), true)
				if isNew {
					idles(t, what, d, s.job())
					continue
				}
				want(t, what+": once more", runs(t, what, d, s.job()), wanted)
				want(t, what+": then", s.whole(t, what, d, renewed), true)
			}
		}
	}
}

func TestPowerInClean(t *testing.T) { // P27.3, P27.4
	for _, s := range starts(t) {
		renewed, _ := s.renewed(t)
		for fuse := range 3 {
			for keep := range 3 {
				what := of(of(s.what+", Clean's steps", fuse)+", kept", keep)
				d := s.set(t, roomy)
				d.Fuse(3)
				ran(t, what, d, s.job())
				d.Crash(api.Crash{Keep: 2, Mask: 3, Cut: 7})
				want(t, what+": what is left", data(d, Temp(s.archive)), renewed) // it was sure
				d.Fuse(fuse)
				err := Clean(d, s.archive)
				want(t, what+": error", err == api.OK, fuse == 2)
				want(t, what+": or", err == api.ErrPower, fuse < 2)
				d.Crash(api.Crash{Keep: keep})
				want(t, what+": clean", Clean(d, s.archive), api.OK)
				want(t, what+": new", s.whole(t, what, d, renewed), false)
				runs(t, what, d, s.job())
				want(t, what+": then", s.whole(t, what, d, renewed), true)
			}
		}
	}
}

func TestExamplesOfPower(t *testing.T) { // the document's examples 7 and 8
	s := starts(t)[0]
	renewed, _ := s.renewed(t)
	for cut := range 9 {
		d := s.set(t, roomy)
		d.Fuse(3)
		_, err := Run(d, s.job())
		want(t, "the power goes behind Sync", err, api.ErrPower)
		d.Crash(api.Crash{Keep: cut % 3, Mask: uint64(cut / 3), Cut: cut})
		want(t, of("7: old bytes", cut), data(d, "z"), s.old)
		temp := data(d, "z.part")
		want(t, of("7: z.part", cut), temp == "-" || strings.HasPrefix(renewed, temp), true)
		Clean(d, "z")
		want(t, of("7: z.part is gone", cut), data(d, "z.part"), "-")
	}
	d := s.set(t, roomy)
	d.Fuse(4)
	_, err := Run(d, s.job())
	want(t, "the power goes behind Rename", err, api.ErrPower)
	d.Crash(api.Crash{Keep: 3, Mask: 7})
	want(t, "8: new bytes", data(d, "z"), renewed)
}

func TestClean(t *testing.T) { // P27.3
	const all = "a:f1 b:d b/e:d b/z.part:f2Z c.part:d c.part/f:f3 d.part:d e:f l:lb m.part:la o:lo z.part:f4part"
	for _, c := range []struct {
		archive string
		err     api.Errno
		gone    string
	}{
		{"z", api.OK, "z.part"},
		{"b/z", api.OK, "b/z.part"},
		{"l/z", api.OK, "b/z.part"},
		{"d", api.OK, "d.part"},
		{"m", api.OK, "m.part"}, // a link itself
		{"c", api.ErrEmpty, ""},
		{"a", api.OK, ""},
		{"no", api.OK, ""},
		{"b/no", api.OK, ""},
		{"b/e/", api.OK, ""}, // what has .part behind is a path
		{"", api.OK, ""},
		{"z.part", api.OK, ""},
		{"no/z", api.ErrNone, ""},
		{"b/no/z", api.ErrNone, ""},
		{"a/z", api.ErrKind, ""},
		{"l/z.part/z", api.ErrKind, ""},
		{"o/z", api.ErrLoop, ""},
		{"../z", api.ErrName, ""},
		{"/z", api.ErrName, ""},
		{long("z", 250), api.OK, ""},
		{long("z", 251), api.ErrName, ""},
		{"z\x00", api.ErrName, ""},
	} {
		what := strconv.Quote(c.archive)
		d := laid(t, all)
		before, steps := d.All(), d.Steps()
		d.Meta("a", node("f9"))
		want(t, what, Clean(d, c.archive), c.err)
		if c.gone == "" {
			want(t, what+": steps", d.Steps(), steps+1)
			want(t, what+": what waits", d.Waits(), 1)
			d.Crash(api.Crash{})
			want(t, what+": what is shown", slices.Equal(d.All(), before), true)
			continue
		}
		want(t, what+": steps", d.Steps(), steps+3)
		want(t, what+": what waits", d.Waits(), 0)
		d.Crash(api.Crash{})
		want(t, what+": what is shown", text(d.All()), text(tree.Drop(items(strings.Replace(all, "a:f1", "a:f9", 1)), c.gone)))
		still(t, what+": once more", d, func() { want(t, what+": once more", Clean(d, c.archive), api.OK) })
	}
	d := laid(t, "z.part:f a.part:f")
	want(t, "without an archive", Clean(d, "z"), api.OK)
	for fail := 1; fail < 4; fail++ {
		d := laid(t, "z:f z.part:f")
		d.Fail(fail)
		wanted := api.ErrIO
		if fail == 3 {
			wanted = api.OK
		}
		want(t, of("fails", fail), Clean(d, "z"), wanted)
		want(t, of("it is there, though it fails", fail), data(d, "z.part") == "", fail == 1)
		want(t, of("waits, where it fails", fail), d.Waits(), []int{0, 0, 1, 0}[fail])
		d.Fail(0)
		want(t, of("once more, behind a fault", fail), Clean(d, "z"), api.OK)
		want(t, of("then, behind a fault", fail), text(d.All()), "z:f")
	}
	d = laid(t, "z:f")
	d.Fuse(0)
	want(t, "nothing there, no power", Clean(d, "z"), api.OK)
	d = laid(t, "z:f z.part:f")
	d.Fuse(0)
	want(t, "no power", Clean(d, "z"), api.ErrPower)
	want(t, "no power, once more", Clean(d, "z"), api.ErrPower)
}
