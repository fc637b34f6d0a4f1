package order

import (
	"math"
	"testing"

	"portmanteau/api"
)

const some = "d:D d/x:fold e:D f:fold l:lold" // a directory that isn't empty, one that is, a file, a link

func TestApplyNothing(t *testing.T) { // P25.3
	leads(t, "", "", "")
	leads(t, some, "", some)
	want(t, "of nothing", len(Apply(nil, nil)), 0)
	want(t, "of empty lists", len(Apply([]api.Item{}, []Step{})), 0)
	leads(t, "b:f a:f b:d", "", "b:f a:f b:d") // whatever is there
}

func TestApplyMake(t *testing.T) { // P25.3
	leads(t, "", "+a:fnew", "a:fnew")
	leads(t, some, "+a:fnew", "a:fnew "+some)
	leads(t, some, "+g:d", "d:D d/x:fold e:D f:fold g:d l:lold")
	leads(t, some, "+d/y:lnew", "d:D d/x:fold d/y:lnew e:D f:fold l:lold")
	leads(t, some, "+d/x:fnew", "d:D d/x:fnew e:D f:fold l:lold")
	leads(t, some, "+f:fnew", "d:D d/x:fold e:D f:fnew l:lold")
	leads(t, some, "+f:lnew", "d:D d/x:fold e:D f:lnew l:lold")
	leads(t, some, "+f:d", "d:D d/x:fold e:D f:d l:lold")
	leads(t, some, "+l:fnew", "d:D d/x:fold e:D f:fold l:fnew")
	leads(t, some, "+d:fnew", "d:fnew d/x:fold e:D f:fold l:lold") // what is under it stays
	leads(t, some, "+e:d", "d:D d/x:fold e:d f:fold l:lold")
	leads(t, some, "+d-x:f +d/a:f", "d:D d/a:f d/x:fold d-x:f e:D f:fold l:lold") // ahead of the first one behind it
	leads(t, some, "+d:-", "d:- d/x:fold e:D f:fold l:lold")
	leads(t, "b:f1 a:f2 b:f3", "+b:fnew", "a:f2 b:fnew") // as layer 16 puts it
	leads(t, "c:f1 a:f2", "+b:fnew", "b:fnew c:f1 a:f2")
	leads(t, some, "+:f", ":f "+some)
}

func TestApplyFill(t *testing.T) { // P25.3
	leads(t, "", "=a:fnew", "")
	leads(t, some, "=a:fnew =d/y:fnew =l/x:f =f/:f =d/:f =:f", some)
	leads(t, some, "=f:fnew", "d:D d/x:fold e:D f:fnew l:lold")
	leads(t, some, "=d/x:fnew", "d:D d/x:fnew e:D f:fold l:lold")
	leads(t, some, "=l:fnew", "d:D d/x:fold e:D f:fold l:fnew")
	leads(t, some, "=f:lnew", "d:D d/x:fold e:D f:lnew l:lold")
	leads(t, some, "=d:fnew", "d:fnew d/x:fold e:D f:fold l:lold")
	leads(t, some, "=e:d", "d:D d/x:fold e:d f:fold l:lold")
	leads(t, "b:f1 a:f2 b:f3", "=b:fnew", "a:f2 b:fnew")
}

func TestApplyClear(t *testing.T) { // P25.3
	leads(t, "", "-a", "")
	leads(t, some, "-a -d/y -l/x -d/ -", some)
	leads(t, some, "-f", "d:D d/x:fold e:D l:lold")
	leads(t, some, "-l", "d:D d/x:fold e:D f:fold")
	leads(t, some, "-d/x", "d:D e:D f:fold l:lold")
	leads(t, some, "-e", "d:D d/x:fold f:fold l:lold")
	leads(t, some, "-d", "d/x:fold e:D f:fold l:lold") // that path alone
	leads(t, some, "-f:fnew", "d:D d/x:fold e:D l:lold")
	leads(t, some, "-d -d/x -e -f -l", "")
	leads(t, "b:f1 a:f2 b:d", "-b", "a:f2")
}

func TestApplyMeta(t *testing.T) { // P25.3
	leads(t, "", "*a:d", "")
	leads(t, some, "*a:d *d/y:f *l/x:f *d/:d *:d", some)
	leads(t, some, "*d:d", "d:d d/x:fold e:D f:fold l:lold")
	leads(t, some, "*e:d", "d:D d/x:fold e:d f:fold l:lold")
	for _, path := range []string{"d", "d/x", "e", "f", "l"} {
		for _, by := range []api.Node{
			{}, {Kind: api.Link, Data: "no"}, {Kind: -1, Mode: 1<<32 - 1, UID: 1, GID: 2, Mtime: -1, Atime: math.MinInt64, Data: "no"},
			{Mode: 1}, {UID: 1}, {GID: 1}, {Mtime: 1}, {Atime: 1}, {Kind: api.Dir, Mode: 0o7777, UID: 1 << 31, GID: 1 << 30, Mtime: math.MaxInt64, Atime: 5},
		} {
			wanted := items(some)
			for i := range wanted {
				if wanted[i].Path == path {
					n := by
					n.Kind, n.Data = wanted[i].Node.Kind, wanted[i].Node.Data
					wanted[i].Node = n
				}
			}
			sameItems(t, path, applied(t, path, items(some), []Step{{Meta, path, by}}), wanted)
		}
	}
}

func TestApplyNoKind(t *testing.T) { // P25.3
	for _, kind := range []int{0, 5, -1, -2, 6, 256, 257, 258, 259, 260, math.MinInt, math.MaxInt} {
		for _, path := range []string{"a", "d", "d/x", "e", "f", "l", ""} {
			alone := []Step{{kind, path, node("fnew")}}
			sameItems(t, of(path, kind), applied(t, path, items(some), alone), items(some))
			sameItems(t, of(path, kind), applied(t, path, nil, alone), nil)
			among := append(steps("+a:f1 -f"), Step{kind, path, node("lnew")}, steps("*d:d")[0])
			sameItems(t, of(path, kind), applied(t, path, items(some), among), items("a:f1 d:d d/x:fold e:D l:lold"))
		}
	}
}

func TestApplyInOrder(t *testing.T) { // P25.3
	leads(t, "", "+a:f1 -a", "")
	leads(t, "", "-a +a:f1", "a:f1")
	leads(t, "", "=a:f2 +a:f1", "a:f1")
	leads(t, "", "+a:f1 =a:f2", "a:f2")
	leads(t, "", "+a:f1 +a:f2 +a:lx", "a:lx")
	leads(t, "", "+a:D *a:d", "a:d")
	leads(t, "", "*a:d +a:D", "a:D")
	leads(t, "", "+a:D *a:d -a *a:d =a:f", "")
	leads(t, some, "-f =f:fnew *f:d +g:f1 -l +l:lnew *e:d *d:d =d/x:fnew", "d:d d/x:fnew e:d g:f1 l:lnew")
	leads(t, "", "+b:f2 +c:f3 +a:f1 +b/x:f4 +b-x:f5", "a:f1 b:f2 b/x:f4 b-x:f5 c:f3")
}

func TestAppliedPlans(t *testing.T) { // P25.4: by hand
	for _, x := range []struct{ items, there, wanted string }{
		{"", "", ""},
		{"", some, some},
		{"a/b/c:f", "", "a:i a/b:i a/b/c:f"},
		{"d:d", "", "d:d"},
		{"d:d d/x:fnew f:lnew l:fnew z/l:l../d", some, "d:d d/x:fnew e:D f:lnew l:fnew z:i z/l:l../d"},
		{"d/x:lnew e/y:f1 f:fnew l:lnew", some, "d:D d/x:lnew e:D e/y:f1 f:fnew l:lnew"},
		{"z/a:d z/a/b:f1", some, some + " z:i z/a:d z/a/b:f1"},
	} {
		l, err := planned(t, x.items, items(x.items), items(x.there))
		want(t, x.items+": error", err, api.OK)
		sameItems(t, x.items+" over "+x.there, applied(t, x.items, items(x.there), l), items(x.wanted))
	}
}
