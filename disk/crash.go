package disk

import "portmanteau/api"

const endless = -1 // a fuse that never comes to its end

// Fuse: so many steps more.
func (d *Disk) Fuse(n int) {
	if d != nil {
		d.fuse = max(n, endless)
	}
}

// Fail: which further step does.
func (d *Disk) Fail(n int) {
	if d != nil {
		d.fails = max(n, 0)
	}
}

// Crash: what was sure lasts, and some of the rest.
func (d *Disk) Crash(c api.Crash) {
	if d == nil {
		return
	}
	for _, w := range d.waits[:min(max(c.Keep, 0), len(d.waits))] {
		if w.tears() {
			if c.Mask&1 == 1 {
				w = w.cut(c.Cut)
			}
			// Behind its 64 bits only noughts come in.
			c.Mask >>= 1
		}
		d.lasts.do(w)
	}
	d.shows, d.waits = d.lasts.copied(), nil
	d.dark, d.fuse, d.fails = false, endless, 0
}
