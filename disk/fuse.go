package disk

// none is what Left tells where there is no fuse.
const none = -1

// Fuse lets the power fail behind k writes; k below 0 takes the fuse out.
func (d *Disk) Fuse(k int) {
	if d != nil {
		d.fused, d.fuse = k >= 0, max(k, 0)
	}
}

// Left tells the fuse; -1: there is none.
func (d *Disk) Left() int {
	if d == nil || !d.fused {
		return none
	}
	return d.fuse
}

// burn shortens a fuse by the write that is done; a fuse of 0 never comes here, since that write was refused.
func (d *Disk) burn() {
	if d.fused {
		d.fuse--
	}
}

// blow is the power's failure at a fuse of 0: the fuse is used up, so that a restored power holds.
func (d *Disk) blow() {
	d.Cut()
	d.Fuse(none)
}
