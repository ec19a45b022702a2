package boot

import (
	"earshot/api"
	"earshot/disk"
	"earshot/slot"
)

// reserve is the record that is durable, and the disk that has it: how far rounds and tag may go without another write.
type reserve struct {
	api.Record
	disk *disk.Disk
}

// save makes durable what change makes of the record. The old one stays if that is refused: nobody may go beyond what is on the disk for sure.
func (r *reserve) save(change func(api.Record) api.Record) api.Errno {
	next := change(r.Record)
	if e := slot.Save(r.disk, next); e != api.OK {
		return e
	}
	r.Record = next
	return api.OK
}

// roundsBeyond tells up to which round to reserve behind this one.
func roundsBeyond(round int) int { return min(round+api.RoundBlock, api.MaxRound) }

// tagsBeyond tells up to which tag to reserve behind this one.
func tagsBeyond(tag int) int { return min(tag+api.TagBlock, api.MaxTag) }
