package slot

import "earshot/api"

// How a disk is shared out: a slot is so many sectors, side by side.
const (
	slots     = 2
	slotParts = 2
	slotSize  = slotParts * api.SectorSize
)

// How a slot's two sectors begin: "ear1" and "ear2". They differ, so that neither is ever taken for the other.
const (
	firstMark  = 0x65617231
	secondMark = 0x65617232
)

// image is a slot's bytes: an array, so that it goes from hand to hand as a value of its own and == holds one against another.
type image [slotSize]byte

// entry is what a slot says: a record, and the number of the save that wrote it.
type entry struct {
	api.Record
	seq int
}

// mayBe tells whether a node may keep such a record.
func mayBe(r api.Record) bool {
	return within(r.Life, 1, api.MaxLife) && within(r.Round, 0, api.MaxRound) && within(r.Tag, 0, api.MaxTag)
}

// fits tells whether a slot may say it.
func (x entry) fits() bool { return mayBe(x.Record) && within(x.seq, 1, api.MaxNumber) }

// image tells the slot's bytes. Both sectors have the seq: two of them that were not written together tell that by it.
func (x entry) image() image {
	var b image
	lay(b[0:4], firstMark)
	lay(b[4:12], x.seq)
	lay(b[12:16], x.Life)
	lay(b[16:21], x.Round)
	lay(b[32:36], secondMark)
	lay(b[36:44], x.seq)
	lay(b[44:47], x.Tag)
	return b
}

// says tells what a slot's bytes say, and whether they are such as image makes them of something that fits.
func (b image) says() (entry, bool) {
	var x entry
	x.seq = number(b[4:12])
	x.Life = number(b[12:16])
	x.Round = number(b[16:21])
	x.Tag = number(b[44:47])
	// To make the bytes once more looks at all of them: the marks, the other seq, the noughts.
	if !x.fits() || x.image() != b {
		return entry{}, false
	}
	return x, true
}

func within(v, low, high int) bool { return low <= v && v <= high }

// lay fills a field with a number, its highest byte first.
func lay(field []byte, v int) {
	for i := range field {
		field[i] = byte(v >> (8 * (len(field) - 1 - i)))
	}
}

// number tells the number that a field has; it is below 0, if the first of eight bytes is so great that no int has it.
func number(field []byte) int {
	v := 0
	for _, c := range field {
		v = v<<8 | int(c)
	}
	return v
}
