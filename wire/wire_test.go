package wire_test

import (
	"bytes"
	"encoding/binary"
	"hash/adler32"
	"math"
	"reflect"
	"runtime"
	"slices"
	"testing"

	"earshot/api"
	"earshot/wire"
)

func mistake(of, tag int) api.Notice { return api.Notice{Of: of, Tag: tag, Kind: api.Mistake} }

func suspicion(of, tag int) api.Notice { return api.Notice{Of: of, Tag: tag, Kind: api.Suspicion} }

func news(l ...api.Notice) []api.Notice { return l }

// setOf makes a set bit by bit, of any number that the four words have room for.
func setOf(ids ...int) api.Set {
	var s api.Set
	for _, id := range ids {
		s[id/32] |= 1 << (id % 32)
	}
	return s
}

// fullSet has the ids 0 to n - 1.
func fullSet(n int) api.Set {
	var s api.Set
	for id := range n {
		s[id/32] |= 1 << (id % 32)
	}
	return s
}

// sealed puts behind bytes the sum that the library reckons.
func sealed(b ...byte) []byte {
	return binary.BigEndian.AppendUint32(slices.Clone(b), adler32.Checksum(b))
}

// joined puts pieces one behind the other.
func joined(pieces ...[]byte) []byte { return slices.Concat(pieces...) }

// round5 is a round's five bytes.
func round5(v int) []byte { return binary.BigEndian.AppendUint64(nil, uint64(v))[3:] }

// notice5 is a notice's five bytes.
func notice5(of, kind, tag int) []byte {
	return []byte{byte(of), byte(kind), byte(tag >> 16), byte(tag >> 8), byte(tag)}
}

// heardBytes reckons a set's bytes id by id.
func heardBytes(s api.Set, n int) []byte {
	b := make([]byte, (n+7)/8)
	for id := range n {
		if s[id/32]>>(id%32)&1 == 1 {
			b[id/8] |= 1 << (id % 8)
		}
	}
	return b
}

// form writes a note's bytes as the table has them, piece by piece.
func form(x wire.Note, n int) []byte {
	b := []byte{0x65, 0x73, byte(x.Kind()), byte(n), byte(x.Sender())}
	switch y := x.(type) {
	case wire.Query:
		b = append(b, round5(y.Round)...)
	case wire.Reply:
		b = append(b, round5(y.Round)...)
		b = append(b, heardBytes(y.Heard, n)...)
	}
	l := x.Notices()
	b = append(b, byte(len(l)))
	for _, m := range l {
		b = append(b, notice5(m.Of, m.Kind, m.Tag)...)
	}
	return sealed(b...)
}

// alike holds notes against each other; nil and empty news are one.
func alike(a, b wire.Note) bool {
	if a == nil || b == nil {
		return a == nil && b == nil
	}
	return reflect.TypeOf(a) == reflect.TypeOf(b) && reflect.DeepEqual(bare(a), bare(b)) && slices.Equal(a.Notices(), b.Notices())
}

// bare is a note without its news.
func bare(x wire.Note) wire.Note {
	switch y := x.(type) {
	case wire.Query:
		y.News = nil
		return y
	case wire.Reply:
		y.News = nil
		return y
	case wire.Rumor:
		y.News = nil
		return y
	}
	return nil
}

// fullNews has a notice of each of n nodes, of both kinds, at low and high tags.
func fullNews(n int) []api.Notice {
	var l []api.Notice
	for id := range n {
		switch id % 4 {
		case 0:
			l = append(l, mistake(id, 0))
		case 1:
			l = append(l, suspicion(id, api.MaxTag))
		case 2:
			l = append(l, mistake(id, 0x10203+id))
		default:
			l = append(l, suspicion(id, 255+id))
		}
	}
	return l
}

// samples are good notes of n nodes.
func samples(n int) []wire.Note {
	last := n - 1
	l := []wire.Note{
		wire.Query{From: 0, Round: 1},
		wire.Query{From: last, Round: api.MaxRound, News: fullNews(n)},
		wire.Query{From: n / 2, Round: 0x0102030405, News: news(suspicion(last, 0))},
		wire.Reply{From: 0, Round: 1},
		wire.Reply{From: last, Round: api.MaxRound, Heard: fullSet(n), News: fullNews(n)},
		wire.Reply{From: last, Round: 256, Heard: setOf(last), News: news(mistake(0, 1))},
		wire.Rumor{From: 0},
		wire.Rumor{From: last, News: fullNews(n)},
		wire.Rumor{From: n / 2, News: news(mistake(last, api.MaxTag))},
	}
	for id := range n {
		l = append(l, wire.Reply{From: id, Round: 1 << (id % 40), Heard: setOf(id), News: news(suspicion(id, id))})
	}
	return l
}

func TestP701SumOfTheChaptersExamples(t *testing.T) {
	for _, c := range []struct {
		text string
		want int
	}{{"", 1}, {"a", 6422626}, {"abc", 38600999}} {
		if got := wire.Sum([]byte(c.text)); got != c.want {
			t.Errorf("Sum(%q): %d, not %d", c.text, got, c.want)
		}
	}
	if got := wire.Sum(nil); got != 1 {
		t.Errorf("Sum(nil): %d, not 1", got)
	}
}

func TestP701SumOfAnyNumberOfBytes(t *testing.T) {
	for _, size := range []int{1, 2, 255, 256, 257, 5551, 5552, 5553, 65520, 65521, 65522, 1 << 20, 3<<20 + 7} {
		for _, each := range []byte{0, 1, 127, 128, 255} {
			b := bytes.Repeat([]byte{each}, size)
			if got, want := wire.Sum(b), int(adler32.Checksum(b)); got != want {
				t.Errorf("Sum of %d bytes %d: %d, not %d", size, each, got, want)
			}
		}
		b := make([]byte, size)
		for i := range b {
			b[i] = byte(i*i + i>>8)
		}
		if got, want := wire.Sum(b), int(adler32.Checksum(b)); got != want {
			t.Errorf("Sum of %d bytes: %d, not %d", size, got, want)
		}
	}
}

func TestP701SumGoesRoundAt65521(t *testing.T) {
	b := append(bytes.Repeat([]byte{255}, 256), 239)
	for _, c := range []struct {
		more byte
		low  int
	}{{0, 65520}, {1, 0}, {2, 1}, {255, 254}} {
		got := wire.Sum(append(slices.Clone(b), c.more))
		if got%65536 != c.low {
			t.Errorf("the lower half behind %d: %d, not %d", c.more, got%65536, c.low)
		}
	}
	// Noughts leave p at 1, so that q counts them: it goes round by itself.
	for _, c := range []struct{ size, high int }{{65520, 65520}, {65521, 0}, {65522, 1}} {
		if got := wire.Sum(make([]byte, c.size)); got != c.high*65536+1 {
			t.Errorf("Sum of %d noughts: %d, not %d", c.size, got, c.high*65536+1)
		}
	}
}

func TestP702FormOfTheChaptersExamples(t *testing.T) {
	for _, c := range []struct {
		note wire.Note
		n    int
		want []byte
	}{
		{wire.Query{From: 1, Round: 258}, 3, []byte{0x65, 0x73, 1, 3, 1, 0, 0, 0, 1, 2, 0}},
		{wire.Reply{From: 0, Round: 1, Heard: setOf(0, 2), News: news(suspicion(2, 7))}, 3, []byte{0x65, 0x73, 2, 3, 0, 0, 0, 0, 0, 1, 5, 1, 2, 2, 0, 0, 7}},
		{wire.Rumor{From: 8}, 9, []byte{0x65, 0x73, 3, 9, 8, 0}},
		{wire.Rumor{From: 2, News: news(mistake(0, 0x10203), suspicion(1, api.MaxTag))}, 3, []byte{0x65, 0x73, 3, 3, 2, 2, 0, 1, 1, 2, 3, 1, 2, 0x10, 0, 0}},
		{wire.Reply{From: 9, Round: 0x0102030405, Heard: setOf(0, 7, 8)}, 10, []byte{0x65, 0x73, 2, 10, 9, 1, 2, 3, 4, 5, 0x81, 1, 0}},
		{wire.Reply{From: 99, Round: 1, Heard: setOf(31, 32, 99)}, 100, []byte{0x65, 0x73, 2, 100, 99, 0, 0, 0, 0, 1, 0, 0, 0, 0x80, 1, 0, 0, 0, 0, 0, 0, 0, 8, 0}},
		{wire.Query{From: 0, Round: api.MaxRound}, 1, []byte{0x65, 0x73, 1, 1, 0, 255, 255, 255, 255, 255, 0}},
	} {
		got, e := c.note.Bytes(c.n)
		if want := sealed(c.want...); e != api.OK || !bytes.Equal(got, want) {
			t.Errorf("%v of %d nodes: % x, error %d, not % x", c.note, c.n, got, e, want)
		}
	}
}

func TestP702FormOfAllSizes(t *testing.T) {
	for n := 1; n <= api.MaxNodes; n++ {
		for _, x := range samples(n) {
			got, e := x.Bytes(n)
			if want := form(x, n); e != api.OK || !bytes.Equal(got, want) {
				t.Errorf("%v of %d nodes: % x, error %d, not % x", x, n, got, e, want)
			}
		}
	}
}

func TestP702KindSenderNotices(t *testing.T) {
	l := news(mistake(0, 3), suspicion(2, 5))
	for _, c := range []struct {
		note wire.Note
		kind int
	}{
		{wire.Query{From: 7, Round: 1, News: l}, api.NoteQuery},
		{wire.Reply{From: 7, Round: 1, News: l}, api.NoteReply},
		{wire.Rumor{From: 7, News: l}, api.NoteRumor},
	} {
		if c.note.Kind() != c.kind || c.note.Sender() != 7 || !slices.Equal(c.note.Notices(), l) {
			t.Errorf("%v: kind %d, sender %d, notices %v", c.note, c.note.Kind(), c.note.Sender(), c.note.Notices())
		}
		c.note.Notices()[0].Tag = 99
		if l[0].Tag != 3 {
			t.Errorf("%v: what Notices tells is the note's own list", c.note)
		}
	}
	for _, x := range []wire.Note{wire.Query{}, wire.Reply{}, wire.Rumor{}} {
		if x.Sender() != 0 || len(x.Notices()) != 0 {
			t.Errorf("%T: sender %d, notices %v", x, x.Sender(), x.Notices())
		}
	}
	// Nothing is looked at: any ints, any list.
	odd := news(api.Notice{Of: math.MinInt, Tag: math.MaxInt, Kind: -1}, api.Notice{Of: -5})
	for _, x := range []wire.Note{wire.Query{From: math.MinInt, News: odd}, wire.Reply{From: math.MinInt, News: odd}, wire.Rumor{From: math.MinInt, News: odd}} {
		if x.Sender() != math.MinInt || !slices.Equal(x.Notices(), odd) {
			t.Errorf("%T: sender %d, notices %v", x, x.Sender(), x.Notices())
		}
	}
}

// stranger has all calls of a note that can be seen from outside.
type stranger struct{}

func (stranger) Kind() int                     { return api.NoteRumor }
func (stranger) Sender() int                   { return 0 }
func (stranger) Notices() []api.Notice         { return nil }
func (stranger) Bytes(int) ([]byte, api.Errno) { return nil, api.OK }

func TestP702NothingElseIsANote(t *testing.T) {
	if _, is := any(stranger{}).(wire.Note); is {
		t.Error("a type of another package is a note")
	}
	for _, x := range []any{wire.Query{}, wire.Reply{}, wire.Rumor{}} {
		if _, is := x.(wire.Note); !is {
			t.Errorf("%T is no note", x)
		}
	}
}

// refused holds that a note has no bytes, but that error.
func refused(t *testing.T, x wire.Note, n int, want api.Errno) {
	t.Helper()
	b, e := x.Bytes(n)
	if e != want || len(b) != 0 {
		t.Errorf("%v of %d nodes: % x, error %d, not %d", x, n, b, e, want)
	}
}

// ofEachKind makes the three notes of the same fields.
func ofEachKind(from, round int, heard api.Set, l []api.Notice) []wire.Note {
	return []wire.Note{
		wire.Query{From: from, Round: round, News: l},
		wire.Reply{From: from, Round: round, Heard: heard, News: l},
		wire.Rumor{From: from, News: l},
	}
}

func TestP703BytesRefusesWhatTheChapterNames(t *testing.T) {
	refused(t, wire.Query{From: 3, Round: 1}, 3, api.ErrFrom)
	refused(t, wire.Query{From: 0, Round: 0}, 3, api.ErrRound)
	refused(t, wire.Reply{From: 0, Round: 1, Heard: setOf(3)}, 3, api.ErrHeard)
	refused(t, wire.Rumor{From: 0, News: news(mistake(1, 2), mistake(0, 1))}, 3, api.ErrNews)
}

func TestP703BytesRefusesSizes(t *testing.T) {
	for _, n := range []int{math.MinInt, -1, 0, api.MaxNodes + 1, 255, 256, 257, 1<<32 + 3, math.MaxInt} {
		for _, x := range ofEachKind(0, 1, api.Set{}, nil) {
			refused(t, x, n, api.ErrArg)
		}
	}
}

func TestP703BytesRefusesSenders(t *testing.T) {
	for n := 1; n <= api.MaxNodes; n++ {
		for _, from := range []int{math.MinInt, -256, -1, n, n + 1, 256, 256 + n - 1, 1 << 32, math.MaxInt} {
			for _, x := range ofEachKind(from, 1, api.Set{}, nil) {
				refused(t, x, n, api.ErrFrom)
			}
		}
	}
}

func TestP703BytesRefusesRounds(t *testing.T) {
	for _, round := range []int{math.MinInt, -1 << 40, -1, 0, api.MaxRound + 1, 1<<40 + 1, 1 << 48, math.MaxInt} {
		refused(t, wire.Query{Round: round}, 3, api.ErrRound)
		refused(t, wire.Reply{Round: round}, 3, api.ErrRound)
	}
}

func TestP703BytesRefusesStrayIds(t *testing.T) {
	for n := 1; n <= api.MaxNodes; n++ {
		for id := n; id < 128; id++ {
			refused(t, wire.Reply{Round: 1, Heard: setOf(0, id)}, n, api.ErrHeard)
		}
		if _, e := (wire.Reply{Round: 1, Heard: fullSet(n)}).Bytes(n); e != api.OK {
			t.Errorf("all %d nodes: error %d", n, e)
		}
	}
}

func TestP703BytesRefusesNews(t *testing.T) {
	for _, l := range [][]api.Notice{
		{mistake(1, 1), mistake(0, 1)},
		{mistake(1, 1), mistake(1, 1)},
		{mistake(1, 1), suspicion(1, 1)},
		{mistake(0, 1), mistake(2, 1), mistake(1, 1)},
		{mistake(3, 1)},
		{mistake(-1, 1)},
		{mistake(256, 1)},
		{mistake(0, -1)},
		{mistake(0, api.MaxTag+1)},
		{mistake(0, 1<<24)},
		{mistake(0, math.MaxInt)},
		{mistake(0, math.MinInt)},
		{{Of: 0, Tag: 1, Kind: 0}},
		{{Of: 0, Tag: 1, Kind: 3}},
		{{Of: 0, Tag: 1, Kind: 257}},
		{{Of: 0, Tag: 1, Kind: -1}},
		{mistake(0, 1), mistake(1, 1), mistake(2, 1), mistake(2, 1)},
		make([]api.Notice, 256),
	} {
		for _, x := range ofEachKind(2, 5, setOf(1), l) {
			refused(t, x, 3, api.ErrNews)
		}
	}
}

func TestP703BytesTellsTheFirstFault(t *testing.T) {
	bad := news(mistake(9, 1))
	q := wire.Query{From: 3, Round: 0, News: bad}
	r := wire.Reply{From: 3, Round: 0, Heard: setOf(3), News: bad}
	u := wire.Rumor{From: 3, News: bad}
	for _, x := range []wire.Note{q, r, u} {
		refused(t, x, 0, api.ErrArg)
		refused(t, x, 3, api.ErrFrom)
	}
	q.From, r.From, u.From = 2, 2, 2
	refused(t, q, 3, api.ErrRound)
	refused(t, r, 3, api.ErrRound)
	refused(t, u, 3, api.ErrNews)
	q.Round, r.Round = 1, 1
	refused(t, q, 3, api.ErrNews)
	refused(t, r, 3, api.ErrHeard)
	r.Heard = setOf(2)
	refused(t, r, 3, api.ErrNews)
}

func TestP703BytesNeverTooMany(t *testing.T) {
	for n := 1; n <= api.MaxNodes; n++ {
		b, e := wire.Reply{From: n - 1, Round: api.MaxRound, Heard: fullSet(n), News: fullNews(n)}.Bytes(n)
		if want := 15 + (n+7)/8 + 5*n; e != api.OK || len(b) != want || len(b) > api.MaxData {
			t.Errorf("%d nodes: %d bytes, error %d, not %d", n, len(b), e, want)
		}
	}
}

func TestP703BytesAreNewMemory(t *testing.T) {
	room := append(make([]api.Notice, 0, 8), mistake(0, 1), suspicion(2, 4))
	was := slices.Clone(room[:cap(room)])
	for _, x := range ofEachKind(1, 9, setOf(2), room) {
		a, _ := x.Bytes(3)
		want := slices.Clone(a)
		b, _ := x.Bytes(3)
		clear(a[:cap(a)])
		if !bytes.Equal(b, want) {
			t.Errorf("%v: two answers share memory", x)
		}
		if !slices.Equal(room[:cap(room)], was) {
			t.Errorf("%v: its news were changed", x)
		}
	}
}

// decodeError tells how Decode refuses bytes; a note may not stand beside it.
func decodeError(t *testing.T, b []byte, n int) api.Errno {
	t.Helper()
	x, e := wire.Decode(b, n)
	if (x == nil) != (e != api.OK) {
		t.Errorf("Decode(% x, %d): %v beside error %d", b, n, x, e)
	}
	return e
}

func TestP704DecodeOfTheChaptersExamples(t *testing.T) {
	for _, c := range []struct {
		b    []byte
		want api.Errno
	}{
		{nil, api.ErrShort},
		{[]byte{}, api.ErrShort},
		{[]byte{0x65}, api.ErrShort},
		{[]byte{0x66}, api.ErrShort},
		{[]byte{0x66, 0x73}, api.ErrMagic},
		{[]byte{0x65, 0x74}, api.ErrMagic},
		{[]byte{0x73, 0x65}, api.ErrMagic},
		{[]byte{0x65, 0x73}, api.ErrShort},
		{[]byte{0x65, 0x73, 4}, api.ErrKind},
		{[]byte{0x65, 0x73, 0}, api.ErrKind},
		{[]byte{0x65, 0x73, 255}, api.ErrKind},
		{[]byte{0x65, 0x73, 1}, api.ErrShort},
		{[]byte{0x65, 0x73, 1, 4}, api.ErrSize},
		{[]byte{0x65, 0x73, 1, 2}, api.ErrSize},
		{[]byte{0x65, 0x73, 1, 3}, api.ErrShort},
		{[]byte{0x65, 0x73, 1, 3, 3}, api.ErrFrom},
		{[]byte{0x65, 0x73, 1, 3, 255}, api.ErrFrom},
		{[]byte{0x65, 0x73, 1, 3, 2}, api.ErrShort},
	} {
		if e := decodeError(t, c.b, 3); e != c.want {
			t.Errorf("Decode(% x, 3): error %d, not %d", c.b, e, c.want)
		}
	}
}

func TestP704DecodeRefusesSizes(t *testing.T) {
	good, _ := wire.Rumor{}.Bytes(3)
	for _, n := range []int{math.MinInt, -1, 0, api.MaxNodes + 1, 256 + 3, math.MaxInt} {
		for _, b := range [][]byte{nil, good, make([]byte, api.MaxData+1)} {
			if e := decodeError(t, b, n); e != api.ErrArg {
				t.Errorf("%d bytes, %d nodes: error %d, not ErrArg", len(b), n, e)
			}
		}
	}
	for n := 1; n <= api.MaxNodes; n++ {
		want := api.ErrSize
		if n == 3 {
			want = api.OK
		}
		if e := decodeError(t, good, n); e != want {
			t.Errorf("a note of 3 nodes read as one of %d: error %d, not %d", n, e, want)
		}
	}
}

func TestP704DecodeRefusesLongOnesFirst(t *testing.T) {
	good, _ := wire.Rumor{}.Bytes(3)
	for _, c := range []struct {
		head []byte
		size int
		want api.Errno
	}{
		{nil, api.MaxData, api.ErrMagic},
		{nil, api.MaxData + 1, api.ErrLong},
		{[]byte{0x65, 0x73, 9}, api.MaxData, api.ErrKind},
		{[]byte{0x65, 0x73, 9}, api.MaxData + 1, api.ErrLong},
		{good, api.MaxData, api.ErrLong},
		{good, api.MaxData + 1, api.ErrLong},
		{nil, 1 << 20, api.ErrLong},
	} {
		b := append(slices.Clone(c.head), make([]byte, c.size-len(c.head))...)
		if e := decodeError(t, b, 3); e != c.want {
			t.Errorf("% x and noughts up to %d: error %d, not %d", c.head, c.size, e, c.want)
		}
	}
}

func TestP704DecodeRefusesRounds(t *testing.T) {
	for _, kind := range []byte{api.NoteQuery, api.NoteReply} {
		head := []byte{0x65, 0x73, kind, 3, 0}
		for left := range 5 {
			if e := decodeError(t, joined(head, make([]byte, left)), 3); e != api.ErrShort {
				t.Errorf("kind %d, %d bytes of a round: error %d, not ErrShort", kind, left, e)
			}
		}
		if e := decodeError(t, joined(head, round5(0)), 3); e != api.ErrRound {
			t.Errorf("kind %d, round 0: error %d, not ErrRound", kind, e)
		}
		for _, round := range []int{1, 256, 1 << 32, api.MaxRound} {
			if e := decodeError(t, joined(head, round5(round)), 3); e != api.ErrShort {
				t.Errorf("kind %d, round %d and nothing behind it: error %d, not ErrShort", kind, round, e)
			}
		}
	}
	// A rumour has none: what stands there is how many notices it has.
	if e := decodeError(t, []byte{0x65, 0x73, 3, 3, 0, 0, 0, 0, 0, 0}, 3); e != api.ErrSum {
		t.Errorf("a rumour with noughts: error %d, not ErrSum", e)
	}
}

func TestP704DecodeRefusesStrayIds(t *testing.T) {
	for n := 1; n <= api.MaxNodes; n++ {
		head := joined([]byte{0x65, 0x73, 2, byte(n), 0}, round5(1))
		size := (n + 7) / 8
		for id := range 8 * size {
			b := make([]byte, size)
			b[id/8] = 1 << (id % 8)
			want := api.OK
			if id >= n {
				want = api.ErrHeard
			}
			if e := decodeError(t, sealed(joined(head, b, []byte{0})...), n); e != want {
				t.Errorf("%d nodes, the bit of %d: error %d, not %d", n, id, e, want)
			}
			if id >= n {
				if e := decodeError(t, joined(head, b), n); e != api.ErrHeard {
					t.Errorf("%d nodes, the bit of %d and nothing behind it: error %d, not ErrHeard", n, id, e)
				}
				if e := decodeError(t, joined(head, b[:size-1]), n); e != api.ErrShort {
					t.Errorf("%d nodes, a set without its last byte: error %d, not ErrShort", n, e)
				}
			}
		}
	}
}

func TestP704DecodeRefusesNews(t *testing.T) {
	head := []byte{0x65, 0x73, 3, 3, 0}
	for _, c := range []struct {
		what string
		b    []byte
		want api.Errno
	}{
		{"no count", nil, api.ErrShort},
		{"none", []byte{0}, api.ErrShort},
		{"too many", []byte{4}, api.ErrNews},
		{"far too many", []byte{255}, api.ErrNews},
		{"too many, good ones", joined([]byte{4}, notice5(0, 1, 0), notice5(1, 1, 0), notice5(2, 1, 0), notice5(3, 1, 0)), api.ErrNews},
		{"none of three", []byte{3}, api.ErrShort},
		{"four bytes, which would offend", joined([]byte{1}, []byte{9, 9, 9, 9}), api.ErrShort},
		{"a stray node", joined([]byte{1}, notice5(3, 1, 0)), api.ErrNews},
		{"a far node", joined([]byte{1}, notice5(255, 1, 0)), api.ErrNews},
		{"kind 0", joined([]byte{1}, notice5(0, 0, 0)), api.ErrNews},
		{"kind 3", joined([]byte{1}, notice5(0, 3, 0)), api.ErrNews},
		{"a tag too great", joined([]byte{1}, notice5(0, 1, api.MaxTag+1)), api.ErrNews},
		{"the greatest three bytes", joined([]byte{1}, notice5(0, 2, 1<<24-1)), api.ErrNews},
		{"the greatest tag, no sum", joined([]byte{1}, notice5(0, 2, api.MaxTag)), api.ErrShort},
		{"one twice", joined([]byte{2}, notice5(1, 1, 0), notice5(1, 2, 0)), api.ErrNews},
		{"falling", joined([]byte{2}, notice5(1, 1, 0), notice5(0, 1, 0)), api.ErrNews},
		{"falling behind rising", joined([]byte{3}, notice5(0, 1, 0), notice5(2, 1, 0), notice5(1, 1, 0)), api.ErrNews},
		{"a good one, then a short one", joined([]byte{2}, notice5(0, 1, 0), []byte{0, 0, 0, 0}), api.ErrShort},
		{"a bad one, then a short one", joined([]byte{2}, notice5(0, 7, 0), []byte{1}), api.ErrNews},
		{"a bad one behind a good one", joined([]byte{3}, notice5(0, 1, 0), notice5(1, 7, 0)), api.ErrNews},
	} {
		if e := decodeError(t, joined(head, c.b), 3); e != c.want {
			t.Errorf("%s: error %d, not %d", c.what, e, c.want)
		}
	}
}

func TestP704DecodeTellsTheFirstFault(t *testing.T) {
	// From field to field: each row mends the first fault of the row above it.
	rest := joined([]byte{0xF8, 9}, []byte{9, 9, 255, 255, 255, 1, 2, 3, 4, 5})
	for _, c := range []struct {
		head []byte
		want api.Errno
	}{
		{[]byte{0, 0, 0, 0, 255, 0, 0, 0, 0, 0}, api.ErrMagic},
		{[]byte{0x65, 0x73, 0, 0, 255, 0, 0, 0, 0, 0}, api.ErrKind},
		{[]byte{0x65, 0x73, 2, 0, 255, 0, 0, 0, 0, 0}, api.ErrSize},
		{[]byte{0x65, 0x73, 2, 3, 255, 0, 0, 0, 0, 0}, api.ErrFrom},
		{[]byte{0x65, 0x73, 2, 3, 2, 0, 0, 0, 0, 0}, api.ErrRound},
		{[]byte{0x65, 0x73, 2, 3, 2, 0, 0, 0, 0, 7}, api.ErrHeard},
	} {
		if e := decodeError(t, joined(c.head, rest), 3); e != c.want {
			t.Errorf("% x: error %d, not %d", c.head, e, c.want)
		}
	}
	head := []byte{0x65, 0x73, 2, 3, 2, 0, 0, 0, 0, 7, 7}
	good := joined(head, []byte{1}, notice5(1, 2, 3))
	for _, c := range []struct {
		what string
		b    []byte
		want api.Errno
	}{
		{"too many notices", joined(head, []byte{9}, notice5(9, 9, 9)), api.ErrNews},
		{"a bad notice", joined(head, []byte{1}, notice5(9, 9, 9), []byte{1, 2, 3, 4, 5}), api.ErrNews},
		{"a bad sum, and more", joined(good, []byte{1, 2, 3, 4, 5}), api.ErrSum},
		{"a sum of three bytes", sealed(good...)[:len(good)+3], api.ErrShort},
		{"a good sum, and more", joined(sealed(good...), []byte{0}), api.ErrLong},
		{"a good sum", sealed(good...), api.OK},
	} {
		if e := decodeError(t, c.b, 3); e != c.want {
			t.Errorf("%s: error %d, not %d", c.what, e, c.want)
		}
	}
}

func TestP704DecodeTellsTheNote(t *testing.T) {
	for n := 1; n <= api.MaxNodes; n++ {
		for _, x := range samples(n) {
			got, e := wire.Decode(form(x, n), n)
			if e != api.OK || !alike(got, x) {
				t.Errorf("%d nodes: %#v, error %d, not %#v", n, got, e, x)
			}
		}
	}
}

func TestP704DecodeNeitherChangesNorKeepsBytes(t *testing.T) {
	x := wire.Reply{From: 2, Round: 7, Heard: setOf(0, 2), News: news(mistake(0, 1), suspicion(1, 2))}
	room := append(make([]byte, 0, 64), form(x, 3)...)
	was := slices.Clone(room[:cap(room)])
	first, _ := wire.Decode(room, 3)
	second, _ := wire.Decode(room, 3)
	wire.Decode(room[:9], 3)
	wire.Sum(room)
	if !bytes.Equal(room[:cap(room)], was) {
		t.Errorf("the bytes were changed: % x", room[:cap(room)])
	}
	clear(room)
	first.(wire.Reply).News[0].Tag = 77
	if !alike(second, x) {
		t.Errorf("%v, not %v: it shares memory with the bytes, or with another answer", second, x)
	}
}

// packet opens the packet of a good note.
func packet(t *testing.T, x wire.Note, n int) wire.Packet {
	t.Helper()
	p, e := wire.Open(form(x, n), n)
	if e != api.OK {
		t.Fatalf("Open of %v: error %d", x, e)
	}
	return p
}

func TestP705OpenRefusesAsDecodeDoes(t *testing.T) {
	good := form(wire.Query{Round: 1}, 3)
	for _, c := range []struct {
		b    []byte
		n    int
		want api.Errno
	}{
		{good, 0, api.ErrArg}, {make([]byte, api.MaxData+1), 3, api.ErrLong}, {nil, 3, api.ErrShort}, {make([]byte, 9), 3, api.ErrMagic},
		{[]byte{0x65, 0x73, 7}, 3, api.ErrKind}, {good, 4, api.ErrSize}, {good[:9], 3, api.ErrShort}, {joined(good, good), 3, api.ErrLong},
		{joined(good[:len(good)-1], []byte{good[len(good)-1] ^ 1}), 3, api.ErrSum},
	} {
		p, e := wire.Open(c.b, c.n)
		if e != c.want || p.Note() != nil {
			t.Errorf("Open(% x, %d): %v, error %d, not %d", c.b, c.n, p.Note(), e, c.want)
		}
	}
}

func TestP705PacketsTellTheirNote(t *testing.T) {
	for _, n := range []int{1, 3, 8, 9, 100} {
		for _, x := range samples(n) {
			p := packet(t, x, n)
			if !alike(p.Note(), x) {
				t.Errorf("Note: %v, not %v", p.Note(), x)
			}
			q, isQuery := p.AsQuery()
			r, isReply := p.AsReply()
			u, isRumor := p.AsRumor()
			if isQuery != (x.Kind() == api.NoteQuery) || isReply != (x.Kind() == api.NoteReply) || isRumor != (x.Kind() == api.NoteRumor) {
				t.Errorf("%v: a query %v, a reply %v, a rumour %v", x, isQuery, isReply, isRumor)
			}
			wantQuery, _ := x.(wire.Query)
			wantReply, _ := x.(wire.Reply)
			wantRumor, _ := x.(wire.Rumor)
			if !alike(q, wantQuery) || !alike(r, wantReply) || !alike(u, wantRumor) {
				t.Errorf("%v: told as %v, %v, %v", x, q, r, u)
			}
		}
	}
}

func TestP705ZeroPacket(t *testing.T) {
	var p wire.Packet
	q, isQuery := p.AsQuery()
	r, isReply := p.AsReply()
	u, isRumor := p.AsRumor()
	if p.Note() != nil || isQuery || isReply || isRumor {
		t.Errorf("a zero packet: %v, %v, %v, %v", p.Note(), isQuery, isReply, isRumor)
	}
	if !alike(q, wire.Query{}) || !alike(r, wire.Reply{}) || !alike(u, wire.Rumor{}) {
		t.Errorf("a zero packet: %v, %v, %v", q, r, u)
	}
}

func TestP705PacketsTellNewMemory(t *testing.T) {
	l := news(mistake(0, 1), suspicion(1, 2))
	spoil := func(l []api.Notice) {
		for i := range l[:cap(l)] {
			l[:cap(l)][i] = mistake(9, 99)
		}
	}
	for _, x := range ofEachKind(2, 7, setOf(1), l) {
		b := form(x, 3)
		p, _ := wire.Open(b, 3)
		clear(b)
		switch x.(type) {
		case wire.Query:
			q, _ := p.AsQuery()
			spoil(q.News)
			spoil(p.Query().News)
			spoil(p.Note().(wire.Query).News)
		case wire.Reply:
			r, _ := p.AsReply()
			spoil(r.News)
			spoil(p.Reply().News)
			spoil(p.Note().(wire.Reply).News)
		case wire.Rumor:
			u, _ := p.AsRumor()
			spoil(u.News)
			spoil(p.Rumor().News)
			spoil(p.Note().(wire.Rumor).News)
		}
		spoil(p.Note().Notices())
		if !alike(p.Note(), x) {
			t.Errorf("%v became %v", x, p.Note())
		}
	}
}

// thrown tells what a call panics with; nil, if it does not.
func thrown(call func()) (what any) {
	defer func() { what = recover() }()
	call()
	return nil
}

func TestP706PacketsOfAnotherKindPanic(t *testing.T) {
	packets := []wire.Packet{{}}
	for _, x := range ofEachKind(2, 7, setOf(1), news(suspicion(0, 4))) {
		packets = append(packets, packet(t, x, 3))
	}
	for _, p := range packets {
		kind := 0
		if x := p.Note(); x != nil {
			kind = x.Kind()
		}
		for _, c := range []struct {
			kind int
			call func()
		}{
			{api.NoteQuery, func() { p.Query() }},
			{api.NoteReply, func() { p.Reply() }},
			{api.NoteRumor, func() { p.Rumor() }},
		} {
			what := thrown(c.call)
			if c.kind == kind {
				if what != nil {
					t.Errorf("kind %d told as its own panics with %v", kind, what)
				}
				continue
			}
			if _, is := what.(error); !is {
				t.Errorf("kind %d told as %d: %v, which is no error", kind, c.kind, what)
			}
			if _, is := what.(*runtime.TypeAssertionError); !is {
				t.Errorf("kind %d told as %d: %T, not that of a type assertion", kind, c.kind, what)
			}
		}
	}
}

func TestP706PacketsTellTheirKind(t *testing.T) {
	for n := 1; n <= api.MaxNodes; n++ {
		for _, x := range samples(n) {
			p := packet(t, x, n)
			var got wire.Note
			switch x.(type) {
			case wire.Query:
				got = p.Query()
			case wire.Reply:
				got = p.Reply()
			case wire.Rumor:
				got = p.Rumor()
			}
			if !alike(got, x) {
				t.Errorf("%v, not %v", got, x)
			}
		}
	}
}

func TestP707ThereAndBack(t *testing.T) {
	for n := 1; n <= api.MaxNodes; n++ {
		for _, x := range samples(n) {
			b, _ := x.Bytes(n)
			y, e := wire.Decode(b, n)
			if e != api.OK || !alike(x, y) {
				t.Fatalf("%d nodes: %v came back as %v, error %d", n, x, y, e)
			}
			again, e := y.Bytes(n)
			if e != api.OK || !bytes.Equal(again, b) {
				t.Errorf("%d nodes: % x became % x, error %d", n, b, again, e)
			}
		}
	}
}

// Sets of 5 and of 10 bytes (33 to 40, 73 to 80 nodes) are as long as one or two notices: there a turned kind leaves the length as it was.
func TestP707ATurnedByteIsRefused(t *testing.T) {
	for _, n := range []int{1, 3, 8, 9, 35, 40, 75, 100} {
		for _, x := range samples(n)[:9] {
			b := form(x, n)
			for i, was := range b {
				for v := range 256 {
					b[i] = byte(v)
					if e := decodeError(t, b, n); (e == api.OK) != (b[i] == was) {
						t.Errorf("%d nodes, %v: byte %d as %d, not %d: error %d", n, x, i, v, was, e)
					}
				}
				b[i] = was
			}
		}
	}
}

func TestP707AnotherLengthIsRefused(t *testing.T) {
	for n := 1; n <= api.MaxNodes; n++ {
		for _, x := range samples(n)[:9] {
			b := form(x, n)
			for size := range len(b) {
				if e := decodeError(t, b[:size], n); e != api.ErrShort {
					t.Errorf("%d nodes, %v: the first %d bytes: error %d, not ErrShort", n, x, size, e)
				}
			}
			for _, more := range [][]byte{{0}, {255}, b, sealed(b...)[len(b):], make([]byte, api.MaxData-len(b)), make([]byte, api.MaxData)} {
				if e := decodeError(t, joined(b, more), n); e != api.ErrLong {
					t.Errorf("%d nodes, %v: %d bytes behind it: error %d, not ErrLong", n, x, len(more), e)
				}
			}
		}
	}
}

// Whatever Decode takes has one form: bytes that are not it are refused.
func FuzzP707WhatIsTakenHasOneForm(f *testing.F) {
	for _, n := range []int{1, 3, 35, 100} {
		for _, x := range samples(n)[:9] {
			b := form(x, n)
			f.Add(b[:len(b)-4], n)
		}
	}
	f.Fuzz(func(t *testing.T, head []byte, n int) {
		for _, b := range [][]byte{head, sealed(head...)} {
			x, e := wire.Decode(b, n)
			if e != api.OK {
				continue
			}
			if again, e := x.Bytes(n); e != api.OK || !bytes.Equal(again, b) {
				t.Errorf("%v of % x: % x, error %d", x, b, again, e)
			}
		}
	})
}
