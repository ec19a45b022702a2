package tell

import (
	"earshot/api"
	"earshot/glyph"
	"earshot/notice"
	"earshot/roster"
	"earshot/wire"
	"earshot/word"
)

// refusal is what the reading of a text gives up with: a type of its own, so that nothing else is taken for it.
type refusal struct {
	e   api.Errno
	col int
}

// refuseIf gives up the reading at the word w, if that offends.
func refuseIf(offends bool, e api.Errno, w api.Token) {
	if offends {
		panic(refusal{e: e, col: w.Col})
	}
}

// Read tells the note of a text; with an error the column of what offends.
func Read(r roster.Roster, text string) (x wire.Note, e api.Errno, col int) {
	if r.Size() == 0 {
		return nil, api.ErrArg, 0
	}
	words, fault, _, at := word.Scan(text)
	if fault != api.OK {
		return nil, fault, at
	}
	// Nothing else panics below: words are taken off by take alone, which looks how many are left.
	defer func() {
		if why, is := recover().(refusal); is {
			x, e, col = nil, why.e, why.col
		}
	}()
	return reader{nodes: r, take: taker(words)}.note(), api.OK, 0
}

// taker tells a function that takes words off, from the first one on, and gives up at one that does not fit.
func taker(words []api.Token) func(fits func(api.Token) bool) api.Token {
	next := 0
	return func(fits func(api.Token) bool) api.Token {
		// Behind the last word there is none, of no kind; of a text without words it offends in the column 1.
		w := api.Token{Col: 1}
		if next < len(words) {
			w = words[next]
			next++
		}
		refuseIf(!fits(w), api.ErrWord, w)
		return w
	}
}

// reader reads the parts of a note off a text's words.
type reader struct {
	nodes roster.Roster
	take  func(fits func(api.Token) bool) api.Token
}

// note reads a note, behind which nothing may stand.
func (r reader) note() wire.Note {
	kinds := map[string]func() wire.Note{
		queryWord: r.query,
		replyWord: r.reply,
		rumorWord: r.rumor,
	}
	// Its Text alone tells a first word: only a name has one of these.
	first := r.take(func(w api.Token) bool { return kinds[w.Text] != nil })
	x := kinds[first.Text]()
	r.take(isEnd)
	r.take(isNone)
	return x
}

// query reads what stands behind a query's first word.
func (r reader) query() wire.Note {
	from := r.sender()
	round := r.round()
	return wire.Query{From: from, Round: round, News: r.news()}
}

// reply reads what stands behind a reply's first word.
func (r reader) reply() wire.Note {
	from := r.sender()
	round := r.round()
	heard := r.heard()
	return wire.Reply{From: from, Round: round, Heard: heard, News: r.news()}
}

// rumor reads what stands behind a rumour's first word.
func (r reader) rumor() wire.Note {
	from := r.sender()
	return wire.Rumor{From: from, News: r.news()}
}

// sender reads the sign of a node.
func (r reader) sender() int { return r.idOf(r.take(isSign)) }

// idOf tells the node of a sign.
func (r reader) idOf(w api.Token) int {
	c, _ := glyph.Nth(w.Text, 0)
	id, e := r.nodes.Id(c.Rune)
	refuseIf(e != api.OK, e, w)
	return id
}

// round reads a round's number.
func (r reader) round() int {
	w := r.take(isNumber)
	v, _ := word.Number(w.Text)
	refuseIf(v < 1 || v > api.MaxRound, api.ErrRound, w)
	return v
}

// heard reads a set.
func (r reader) heard() api.Set {
	w := r.take(isSet)
	s, _, e := r.nodes.Parse(w.Text)
	refuseIf(e != api.OK, e, w)
	return s
}

// news reads notices of rising nodes, and the marks that they stand between.
func (r reader) news() []api.Notice {
	r.take(isNewsBegin)
	var l []api.Notice
	ahead := -1
	for {
		w := r.take(isSignOrNewsEnd)
		if isNewsEnd(w) {
			return l
		}
		refuseIf(r.idOf(w) <= ahead, api.ErrNews, w)
		x := r.notice(w)
		l = append(l, x)
		ahead = x.Of
	}
}

// notice reads what stands behind a notice's sign, which is a node's.
func (r reader) notice(sign api.Token) api.Notice {
	mark := r.take(isNoticeMark)
	tag := r.take(isNumber)
	// Of three such words nothing but a tag that is too great is refused.
	x, e := notice.Read(r.nodes, sign.Text+mark.Text+tag.Text)
	refuseIf(e != api.OK, api.ErrNews, tag)
	return x
}

func isMark(w api.Token, text string) bool { return w.Kind == api.TokenMark && w.Text == text }

func isNewsBegin(w api.Token) bool { return isMark(w, newsBegin) }

func isNewsEnd(w api.Token) bool { return isMark(w, newsEnd) }

func isNoticeMark(w api.Token) bool { return isMark(w, "?") || isMark(w, "!") }

func isSign(w api.Token) bool { return w.Kind == api.TokenName && glyph.Count(w.Text) == 1 }

func isSignOrNewsEnd(w api.Token) bool { return isSign(w) || isNewsEnd(w) }

func isSet(w api.Token) bool { return w.Kind == api.TokenName || isMark(w, "-") }

func isNumber(w api.Token) bool { return w.Kind == api.TokenNumber }

func isEnd(w api.Token) bool { return w.Kind == api.TokenEnd }

// isNone tells whether there is no word any more.
func isNone(w api.Token) bool { return w.Kind == 0 }
