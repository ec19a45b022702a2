package node

import (
	"earshot/api"
	"earshot/spread"
	"earshot/wire"
)

// deed is what a node does with a note, behind its news; it tells what is sent.
type deed func(x *Node, came wire.Note) []api.Out

// deeds tells by the kind of a note what is done with it.
func deeds() []deed {
	return []deed{
		api.NoteQuery: (*Node).reply,
		api.NoteReply: (*Node).count,
		api.NoteRumor: (*Node).pass,
	}
}

// reply tells the sender of a query whom the node has heard.
func (x *Node) reply(came wire.Note) []api.Out {
	query, is := came.(wire.Query)
	if !is {
		return nil
	}
	answer := wire.Reply{From: x.self, Round: query.Round, Heard: x.heard, News: spread.Ride(x.book)}
	return []api.Out{x.send(query.From, answer)}
}

// count has the tally take a reply. What becomes of it there says nothing more to the node.
func (x *Node) count(came wire.Note) []api.Out {
	if reply, is := came.(wire.Reply); is {
		x.tally.Take(reply.From, reply.Round, reply.Heard)
	}
	return nil
}

// pass does nothing more: of a rumour the news are all.
func (x *Node) pass(wire.Note) []api.Out { return nil }
