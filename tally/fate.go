package tally

import (
	"earshot/api"
	"earshot/idset"
)

// fate is what becomes of a reply that does not count, and whether it befalls the one at hand.
type fate struct {
	kind    int
	err     api.Errno
	befalls func() bool
}

// fates lists what may keep a reply from being counted: the first one that befalls it holds, so those further down may lean on it that those above do not.
func (t *Tally) fates(from, round int, heard api.Set) []fate {
	return []fate{
		{kind: api.Alien, befalls: func() bool { return !isNode(from, t.nodes) }},
		{err: api.ErrHeard, befalls: func() bool { return !idset.Within(heard, t.nodes) }},
		{kind: api.Stale, befalls: func() bool { return round != t.round }},
		// Whoever is among the repliers already makes no other set of them.
		{kind: api.Again, befalls: func() bool { return t.with(from) == t.repliers }},
		{kind: api.Late, befalls: t.Ready},
	}
}
