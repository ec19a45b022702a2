package earshot

import "earshot/api"

// teller tells the words of an event.
type teller func(n names, e api.Event) []string

// tellers tells by the kind of an event how it is told.
func tellers() map[int]teller {
	return map[int]teller{
		api.EventBegin:  begins,
		api.EventAsk:    asks,
		api.EventClose:  closes,
		api.EventDoubt:  doubts,
		api.EventDefend: defends,
		api.EventDown:   isDown,
	}
}

func begins(n names, e api.Event) []string {
	return []string{n.sign(e.Node), "begins life", number(e.Life), "tag", number(e.Tag), "round", number(e.Round)}
}

func asks(n names, e api.Event) []string {
	return []string{n.sign(e.Node), "asks", number(e.Round)}
}

func closes(n names, e api.Event) []string {
	return []string{n.sign(e.Node), "closes", number(e.Round), "heard", n.set(e.Heard), "of", n.set(e.Union)}
}

func doubts(n names, e api.Event) []string {
	return []string{n.sign(e.Node), "doubts", n.sign(e.Of), "at", number(e.Tag)}
}

func defends(n names, e api.Event) []string {
	return []string{n.sign(e.Node), "defends", number(e.Tag), "durable", number(e.Durable)}
}

func isDown(n names, e api.Event) []string {
	return []string{n.sign(e.Node), "is down"}
}
