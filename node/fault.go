package node

import (
	"strconv"

	"earshot/api"
)

// fault is a number that is an error; package api has it as a plain number.
type fault api.Errno

// Error tells the number.
func (f fault) Error() string { return "error " + strconv.Itoa(int(f)) }

// halt is an error behind which a node is down.
type halt struct{ why fault }

// Error tells what the node halts for.
func (h halt) Error() string { return "the node halts: " + h.why.Error() }

// Unwrap tells the fault, so that whoever asks for the number need not know of halts.
func (h halt) Unwrap() error { return h.why }

// failure tells what a Boot's answer means to its node: without power it halts, any other error it outlives.
func failure(e api.Errno) error {
	switch e {
	case api.OK:
		return nil
	case api.ErrOff:
		return halt{fault(e)}
	}
	return fault(e)
}
