// Package copied is how things are copied whole, for the layers whose answers share no list with an argument (step, run). It is no layer of its own.
package copied

import (
	"slices"

	"reticent/api"
)

// State is the same state, of lists of its own.
func State(s api.State) api.State {
	return api.State{
		Pc:    s.Pc,
		Code:  slices.Clone(s.Code),
		Mem:   slices.Clone(s.Mem),
		Stack: slices.Clone(s.Stack),
		Out:   slices.Clone(s.Out),
	}
}
