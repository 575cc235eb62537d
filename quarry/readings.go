package quarry

import (
	"errors"
	"strings"
	"sync"

	"quarry/api"
	"quarry/syntax"
)

// reading is what came of reading a text: a query, or an error.
type reading struct {
	parts *syntax.Query
	err   error
}

// readings keeps them, and may be asked by many at once.
type readings struct {
	guard   sync.Mutex
	of      map[string]reading // by their texts; guarded
	queries int                // how many of them are without an error; guarded
}

// parts gives the parts of a query. Who asks first for a text reads it while
// all others wait, so that none of them reads it again.
func (r *readings) parts(text string) (*syntax.Query, error) {
	r.guard.Lock()
	defer r.guard.Unlock()
	one, ok := r.of[text]
	if !ok {
		text = strings.Clone(text) // what was handed in is not kept, but the parts are pieces of it
		one.parts, one.err = syntax.Read(text)
		r.keep(text, one)
	}
	return one.parts, own(one.err)
}

// keep keeps nothing of a text that is too long: it was not read, and may be of
// any length.
func (r *readings) keep(text string, one reading) {
	if errors.Is(one.err, api.ErrLong) {
		return
	}
	r.of[text] = one
	if one.err == nil {
		r.queries++
	}
}

// known is how many different queries were read.
func (r *readings) known() int {
	r.guard.Lock()
	defer r.guard.Unlock()
	return r.queries
}

// own gives an error at a place anew, because who gets it may write into it.
func own(err error) error {
	var at *api.At
	if errors.As(err, &at) {
		return &api.At{Place: at.Place, Err: at.Err}
	}
	return err
}
