package script

import (
	"errors"
	"strconv"

	"shuttle/api"
	"shuttle/bitio"
	"shuttle/run"
	"shuttle/seq"
)

// How many bytes a script has at most: all steps have as many Bytes and At as they may.
const (
	longestHead = (3*sizeWidth + firstWidth + ageWidth + stepsWidth) / 8
	longestStep = (kindWidth + placeWidth + 2*countWidth + mostItems*(byteWidth+atWidth)) / 8
	longest     = longestHead + mostSteps*longestStep
)

// errSteps is why a script can't be read, where no layer below tells it.
var errSteps = errors.New("more steps than a script may have")

// told is an error's number that a layer below answered, as an error that can be wrapped.
type told api.Errno

func (t told) Error() string { return "error " + strconv.Itoa(int(t)) }

// unread is why bytes are no script: the part that can't be read, and what that came of.
type unread struct {
	part string
	came error
}

func (u *unread) Error() string { return u.part + ": " + u.came.Error() }

func (u *unread) Unwrap() error { return u.came }

// Read: back.
func Read(b []byte) (run.Config, []run.Step, api.Errno) {
	c, l, err := read(b)
	return c, l, number(err)
}

// number is what Read answers, by what an error came of.
func number(err error) api.Errno {
	var below told
	switch {
	case errors.As(err, &below):
		return api.Errno(below)
	case errors.Is(err, errSteps):
		return api.ErrField
	}
	return api.OK
}

func read(b []byte) (run.Config, []run.Step, error) {
	// One byte behind the longest script is enough to see that there are too many.
	r := &reader{bits: bitio.Of(b[:min(len(b), longest+1)])}
	c := r.takeConfig()
	l := r.takeSteps()
	r.takeEnd()
	if r.err != nil {
		return run.Config{}, nil, r.err
	}
	return c, l, nil
}

// reader takes numbers, till one can't be read: from then on all are 0.
type reader struct {
	bits *bitio.Reader
	err  error
}

// take: the number of the next so many bits, that is a part of that name.
func (r *reader) take(width int, part string) int {
	if r.err != nil {
		return 0
	}
	n, e := r.bits.Take(width)
	if e != api.OK {
		r.err = &unread{part, told(e)}
	}
	return n
}

func (r *reader) takeConfig() run.Config {
	w := api.Window{
		Size:  r.take(sizeWidth, "size"),
		Queue: r.take(sizeWidth, "queue"),
		Pool:  r.take(sizeWidth, "pool"),
	}
	first := seq.Num(r.take(firstWidth, "first"))
	return run.Config{Window: w, First: first, Age: r.take(ageWidth, "age")}
}

func (r *reader) takeSteps() []run.Step {
	n := r.take(stepsWidth, "steps")
	if n > mostSteps {
		r.err = &unread{"steps", errSteps}
	}
	var l []run.Step
	for i := 0; i < n && r.err == nil; i++ {
		l = append(l, r.takeStep())
	}
	return l
}

func (r *reader) takeStep() run.Step {
	x := run.Step{Kind: r.take(kindWidth, "kind"), K: r.take(placeWidth, "place")}
	for range r.take(countWidth, "bytes") {
		x.Bytes = append(x.Bytes, byte(r.take(byteWidth, "bytes")))
	}
	for range r.take(countWidth, "at") {
		x.At = append(x.At, r.take(atWidth, "at"))
	}
	return x
}

// takeEnd: nothing but noughts up to a whole byte stands behind the steps.
func (r *reader) takeEnd() {
	if r.err != nil {
		return
	}
	if e := r.bits.Pad(); e != api.OK {
		r.err = &unread{"end", told(e)}
	}
}
