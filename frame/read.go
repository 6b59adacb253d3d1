package frame

import (
	"errors"
	"strconv"

	"shuttle/ackmap"
	"shuttle/api"
	"shuttle/bitio"
	"shuttle/crc16"
	"shuttle/seq"
)

// longest is how many bytes a frame has at most.
const longest = dataHead + (8*(api.MaxLen+messageSum)+api.Memory+7)/8

// Why bytes can't be read, where no layer below tells it.
var (
	errKind   = errors.New("no such kind")
	errShort  = errors.New("it ends too soon")
	errCheck  = errors.New("its sum isn't right")
	errNought = errors.New("a bit that must be 0 isn't")
	errLong   = errors.New("more bytes than a message may have")
)

// told is an error's number that a layer below answered, as an error that can be wrapped.
type told api.Errno

func (t told) Error() string { return "error " + strconv.Itoa(int(t)) }

// unread is why bytes are no frame: the part that can't be read, and what that came of.
type unread struct {
	part string
	came error
}

func (u *unread) Error() string { return u.part + ": " + u.came.Error() }

func (u *unread) Unwrap() error { return u.came }

// Read: back.
func Read(b []byte) (Frame, api.Errno) {
	f, err := read(b)
	return f, number(err)
}

// number is what Read answers, by what an error came of.
func number(err error) api.Errno {
	var below told
	switch {
	case errors.As(err, &below):
		return api.Errno(below)
	case errors.Is(err, errKind):
		return api.ErrKind
	case errors.Is(err, errShort):
		return api.ErrShort
	case errors.Is(err, errCheck):
		return api.ErrCheck
	case errors.Is(err, errNought):
		return api.ErrField
	case errors.Is(err, errLong):
		return api.ErrLong
	}
	return api.OK
}

func read(b []byte) (Frame, error) {
	// One byte behind the longest frame is enough to see that there are too many.
	r := bitio.Of(b[:min(len(b), longest+1)])
	kind, err := readKind(r)
	if err != nil {
		return Frame{}, &unread{"kind", err}
	}
	if err := checkHead(b, Head(kind)); err != nil {
		return Frame{}, &unread{"head", err}
	}
	f, err := readRest(r, kind)
	if err != nil {
		return Frame{}, err
	}
	if e := r.Pad(); e != api.OK {
		return Frame{}, &unread{"end", told(e)}
	}
	return f, nil
}

func readKind(r *bitio.Reader) (int, error) {
	kind, e := r.Take(kindWidth)
	if e != api.OK {
		return 0, told(e)
	}
	if Head(kind) == 0 {
		return 0, errKind
	}
	return kind, nil
}

// checkHead: is there a head of so many bytes, and is its sum right?
func checkHead(b []byte, size int) error {
	if len(b) < size {
		return errShort
	}
	if !crc16.Right(b[:size]) {
		return errCheck
	}
	return nil
}

// readRest takes what stands behind the kind, of a head that was checked.
func readRest(r *bitio.Reader, kind int) (Frame, error) {
	if kind == Ack {
		return readAck(r)
	}
	return readData(r)
}

func readAck(r *bitio.Reader) (Frame, error) {
	if take(r, ackNoughts) != 0 {
		return Frame{}, &unread{"head", errNought}
	}
	m := ackmap.Map{Base: seq.Num(take(r, seqWidth)), More: uint32(take(r, moreWidth))}
	take(r, sumWidth)
	return Frame{Kind: Ack, Map: m}, nil
}

func readData(r *bitio.Reader) (Frame, error) {
	f := Frame{Kind: Data, Version: take(r, versionWidth)}
	if take(r, dataNoughts) != 0 {
		return Frame{}, &unread{"head", errNought}
	}
	f.Len = take(r, lenWidth)
	f.Seq = seq.Num(take(r, seqWidth))
	take(r, sumWidth)
	if !isLen(f.Len) {
		return Frame{}, &unread{"head", errLong}
	}
	body, err := takeBits(r, Bits(f.Len))
	if err != nil {
		return Frame{}, &unread{"body", err}
	}
	f.Body = body
	return f, nil
}

// take is the number of so many bits of a head: it is known to be whole, so that no error can come.
func take(r *bitio.Reader, width int) int {
	n, _ := r.Take(width)
	return n
}

func takeBits(r *bitio.Reader, n int) ([]byte, error) {
	l := make([]byte, n)
	for i := range l {
		x, e := r.Take(1)
		if e != api.OK {
			return nil, told(e)
		}
		l[i] = byte(x)
	}
	return l, nil
}
