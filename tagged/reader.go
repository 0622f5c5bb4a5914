package tagged

import "manifold/api"

// reader reads bytes. After an error, its methods do nothing but to return zero values.
type reader struct {
	bytes string // up to where those end that are read by themselves
	at    int    // where the next one is
	err   api.Errno
	errAt int
	kinds decoders
	count int // of the values that were read
}

// fail keeps an error and its offset, if it is the first one.
func (r *reader) fail(at int, e api.Errno) {
	if r.err == api.OK {
		r.err, r.errAt = e, at
	}
}

// number reads a number.
func (r *reader) number() int {
	if r.err != api.OK {
		return 0
	}
	n := 0
	for i := range MaxVarint {
		if r.at+i == len(r.bytes) {
			r.fail(len(r.bytes), api.ErrTruncated)
			return 0
		}
		b := r.bytes[r.at+i]
		n |= int(b%further) << (groupBits * i)
		if b >= further {
			continue
		}
		if b == 0 && i > 0 || n > maxNumber {
			break
		}
		r.at += i + 1
		return n
	}
	r.fail(r.at, api.ErrFormat)
	return 0
}

// counted reads a number of bytes, and these.
func (r *reader) counted() string {
	var s string
	r.part(func() { s = r.rest() })
	return s
}

// part reads a number of bytes, and calls a function that reads these by themselves.
func (r *reader) part(read func()) {
	n := r.number()
	if n > len(r.bytes)-r.at {
		r.fail(len(r.bytes), api.ErrTruncated)
	}
	if r.err != api.OK {
		return
	}
	whole := r.bytes
	r.bytes = whole[:r.at+n]
	read()
	r.end()
	r.bytes = whole
}

// fields reads the fields of a record, and calls a function for each of them with its number that reads its bytes.
func (r *reader) fields(read func(number int)) {
	before := 0
	for n := r.number(); n > 0 && r.err == api.OK; n-- {
		begin := r.at
		number := r.number()
		if e := checkNumber(number, before); e != api.OK {
			r.fail(begin, e)
		}
		before = number
		r.part(func() { read(number) })
	}
}

// rest reads all bytes that are left.
func (r *reader) rest() string {
	if r.err != api.OK {
		return ""
	}
	s := r.bytes[r.at:]
	r.at = len(r.bytes)
	return s
}

// end finds what is left over.
func (r *reader) end() {
	if r.at < len(r.bytes) {
		r.fail(r.at, api.ErrLong)
	}
}
