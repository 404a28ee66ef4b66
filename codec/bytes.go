package codec

import "conclave/api"

// greatest is the greatest number that has a form.
const greatest = 1<<62 - 1

// class is the first two bits of a number's form: 0, 1, 2, 3 stand for 1, 2, 4, 8 bytes, and as few are taken as it can be.
func class(n int) int {
	c := 0
	// Of the bits of 1<<c bytes two are the class itself.
	for n>>(8<<c-2) != 0 {
		c++
	}
	return c
}

// Writer takes bytes.
type Writer struct {
	data []byte
	err  api.Errno // the first; behind it nothing is written
}

// number writes a number.
func (w *Writer) number(n int) {
	if w.err != api.OK {
		return
	}
	if n < 0 || n > greatest {
		w.err = api.ErrRange
		return
	}
	c := class(n)
	first := len(w.data)
	for i := 1<<c - 1; i >= 0; i-- {
		w.data = append(w.data, byte(n>>(8*i)))
	}
	w.data[first] |= byte(c << 6)
}

// count writes how many there are of what may be at most so many.
func (w *Writer) count(n, most int) {
	if w.err == api.OK && n > most {
		w.err = api.ErrRange
	}
	w.number(n)
}

// text writes bytes as they are.
func (w *Writer) text(s string) {
	if w.err == api.OK {
		w.data = append(w.data, s...)
	}
}

// Reader gives bytes.
type Reader struct {
	data string
	at   int
	err  api.Errno // the first; behind it nothing is read
}

// take reads so many bytes; none behind an error.
func (r *Reader) take(n int) string {
	if r.err == api.OK && n > len(r.data)-r.at {
		r.err = api.ErrEnd
	}
	if r.err != api.OK {
		return ""
	}
	r.at += n
	return r.data[r.at-n : r.at]
}

// number reads a number; 0 behind an error.
func (r *Reader) number() int {
	head := r.take(1)
	if head == "" {
		return 0
	}
	c := int(head[0] >> 6)
	rest := r.take(1<<c - 1)
	n := int(head[0] & 63)
	for i := range len(rest) {
		n = n<<8 | int(rest[i])
	}
	if r.err == api.OK && class(n) != c {
		r.err = api.ErrForm
	}
	if r.err != api.OK {
		return 0
	}
	return n
}

// count reads how many there are of what may be at most so many; 0 behind an error.
func (r *Reader) count(most int) int {
	n := r.number()
	if n > most {
		r.err = api.ErrRange
		return 0
	}
	return n
}

// end asks that nothing is left.
func (r *Reader) end() {
	if r.err == api.OK && r.at < len(r.data) {
		r.err = api.ErrForm
	}
}
