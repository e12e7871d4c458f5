package value

import "eddy/api"

const (
	groupBits = 7
	moreBit   = 0x80
	// lastShift is the place of the tenth group of a number of 64 bits: one bit is left for it.
	lastShift = 63
)

// Encode tells a value's bytes.
func Encode(v api.Value) []byte {
	return appendEncoded(nil, orNone(v))
}

// Decode reads the value at the beginning of b: how many bytes it takes.
func Decode(b []byte) (v api.Value, n int, e api.Errno) {
	defer func() {
		if caught := recover(); caught != nil {
			v, n, e = api.Value{}, 0, asFault(caught).err
		}
	}()
	d := decoder{bytes: b}
	v = d.part(0)
	return v, d.at, api.OK
}

// appendEncoded lays the bytes of a valid value behind b.
func appendEncoded(b []byte, v api.Value) []byte {
	b = append(b, byte(v.Kind))
	switch v.Kind {
	case api.Int:
		b = appendGroups(b, fold(v.Int))
	case api.Text:
		b = append(b, byte(len(v.Text)))
		b = append(b, v.Text...)
	case api.List:
		b = append(b, byte(len(v.Items)))
		for _, item := range v.Items {
			b = appendEncoded(b, item)
		}
	}
	return b
}

// fold gives a small number for an int near 0, on both sides of it, so that it takes few groups.
func fold(i int64) uint64 {
	if i < 0 {
		return ^uint64(i)<<1 | 1
	}
	return uint64(i) << 1
}

// unfold gives the int of fold's number.
func unfold(u uint64) int64 {
	if u&1 == 1 {
		return int64(^(u >> 1))
	}
	return int64(u >> 1)
}

func appendGroups(b []byte, u uint64) []byte {
	for u >= moreBit {
		b = append(b, byte(u)|moreBit)
		u >>= groupBits
	}
	return append(b, byte(u))
}

// decoder reads bytes from left to right, and gives up at the first that is wrong.
type decoder struct {
	bytes []byte
	at    int
	parts int
}

func (d *decoder) next() byte {
	return d.take(1)[0]
}

// take gives the next n bytes; they are still the caller's.
func (d *decoder) take(n int) []byte {
	if len(d.bytes)-d.at < n {
		d.fail(api.ErrValSyntax)
	}
	d.at += n
	return d.bytes[d.at-n : d.at]
}

func (d *decoder) fail(e api.Errno) {
	giveUp(d.at, e)
}

// part reads a value that stands in depth lists.
func (d *decoder) part(depth int) api.Value {
	kind := int(d.next())
	d.parts++
	switch {
	case d.parts > api.MaxNodes:
		d.fail(api.ErrValItems)
	case kind > api.List:
		d.fail(api.ErrValSyntax)
	case kind == api.List && depth >= api.MaxDepth:
		d.fail(api.ErrValDepth)
	}
	v := api.Value{Kind: kind}
	switch kind {
	case api.Int:
		v.Int = unfold(d.groups())
	case api.Text:
		size := d.count(api.MaxText, api.ErrValText)
		v.Text = string(d.take(size))
	case api.List:
		for range d.count(api.MaxItems, api.ErrValItems) {
			v.Items = append(v.Items, d.part(depth+1))
		}
	}
	return v
}

// count reads a byte that tells how many follow; above most, e is wrong with it.
func (d *decoder) count(most int, e api.Errno) int {
	n := int(d.next())
	if n > most {
		d.fail(e)
	}
	return n
}

func (d *decoder) groups() uint64 {
	var u uint64
	for shift := 0; ; shift += groupBits {
		c := d.next()
		if shift > 0 && c == 0 || shift == lastShift && c > 1 {
			d.fail(api.ErrValSyntax)
		}
		u |= uint64(c&^moreBit) << shift
		if c < moreBit {
			return u
		}
	}
}
