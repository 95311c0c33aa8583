package value

import "folio/api"

// Size is how many bytes a value has.
func Size(v []api.Field) int {
	// Of a value that is not normal there are none.
	b, _ := Encode(v)
	return len(b)
}

// Encode lays a value as bytes.
func Encode(v []api.Field) ([]byte, api.Errno) {
	if !May(v) {
		return nil, api.ErrField
	}
	// The limits of a normal value are below 256, so that each count is one byte.
	b := []byte{byte(len(v))}
	for _, f := range v {
		b = withText(b, f.Name)
		b = append(b, byte(len(f.Texts)))
		for _, text := range f.Texts {
			b = withText(b, text)
		}
	}
	return b, api.OK
}

// withText is b with a text behind it, its length ahead of its bytes.
func withText(b []byte, text string) []byte {
	b = append(b, byte(len(text)))
	return append(b, text...)
}

// Decode reads a value.
func Decode(b []byte) ([]api.Field, api.Errno) {
	r := reader{rest: b}
	v := r.value()
	// A count says just as many as there are, so that bytes which hold a normal value and no more are the bytes of it.
	if r.short || len(r.rest) > 0 || !May(v) {
		return nil, api.ErrForm
	}
	return v, api.OK
}

// reader goes through bytes. Once they end too early it is short, and what it gave is worth nothing.
type reader struct {
	rest  []byte
	short bool
}

func (r *reader) value() []api.Field {
	var v []api.Field
	for range r.count() {
		v = append(v, r.field())
	}
	return v
}

func (r *reader) field() api.Field {
	f := api.Field{Name: r.text()}
	for range r.count() {
		f.Texts = append(f.Texts, r.text())
	}
	return f
}

func (r *reader) text() string { return string(r.take(r.count())) }

// count is the number in the next byte.
func (r *reader) count() int {
	if b := r.take(1); len(b) > 0 {
		return int(b[0])
	}
	return 0
}

// take is the next n bytes, or none if there aren't as many.
func (r *reader) take(n int) []byte {
	if n > len(r.rest) {
		r.short = true
		return nil
	}
	taken := r.rest[:n]
	r.rest = r.rest[n:]
	return taken
}
