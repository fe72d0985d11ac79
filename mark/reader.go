package mark

import (
	"slices"
	"strings"

	"soffit/api"
	"soffit/chars"
)

// reader reads a text from at on; wrong and e are the first position that is
// wrong and its error.
type reader struct {
	text  string
	at    int
	marks []api.Mark
	wrong int
	e     api.Errno
}

// part reads a mark or a comment; false: it is wrong.
func (r *reader) part() bool {
	switch {
	case r.follows("<!--"):
		return r.comment()
	case r.follows("<![CDATA["):
		return r.section()
	case r.follows("</"):
		return r.end()
	case r.follows("<"):
		return r.begin()
	}
	return r.plain()
}

// fail notes an error.
func (r *reader) fail(at int, e api.Errno) bool {
	r.wrong, r.e = at, e
	return false
}

// follows reports whether s stands next.
func (r *reader) follows(s string) bool { return strings.HasPrefix(r.text[r.at:], s) }

// take passes over s, if it stands next.
func (r *reader) take(s string) bool {
	if !r.follows(s) {
		return false
	}
	r.at += len(s)
	return true
}

// until returns what stands before the next end, and passes over both.
func (r *reader) until(end string) (string, bool) {
	s, _, ok := strings.Cut(r.text[r.at:], end)
	if ok {
		r.at += len(s) + len(end)
	}
	return s, ok
}

// white passes over white space.
func (r *reader) white() bool {
	rest := strings.TrimLeft(r.text[r.at:], "\t\n\r ")
	found := len(rest) < len(r.text)-r.at
	r.at = len(r.text) - len(rest)
	return found
}

// name reads as much as can belong to a name.
func (r *reader) name() (string, bool) {
	start := r.at
	for r.at < len(r.text) && nameByte(r.text[r.at]) {
		r.at++
	}
	s := r.text[start:r.at]
	return s, chars.Name(s)
}

// comment reads a comment. That it does not end comes before what is wrong in
// it, for its beginning is the earlier position.
func (r *reader) comment() bool {
	start := r.at
	r.take("<!--")
	inside := r.at
	s, ok := r.until("--")
	if !ok || !r.take(">") {
		return r.fail(start, api.ErrTag)
	}
	return r.valid(s, inside)
}

// section reads a section of unescaped text.
func (r *reader) section() bool {
	start := r.at
	r.take("<![CDATA[")
	inside := r.at
	s, ok := r.until("]]>")
	if !ok {
		return r.fail(start, api.ErrTag)
	}
	if !r.valid(s, inside) {
		return false
	}
	r.marks = append(r.marks, api.Mark{Kind: api.Chars, At: start, Text: s})
	return true
}

// valid reports whether s, which begins at start, has valid characters alone.
func (r *reader) valid(s string, start int) bool {
	if bad := chars.Bad(s); bad >= 0 {
		return r.fail(start+bad, api.ErrChar)
	}
	return true
}

// plain reads text up to the next <.
func (r *reader) plain() bool {
	start := r.at
	s, _, _ := strings.Cut(r.text[start:], "<")
	r.at += len(s)
	text, at, e := chars.Unescape(s)
	if e != api.OK {
		return r.fail(start+at, e)
	}
	r.marks = append(r.marks, api.Mark{Kind: api.Chars, At: start, Text: text})
	return true
}

// end reads the end of an element.
func (r *reader) end() bool {
	start := r.at
	r.take("</")
	name, ok := r.name()
	r.white()
	if !ok || !r.take(">") {
		return r.fail(start, api.ErrTag)
	}
	r.marks = append(r.marks, api.Mark{Kind: api.Close, At: start, Name: name})
	return true
}

// begin reads the beginning of an element, or an empty one.
func (r *reader) begin() bool {
	start := r.at
	r.take("<")
	name, ok := r.name()
	if !ok {
		return r.fail(start, api.ErrTag)
	}
	m := api.Mark{Kind: api.Open, At: start, Name: name}
	for {
		apart := r.white()
		if r.take(">") {
			break
		}
		if r.take("/>") {
			m.Kind = api.Empty
			break
		}
		if !apart {
			return r.fail(start, api.ErrTag)
		}
		if !r.attr(&m) {
			return false
		}
	}
	r.marks = append(r.marks, m)
	return true
}

// attr reads an attribute of a tag.
func (r *reader) attr(m *api.Mark) bool {
	name, ok := r.name()
	if !ok || !r.take(`="`) {
		return r.fail(m.At, api.ErrTag)
	}
	inside := r.at
	s, ok := r.until(`"`)
	if !ok {
		return r.fail(m.At, api.ErrTag)
	}
	text, at, e := chars.Unescape(s)
	if e != api.OK {
		return r.fail(inside+at, e)
	}
	if slices.ContainsFunc(m.Attrs, func(a api.Attr) bool { return a.Name == name }) {
		return r.fail(m.At, api.ErrTag)
	}
	m.Attrs = append(m.Attrs, api.Attr{Name: name, Value: text})
	return true
}

// nameByte reports whether a byte can belong to a name.
func nameByte(c byte) bool {
	return c == '_' || c >= 'a' && c <= 'z' || c >= 'A' && c <= 'Z' || c >= '0' && c <= '9'
}
