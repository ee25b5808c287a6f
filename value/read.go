package value

import (
	"strconv"
	"strings"

	"farandole/api"
)

// reader reads notations from the beginning of a string, and keeps the rest of it.
type reader struct{ rest string }

func (r *reader) ended() bool { return r.rest == "" }

// cut removes a beginning from the rest, and reports whether it was there.
func (r *reader) cut(begin string) (found bool) {
	r.rest, found = strings.CutPrefix(r.rest, begin)
	return found
}

// list reads the notation of a list.
func (r *reader) list() ([]api.Value, api.Errno) {
	if !r.cut(open) {
		return nil, api.ErrSyntax
	}
	if r.cut(shut) {
		return nil, api.OK
	}
	var l []api.Value
	for {
		v, e := r.value()
		if e != api.OK {
			return nil, api.ErrSyntax
		}
		// What is too much has to be read up to the end, but there is no need to keep it.
		if len(l) <= api.MaxVars {
			l = append(l, v)
		}
		if !r.cut(comma) {
			break
		}
	}
	if !r.cut(shut) {
		return nil, api.ErrSyntax
	}
	if len(l) > api.MaxVars {
		return nil, api.ErrLimit
	}
	return l, api.OK
}

// value reads the notation of a value.
func (r *reader) value() (api.Value, api.Errno) {
	if r.cut(quotation) {
		return r.text()
	}
	return r.integer()
}

// text reads the notation of a text behind its first quotation mark.
func (r *reader) text() (api.Value, api.Errno) {
	var b strings.Builder
	for !r.cut(quotation) {
		escaped := r.cut(backslash)
		if r.ended() || !isPrintable(r.rest[:1]) || isEscaped(r.rest[:1]) != escaped {
			return api.Value{}, api.ErrSyntax
		}
		b.WriteByte(r.rest[0])
		r.rest = r.rest[1:]
	}
	if b.Len() > api.MaxText {
		return api.Value{}, api.ErrRange
	}
	return api.Value{Kind: api.SortText, S: b.String()}, api.OK
}

// integer reads the notation of an integer.
func (r *reader) integer() (api.Value, api.Errno) {
	negative := r.cut("-")
	digits := r.digits()
	needless := strings.HasPrefix(digits, "0") && (negative || digits != "0")
	if digits == "" || needless {
		return api.Value{}, api.ErrSyntax
	}
	n, err := strconv.Atoi(digits)
	// Of digits alone, only a number that is too large is an error.
	if err != nil || !isInRange(n) {
		return api.Value{}, api.ErrRange
	}
	if negative {
		n = -n
	}
	return api.Value{Kind: api.SortInt, N: n}, api.OK
}

// digits cuts off the digits at the beginning of the rest.
func (r *reader) digits() string {
	all := r.rest
	r.rest = strings.TrimLeft(all, "0123456789")
	return all[:len(all)-len(r.rest)]
}

func isInRange(n int) bool { return -api.MaxInt <= n && n <= api.MaxInt }

func isPrintable(s string) bool {
	for i := range len(s) {
		if s[i] < ' ' || s[i] > '~' {
			return false
		}
	}
	return true
}

// isEscaped reports whether a byte stands in the notation of a text behind a backslash only.
func isEscaped(c string) bool { return c == quotation || c == backslash }
