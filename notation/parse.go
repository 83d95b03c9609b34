package notation

import (
	"salchow/api"
	"salchow/ident"
)

// Parse returns the items of a line, or the first fault.
func Parse(line string) ([]api.Item, api.Fault) {
	r := reader{line: line}
	if e := r.read(); e != api.OK {
		return nil, api.Fault{Code: e, At: r.at}
	}
	return r.items, api.Fault{}
}

// reader has the items of a line that are read, and the place behind them. With an error it stands at the fault.
type reader struct {
	line  string
	at    int
	items []api.Item
}

// read reads all chains.
func (r *reader) read() api.Errno {
	for r.passBlanks(); r.at < len(r.line); r.passBlanks() {
		if e := r.chain(); e != api.OK {
			return e
		}
		if r.at < len(r.line) && !r.standsAt(signBetween) {
			return api.ErrSyntax
		}
	}
	return api.OK
}

// passBlanks goes behind the blanks at the place.
func (r *reader) passBlanks() {
	r.at += len(r.run(func(c byte) bool { return c == signBetween }))
}

// chain reads items as long as there is a sign that joins them.
func (r *reader) chain() api.Errno {
	for {
		x, e := r.item()
		if e != api.OK {
			return e
		}
		x.Joined = r.standsAt(signJoined)
		r.items = append(r.items, x)
		if !x.Joined {
			return api.OK
		}
		r.at++
	}
}

// item reads a code and its marks.
func (r *reader) item() (api.Item, api.Errno) {
	code := r.run(isAlphanumeric)
	switch {
	case code == "":
		return api.Item{}, api.ErrSyntax
	case len(r.items) == api.MaxItems:
		return api.Item{}, api.ErrLimit
	case !ident.Code(code):
		return api.Item{}, api.ErrName
	}
	r.at += len(code)
	x := api.Item{Code: code}
	e := r.marks(&x)
	return x, e
}

// marks reads the marks of an item.
func (r *reader) marks(x *api.Item) api.Errno {
marks:
	for ; r.at < len(r.line); r.at++ {
		switch sign := r.line[r.at]; {
		case sign == signDown && x.Down == MaxDown:
			return api.ErrLimit
		case sign == signReview && x.Review, sign == signVoid && x.Void:
			return api.ErrTwice
		case sign == signDown:
			x.Down++
		case sign == signReview:
			x.Review = true
		case sign == signVoid:
			x.Void = true
		default:
			break marks
		}
	}
	return api.OK
}

// run returns the longest run of permitted bytes at the place.
func (r *reader) run(permitted func(c byte) bool) string {
	end := r.at
	for end < len(r.line) && permitted(r.line[end]) {
		end++
	}
	return r.line[r.at:end]
}

// standsAt reports whether a sign is the next byte.
func (r *reader) standsAt(sign byte) bool {
	return r.at < len(r.line) && r.line[r.at] == sign
}

// isAlphanumeric reports whether c can stand in a code.
func isAlphanumeric(c byte) bool {
	return c >= 'A' && c <= 'Z' || c >= 'a' && c <= 'z' || c >= '0' && c <= '9'
}
