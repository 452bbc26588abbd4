package parse

import "selvage/api"

// reader goes over a text's tokens, and never back: so the first token that it can't take is the first at which no program goes on.
type reader struct {
	tokens []api.Token // those that are left
	end    int         // the text's length: the place of what is missing
}

// peek: the next token. Behind the last it is one of no kind and no text, which nothing takes, at the text's end.
func (r *reader) peek() api.Token {
	if len(r.tokens) == 0 {
		return api.Token{At: r.end}
	}
	return r.tokens[0]
}

func (r *reader) take() api.Token {
	t := r.peek()
	if len(r.tokens) > 0 {
		r.tokens = r.tokens[1:]
	}
	return t
}

// sees: is it the next token? No name or number is spelt as a sign or a word of the language, so its text says enough.
func (r *reader) sees(text string) bool { return r.peek().Text == text }

// seesSecond: is it the one behind the next?
func (r *reader) seesSecond(text string) bool { return len(r.tokens) > 1 && r.tokens[1].Text == text }

// may take the next token, if it is this one.
func (r *reader) may(text string) bool {
	if !r.sees(text) {
		return false
	}
	r.take()
	return true
}

// must take this token.
func (r *reader) must(text string) api.Token {
	if !r.sees(text) {
		r.stop()
	}
	return r.take()
}

func (r *reader) name() string { return r.kind(api.Word).Text }

func (r *reader) number() api.Token { return r.kind(api.Number) }

func (r *reader) kind(kind int) api.Token {
	if r.peek().Kind != kind {
		r.stop()
	}
	return r.take()
}

// stop gives up: at the next token no program goes on.
func (r *reader) stop() { panic(fault{api.ErrParse, r.peek().At}) }
