package source

import (
	"pinball/api"
	"pinball/scan"
)

// most is how many statements a text may have.
const most = 400

// Parse returns the statements of s, or the first error and its offset.
func Parse(s string) (l []Item, e api.Errno, at int) {
	defer func() {
		if f, ok := recover().(fault); ok {
			l, e, at = nil, f.e, f.at
		}
	}()
	words, e, at := scan.Words(s)
	if e != api.OK {
		return nil, e, at
	}
	r := reader{words, len(s)}
	for len(r.words) > 0 {
		demand(len(l) < most, api.ErrLimit, r.words[0])
		l = append(l, r.item())
	}
	return l, api.OK, 0
}

// fault is what the reader gives up with: an error and its offset.
type fault struct {
	e  api.Errno
	at int
}

// demand gives up with e at the word w if something is not ok.
func demand(ok bool, e api.Errno, w scan.Word) {
	if !ok {
		panic(fault{e, w.At})
	}
}

// reader has the words of a text that are still to be read, and the size of the text.
type reader struct {
	words []scan.Word
	size  int
}

// next takes the next word; a text must not end where there is none.
func (r *reader) next() scan.Word {
	if len(r.words) == 0 {
		panic(fault{api.ErrSyntax, r.size})
	}
	w := r.words[0]
	r.words = r.words[1:]
	return w
}

// nextOf takes the next word, which must be of this kind.
func (r *reader) nextOf(kind int) scan.Word {
	w := r.next()
	demand(w.Kind == kind, api.ErrSyntax, w)
	return w
}

// item reads a statement.
func (r *reader) item() Item {
	w := r.next()
	demand(len(keys(w.Text)) > 0, api.ErrSyntax, w)
	x := Item{Word: w.Text, At: w.At}
	if named(x.Word) {
		x.Name = r.nextOf(scan.KindName).Text
	}
	for w = r.next(); w.Kind != scan.KindEnd; w = r.next() {
		x.Keys = append(x.Keys, r.key(x, w))
	}
	return x
}

// key reads the numbers behind w, which must be the next key of x.
func (r *reader) key(x Item, w scan.Word) Key {
	arity := Arity(x.Word, w.Text)
	demand(arity >= 0, api.ErrSyntax, w)
	demand(find(x, w.Text) < 0, api.ErrDuplicate, w)
	k := Key{Key: w.Text, At: w.At}
	for range arity {
		k.Values = append(k.Values, r.nextOf(scan.KindNumber).Number)
	}
	return k
}
