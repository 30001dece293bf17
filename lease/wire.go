package lease

import (
	"moothill/api"
	"moothill/cmd"
	"moothill/wire"
)

const (
	lastError   = 1 << 20
	lastRequest = 1<<64 - 1
)

// Put writes a book.
func (b *Book) Put(o *wire.Out) {
	all := b.Sessions()
	o.Short(uint64(len(all)))
	for _, s := range all {
		o.Fixed(s.Num).Text(s.Foot)
		b.sessions[s].put(o)
	}
}

// put writes what is told of a session.
func (x session) put(o *wire.Out) {
	o.Truth(x.Open).Truth(x.Dead)
	o.Short(uint64(x.Deadline)).Short(uint64(x.Ttl))
	o.Short(uint64(x.Served))
	for _, request := range x.requests() {
		o.Short(request)
		x.answers[request].put(o)
	}
}

// put writes an answer.
func (a Answer) put(o *wire.Out) {
	o.Short(uint64(a.E)).Fixed(a.N).Truth(a.Granted)
}

// Take reads a book.
func Take(in *wire.In) *Book {
	b, ok := take(in)
	if !ok {
		// Not kept, where taking a part has failed, however far behind: its error is named first.
		in.Fail(api.ErrForm)
	}
	if in.Failed() {
		return New()
	}
	return b
}

// take is the book that is there, and whether all in it is right, if the input doesn't fail.
func take(in *wire.In) (*Book, bool) {
	b, ok := New(), true
	var last cmd.Session
	for n := range in.Short(uint64(in.Left())) {
		s := cmd.Session{Num: in.Fixed(), Foot: in.Text(api.MaxPath)}
		x, right := takeSession(in)
		if in.Failed() {
			break
		}
		ok = ok && right && (n == 0 || compare(last, s) < 0)
		b.set(s, x)
		last = s
	}
	return b, ok
}

// takeSession is what is told of a session, and whether it is right.
func takeSession(in *wire.In) (session, bool) {
	var x session
	x.Open = in.Truth()
	x.Dead = in.Truth()
	x.Deadline = int(in.Short(lastTime))
	x.Ttl = int(in.Short(lastTime))
	ok := x.right()
	x.Served = int(in.Short(api.MaxServed))
	x.answers = make(map[uint64]Answer, x.Served)
	var last uint64
	for n := range x.Served {
		request := in.Short(lastRequest)
		x.answers[request] = takeAnswer(in)
		ok = ok && (n == 0 || last < request)
		last = request
	}
	return x, ok
}

// right tells whether a session's open or dead state goes with its times.
func (x Info) right() bool {
	if x.Open {
		return !x.Dead
	}
	return x.Deadline == 0 && x.Ttl == 0
}

// takeAnswer is the answer that is there.
func takeAnswer(in *wire.In) Answer {
	var a Answer
	a.E = api.Errno(in.Short(lastError))
	a.N = in.Fixed()
	a.Granted = in.Truth()
	return a
}
