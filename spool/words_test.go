package spool_test

import (
	"fmt"
	"strconv"
	"strings"
	"testing"

	"postroom/api"
	"postroom/disk"
	"postroom/ledger"
	"postroom/spool"
)

// An actor is a spool, or a book.
type actor interface {
	Add(body string, sync bool) (uint64, api.Errno)
	Sync() api.Errno
	Ack(name string, seq uint64) api.Errno
	Reject(name string, seq uint64) api.Errno
	Join(name string) api.Errno
	Leave(name string) api.Errno
	Save() api.Errno
	Reclaim() api.Errno
}

// act does what a word says: +x is Add of x, =x too, but synced, Ja Join of a, La Leave, Aa7 Ack of 7 for a,
// Ra7 Reject, S Sync, M Save, C Reclaim.
func act(s actor, word string) (uint64, api.Errno) {
	arg := word[1:]
	switch word[0] {
	case '+', '=':
		return s.Add(bodyOf(arg), word[0] == '=')
	case 'J':
		return 0, s.Join(arg)
	case 'L':
		return 0, s.Leave(arg)
	case 'A':
		return 0, s.Ack(arg[:1], number(arg[1:]))
	case 'R':
		return 0, s.Reject(arg[:1], number(arg[1:]))
	case 'S':
		return 0, s.Sync()
	case 'M':
		return 0, s.Save()
	case 'C':
		return 0, s.Reclaim()
	}
	panic(word)
}

func number(text string) uint64 {
	n, err := strconv.ParseUint(text, 10, 64)
	if err != nil {
		panic(err)
	}
	return n
}

func said(s *spool.Spool) string { return saying(s.Ledger(), s.Durable(), s.Bytes(), s.Get) }

func saying(l ledger.Ledger, durable uint64, bytes int, get func(uint64) (string, api.Errno)) string {
	var out strings.Builder
	fmt.Fprint(&out, l, " ", durable, " ", bytes, ":")
	for seq := l.First; seq < l.Next; seq++ {
		body, e := get(seq)
		out.WriteString(" " + short(body))
		if e != api.OK {
			out.WriteString(e.Error())
		}
	}
	return out.String()
}

// short is a body in few letters: x*1990 are so many x.
func short(body string) string {
	if len(body) > 10 && strings.Count(body, body[:1]) == len(body) {
		return fmt.Sprint(body[:1], "*", len(body))
	}
	return body
}

// bodyOf is what short is of.
func bodyOf(text string) string {
	var n int
	if _, e := fmt.Sscanf(text[min(1, len(text)):], "*%d", &n); e != nil {
		return text
	}
	return strings.Repeat(text[:1], n)
}

func right(t *testing.T, l ...api.Errno) {
	t.Helper()
	for i, e := range l {
		if e != api.OK {
			t.Fatal(i, e)
		}
	}
}

func open(t *testing.T, d *disk.Disk, c spool.Config) *spool.Spool {
	t.Helper()
	s, e := spool.Open(d, c)
	if s == nil || e != api.OK {
		t.Fatal(s, e)
	}
	return s
}

// does wants OK of all words.
func does(t *testing.T, s *spool.Spool, words string) {
	t.Helper()
	for _, word := range strings.Fields(words) {
		if _, e := act(s, word); e != api.OK {
			t.Fatal(word, e)
		}
	}
}

// refuses wants the same error of all words, and that nothing is changed.
func refuses(t *testing.T, s *spool.Spool, want api.Errno, words string) {
	t.Helper()
	was := said(s)
	for _, word := range strings.Fields(words) {
		if seq, e := act(s, word); e != want || seq != 0 {
			t.Fatalf("%s: %d, %v, not %v", word, seq, e, want)
		}
		tells(t, s, was)
	}
}

func tells(t *testing.T, s *spool.Spool, want string) {
	t.Helper()
	if got := said(s); got != want {
		t.Fatalf("it tells\n%s, not\n%s", got, want)
	}
}

// differs is in what a spool is not as its book.
func differs(s *spool.Spool, b *book) string {
	if got, want := said(s), b.said(); got != want {
		return fmt.Sprintf("it tells\n%s, not\n%s", got, want)
	}
	for _, seq := range []uint64{0, b.now.first - 1, b.now.next, b.now.next + 1, 1 << 63} {
		if got, e := s.Get(seq); got != "" || e != api.ErrNone {
			return fmt.Sprintf("Get of %d: %q, %v", seq, got, e)
		}
	}
	return ""
}
