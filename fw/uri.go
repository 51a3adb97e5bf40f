package fw

import (
	"strings"

	"outpost/api"
)

const (
	ours   = "coap" // the scheme of what can be pulled
	behind = "://"  // a scheme
	root   = "/"    // behind a host, where a path begins
)

// fault is the result with which it fails to pull from a URI, none of one from which can be pulled.
func fault(uri string) int {
	n := lead(uri, isLetter)
	rest, ok := strings.CutPrefix(uri[n:], behind)
	switch {
	case !ok || n == 0:
		return api.ResURI
	case uri[:n] != ours:
		return api.ResProtocol
	case !isPlace(rest):
		return api.ResURI
	}
	return api.ResNone
}

// isPlace tells whether a text is a host and a path.
func isPlace(s string) bool {
	n := lead(s, isHostSign)
	return n > 0 && strings.HasPrefix(s[n:], root)
}

// lead is how many bytes the signs have with which a text begins, as long as a closure says so.
func lead(s string, is func(r rune) bool) int {
	for at, r := range s {
		if !is(r) {
			return at
		}
	}
	return len(s)
}

func isLetter(r rune) bool { return 'a' <= r && r <= 'z' }

func isHostSign(r rune) bool {
	return isLetter(r) || '0' <= r && r <= '9' || r == '.' || r == '-'
}
