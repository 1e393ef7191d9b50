package script

import (
	"strings"

	"tideline/api"
	"tideline/item"
	"tideline/mix"
	"tideline/nums"
)

const (
	good    = "ok"
	bad     = "error"
	dot     = "." // stands between the numbers of a version, and of a name
	noText  = "?" // stands for an entry that has no text
	overNow = "over"
	openNow = "open"
)

func Tell(o api.Op, a api.Answer, e api.Errno) string {
	if e != api.OK {
		return line(bad, nums.Digits(int(e)))
	}
	switch o.Kind {
	case api.OpPut, api.OpDelete:
		return line(good, numbers(dot, a.Version.Counter, a.Version.Node))
	case api.OpGet, api.OpScan, api.OpMap:
		return lines(a.Entries, entryText)
	case api.OpFold:
		return line(good, nums.Digits(a.Tally.Count), mix.Print(a.Tally.Sum))
	case api.OpOpen:
		return line(good, nameText(a.Session))
	case api.OpDeliver, api.OpRaw:
		return line(good, numbers(blank, a.Heard.Taken, a.Heard.Refused))
	case api.OpTalks:
		return lines(a.Talks, talkText)
	case api.OpCount:
		return line(good, countersText(a.Counters))
	case api.OpBag:
		return lines(a.Packets, packetText)
	}
	return line(good)
}

func line(words ...string) string { return strings.Join(words, blank) + feed }

// lines tells how many things there are, and then the text of each.
func lines[T any](l []T, textOf func(x T) string) string {
	var b strings.Builder
	b.WriteString(line(good, nums.Digits(len(l))))
	for _, x := range l {
		b.WriteString(line(textOf(x)))
	}
	return b.String()
}

func numbers(between string, l ...int) string {
	words := make([]string, 0, len(l))
	for _, n := range l {
		words = append(words, nums.Digits(n))
	}
	return strings.Join(words, between)
}

func entryText(e api.Entry) string {
	text, wrong := item.Print(e)
	if wrong != api.OK {
		return noText
	}
	return text
}

func nameText(n api.Name) string { return numbers(dot, n.Opener, n.Life, n.Number) }

func talkText(t api.Talk) string {
	state := openNow
	if t.Over {
		state = overNow
	}
	return strings.Join([]string{nameText(t.Session), numbers(blank, t.Peer, t.Turn, t.Tries), state}, blank)
}

func countersText(c api.Counters) string {
	return numbers(blank, c.Sent, c.Again, c.Heard, c.Stale, c.Bad, c.Moved, c.Taken, c.Full, c.Closed, c.Lost)
}

func packetText(p api.Packet) string { return numbers(blank, p.Num, p.From, p.To, len(p.Data)) }
