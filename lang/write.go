package lang

import (
	"strconv"
	"strings"

	"lych/addr"
	"lych/api"
)

// writer writes lines one behind the other.
type writer struct {
	text strings.Builder
}

// line writes one of these words.
func (w *writer) line(words ...string) {
	w.text.WriteString(strings.Join(words, " "))
	w.text.WriteByte('\n')
}

// gateway writes the first line.
func (w *writer) gateway(c api.Config) {
	w.line(wordGateway, addr.IpText(c.Ip), addr.MacText(c.Mac), addr.MacText(c.OutMac), addr.MacText(c.NextMac),
		addr.KeyText(c.Key), wordDrain, number(c.Drain))
}

// tenant writes a tenant's first line.
func (w *writer) tenant(t api.Tenant) {
	w.line(wordTenant, t.Name, wordVni, number(t.Vni), wordKey, addr.KeyText(t.Key),
		wordVtep, addr.IpText(t.Vtep), addr.MacText(t.VtepMac), wordHost, addr.MacText(t.Host))
}

// parts writes a tenant's other lines.
func (w *writer) parts(t api.Tenant) {
	if len(t.Pool) > 0 {
		w.pool(t.Pool)
	}
	w.line(wordPorts, number(t.Lo), number(t.Hi))
	w.line(wordFilter, filterText(t.Filter))
	w.pairs(wordStatic, t.Statics)
	w.pairs(wordTwice, t.Twices)
	w.line(wordQuota, number(t.Sess), number(t.Queue))
	w.line(wordRate, number(t.Rate), number(t.Burst))
}

// pool writes a line of these addresses.
func (w *writer) pool(ips []uint32) {
	words := []string{wordPool}
	for _, ip := range ips {
		words = append(words, addr.IpText(ip))
	}
	w.line(words...)
}

// pairs writes a line of each pair, which begins so.
func (w *writer) pairs(begin string, pairs []api.Pair) {
	for _, p := range pairs {
		w.line(begin, addr.IpText(p.A), addr.IpText(p.B))
	}
}

// number tells n's text.
func number[N uint16 | uint32 | int](n N) string {
	return strconv.FormatInt(int64(n), 10)
}

// filterText tells the word of a filter, or of FilterAny, if there is no such one.
func filterText(filter int) string {
	if filter < 0 || filter >= len(filterWords) {
		filter = api.FilterAny
	}
	return filterWords[filter]
}
