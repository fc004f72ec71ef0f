package txn

import (
	"lych/api"
	"lych/cfg"
)

// versionBytes is how many bytes a record has ahead of its settings.
const versionBytes = 8

// state is what a record tells: settings, and which version they are.
type state struct {
	version uint64
	config  api.Config
}

// bytes tells the record that read reads as x.
func (x state) bytes() []byte {
	var out []byte
	for i := range versionBytes {
		out = append(out, byte(x.version>>(8*(versionBytes-1-i))))
	}
	return append(out, cfg.Config(x.config)...)
}

// read tells the state that a record is.
func read(b []byte) (state, api.Errno) {
	if len(b) < versionBytes {
		return state{}, api.ErrCode
	}
	x := state{}
	for _, y := range b[:versionBytes] {
		x.version = x.version<<8 | uint64(y)
	}
	config, err := cfg.OpenConfig(b[versionBytes:])
	if failed(err) {
		return state{}, err
	}
	x.config = config
	return x, api.OK
}

// last tells the state that the last one of these records is; of none a nought one.
func last(records [][]byte) (state, api.Errno) {
	if len(records) == 0 {
		return state{}, api.OK
	}
	return read(records[len(records)-1])
}

// copied tells c with lists of its own. diff.Apply without changes won't do: it puts tenants in order, and those of a record may stand in any.
func copied(c api.Config) api.Config {
	var tenants []api.Tenant
	for _, t := range c.Tenants {
		t.Pool = append([]uint32(nil), t.Pool...)
		t.Statics = append([]api.Pair(nil), t.Statics...)
		t.Twices = append([]api.Pair(nil), t.Twices...)
		tenants = append(tenants, t)
	}
	c.Tenants = tenants
	return c
}
