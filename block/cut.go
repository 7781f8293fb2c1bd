package block

import (
	"sacristan/api"
	"sacristan/codec"
)

// kept is a block as it is kept: its head, and what is hidden behind it.
type kept struct {
	head   api.Nonce
	hidden [api.Body]byte
}

// cut tells what b is, if it has the form of a block that is kept.
func cut(b []byte) (kept, error) {
	if len(b) != api.Head+api.Body {
		return kept{}, &fault{api.ErrForm, "not as long as a block that is kept"}
	}
	k := kept{api.Nonce(b[:api.Head]), [api.Body]byte(b[api.Head:])}
	// Other bytes there would be places in the midst of a block's stream.
	if [restWide]byte(k.head[api.Head-restWide:]) != ([restWide]byte{}) {
		return kept{}, &fault{api.ErrForm, "a head that does not end in noughts"}
	}
	return k, nil
}

// fill tells body with noughts behind it, if it is no longer than a block.
func fill(body []byte) ([api.Body]byte, error) {
	if len(body) > api.Body {
		return [api.Body]byte{}, &fault{api.ErrForm, "longer than a block"}
	}
	return [api.Body]byte(codec.Pad(body, api.Body)), nil
}
