package check

import (
	"pith/api"
	"pith/crc"
	"pith/sha"
)

// running: a check of one kind under way.
type running interface {
	write(b []byte)
	told() []byte
}

// makers: by the kind, what begins its check; nil of those that are not read here.
func makers() [kinds]func() running {
	return [kinds]func() running{
		api.CheckNone:   startNone,
		api.CheckCRC32:  startCRC32,
		api.CheckCRC64:  startCRC64,
		api.CheckSHA256: startSHA256,
	}
}

// none: looks at no byte, and tells none.
type none struct{}

func startNone() running { return none{} }

func (none) write([]byte) {}

func (none) told() []byte { return nil }

// crc32: the sum so far, which is carried on.
type crc32 struct{ sum uint32 }

func startCRC32() running { return &crc32{} }

func (c *crc32) write(b []byte) { c.sum = crc.More32(c.sum, b) }

func (c *crc32) told() []byte { return lowFirst(uint64(c.sum), 4) }

// crc64: likewise.
type crc64 struct{ sum uint64 }

func startCRC64() running { return &crc64{} }

func (c *crc64) write(b []byte) { c.sum = crc.More64(c.sum, b) }

func (c *crc64) told() []byte { return lowFirst(c.sum, 8) }

// sha256: one of sha's own under way.
type sha256 struct{ hash *sha.Hash }

func startSHA256() running { return sha256{hash: sha.New()} }

func (s sha256) write(b []byte) { s.hash.Write(b) }

func (s sha256) told() []byte {
	sum := s.hash.Sum()
	return sum[:]
}

// lowFirst: v in n bytes, the lowest first.
func lowFirst(v uint64, n int) []byte {
	b := make([]byte, n)
	for i := range b {
		b[i] = byte(v >> (8 * i))
	}
	return b
}
