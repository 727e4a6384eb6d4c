package chunk

// Where a row of chunks is.
const (
	front   = iota // nothing has begun the dictionary
	begun          // the dictionary is begun; no properties came since ChunkFirst
	learnt         // likewise, with properties: what was learnt can be gone on with
	ended          // nothing may follow
	refused        // no place in a row: what may not follow leads here
)

// follows: where a row is behind a chunk, by where it was (a line each, in the order of the numbers above) and the chunk's kind.
var follows = [refused][numKinds]int{
	{ended, begun, refused, refused, refused, refused, learnt},
	{ended, begun, begun, refused, refused, learnt, learnt},
	{ended, begun, learnt, learnt, learnt, learnt, learnt},
	{refused, refused, refused, refused, refused, refused, refused},
}
