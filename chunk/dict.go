package chunk

import "pith/api"

// lastDict: the greatest byte that tells a dictionary.
const lastDict = 40

// told: the dictionary that b, from 0 to lastDict, tells. By the rule of the others that of lastDict would be one above MaxTold.
func told(b int) int {
	if b == lastDict {
		return api.MaxTold
	}
	return (2 + b%2) << (b/2 + 11)
}
