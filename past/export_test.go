package past

import (
	"iter"

	"hearsay/api"
)

// Row is the row of a closed set as it is yielded, with what never goes at its end.
func Row(ops []api.Op) iter.Seq2[api.Op, bool] { return row(ops) }
