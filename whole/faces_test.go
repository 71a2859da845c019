package whole

import (
	"hachure/area"
	"hachure/audit"
	"hachure/chart"
	"hachure/crc"
	"hachure/dir"
	"hachure/disk"
	"hachure/dist"
	"hachure/down"
	"hachure/fen"
	"hachure/file"
	"hachure/fill"
	"hachure/grid"
	"hachure/horizon"
	"hachure/journal"
	"hachure/keep"
	"hachure/leb"
	"hachure/merge"
	"hachure/num"
	"hachure/over"
	"hachure/paint"
	"hachure/past"
	"hachure/patch"
	"hachure/peaks"
	"hachure/pred"
	"hachure/probe"
	"hachure/pyr"
	"hachure/quad"
	"hachure/rank"
	"hachure/ray"
	"hachure/rect"
	"hachure/regions"
	"hachure/route"
	"hachure/runs"
	"hachure/script"
	"hachure/sight"
	"hachure/sink"
	"hachure/skip"
	"hachure/slab"
	"hachure/slope"
	"hachure/smooth"
	"hachure/snap"
	"hachure/sparse"
	"hachure/store"
	"hachure/tier"
	"hachure/tile"
	"hachure/tint"
	"hachure/turn"
	"hachure/view"
	"hachure/wire"
	"hachure/zones"
)

// faces is every function of every layer, by its name.
func faces() map[string]any {
	return map[string]any{
		"area.Build":       area.Build,
		"audit.Check":      audit.Check,
		"audit.Heal":       audit.Heal,
		"audit.Where":      audit.Where,
		"chart.Draw":       chart.Draw,
		"chart.Read":       chart.Read,
		"chart.At":         chart.At,
		"chart.Mark":       chart.Mark,
		"crc.More":         crc.More,
		"crc.Sum":          crc.Sum,
		"crc.Seal":         crc.Seal,
		"crc.Open":         crc.Open,
		"dir.Tiles":        dir.Tiles,
		"dir.Size":         dir.Size,
		"dir.Put":          dir.Put,
		"dir.Get":          dir.Get,
		"disk.New":         disk.New,
		"dist.To":          dist.To,
		"dist.Nearest":     dist.Nearest,
		"dist.Within":      dist.Within,
		"dist.Farthest":    dist.Farthest,
		"down.Level":       down.Level,
		"down.Row":         down.Row,
		"fen.New":          fen.New,
		"fen.Of":           fen.Of,
		"file.Best":        file.Best,
		"file.Save":        file.Save,
		"file.Load":        file.Load,
		"fill.Levels":      fill.Levels,
		"fill.Depths":      fill.Depths,
		"fill.Lakes":       fill.Lakes,
		"fill.Volume":      fill.Volume,
		"grid.New":         grid.New,
		"grid.Same":        grid.Same,
		"horizon.Steepest": horizon.Steepest,
		"horizon.Around":   horizon.Around,
		"horizon.Open":     horizon.Open,
		"journal.Put":      journal.Put,
		"journal.Get":      journal.Get,
		"journal.All":      journal.All,
		"keep.Create":      keep.Create,
		"keep.Open":        keep.Open,
		"leb.Fold":         leb.Fold,
		"leb.Unfold":       leb.Unfold,
		"leb.Len":          leb.Len,
		"leb.Put":          leb.Put,
		"leb.Get":          leb.Get,
		"merge.Three":      merge.Three,
		"merge.Prefer":     merge.Prefer,
		"merge.Apply":      merge.Apply,
		"num.Print":        num.Print,
		"num.Scan":         num.Scan,
		"num.Read":         num.Read,
		"over.Count":       over.Count,
		"over.Between":     over.Between,
		"over.Cells":       over.Cells,
		"paint.Paste":      paint.Paste,
		"paint.Add":        paint.Add,
		"paint.Clamp":      paint.Clamp,
		"paint.Stamp":      paint.Stamp,
		"paint.From":       paint.From,
		"past.New":         past.New,
		"patch.Right":      patch.Right,
		"patch.Between":    patch.Between,
		"patch.Of":         patch.Of,
		"patch.Apply":      patch.Apply,
		"patch.Back":       patch.Back,
		"peaks.Of":         peaks.Of,
		"peaks.Over":       peaks.Over,
		"peaks.Best":       peaks.Best,
		"pred.Right":       pred.Right,
		"pred.Guess":       pred.Guess,
		"pred.Rests":       pred.Rests,
		"pred.Cells":       pred.Cells,
		"probe.Range":      probe.Range,
		"probe.Least":      probe.Least,
		"probe.Most":       probe.Most,
		"probe.First":      probe.First,
		"pyr.Build":        pyr.Build,
		"pyr.Same":         pyr.Same,
		"quad.Of":          quad.Of,
		"quad.And":         quad.And,
		"quad.Or":          quad.Or,
		"quad.Less":        quad.Less,
		"quad.Not":         quad.Not,
		"quad.Print":       quad.Print,
		"quad.Read":        quad.Read,
		"rank.Kth":         rank.Kth,
		"rank.Median":      rank.Median,
		"rank.Counts":      rank.Counts,
		"ray.Len":          ray.Len,
		"ray.At":           ray.At,
		"ray.Row":          ray.Row,
		"rect.Right":       rect.Right,
		"rect.Within":      rect.Within,
		"rect.Area":        rect.Area,
		"rect.Has":         rect.Has,
		"rect.Meet":        rect.Meet,
		"rect.Hull":        rect.Hull,
		"rect.Around":      rect.Around,
		"rect.Pieces":      rect.Pieces,
		"rect.Nth":         rect.Nth,
		"rect.Rank":        rect.Rank,
		"regions.Of":       regions.Of,
		"regions.Flood":    regions.Flood,
		"regions.Joined":   regions.Joined,
		"route.Find":       route.Find,
		"route.Costs":      route.Costs,
		"route.Within":     route.Within,
		"runs.Put":         runs.Put,
		"runs.Len":         runs.Len,
		"runs.Get":         runs.Get,
		"script.Print":     script.Print,
		"script.Parse":     script.Parse,
		"script.Answer":    script.Answer,
		"script.New":       script.New,
		"sight.Profile":    sight.Profile,
		"sight.Clear":      sight.Clear,
		"sight.Lift":       sight.Lift,
		"sink.Next":        sink.Next,
		"sink.Way":         sink.Way,
		"sink.Basins":      sink.Basins,
		"sink.Wet":         sink.Wet,
		"skip.Clear":       skip.Clear,
		"skip.Peak":        skip.Peak,
		"slab.New":         slab.New,
		"slope.Right":      slope.Right,
		"slope.Cmp":        slope.Cmp,
		"slope.Floor":      slope.Floor,
		"slope.Hides":      slope.Hides,
		"slope.Steepest":   slope.Steepest,
		"smooth.Mean":      smooth.Mean,
		"smooth.Median":    smooth.Median,
		"smooth.Spread":    smooth.Spread,
		"smooth.Open":      smooth.Open,
		"snap.Take":        snap.Take,
		"snap.Follow":      snap.Follow,
		"sparse.Build":     sparse.Build,
		"store.New":        store.New,
		"tier.Levels":      tier.Levels,
		"tier.Size":        tier.Size,
		"tier.Span":        tier.Span,
		"tier.Kids":        tier.Kids,
		"tier.Above":       tier.Above,
		"tile.Right":       tile.Right,
		"tile.Put":         tile.Put,
		"tile.Get":         tile.Get,
		"tile.Best":        tile.Best,
		"tint.Sign":        tint.Sign,
		"tint.Right":       tint.Right,
		"tint.Of":          tint.Of,
		"tint.Back":        tint.Back,
		"tint.Print":       tint.Print,
		"tint.Read":        tint.Read,
		"turn.Quarter":     turn.Quarter,
		"turn.Mirror":      turn.Mirror,
		"turn.Swap":        turn.Swap,
		"turn.Crop":        turn.Crop,
		"turn.Scale":       turn.Scale,
		"turn.Beside":      turn.Beside,
		"turn.Below":       turn.Below,
		"view.From":        view.From,
		"view.Count":       view.Count,
		"view.Both":        view.Both,
		"wire.Put":         wire.Put,
		"wire.Get":         wire.Get,
		"zones.Of":         zones.Of,
		"zones.Mean":       zones.Mean,
		"zones.Borders":    zones.Borders,
		"zones.Mask":       zones.Mask,
	}
}
