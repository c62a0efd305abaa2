package layers

import (
	"catchment/acl"
	"catchment/api"
	"catchment/check"
	"catchment/crc"
	"catchment/desk"
	"catchment/eval"
	"catchment/gateway"
	"catchment/group"
	"catchment/hints"
	"catchment/join"
	"catchment/leaf"
	"catchment/lex"
	"catchment/node"
	"catchment/parse"
	"catchment/plan"
	"catchment/pred"
	"catchment/print"
	"catchment/rowops"
	"catchment/runs"
	"catchment/schema"
	"catchment/streams"
	"catchment/table"
	"catchment/trigram"
	"catchment/value"
	"catchment/wire"
)

// The layers' calls, with the types that the chapters give them: a call that is lost or has another type does not compile.

// The calls of value.
var (
	_ func(v api.Value) bool                      = value.Valid
	_ func(a, b api.Value) int                    = value.Compare
	_ func(how int, a, b api.Value) bool          = value.Holds
	_ func(a, b api.Value) (api.Value, api.Errno) = value.Add
	_ func(n int) api.Value                       = value.Bucket
	_ func(v api.Value) string                    = value.Text
	_ func(n int) api.Value                       = value.OfInt
	_ func(s string) api.Value                    = value.OfStr
	_ func(b bool) api.Value                      = value.OfBool
)

// The calls of table.
var (
	_ func(s string) bool                                      = table.Name
	_ func(t api.Table) api.Errno                              = table.Check
	_ func(cols []api.Col, name string) int                    = table.Find
	_ func(t api.Table) api.Table                              = table.Canon
	_ func(a, b api.Table) bool                                = table.Same
	_ func(a, b api.Table) (api.Table, api.Errno)              = table.Union
	_ func(t api.Table, names []string) (api.Table, api.Errno) = table.Keep
)

// The calls of crc.
var (
	_ func(b []byte) uint32             = crc.Sum
	_ func(sum uint32, b []byte) uint32 = crc.More
	_ func(b []byte, n int) int         = crc.Slot
)

// The calls of wire.
var (
	_ func(b []byte, v api.Value) ([]byte, api.Errno)                  = wire.Put
	_ func(b []byte, kind int) (v api.Value, rest []byte, e api.Errno) = wire.Take
	_ func(t api.Table) ([]byte, api.Errno)                            = wire.Encode
	_ func(b []byte) (api.Table, api.Errno)                            = wire.Decode
)

// The calls of schema.
var (
	_ func(s string) bool                                  = schema.Word
	_ func(l []api.Schema) api.Errno                       = schema.Check
	_ func(l []api.Schema, name string) (api.Schema, bool) = schema.Find
	_ func(s api.Schema) []api.Col                         = schema.Cols
	_ func(l []api.Schema, p api.Point) api.Errno          = schema.Fits
)

// The calls of streams.
var (
	_ func(most int) *streams.Dict                                          = streams.New
	_ func(_ *streams.Dict, name string, keys []api.Value) (int, api.Errno) = (*streams.Dict).Add
	_ func(_ *streams.Dict, name string, keys []api.Value) (int, bool)      = (*streams.Dict).Find
	_ func(_ *streams.Dict, id int) (string, []api.Value, bool)             = (*streams.Dict).Keys
	_ func(_ *streams.Dict, name string) []int                              = (*streams.Dict).Of
	_ func(*streams.Dict) int                                               = (*streams.Dict).Len
	_ func(*streams.Dict) *streams.Dict                                     = (*streams.Dict).Clone
)

// The calls of runs.
var (
	_ func() *runs.Run                                 = runs.New
	_ func(_ *runs.Run, at int, vals []api.Value) bool = (*runs.Run).Add
	_ func(_ *runs.Run, at int) ([]api.Value, bool)    = (*runs.Run).Get
	_ func(_ *runs.Run, from, to int) []api.Sample     = (*runs.Run).Range
	_ func(*runs.Run) int                              = (*runs.Run).Len
	_ func(*runs.Run) (first, last int, some bool)     = (*runs.Run).Span
	_ func(*runs.Run) *runs.Run                        = (*runs.Run).Clone
)

// The calls of leaf.
var (
	_ func(l []api.Schema, room int) (*leaf.Leaf, api.Errno)               = leaf.New
	_ func(_ *leaf.Leaf, p api.Point) (bool, api.Errno)                    = (*leaf.Leaf).Write
	_ func(_ *leaf.Leaf, name string, from, to int) (api.Table, api.Errno) = (*leaf.Leaf).Scan
	_ func(*leaf.Leaf) int                                                 = (*leaf.Leaf).Points
	_ func(*leaf.Leaf) *leaf.Leaf                                          = (*leaf.Leaf).Clone
)

// The calls of trigram.
var (
	_ func(s string) api.Bits      = trigram.Of
	_ func(s string) api.Bits      = trigram.Whole
	_ func(a, b api.Bits) api.Bits = trigram.Join
	_ func(a, b api.Bits) bool     = trigram.Within
	_ func(a api.Bits) int         = trigram.Count
)

// The calls of hints.
var (
	_ func() *hints.Index                                        = hints.New
	_ func(_ *hints.Index, s api.Schema, p api.Point)            = (*hints.Index).Add
	_ func(_ *hints.Index, name string) bool                     = (*hints.Index).Seen
	_ func(_ *hints.Index, name, field string) api.Bits          = (*hints.Index).Bits
	_ func(_ *hints.Index, other *hints.Index)                   = (*hints.Index).Join
	_ func(_ *hints.Index, name string, q api.Query, i int) bool = (*hints.Index).Might
	_ func(*hints.Index) *hints.Index                            = (*hints.Index).Clone
)

// The calls of lex.
var (
	_ func(s string) (l []api.Token, at int, e api.Errno) = lex.Lex
	_ func(s string) string                               = lex.Quote
)

// The calls of parse.
var (
	_ func(l []api.Token) (q api.Query, at int, e api.Errno) = parse.Parse
	_ func(l []api.Token) (q api.Query, at int, e api.Errno) = parse.Cond
	_ func(s string) (q api.Query, at int, e api.Errno)      = parse.Query
)

// The calls of print.
var (
	_ func(q api.Query) api.Errno                  = print.Check
	_ func(q api.Query) (string, api.Errno)        = print.Print
	_ func(q api.Query, i int) (string, api.Errno) = print.Cond
)

// The calls of check.
var (
	_ func(a api.Agg) string                                                                        = check.Name
	_ func(l []api.Schema, q api.Query, inputs [][]api.Col) (cols [][]api.Col, at int, e api.Errno) = check.Types
	_ func(l []api.Schema, q api.Query) ([]api.Col, api.Errno)                                      = check.Cols
)

// The calls of pred.
var (
	_ func(q api.Query, i int, cols []api.Col, row []api.Value) bool = pred.Holds
	_ func(t api.Table, q api.Query, i int) api.Table                = pred.Where
)

// The calls of rowops.
var (
	_ func(t api.Table, width int) (api.Table, api.Errno)          = rowops.Align
	_ func(t api.Table, n int, col string) (api.Table, api.Errno)  = rowops.Top
	_ func(t api.Table, q api.Query, i int) (api.Table, api.Errno) = rowops.Filter
)

// The calls of join.
var (
	_ func(a, b []api.Col) ([]api.Col, bool)                = join.Cols
	_ func(a, b api.Table, most int) (api.Table, api.Errno) = join.Join
)

// The calls of group.
var (
	_ func(cols []api.Col, names []string, aggs []api.Agg) (parts, whole []api.Col, ok bool) = group.Cols
	_ func(t api.Table, names []string, aggs []api.Agg) (api.Table, api.Errno)               = group.Partial
	_ func(t api.Table, names []string, aggs []api.Agg) (api.Table, api.Errno)               = group.Merge
	_ func(t api.Table, names []string, aggs []api.Agg) (api.Table, api.Errno)               = group.Finish
	_ func(t api.Table, names []string, aggs []api.Agg) (api.Table, api.Errno)               = group.Group
)

// The calls of eval.
var (
	_ func(l []api.Schema, q api.Query, db []api.Named, inputs []api.Table, most int) (api.Table, api.Errno) = eval.Run
)

// The calls of acl.
var (
	_ func(l []api.Schema, tenants []api.Tenant) api.Errno                                        = acl.Check
	_ func(tenants []api.Tenant, name, schema string) (api.Grant, bool)                           = acl.Find
	_ func(l []api.Schema, tenants []api.Tenant, name string, q api.Query) (api.Query, api.Errno) = acl.Rewrite
	_ func(l []api.Schema, tenants []api.Tenant, name string, db []api.Named) []api.Named         = acl.Visible
)

// The calls of plan.
var (
	_ func(q api.Query, push bool) (api.Plan, api.Errno)                                    = plan.Split
	_ func(l []api.Schema, part api.Query, db []api.Named, most int) (api.Table, api.Errno) = plan.Leaf
	_ func(part api.Query, tables []api.Table, most int) (api.Table, api.Errno)             = plan.Merge
	_ func(l []api.Schema, part api.Query) (api.Table, api.Errno)                           = plan.Empty
	_ func(l []api.Schema, p api.Plan, tables []api.Table, most int) (api.Table, api.Errno) = plan.Answer
)

// The calls of node.
var (
	_ func(c api.Config, at int) *node.Leaf                                                     = node.NewLeaf
	_ func(_ *node.Leaf, p api.Point) (bool, api.Errno)                                         = (*node.Leaf).Write
	_ func(_ *node.Leaf, name string) (api.Table, api.Errno)                                    = (*node.Leaf).Scan
	_ func(_ *node.Leaf, m api.Msg) api.Msg                                                     = (*node.Leaf).Ask
	_ func(*node.Leaf) *node.Leaf                                                               = (*node.Leaf).Clone
	_ func(c api.Config, at int) *node.Zone                                                     = node.NewZone
	_ func(_ *node.Zone, m api.Msg) []api.Msg                                                   = (*node.Zone).Take
	_ func(*node.Zone) []api.Msg                                                                = (*node.Zone).Tick
	_ func(*node.Zone) int                                                                      = (*node.Zone).Open
	_ func(*node.Zone) *node.Zone                                                               = (*node.Zone).Clone
	_ func(c api.Config) *node.Root                                                             = node.NewRoot
	_ func(_ *node.Root, id int, p api.Plan, targets [][]int) (out []api.Msg, res []api.Result) = (*node.Root).Start
	_ func(_ *node.Root, m api.Msg) []api.Result                                                = (*node.Root).Take
	_ func(*node.Root) []api.Result                                                             = (*node.Root).Tick
	_ func(*node.Root) int                                                                      = (*node.Root).Open
	_ func(*node.Root) *node.Root                                                               = (*node.Root).Clone
)

// The calls of gateway.
var (
	_ func(c api.Config) api.Errno                                         = gateway.Check
	_ func(c api.Config, p api.Point) int                                  = gateway.Place
	_ func(x *hints.Index, part api.Query) bool                            = gateway.Might
	_ func(c api.Config) (*gateway.Gateway, api.Errno)                     = gateway.New
	_ func(_ *gateway.Gateway, e api.Event) api.Answer                     = (*gateway.Gateway).Do
	_ func(*gateway.Gateway) []api.Msg                                     = (*gateway.Gateway).Under
	_ func(*gateway.Gateway) int                                           = (*gateway.Gateway).Open
	_ func(_ *gateway.Gateway, at int, name string) (api.Table, api.Errno) = (*gateway.Gateway).Rows
	_ func(*gateway.Gateway) *gateway.Gateway                              = (*gateway.Gateway).Clone
)

// The calls of desk.
var (
	_ func(s string) (l []api.Event, line int, e api.Errno)            = desk.Parse
	_ func(l []api.Event) (string, api.Errno)                          = desk.Print
	_ func(c api.Config, l []api.Event) ([]api.Answer, api.Errno)      = desk.Run
	_ func(l []api.Answer) string                                      = desk.Show
	_ func(c api.Config, l []api.Event, said []api.Answer) []api.Fault = desk.Judge
)
