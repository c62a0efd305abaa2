// Package layers holds tests that go for all layers: that they have the calls of the document's chapters, and keep to the language's rules on imports, layout, long functions and build lines.
package layers
