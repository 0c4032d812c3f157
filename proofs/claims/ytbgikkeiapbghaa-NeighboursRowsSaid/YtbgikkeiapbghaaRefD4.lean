/- Contract of layer 7's reference: Same. -/
import Derived.Test.YtbgikkeiapbghaaRefD3
namespace Go.Proofs.Ytbgikkeiapbghaa
open Go.RowKit
end Go.Proofs.Ytbgikkeiapbghaa
