/- The landed package pack keeps its contracts. -/
import Derived.Test.YtbiggclekgpgeaaPackPut
import Derived.Test.YtbiggclekgpgeaaPackGet
namespace Go.Proofs.Ytbiggclekgpgeaa
open Go Go.RowKit

theorem pack_any : PackC := ⟨put_any, get_any⟩
end Go.Proofs.Ytbiggclekgpgeaa
