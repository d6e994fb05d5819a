import Derived.Test.YtnjcblagpoplnaaGreatDoorY
import Derived.Test.YtnjcblagpoplnaaGreatDoorZ03
set_option linter.all false
set_option maxRecDepth 100000
set_option maxHeartbeats 20000000
namespace Go.Proofs.YtnjcblagpoplnaaGreatDoor
section
open Go.RowKit
structure Bq.Full (er:Bq) (w:World):Prop where
 lay:er.At w
 type:w.cell? ⟨2,0,none⟩=some (aSj 61)
 bad:∀b,er.bad b->b≠er.lim/\∃c t,w.heap[b.block]? =some (Obj.cells c t)
 lim:∃c t,w.heap[er.lim.block]? =some (Obj.cells c t)
theorem Bq.Full.below{er:Bq}{w w':World}(h:er.Full w)(d:Below w.heap.size w w'):er.Full w':=by
 have k:∀b:Nat,(∃c t,w.heap[b]? =some (Obj.cells c t))->∃c t,w'.heap[b]? =some (Obj.cells c t):=by rintro b ⟨c,t,f⟩;exact⟨c,t,(d.block b (Bt f)).trans f⟩
 have e:=h.lay.size;exact⟨h.lay.below d e,(Qd (d.block 2 (by omega))).trans h.type,λb a=>⟨(h.bad b a).1,k b.block (h.bad b a).2⟩,k _ h.lim⟩
end
end Go.Proofs.YtnjcblagpoplnaaGreatDoor
