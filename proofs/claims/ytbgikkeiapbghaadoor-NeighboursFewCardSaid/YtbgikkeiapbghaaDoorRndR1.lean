/- Contract of layer 6's reference: Shuffle. -/
import Derived.Test.YtbgikkeiapbghaaDoorRnd5
import Derived.Test.YtbgikkeiapbghaaDoorRnd2
import Derived.Maps.AppendAt
import Derived.Deep.RegionWith
import Derived.Deep.DeepCutAuto
namespace Go.Proofs.YtbgikkeiapbghaaDoor
open Go.RowKit
def natV (x : Nat) : Value := .int .i64 (x : Int)
/-- A row of the call's own, of one number or more, as a row that may be written. -/
theorem own_nats {w : World} {base e n : Nat} {v : Value} {zs : List Nat} (h : w.ownsRow base e 1 v n (zs.map natV)) (hn : 0 < n) : ∃ g c, v = .slice (some ⟨g, 0, none⟩) n c ∧ n ≤ c ∧ base ≤ g ∧ g < w.heap.size ∧ NatsAt w g zs ∧ zs.length = n := by
  have hl : zs.length = n := by have := h.1; simpa using this
  rcases h.2 with ⟨_, h0⟩ | ⟨g, cap, cur, rfl, hb, hh, hcap, hm, hs, hx⟩
  · omega
  · have hbx : Box w g e cur := hh
    refine ⟨g, cap, rfl, hcap, hb, hbx.lt, fun j hj => ?_, hl⟩
    rw [hbx.cell j, hbx.free j]
    refine ⟨?_, rfl⟩
    have e1 : (cur.toList.take (n * 1))[j]? = (zs.map natV)[j]? := by rw [hx]
    rw [Nat.mul_one, List.getElem?_take, if_pos (by omega)] at e1
    simp only [List.getElem?_map, List.getElem?_eq_getElem hj, Option.map_some] at e1
    rw [← Array.getElem?_toList, e1]
    simp [List.getD, hj, natV]
theorem range_snoc (k : Nat) : (List.range (k + 1)).map natV = (List.range k).map natV ++ [natV k] := by simp [List.range_succ]
theorem NatsAt.far {w : World} {g : Nat} {zs : List Nat} (h : NatsAt w g zs) {p : Addr} (hp : g ≠ p.block) (u : Value) : NatsAt (w.setCell p u) g zs := fun j hj =>
  ⟨by rw [World.cell?_of_block (a := ⟨g, j, none⟩) (heap_setCell_other w p g u hp)]; exact (h j hj).1, by rw [World.frozen?_setCell]; exact (h j hj).2⟩
/-- What the reference's Shuffle hands back. -/
def RShufOut (n s : Nat) (w : World) (e : Ending) (w' : World) : Prop :=
  ∃ g c, e = .returned (.agg #[.int .u64 ((shufN n s).1 : Nat), .slice (some ⟨g, 0, none⟩) n c]) ∧ n ≤ c ∧ NatsAt w' g (shufN n s).2 ∧ (shufN n s).2.length = n ∧ w.heap.size ≤ g ∧ g < w'.heap.size ∧ Below w.heap.size w w'
end Go.Proofs.YtbgikkeiapbghaaDoor
