/- Contract of layer 6: the iterator of the numbers. -/
import Derived.Test.YtbgikkeiapbghaaDoorRnd1
import Derived.Test.YtbgikkeiapbghaaDoorRngC
import Derived.Sort.LoopGhostIn
import Derived.Shelf.Abstract
import Derived.Shelf.RegionOpen
import Derived.OwnWalkIn
import Derived.TacticsInMore
import Derived.LoopNIn
import Derived.LoopIn
namespace Go.Proofs.YtbgikkeiapbghaaDoor
open Go.RowKit Go.Shelf
attribute [local go_sem] Oper.semAt_some
theorem step_wrap' (s : Nat) : IntKind.u64.wrap ((s : Int) + 11400714819323198485) = ((nextS s : Nat) : Int) := by
  rw [IntKind.wrap_u64, nextS]; rfl
/-- A state. -/
def St : Type := { s : Nat // s < 18446744073709551616 }
def St.next (s : St) : St := ⟨nextS s.1, nextS_lt s.1⟩
def St.val (s : St) : Value := .int .u64 (s.1 : Int)
def St.encs (s : St) : Array Value := #[.int .u64 (s.1 : Int), .int .u64 (mixN s.1 : Nat)]
set_option maxRecDepth 100000 in
set_option maxHeartbeats 4000000 in
theorem numbers_cell (n : Nat) (hn : 1 ≤ n) (B : Nat) : SeqCell Fence.wide n Tryd.prog 58 #[.pointer (some ⟨B, 0, none⟩)] St.encs St.next B 22 St.val := by
  intro l J Jx k₀ s₀ W hJB hJd hJ0 hY h0 hbox
  refine callsIn_of_wp Tryd.func58 rfl trivial ?_ rfl
  simp only [Tryd.ntmps58, List.size_toArray, List.length_cons, List.length_nil, Nat.reduceAdd, Nat.reduceSub, Array.replicate_succ, Array.replicate_zero, List.push_toArray, List.append_toArray, List.nil_append, List.cons_append]
  gi_wp2
  gi_loopg [3] k₀ (fun k s3 wr => ∃ s : St, J k s wr ∧ Boxed wr B 22 s.val)
  case atStart => exact ⟨s₀, h0, hbox⟩
  case round =>
    obtain ⟨s, hs, hb⟩ := hrel
    cases gk with
    | zero => exact (hJ0 s wr hs).elim
    | succ k =>
      have HY := hY k s (wr.setCell ⟨B, 0, none⟩ (.int .u64 (nextS s.1 : Nat))) (hJB _ _ _ _ hs)
      have hb2 : Boxed (wr.setCell ⟨B, 0, none⟩ (.int .u64 (nextS s.1 : Nat))) B 22 (.int .u64 (nextS s.1 : Nat)) := hb.set _
      have HN := Lib.hid (next_any s.1 s.2)
      have e1 := hb.cell
      have e2 := hb.frozen
      have e3 := hb2.cell
      have HB2 := Lib.hid hb2
      have HNX := Lib.hid (show (St.next s).val = .int .u64 (nextS s.1 : Nat) from rfl)
      simp only [St.val] at e1
      obtain ⟨fn, tmps, assign, body, hy, hR⟩ := HY
      simp only [St.encs, St.next] at hy
      clear hb hb2 hs
      generalize hV : wr.setCell ⟨B, 0, none⟩ (.int .u64 (nextS s.1 : Nat)) = V at *
      have HV := Lib.hid hV
      have hR' := Lib.hid hR
      clear hR
      gi_wp2_with (refine ⟨trivial, ?_⟩; gi_at_call 16; refine (callsIn_wide.2 (HN.out _)).mono ?_; rintro e w' ⟨rfl, rfl⟩)
      refine RoundIn.mono hR'.out ?_
      rintro e W3 (⟨rfl, hJ3, hk3⟩ | ⟨rfl, hJx3⟩)
      · gi_wp2
        gi_roundg k
        case rel => exact ⟨s.next, hJ3, by rw [HNX.out]; exact hk3.trans HB2.out⟩
        case measure => omega
      · gi_wp2
        refine bodyPost_ret (results_none rfl _ _ _) rfl ?_
        exact ⟨⟨_, rfl⟩, hJx3⟩
end Go.Proofs.YtbgikkeiapbghaaDoor
