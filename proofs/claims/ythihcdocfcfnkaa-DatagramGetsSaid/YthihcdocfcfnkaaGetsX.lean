/- DatagramGets: the walk. -/
import Derived.Test.YthihcdocfcfnkaaDg9
import Derived.Test.YthihcdocfcfnkaaOpenD
import Derived.Deep.QuietTactic
import Derived.BigQuiet
namespace Go.Proofs.Ythihcdocfcfnkaa
open Go.RowKit
set_option maxRecDepth 100000 in
set_option maxHeartbeats 4000000 in
theorem gets_case (s : ByteArray) (hs : s.size ≤ maxLen) (w : World) (o k z i : Int) (x : ByteArray) (b : Bool) (n : Int) (hn : b = true ∧ n = 0 ∨ b = false ∧ n = 5)
    (H1 : ∀ W, Calls Try.prog 24 #[.string (cutD s)] W fun e w' => e = .returned (.tuple #[dgV o k z i x, .int .i64 n]) ∧ Below W.heap.size W w')
    (H2 : ∀ W, Calls Try.prog 25 #[.string (cutD s)] W fun e w' => e = .returned (rV o k z i x b) ∧ Below W.heap.size W w') :
    Calls Try.prog 8 #[.string s] w fun e w' => e = .returned (.bool true) ∧ Below w.heap.size w w' := by
  have HC := Lib.hid (cutD_any s hs)
  have HG1 := Lib.hid H1
  have HG2 := Lib.hid H2
  have HN := Lib.hid hn
  clear H1 H2 hn
  generalize cutD s = t at *
  go_enter Try.func8, Try.ntmps8
  go_wp2_with fail
  refine (HC.out _).mono ?_
  rintro e w1 ⟨rfl, rfl⟩
  go_wp2_with fail
  refine (HG1.out _).mono ?_
  rintro e w2 ⟨rfl, hb⟩
  have B2 := Lib.hid hb
  clear hb HG1
  have D2 := Lib.hid (Box.new w2 39 #[.int .u64 o, .int .i64 k, .int .i64 z, .int .u64 i, .string x])
  have B2 := Lib.hid (B2.out.alloc B2.out.size (.cells #[.int .u64 o, .int .i64 k, .int .i64 z, .int .u64 i, .string x] 39))
  go_wp2_with fail
  refine (HG2.out _).mono ?_
  rintro e w3 ⟨rfl, hb⟩
  have D3 := Lib.hid (D2.out.keep hb)
  have B3 := Lib.hid (chain B2.out hb)
  clear hb HG2 D2 B2
  have R4 := Lib.hid (Box.new w3 46 #[.int .u64 o, .int .i64 k, .int .i64 z, .int .u64 i, .string x, .bool b])
  have D4 := Lib.hid (D3.out.alloc (.cells #[.int .u64 o, .int .i64 k, .int .i64 z, .int .u64 i, .string x, .bool b] 46))
  have B4 := Lib.hid (B3.out.alloc B3.out.size (.cells #[.int .u64 o, .int .i64 k, .int .i64 z, .int .u64 i, .string x, .bool b] 46))
  go_wp2_with fail
  refine (alive11_any _).mono ?_
  rintro e w4 ⟨rfl, hb⟩
  have D5 := Lib.hid (D4.out.keep hb)
  have R5 := Lib.hid (R4.out.keep hb)
  have B5 := Lib.hid (chain B4.out hb)
  clear hb D4 R4 B4 D3 B3
  obtain ⟨⟨k0, k1, k2, k3, k4⟩, -⟩ := D5.out.ten
  obtain ⟨⟨m0, m1, m2, m3, m4, m5⟩, -⟩ := R5.out.twelve
  rcases HN.out with ⟨rfl, rfl⟩ | ⟨rfl, rfl⟩
  · go_wp2_with fail
    go_ret
    exact ⟨rfl, B5.out⟩
  · go_wp2_with fail
    go_ret
    exact ⟨rfl, B5.out⟩
theorem gets_walk (s : ByteArray) (hs : s.size ≤ maxLen) (w : World) : Calls Try.prog 8 #[.string s] w fun e w' => e = .returned (.bool true) ∧ Below w.heap.size w w' := by
  have hc : (cutD s).size ≤ 1000 := Nat.le_trans (cutD_size s) (by omega)
  by_cases h : getOk (cutD s)
  · refine gets_case s hs w _ _ _ _ _ true 0 (.inl ⟨rfl, rfl⟩) (fun W => (get_any _ hc W).mono fun e w' h' => ⟨h'.1 h, h'.2.2⟩) (fun W => (refGet_any _ hc W).mono fun e w' h' => ⟨h'.1 h, h'.2.2⟩)
  · refine gets_case s hs w _ _ _ _ _ false 5 (.inr ⟨rfl, rfl⟩) (fun W => (get_any _ hc W).mono fun e w' h' => ⟨h'.2.1 h, h'.2.2⟩) (fun W => (refGet_any _ hc W).mono fun e w' h' => ⟨h'.2.1 h, h'.2.2⟩)
end Go.Proofs.Ythihcdocfcfnkaa
