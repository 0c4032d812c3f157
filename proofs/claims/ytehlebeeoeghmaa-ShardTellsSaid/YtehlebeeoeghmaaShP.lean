/- Layer 13: slices.Grow and slices.Concat at symbols. -/
import Derived.Test.YtehlebeeoeghmaaShM
import Derived.Test.YtehlebeeoeghmaaAppO
import Derived.Lib.AppendZeros
namespace Go.Proofs.Ytehlebeeoeghmaa
set_option linter.unusedVariables false
set_option linter.unusedSimpArgs false
open Go.RowKit Go.Lib
set_option maxRecDepth 100000
theorem own_roomS {w : World} {e : TypeId} {cs : Array Value} {base c : Nat} (hb : base ≤ w.heap.size) (hc : cs.size = c * 2) (hm : c ≤ maxLen) : (w.alloc (.cells cs e)).ownsRow base e 2 (.slice (some ⟨w.heap.size, 0, none⟩) 0 c) 0 [] :=
  ⟨rfl, .inr ⟨w.heap.size, c, cs, rfl, hb, Box.new w e cs, Nat.zero_le _, hm, hc, by simp⟩⟩
theorem zeroCells_sizeS (z : Array Value) (h : z.size = 2) (n : Nat) : (Builtin.zeroCells z n).size = n * 2 := by simp [Builtin.zeroCells, h]
set_option maxHeartbeats 4000000 in
theorem growS_any (n : Nat) (hn : n ≤ 200000) (w : World) : Calls Try.prog 47 #[.slice none 0 0, .int .i64 (n : Int)] w fun e w' => ∃ A c, e = .returned (.slice A 0 c) ∧ w'.ownsRow w.heap.size 27 2 (.slice A 0 c) 0 [] ∧ Below w.heap.size w w' := by
  rcases Nat.eq_zero_or_pos n with h0 | h0
  · subst h0
    go_enter Try.func47, Try.ntmps47
    go_wp2_with fail
    go_ret
    exact ⟨none, 0, rfl, World.ownsRow_nil _ _ _ _, Below.refl _ _⟩
  · obtain ⟨i0, hi, hz0, hz1, hz2⟩ := info_parts sym13_info
    have hr := Lib.run_append_nil_zeros (P := Try.prog) w 43 3 43 27 i0 (.agg #[.int .u64 0, .string ⟨#[]⟩]) .i64 .i64 Try.underlying43 Try.underlying3 hi hz0 n h0 (by rw [hz1]; decide) (by omega) (by rw [hz2]; omega)
    have hsz : ∀ k, (Builtin.zeroCells (Value.agg #[.int .u64 0, .string ⟨#[]⟩]).cells k).size = k * 2 := zeroCells_sizeS _ rfl
    have hge := grownCap_ge w n 0 27
    have hle := grownCap_le_maxLen w n 0 27 (by unfold maxLen; omega)
    obtain ⟨G, hG⟩ : ∃ G, G = grownCap w n 0 27 := ⟨_, rfl⟩
    rw [← hG] at hr hge hle
    obtain ⟨cs, hcs⟩ : ∃ cs, cs = Builtin.zeroCells (Value.agg #[.int .u64 0, .string ⟨#[]⟩]).cells n ++ Builtin.zeroCells (Value.agg #[.int .u64 0, .string ⟨#[]⟩]).cells (G - n) := ⟨_, rfl⟩
    have hcz : cs.size = G * 2 := by rw [hcs, Array.size_append, hsz, hsz]; omega
    rw [← hcs] at hr
    clear hcs hsz hG
    have h1 : ¬ ((n : Int) < 0) := by omega
    have h4 : (n : Int) > 0 := by omega
    have h5 : IntKind.i64.wrap (n : Int) = n := IntWalk.i64_in _ (by omega)
    have HO := Lib.hid (own_roomS (w := w.drew) (e := 27) (cs := cs) (base := w.heap.size) (Nat.le_refl _) hcz hle)
    have HB := Lib.hid (show Below w.heap.size w (w.drew.alloc (.cells cs 27)) from ((Below.refl w.heap.size w).drew).alloc (Nat.le_refl _) _)
    have hG0 : (0 : Int) ≤ (G : Int) := by omega
    clear hi hz0 hz1 hz2
    unfold maxLen at hle
    go_enter Try.func47, Try.ntmps47
    go_wp2_with (at_builtin; refine Lib.wpList_append_run _ rfl _ _ _ _ rfl _ _ rfl rfl _ _ hr ?_)
    go_ret
    exact ⟨_, _, rfl, HO.out, HB.out⟩
def flT (ls : List (List SymR)) (i : Nat) : List SymR := (ls.take i).flatten
theorem flT_snoc (ls : List (List SymR)) (i : Nat) (h : i < ls.length) : flT ls (i + 1) = flT ls i ++ ls.getD i [] := by
  have e : ls.take (i + 1) = ls.take i ++ [ls.getD i []] := take_snocD ls i h
  unfold flT
  rw [e, List.flatten_append]
  simp
theorem flT_len (ls : List (List SymR)) (i : Nat) : (flT ls i).length = cntS (ls.take i) := by unfold flT cntS; rw [List.length_flatten]
theorem flT_all (ls : List (List SymR)) : flT ls ls.length = ls.flatten := by unfold flT; rw [List.take_length]
set_option maxHeartbeats 8000000 in
theorem concatS_any (A : Option Addr) (c : Nat) (ls : List (List SymR)) (w : World) (h : Lsts w A ls.length ls) (ho : OkSh ls) :
    Calls Try.prog 39 #[.slice A ls.length c] w (SymsOwn ls.flatten w) := by
  obtain ⟨i0, hi, hz0, hz1, hz2⟩ := info_parts sym13_info
  have HI := Lib.hid hi
  have HZ0 := Lib.hid hz0
  have HZ1 := Lib.hid hz1
  have HZ2 := Lib.hid hz2
  have HL := Lib.hid h
  have HO := Lib.hid ho
  have hn := ho.n
  have HFl := Lib.hid (flT_all ls)
  have HCn := Lib.hid (show (cntS (ls.take ls.length)) = cntS ls by rw [List.take_length])
  have hcn : cntS ls ≤ 100000 := by have := cntS_bd ho ls.length; rw [List.take_length] at this; omega
  clear hi hz0 hz1 hz2 h ho
  go_enter Try.func39, Try.ntmps39
  go_wp2_with fail
  go_loopw [3, 11] (fun sz t wr => ∃ i : Nat, i ≤ ls.length ∧ sz = .int .i64 ((cntS (ls.take i) : Nat) : Int) ∧ t = .int .i64 (i : Int) ∧ Hid (Below w.heap.size w wr)) (fun _ t _ => ls.length - (Go.RowKit.intOf t).toNat)
  case atStart => exact ⟨0, Nat.zero_le _, rfl, rfl, Lib.hid (Below.refl _ _)⟩
  case round =>
    obtain ⟨i, hi, rfl, rfl, HB⟩ := hrel
    by_cases hlt : i < ls.length
    · have hlt' : (i : Int) < (ls.length : Int) := Int.ofNat_lt.2 hlt
      obtain ⟨b, off, B, l, d, rfl, hb, x0, -, hS⟩ := RRow.at HL.out i hlt
      have x0 := (HB.out.cell (p := ⟨b, off + i, none⟩) hb).trans x0
      have hl : (ls.getD i []).length = l := hS.1
      have h1 := cntS_bd HO.out i
      have h2 := HO.out.r i
      have HN := Lib.hid (cntS_snoc ls i hlt)
      have hw : IntKind.i64.wrap (((cntS (ls.take i) : Nat) : Int) + (l : Int)) = ((cntS (ls.take i) + l : Nat) : Int) := by rw [IntWalk.i64_in _ (by omega)]; push_cast; rfl
      generalize cntS (ls.take i) = q at *
      have hq0 : ¬ (((q + l : Nat) : Int) < 0) := by omega
      clear hS
      go_wp2_with fail
      go_roundw
      case rel => exact ⟨i + 1, hlt, by rw [HN.out, hl]; push_cast; rfl, by go_num, HB⟩
      case measure => simp [Go.RowKit.intOf] <;> omega
    · obtain rfl : i = ls.length := Nat.le_antisymm hi (Nat.le_of_not_lt hlt)
      have hlt' : ¬ (ls.length : Int) < (ls.length : Int) := Int.lt_irrefl _
      rw [HCn.out]
      go_wp2_with fail
      refine (growS_any (cntS ls) (by omega) _).mono ?_
      rintro e w2 ⟨D, q, rfl, ho, hb⟩
      have HOw := Lib.hid (own_low2 ho HB.out.size)
      have HB2 := Lib.hid (chain HB.out hb)
      clear ho hb HB
      go_wp2_with fail
      go_loopw [6, 27] (fun v t wr => ∃ i : Nat, i ≤ ls.length ∧ t = .int .i64 (i : Int) ∧ Hid (wr.ownsRow w.heap.size 27 2 v (flT ls i).length ((flT ls i).flatMap encS)) ∧ Hid (Below w.heap.size w wr)) (fun _ t _ => ls.length - (Go.RowKit.intOf t).toNat)
      case atStart => exact ⟨0, Nat.zero_le _, rfl, Lib.hid HOw.out, HB2⟩
      case round =>
        clear HOw HB2
        obtain ⟨i, hi, rfl, HW, HB⟩ := hrel
        by_cases hlt : i < ls.length
        · have hlt' : (i : Int) < (ls.length : Int) := Int.ofNat_lt.2 hlt
          obtain ⟨b, off, B, l, d, rfl, hb, x0, hk, hS⟩ := RRow.at HL.out i hlt
          have x0 := (HB.out.cell (p := ⟨b, off + i, none⟩) hb).trans x0
          have HS := Lib.hid (Recs.below hS HB.out)
          have HK := Lib.hid (show B = none → l = 0 from fun e => (hk.2.2 e).1)
          have hl : (ls.getD i []).length = l := hS.1
          have h1 := cntS_bd HO.out i
          have h2 := HO.out.r i
          rw [← flT_len] at h1
          have HN := Lib.hid (flT_snoc ls i hlt)
          have N2 := Lib.hid (fun k hk => (HW.out.lt k hk).1)
          generalize ls.getD i [] = xs at *
          generalize flT ls i = fs at *
          clear hS hk
          go_wp2_with (at_builtin; go_loud (refine wpList_opt rfl _ _ 43 rfl w.heap.size 27 i0 (.agg #[.int .u64 0, .string ⟨#[]⟩]) 2 24 Try.underlying43 HI.out HZ0.out HZ1.out HZ2.out rfl (by decide) _ _ _ rfl HW.out B l d (xs.flatMap encS) rfl (by rw [flat_len encS_len, hl]) HK.out (Recs.news HS.out encS_len (by decide)) (encs_one xs) (by simp only [maxLen]; omega) (by omega) HB.out.size ?_); intro v' w3 ho3 hg3; have HC3 := Lib.hid (Below.grown HB.out hg3 HB.out.size N2.out); have HO3 := Lib.hid ho3; clear ho3 hg3)
          go_roundw
          case rel =>
            refine ⟨i + 1, hlt, by go_num, Lib.hid ?_, HC3⟩
            have h9 := HO3.out
            rw [HN.out, List.length_append, List.flatMap_append, hl]
            exact h9
          case measure => simp [Go.RowKit.intOf] <;> omega
        · obtain rfl : i = ls.length := Nat.le_antisymm hi (Nat.le_of_not_lt hlt)
          have hlt' : ¬ (ls.length : Int) < (ls.length : Int) := Int.lt_irrefl _
          have HW2 := HW.out
          rw [HFl.out] at HW2
          obtain ⟨A', c', rfl⟩ := own_formS HW2
          have HW3 := Lib.hid HW2
          clear HW HW2
          generalize ls.flatten = fs at *
          go_wp2_with fail
          go_ret
          exact ⟨A', c', rfl, HW3.out, HB.out⟩
end Go.Proofs.Ytehlebeeoeghmaa
