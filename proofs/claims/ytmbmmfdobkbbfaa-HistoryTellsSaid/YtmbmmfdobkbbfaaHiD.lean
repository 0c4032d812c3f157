/- Layer 22: the reference's Right. -/
import Derived.Test.YtmbmmfdobkbbfaaHiC
import Derived.Deep.CutRange
namespace Go.Proofs.Ytmbmmfdobkbbfaa
set_option linter.unusedVariables false
set_option linter.unusedSimpArgs false
open Go.RowKit Go.Shelf
set_option maxRecDepth 100000
theorem okL_ixs (h : List EvR) (c : Int) (m : Nat) : okL h (ixs h c 0 m) = (List.range m).all fun i => !((evAt h i).c == c) || stepOk h (ixs h c 0 i) i := by
  induction m with
  | zero => rfl
  | succ m ih =>
    rw [List.range_succ, List.all_append, ← ih]
    by_cases hc : (evAt h m).c = c
    · rw [ixs_yes h c 0 m (Nat.zero_le _) hc, okL_snoc]
      simp only [List.all_cons, List.all_nil, Bool.and_true]
      rw [beq_iff_eq.2 hc]; rfl
    · rw [ixs_no h c 0 m hc]
      simp only [List.all_cons, List.all_nil, Bool.and_true]
      rw [beq_eq_false_iff_ne.2 hc]; simp
/-- Does an event fit behind those ahead of it? -/
def stepB (h : List EvR) (i : Nat) : Bool := decide (0 ≤ (evAt h i).c) && decide ((evAt h i).c ≤ 3) && stepOk h (ixs h (evAt h i).c 0 i) i
def stepsB (h : List EvR) (k : Nat) : Bool := (List.range k).all (stepB h)
theorem stepsB_snoc (h : List EvR) (k : Nat) : stepsB h (k + 1) = (stepsB h k && stepB h k) := by unfold stepsB; rw [List.range_succ, List.all_append]; simp
theorem stepsB_up (h : List EvR) {k m : Nat} (hkm : k ≤ m) (hk : stepsB h k = false) : stepsB h m = false := by
  obtain ⟨d, rfl⟩ := Nat.le.dest hkm
  unfold stepsB at *
  rw [List.range_add, List.all_append, hk]; rfl
theorem right_steps (h : List EvR) : rightH h = (stepsB h h.length && decide (h.length ≤ 48)) := by
  rw [Bool.eq_iff_iff]
  constructor
  · intro hr
    have h48 : h.length ≤ 48 := (rightH_parts hr).1
    rw [decide_eq_true h48, Bool.and_true]
    unfold stepsB
    rw [List.all_eq_true]
    intro i hi
    obtain ⟨c, h1, h2, h3⟩ := right_step hr i (List.mem_range.1 hi)
    unfold stepB
    rw [h2, h3]
    simp; omega
  · intro hh
    rw [Bool.and_eq_true, decide_eq_true_eq] at hh
    obtain ⟨h1, h2⟩ := hh
    unfold stepsB at h1
    rw [List.all_eq_true] at h1
    have hs := fun i (hi : i < h.length) => h1 i (List.mem_range.2 hi)
    unfold rightH
    rw [decide_eq_true h2, Bool.true_and, Bool.and_eq_true]
    constructor
    · unfold clientsB
      rw [List.all_eq_true]
      intro e he
      obtain ⟨i, hi, rfl⟩ := List.mem_iff_getElem.1 he
      have := hs i hi
      unfold stepB at this
      rw [Bool.and_eq_true] at this
      have := this.1
      simpa [List.getD, hi] using this
    · unfold allC
      rw [List.all_eq_true]
      intro c _
      unfold clientB
      rw [okL_ixs, List.all_eq_true]
      intro i hi
      have := hs i (List.mem_range.1 hi)
      unfold stepB at this
      rw [Bool.and_eq_true] at this
      by_cases hc : (evAt h i).c = (c : Int)
      · rw [hc] at this
        rw [this.2]; simp
      · rw [beq_eq_false_iff_ne.2 hc]; rfl
theorem last_some (h : List EvR) (c : Int) (i : Nat) (hp : (ixs h c 0 i).length % 2 = 1) : ∃ j : Nat, j < i ∧ lastI (ixs h c 0 i) = (j : Int) ∧ callOf h (ixs h c 0 i) = (evAt h j).call := by
  cases hg : (ixs h c 0 i).getLast? with
  | none =>
    rw [List.getLast?_eq_none_iff] at hg
    rw [hg] at hp; simp at hp
  | some j =>
    refine ⟨j, (ixs_lt h c 0 i (List.mem_of_getLast? hg)).2.1, ?_, ?_⟩
    · unfold lastI; rw [hg]
    · unfold callOf; rw [hg]
set_option maxHeartbeats 4000000 in
theorem refRight_any (A : Option Addr) (l cp : Nat) (h : List EvR) (w : World) (hH : Evs w A l h) (hlm : l ≤ 1000000) :
    Calls Try.prog 10 #[.slice A l cp] w fun e w' => e = .returned (.bool (rightH h)) ∧ Below w.heap.size w w' := by
  have HH := Lib.hid hH
  have HD := Lib.hid (right_steps h)
  rw [hH.len] at HD
  clear hH
  go_enter Try.func10, Try.ntmps10
  go_wp2_with fail
  go_loopw [8] (fun t wr => ∃ i : Nat, i ≤ l ∧ t = .int .i64 (i : Int) ∧ Hid (stepsB h i = true) ∧ Hid (Below w.heap.size w wr)) (fun t _ => l - (intOf t).toNat)
  case atStart => exact ⟨0, Nat.zero_le _, rfl, Lib.hid rfl, Lib.hid (Below.refl _ _)⟩
  case round =>
    obtain ⟨i, hi, rfl, HS, HB⟩ := hrel
    by_cases hlt : i < l
    · have hlt' : (i : Int) < (l : Int) := Int.ofNat_lt.2 hlt
      have hi5 : (i : Int) < 1000000 := by omega
      obtain ⟨b, off, rfl, hlb, d0, d1, d2, d3, d4, d5, d6, d7, d8, d9, d10, d11, d12⟩ := HH.out.cells HB.out i hlt
      obtain ⟨w5, rfl⟩ : ∃ w5 : World, w5 = wr := ⟨_, rfl⟩
      have HCnt := Lib.hid (fun (w' : World) hw => refCount_any (some ⟨b, off, none⟩) l cp h i hlt hlm w' hw)
      have GE := Lib.hid (Box.new w5 53 (evA (evAt h i)))
      have HB5 := Lib.hid (HB.out.alloc HB.out.size (.cells (evA (evAt h i)) 53))
      have HN := Lib.hid (show stepsB h (i + 1) = stepB h i by rw [stepsB_snoc, HS.out]; rfl)
      have HU := Lib.hid (show stepB h i = false → rightH h = false from fun hf => by rw [HD.out, stepsB_up h (show i + 1 ≤ l from hlt) (by rw [stepsB_snoc, hf]; simp)]; rfl)
      have HLa := Lib.hid (last_some h (evAt h i).c i)
      have hln := ixs_len h (evAt h i).c 0 i
      have HSt := Lib.hid (show stepB h i = (decide (0 ≤ (evAt h i).c) && decide ((evAt h i).c ≤ 3) && ((evAt h i).b == (((ixs h (evAt h i).c 0 i).length % 2 : Nat) : Int) && (evAt h i).n == (((ixs h (evAt h i).c 0 i).length / 2 : Nat) : Int) && (!((evAt h i).b == 1) || decide ((evAt h i).call = callOf h (ixs h (evAt h i).c 0 i))))) from rfl)
      clear HS
      generalize evAt h i = e at *
      go_wp2_with fail
      refine (HCnt.out _ (HH.out.below HB5.out)).mono ?_
      rintro e9 w6 ⟨rfl, hb⟩
      have GE := Lib.hid (GE.out.keep hb)
      have HB6 := Lib.hid (chain HB5.out hb)
      clear hb HCnt d0 d1 d2 d3 d4 d5 d6 d7 d8 d9 d10 d11 d12 HB HB5
      have hsz := GE.out.lt
      obtain ⟨ls, els⟩ : ∃ ls, lastI (ixs h e.c 0 i) = ls := ⟨_, rfl⟩
      obtain ⟨m, em⟩ : ∃ m, (ixs h e.c 0 i).length = m := ⟨_, rfl⟩
      have hA : ahA (ixs h e.c 0 i) = #[.int .i64 (m : Int), .int .i64 ls] := by rw [ahA, els, em]
      rw [hA]
      rw [em] at HLa HSt hln
      rw [els] at HLa
      clear els em hA
      have GA := Lib.hid (Box.new w6 56 (#[.int .i64 (m : Int), .int .i64 ls]))
      replace GE := Lib.hid (GE.out.alloc (.cells (#[.int .i64 (m : Int), .int .i64 ls]) 56))
      have HB7 := Lib.hid (HB6.out.alloc HB6.out.size (.cells (#[.int .i64 (m : Int), .int .i64 ls]) 56))
      clear HB6
      have f2 : ((m : Nat) : Int).tmod 2 = ((m % 2 : Nat) : Int) := by rw [Int.tmod_eq_emod_of_nonneg (by omega)]; omega
      have f3 : ((m : Nat) : Int).tdiv 2 = ((m / 2 : Nat) : Int) := by rw [Int.tdiv_eq_ediv_of_nonneg (by omega)]; omega
      have f4 : ((m : Nat) : Int) % 2 = ((m % 2 : Nat) : Int) := by omega
      have f5 : ((m : Nat) : Int) / 2 = ((m / 2 : Nat) : Int) := by omega
      have hm : ((m : Nat) : Int) < 1000000 := by omega
      have hm0 : (0 : Int) ≤ ((m : Nat) : Int) := by omega
      obtain ⟨d0, d1, d2, d3, d4, d5, d6, d7, d8, d9, -⟩ := GE.out.ev
      have g0 := GA.out.cell 0
      have g1 := GA.out.cell 1
      simp only [List.getElem?_toArray, List.getElem?_cons_zero, List.getElem?_cons_succ] at g0 g1
      generalize callOf h (ixs h e.c 0 i) = q at *
      have HLb := Lib.hid (show ((m % 2 : Nat) : Int) = 1 → ∃ j : Nat, j < i ∧ ls = (j : Int) ∧ q = (evAt h j).call from fun hh => HLa.out (by omega))
      clear HLa
      generalize ((m % 2 : Nat) : Int) = m2 at *
      generalize ((m / 2 : Nat) : Int) = mq at *
      generalize stepB h i = st at *
      clear GA hln
      by_cases c0 : 0 ≤ e.c
      · have c0' : decide (e.c < 0) = false := by simp; omega
        by_cases c3 : e.c ≤ 3
        · have c3' : decide ((3 : Int) < e.c) = false := by simp; omega
          by_cases e1 : e.b = m2
          · have t1 : (e.b != m2) = false := by simp [e1]
            by_cases e2 : e.n = mq
            · have t2 : (e.n != mq) = false := by simp [e2]
              by_cases e3 : e.b = 1
              · have t3 : (e.b == 1) = true := by simp [e3]
                obtain ⟨j, hji, rfl, hq⟩ := HLb.out (by rw [← e1]; exact e3)
                obtain ⟨b2, off2, he, hlb2, -, -, -, k3, k4, k5, k6, k7, k8, k9, -⟩ := HH.out.cells HB7.out j (by omega)
                injection he with he
                injection he with he1 he2
                subst he1 he2
                rw [← hq] at k3 k4 k5 k6 k7 k8 k9
                have hj1 : (j : Int) < (l : Int) := by omega
                have hj0 : (0 : Int) ≤ (j : Int) := by omega
                have hne : ∀ w, (binOp .neq 36 (.agg #[.int .i64 e.call.1, .int .u64 (e.call.2.1 : Nat), .int .i64 e.call.2.2.1, .int .i64 e.call.2.2.2.1, .int .i64 e.call.2.2.2.2.1, .int .u64 (e.call.2.2.2.2.2.1 : Nat), .string e.call.2.2.2.2.2.2]) (.agg #[.int .i64 q.1, .int .u64 (q.2.1 : Nat), .int .i64 q.2.2.1, .int .i64 q.2.2.2.1, .int .i64 q.2.2.2.2.1, .int .u64 (q.2.2.2.2.2.1 : Nat), .string q.2.2.2.2.2.2])).run Try.prog w = .ok (.bool (!decide (e.call = q))) w := fun w => callA_neq e.call q w
                by_cases e4 : e.call = q
                · have t4 : (!decide (e.call = q)) = false := by simp [e4]
                  have ES := Lib.hid (show stepsB h (i + 1) = true by rw [HN.out, HSt.out]; simp [c0, c3, e1, e2, e4])
                  simp only [t4] at hne
                  clear HSt HN HU e1 e2 e3 e4 hq
                  go_upto_region 7 with (fail)
                  go_quiet (fail)
                  go_wp2_with fail
                  go_roundw
                  case rel => exact ⟨i + 1, hlt, by go_num, ES, Lib.hid (bdN HB7.out _)⟩
                  case measure => simp [intOf] <;> omega
                · have t4 : (!decide (e.call = q)) = true := by simp [e4]
                  have ES := Lib.hid (HU.out (by rw [HSt.out]; simp [e3, e4]))
                  simp only [t4] at hne
                  clear HSt HN HU e1 e2 e3 e4 hq
                  go_upto_region 7 with (fail)
                  go_quiet (fail)
                  go_wp2_with fail
                  go_ret
                  exact ⟨by rw [ES.out]; rfl, bdN HB7.out _⟩
              · have t3 : (e.b == 1) = false := by simp [e3]
                have ES := Lib.hid (show stepsB h (i + 1) = true by rw [HN.out, HSt.out, t3]; simp [c0, c3, e1, e2])
                clear HSt HN HU e1 e2 e3 HLb
                go_upto_region 7 with (fail)
                go_quiet (fail)
                go_wp2_with fail
                go_roundw
                case rel => exact ⟨i + 1, hlt, by go_num, ES, Lib.hid (bdN HB7.out _)⟩
                case measure => simp [intOf] <;> omega
            · have t2 : (e.n != mq) = true := by simp [e2]
              have ES := Lib.hid (HU.out (by rw [HSt.out]; simp [e2]))
              clear HSt HN HU e1 e2 HLb
              go_wp2_with fail
              go_ret
              exact ⟨by rw [ES.out]; rfl, HB7.out⟩
          · have t1 : (e.b != m2) = true := by simp [e1]
            have ES := Lib.hid (HU.out (by rw [HSt.out]; simp [e1]))
            clear HSt HN HU e1 HLb
            go_wp2_with fail
            go_ret
            exact ⟨by rw [ES.out]; rfl, HB7.out⟩
        · have c3' : decide ((3 : Int) < e.c) = true := by simp; omega
          have ES := Lib.hid (HU.out (by rw [HSt.out]; simp [c3]))
          clear HSt HN HU HLb
          go_wp2_with fail
          go_ret
          exact ⟨by rw [ES.out]; rfl, HB7.out⟩
      · have c0' : decide (e.c < 0) = true := by simp; omega
        have ES := Lib.hid (HU.out (by rw [HSt.out]; simp [c0]))
        clear HSt HN HU HLb
        go_wp2_with fail
        go_ret
        exact ⟨by rw [ES.out]; rfl, HB7.out⟩
    · obtain rfl : i = l := by omega
      have hlt' : ¬ (i : Int) < (i : Int) := Int.lt_irrefl _
      have HE := Lib.hid (show rightH h = decide ((i : Int) ≤ 48) by rw [HD.out, HS.out, Bool.true_and]; exact decide_eq_decide.2 (by omega))
      clear HD HS
      go_wp2_with fail
      go_ret
      exact ⟨by rw [HE.out]; rfl, HB.out⟩
end Go.Proofs.Ytmbmmfdobkbbfaa
