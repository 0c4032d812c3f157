/- Layer 13: All and Of. -/
import Derived.Test.YtehlebeeoeghmaaShU
import Derived.Test.YtehlebeeoeghmaaShW
namespace Go.Proofs.Ytehlebeeoeghmaa
set_option linter.unusedVariables false
set_option linter.unusedSimpArgs false
open Go.RowKit Go.Lib Go.Sort
set_option maxRecDepth 100000
/-- Symbols and an error are returned. -/
def SymsE (ys : List SymR) (er : Int) (w : World) (e : Ending) (w' : World) : Prop := ∃ A c, e = .returned (.tuple #[.slice A ys.length c, .int .i64 er]) ∧ Syms w' A ys.length ys ∧ Below w.heap.size w w'
theorem shAllX (s : ShR) (h : rightSh s = false) : (if rightSh s = true then allS s.2.2 else []) = [] ∧ (if rightSh s = true then (0 : Int) else 1) = 1 := by rw [h]; exact ⟨rfl, rfl⟩
theorem shAllY (s : ShR) (h : rightSh s = true) : (if rightSh s = true then allS s.2.2 else []) = allS s.2.2 ∧ (if rightSh s = true then (0 : Int) else 1) = 0 := by rw [h]; exact ⟨rfl, rfl⟩
set_option maxHeartbeats 8000000 in
theorem shAll_any (v : Value) (s : ShR) (w : World) (h : ShAt w v s) (ho : OkSh s.2.2) :
    Calls Try.prog 17 #[v] w (SymsE (if rightSh s = true then allS s.2.2 else []) (if rightSh s = true then 0 else 1) w) := by
  obtain ⟨A, c, rfl, hs, hls⟩ := h
  obtain ⟨q, z, ls⟩ := s
  dsimp only at hs hls ho ⊢
  have W1 := Lib.hid ((Below.refl w.heap.size w).alloc (Nat.le_refl _) (.cells #[.int .i64 q, .int .i64 z, .slice A ls.length c] 24))
  have Q := Lib.hid (Box.new w 24 #[.int .i64 q, .int .i64 z, .slice A ls.length c])
  have HR := Lib.hid (fun wy (hb : Below w.heap.size w wy) => shRight_any (.agg #[.int .i64 q, .int .i64 z, .slice A ls.length c]) (q, z, ls) wy ⟨A, c, rfl, hs, Lsts.below hls hb⟩ ho)
  have HCc := Lib.hid (fun wy (hb : Below w.heap.size w wy) => concatS_any A c ls wy (Lsts.below hls hb) ho)
  have HLn := Lib.hid (show ls.flatten.length ≤ 1000000 by
    rw [flat_cnt]
    have h1 := cntS_bd ho ls.length
    have h2 := ho.n
    rw [List.take_length] at h1
    omega)
  obtain ⟨r0, r1, r2⟩ := Q.out.tri
  clear hls hs ho
  cases hr : rightSh (q, z, ls) with
  | false =>
    have HE := Lib.hid (shAllX _ hr)
    rw [hr] at HR
    clear hr
    go_enter Try.func17, Try.ntmps17
    go_wp2_with fail
    refine (HR.out _ W1.out).mono ?_
    rintro e w2 ⟨rfl, hb⟩
    have HB2 := Lib.hid (chain W1.out hb)
    clear hb
    go_wp2_with fail
    go_ret2
    exact ⟨none, 0, rfl, Recs.nil _ _, HB2.out⟩
  | true =>
    have HE := Lib.hid (shAllY _ hr)
    have HSo := Lib.hid (fun (zs : List SymR) (hp : zs.Perm ls.flatten) (hs : zs.Pairwise fun a b => ¬ b.1 < a.1) => sorted_all hr hp hs)
    obtain ⟨fs, hfs⟩ : ∃ x, x = ls.flatten := ⟨_, rfl⟩
    rw [← hfs] at HCc HLn HSo
    clear hfs
    rw [hr] at HR
    clear hr
    go_enter Try.func17, Try.ntmps17
    go_wp2_with fail
    refine (HR.out _ W1.out).mono ?_
    rintro e w2 ⟨rfl, hb⟩
    have HB2 := Lib.hid (chain W1.out hb)
    have HQ2 := Lib.hid (Q.out.keep hb)
    clear hb r0 r1 r2 HR W1 Q
    obtain ⟨r0, r1, r2⟩ := HQ2.out.tri
    have HCw := Lib.hid (HCc.out _ HB2.out)
    go_wp2_with fail
    refine HCw.out.mono ?_
    rintro e w3 ⟨A3, c3, rfl, hown, hb⟩
    have HO3 := Lib.hid hown
    have HB3 := Lib.hid (chain HB2.out hb)
    have HS2 := Lib.hid HB2.out.size
    clear hb hown HCw HCc r0 r1 r2 HQ2
    have hba : Below w3.heap.size w3 (w3.alloc (.cells #[numF] 61)) := (Below.refl _ _).alloc (Nat.le_refl _) _
    go_wp2_with fail
    refine (byNumber_any _).mono ?_
    rintro e w4 ⟨rfl, hw4⟩
    rw [← hw4] at hba
    have HBx := Lib.hid (show Box w4 w3.heap.size 61 #[numF] from hw4 ▸ Box.new w3 61 #[numF])
    have HO4 := Lib.hid (own_keepS HO3.out hba)
    have HB4 := Lib.hid (chain HB3.out hba)
    have HL4 := Lib.hid hba.size
    clear hba hw4
    cases A3 with
    | none =>
      have hn0 := (own_okS HO4.out).2.2 rfl
      have hnil : fs = [] := List.eq_nil_of_length_eq_zero hn0.1
      have hz2 : allS ls = [] := by
        have h9 := HSo.out [] (by rw [hnil]) List.Pairwise.nil
        exact h9.symm
      have HE2 := Lib.hid hz2
      rw [hnil]
      clear hnil hn0 hz2 HO3 HO4 HSo HLn
      go_wp2_with fail
      refine (sortS_none c3 none _ _).mono ?_
      rintro e w5 ⟨rfl, hw5⟩
      have HB5 := Lib.hid (show Below w.heap.size w w5 from hw5 ▸ HB4.out)
      clear hw5
      go_wp2_with fail
      go_ret2
      rw [HE2.out]
      exact ⟨none, c3, rfl, Recs.nil _ _, HB5.out⟩
    | some a3 =>
      obtain ⟨g, rfl, h1, h2, h3, h4, h5⟩ := own_partsS HO4.out rfl
      have hgl : g < w3.heap.size := (HO3.out.lt g rfl).2
      have HSr := Lib.hid (sortS_any g c3 w3.heap.size fs w4 h5 h4 HLn.out HBx.out (by omega))
      have HG := Lib.hid (Nat.le_trans HS2.out h3)
      clear h1 h2 h3 h4 h5 hgl HO3 HO4
      go_wp2_with fail
      refine HSr.out.mono ?_
      rintro e w5 ⟨rfl, zs, hp, hs, hh, hg5, hb⟩
      have hzs := HSo.out zs hp hs
      have hln := hp.length_eq
      have HY := Lib.hid (holds_syms hh hg5)
      have HB5 := Lib.hid (HB4.out.trans (hb.mono HG.out))
      rw [hzs] at HY hln
      clear hzs hh hp hs hb hg5 HSo HSr
      rw [← hln]
      generalize allS ls = ys at *
      clear hln HLn
      go_wp2_with fail
      go_ret2
      exact ⟨some ⟨g, 0, none⟩, c3, rfl, HY.out, HB5.out⟩
/-- A number's stripe. -/
theorem shOf_any (v : Value) (s : ShR) (id : Nat) (w : World) (h : ShAt w v s) (ho : OkSh s.2.2) :
    Calls Try.prog 16 #[v, .int .u64 (id : Int)] w fun e w' => e = .returned (.tuple #[.int .i64 (if rightSh s = true then ((id % s.2.2.length : Nat) : Int) else 0), .int .i64 (if rightSh s = true then 0 else 1)]) ∧ Below w.heap.size w w' := by
  obtain ⟨A, c, rfl, hs, hls⟩ := h
  obtain ⟨q, z, ls⟩ := s
  dsimp only at hs hls ho ⊢
  have W1 := Lib.hid ((Below.refl w.heap.size w).alloc (Nat.le_refl _) (.cells #[.int .i64 q, .int .i64 z, .slice A ls.length c] 24))
  have Q := Lib.hid (Box.new w 24 #[.int .i64 q, .int .i64 z, .slice A ls.length c])
  have HR := Lib.hid (fun wy (hb : Below w.heap.size w wy) => shRight_any (.agg #[.int .i64 q, .int .i64 z, .slice A ls.length c]) (q, z, ls) wy ⟨A, c, rfl, hs, Lsts.below hls hb⟩ ho)
  have hn := ho.n
  have HH := Lib.hid (show rightSh (q, z, ls) = true → 0 < ls.length from fun h => by
    have h9 : (inK (ls.length : Int) 1 16 && (inK z 0 64 && inK q 1 64) && decide ((cntS ls : Int) ≤ q) && rowsB ls.length z ls ls.length) = true := h
    simp only [Bool.and_eq_true] at h9
    have := h9.1.1.1; unfold inK at this; simp at this; omega)
  obtain ⟨r0, r1, r2⟩ := Q.out.tri
  clear hls hs ho
  cases hr : rightSh (q, z, ls) with
  | false =>
    rw [hr] at HR
    clear hr HH
    go_enter Try.func16, Try.ntmps16
    go_wp2_with fail
    refine (HR.out _ W1.out).mono ?_
    rintro e w2 ⟨rfl, hb⟩
    have HB2 := Lib.hid (chain W1.out hb)
    clear hb
    go_wp2_with fail
    go_ret2
    exact ⟨rfl, HB2.out⟩
  | true =>
    have h0 := HH.out hr
    rw [hr] at HR
    clear hr HH
    have HSt := Lib.hid (fun wy => stripe_any q z A c ls.length id wy h0 hn)
    go_enter Try.func16, Try.ntmps16
    go_wp2_with fail
    refine (HR.out _ W1.out).mono ?_
    rintro e w2 ⟨rfl, hb⟩
    have HB2 := Lib.hid (chain W1.out hb)
    have HQ2 := Lib.hid (Q.out.keep hb)
    clear hb r0 r1 r2 HR W1 Q
    obtain ⟨r0, r1, r2⟩ := HQ2.out.tri
    go_wp2_with fail
    refine (HSt.out _).mono ?_
    rintro e w3 ⟨rfl, hb⟩
    have HB3 := Lib.hid (chain HB2.out hb)
    clear hb
    go_wp2_with fail
    go_ret2
    exact ⟨rfl, HB3.out⟩
end Go.Proofs.Ytehlebeeoeghmaa
