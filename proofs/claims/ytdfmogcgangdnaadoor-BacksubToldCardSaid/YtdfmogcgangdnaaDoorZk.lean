/- Parts: Ms5, BtA, BtX, Open, OpenT. -/
import Derived.Test.YtdfmogcgangdnaaDoorZj
import Derived.BigQuiet
import Derived.Deep.QuietTactic
import Derived.Deep.RegionLaw
import Derived.Deep.RegionWith
import Derived.Lib.SmallJoins
import Derived.OpenShut
import Derived.ProofKit
import Derived.SliceStrings
namespace Go.Proofs.YtdfmogcgangdnaaDoor
section
/- Contracts of layer 3: Apply, the reference's Apply; law 03's blocks; the reference's Texts. -/
set_option linter.unusedVariables false
set_option linter.unusedSimpArgs false
open Go.RowKit
theorem sumS_size (n : Int) (ss : List ByteArray) : (sumS n ss).size ≤ 64 := by
  unfold sumS
  split
  · rename_i h
    simp only [okS, Bool.and_eq_true] at h
    have := (smb_iff n).1 h.1.1
    show (sumL n.toNat ss).toArray.size ≤ 64
    rw [List.size_toArray, sumL_length]; omega
  · exact Nat.zero_le _
theorem pickS_size (n : Int) (ss : List ByteArray) (N : Int) (us : List Nat) : (pickS n ss N us).size ≤ 64 := by
  unfold pickS
  split
  · exact sumS_size _ _
  · exact Nat.zero_le _
/-- What Apply tells. -/
def appB (n N : Int) (ms : List (Int × List Nat)) (ss : List ByteArray) : Bool := rightM N ms && (okS n ss && (ss.length : Int) == N)
def appE (n N : Int) (ms : List (Int × List Nat)) (ss : List ByteArray) : Int := if rightM N ms then if okS n ss then if (ss.length : Int) == N then 0 else 2 else 2 else 1
def appF (n N : Int) (ms : List (Int × List Nat)) (ss : List ByteArray) (i : Nat) : ByteArray := pickS n ss N (ms.getD i (0, [])).2
def appR (n N : Int) (ms : List (Int × List Nat)) (ss : List ByteArray) : List ByteArray := (List.range ms.length).map (appF n N ms ss)
def appL (n N : Int) (ms : List (Int × List Nat)) (ss : List ByteArray) : List ByteArray := if appB n N ms ss then appR n N ms ss else []
theorem appR_len (n N : Int) (ms : List (Int × List Nat)) (ss : List ByteArray) : (appR n N ms ss).length = ms.length := by simp [appR]
theorem appR_at (n N : Int) (ms : List (Int × List Nat)) (ss : List ByteArray) (i : Nat) (h : i < ms.length) : (appR n N ms ss).getD i ByteArray.empty = appF n N ms ss i := by simp [appR, List.getD, h]
theorem appR_le (n N : Int) (ms : List (Int × List Nat)) (ss : List ByteArray) (i : Nat) : ((appR n N ms ss).getD i ByteArray.empty).size ≤ maxLen := by
  by_cases h : i < ms.length
  · rw [appR_at n N ms ss i h]
    have := pickS_size n ss N (ms.getD i (0, [])).2
    unfold appF maxLen; omega
  · have e : (appR n N ms ss)[i]? = none := List.getElem?_eq_none (by rw [appR_len]; omega)
    simp [List.getD, e, maxLen]
/-- Texts as cells. -/
def strCells (ss : List ByteArray) : Array Value := (ss.map Value.string).toArray
theorem strCells_get (ss : List ByteArray) (j : Nat) (h : j < ss.length) : (strCells ss)[j]? = some (.string (ss.getD j ByteArray.empty)) := by simp [strCells, List.getD, h]
theorem strCells_set (ss : List ByteArray) (k : Nat) (s : ByteArray) : (strCells ss).setIfInBounds k (.string s) = strCells (ss.set k s) := by simp [strCells, List.map_set]
theorem makeStr_any (n : Nat) (hn : n ≤ 1000000) (w : World) :
    (Instr.makeSlice 44 (.int .i64 (n : Int)) (.int .i64 (n : Int))).run Tryd.prog w = .ok (.slice (some ⟨w.heap.size, 0, none⟩) n n) (w.alloc (.cells (strCells (List.replicate n ⟨#[]⟩)) 9)) := by
  obtain ⟨i0, hi, hz0, hz1, hz2⟩ := info_parts string_info
  have hr := run_make (P := Tryd.prog) w _ _ i0 _ Tryd.underlying44 hi hz0 .i64 .i64 n n (by omega) (by omega) (by rw [hz2]; omega) (by omega)
  simp only [Int.toNat_natCast, hz1, Nat.mul_one] at hr
  rw [hr]
  have : madeCells (Value.string ⟨#[]⟩).cells n = strCells (List.replicate n ⟨#[]⟩) := by
    apply Array.toList_inj.1
    have := toList_madeCells_one (Value.string ⟨#[]⟩) n
    simpa [Value.cells, strCells] using this
  rw [this]
theorem Box.texts {w : World} {g : Nat} {t : TypeId} {ss : List ByteArray} (h : Box w g t (strCells ss)) (hz : ∀ j, (ss.getD j ByteArray.empty).size ≤ maxLen) : Texts w (some ⟨g, 0, none⟩) ss.length ss :=
  ⟨rfl, hz, fun _ => ⟨g, 0, rfl, h.lt, fun j hj => by rw [Nat.zero_add, h.cell j, strCells_get ss j hj]⟩⟩
/-- What Apply hands back. -/
def AppOut (ls : List ByteArray) (er : Int) (w : World) (e : Ending) (w' : World) : Prop :=
  ∃ A c, e = .returned (.tuple #[.slice A ls.length c, .int .i64 er]) ∧ ls.length ≤ c ∧ c ≤ maxLen ∧ Texts w' A ls.length ls ∧ Below w.heap.size w w'
set_option maxHeartbeats 4000000 in
theorem apply_any (n N : Int) (A : Option Addr) (l c lo : Nat) (ms : List (Int × List Nat)) (L : Option Addr) (k d : Nat) (ss : List ByteArray) (w : World) (hm : MatAt w lo A l ms) (hl : l ≤ maxLen) (ht : Texts w L k ss) (hkd : k ≤ d) (hd : d ≤ maxLen) (hT : TabAt w 0) :
    Calls Tryd.prog 16 #[.agg #[.int .i64 N, .slice A l c], .int .i64 n, .slice L k d] w (AppOut (appL n N ms ss) (appE n N ms ss) w) := by
  have Q0 := Lib.hid (Box.new w 24 #[.int .i64 N, .slice A l c])
  have HW := Lib.hid (show Below w.heap.size w (w.alloc (.cells #[.int .i64 N, .slice A l c] 24)) from (Below.refl _ _).alloc (Nat.le_refl _) _)
  have HM := Lib.hid hm
  have HTx := Lib.hid ht
  have HT := Lib.hid hT
  have HL := Lib.hid hm.1
  have HK := Lib.hid ht.1
  have HR := Lib.hid (mright_any N A l c lo ms _ (hm.below HW.out) hl)
  clear hm ht hT
  obtain ⟨r0, r1, -, -⟩ := Q0.out.two
  cases h : rightM N ms with
  | false =>
    have e2 : appL n N ms ss = [] := by simp [appL, appB, h]
    have e3 : appE n N ms ss = 1 := by simp [appE, h]
    rw [e2, e3]
    rw [h] at HR
    clear e2 e3 h
    go_enter Tryd.func16, Tryd.ntmps16
    go_wp2_with fail
    refine HR.out.mono ?_
    rintro e w1 ⟨rfl, hb⟩
    have B := Lib.hid (chainN HW.out HW.out.size hb)
    clear hb r0 r1
    go_wp2
    go_ret2
    exact ⟨none, 0, rfl, Nat.le_refl _, Nat.zero_le _, Texts.nil _ _, B.out⟩
  | true =>
    have HR1 := Lib.hid h
    rw [h] at HR
    have HSum := Lib.hid (fun W (hW : Below w.heap.size w W) => sum_any n L k d ss W (HTx.out.mono (Nat.le_refl _) hW) hkd hd)
    cases h2 : okS n ss with
    | false =>
      have e2 : appL n N ms ss = [] := by simp [appL, appB, h2]
      have e3 : appE n N ms ss = 2 := by simp [appE, h, h2]
      have e4 := Lib.hid (sumE_no h2)
      rw [e2, e3]
      clear e2 e3 h h2
      go_enter Tryd.func16, Tryd.ntmps16
      go_wp2_with fail
      refine HR.out.mono ?_
      rintro e w1 ⟨rfl, hb⟩
      have B := Lib.hid (chainN HW.out HW.out.size hb)
      clear hb r0 r1
      go_wp2_with fail
      refine (HSum.out _ B.out).mono ?_
      rw [e4.out]
      rintro e w2 ⟨rfl, hb⟩
      have B := Lib.hid (chainN B.out B.out.size hb)
      clear hb
      go_wp2
      go_ret2
      exact ⟨none, 0, rfl, Nat.le_refl _, Nat.zero_le _, Texts.nil _ _, B.out⟩
    | true =>
      have e4 := Lib.hid (sumE_ok h2)
      have hbd := rightM_bd h
      have hl64 := hbd.2.2
      rw [HL.out] at hl64
      unfold maxLen at hd
      by_cases hN : (k : Int) = N
      · have e1 : appB n N ms ss = true := by simp [appB, h, h2, HK.out, hN]
        have e2 : appL n N ms ss = appR n N ms ss := by simp [appL, e1]
        have e3 : appE n N ms ss = 0 := by simp [appE, h, h2, HK.out, hN]
        rw [e2, e3]
        have t1 : ((k : Int) != N) = false := by simpa using hN
        have HRL := Lib.hid (show (appR n N ms ss).length = l by rw [appR_len, HL.out])
        clear e1 e2 e3 h h2 hbd hN
        go_enter Tryd.func16, Tryd.ntmps16
        go_wp2_with fail
        refine HR.out.mono ?_
        rintro e w1 ⟨rfl, hb⟩
        have P := Lib.hid (Q0.out.keep hb)
        have B := Lib.hid (chainN HW.out HW.out.size hb)
        clear hb r0 r1
        go_wp2_with fail
        refine (HSum.out _ B.out).mono ?_
        rw [e4.out]
        rintro e w2 ⟨rfl, hb⟩
        have P := Lib.hid (P.out.keep hb)
        have B := Lib.hid (chainN B.out B.out.size hb)
        clear hb
        obtain ⟨r0, r1, -, -⟩ := P.out.two
        have mk := makeStr_any l (by omega) w2
        have BX := Lib.hid (Box.new w2 9 (strCells (List.replicate l ⟨#[]⟩)))
        have P2 := Lib.hid (P.out.alloc (.cells (strCells (List.replicate l ⟨#[]⟩)) 9))
        have B2 := Lib.hid (B.out.alloc B.out.size (.cells (strCells (List.replicate l ⟨#[]⟩)) 9))
        have hws : w.heap.size < w2.heap.size := P.out.lt
        obtain ⟨u0, u1, -, -⟩ := P2.out.two
        go_wp2_with fail
        generalize w2.alloc (.cells (strCells (List.replicate l ⟨#[]⟩)) 9) = W at *
        clear mk r0 r1 u0 u1
        go_loopw [37] (fun t wr => ∃ (i : Nat) (ts : List ByteArray), i ≤ l ∧ t = .int .i64 i ∧ ts.length = l ∧ Box wr w2.heap.size 9 (strCells ts) ∧ Hid (∀ j, j < i → ts.getD j ByteArray.empty = appF n N ms ss j) ∧ Below w.heap.size w wr) (fun t _ => l - (intOf t).toNat)
        case atStart => exact ⟨0, _, by omega, rfl, by simp, BX.out, Lib.hid (fun j hj => absurd hj (Nat.not_lt_zero _)), B2.out⟩
        case round =>
          obtain ⟨i, ts, hi, rfl, hts, hbx, HF, hbel⟩ := hrel
          have R := Lib.hid hbx
          have HB := Lib.hid hbel
          have HTL := Lib.hid hts
          clear hbx hbel hts BX P2 B2
          by_cases hlt : i < l
          · have hlt' : (i : Int) < (l : Int) := by omega
            obtain ⟨g1, o1, B1, k1, e1, rfl, hg1, x1, y1, s1, u1⟩ := (HM.out.mono (Nat.le_refl _) HB.out).at i hlt
            obtain ⟨hN, hrr⟩ := rightM_at HR1.out i (by rw [HL.out]; exact hlt)
            rw [hN] at x1
            have HFI := Lib.hid (show appF n N ms ss i = pickS n ss N (ms.getD i (0, [])).2 from rfl)
            have R1 := Lib.hid (R.out.alloc (.cells #[.int .i64 N, .slice B1 k1 e1] 27))
            have HB1 := Lib.hid (HB.out.alloc HB.out.size (.cells #[.int .i64 N, .slice B1 k1 e1] 27))
            have HP := Lib.hid (pick_any n L k d ss N B1 k1 e1 (ms.getD i (0, [])).2 _ (HTx.out.mono (Nat.le_refl _) HB1.out) hkd (by unfold maxLen; exact hd) (u1.alloc (.cells #[.int .i64 N, .slice B1 k1 e1] 27)) (HT.out.below HB1.out))
            obtain ⟨p0, p1, -, -⟩ := (Box.new wr 27 #[.int .i64 N, .slice B1 k1 e1]).two
            clear hN hrr s1 u1
            generalize pickS n ss N (ms.getD i (0, [])).2 = s at *
            generalize pickE n ss N (ms.getD i (0, [])).2 = er at *
            go_wp2_with fail
            refine HP.out.mono ?_
            rintro e x2 ⟨rfl, hb⟩
            have R2 := Lib.hid (R1.out.keep hb)
            have HB2 := Lib.hid (chainN HB1.out HB1.out.size hb)
            clear hb p0 p1
            have c0 : x2.cell? ⟨w2.heap.size, i, none⟩ = some (.string (ts.getD i ByteArray.empty)) := by rw [R2.out.cell, strCells_get ts i (by rw [HTL.out]; exact hlt)]
            have f0 := R2.out.free i
            go_wp2_with fail
            go_roundw
            case rel =>
              refine ⟨i + 1, ts.set i s, by omega, by go_num, by simp [HTL.out], ?_, Lib.hid (fun j hj => ?_), HB2.out.setCell (p := ⟨w2.heap.size, i, none⟩) (by simp; omega) _⟩
              · rw [← strCells_set]; exact R2.out.put i _
              · by_cases hji : j = i
                · subst hji
                  rw [HFI.out]; simp [List.getD, HTL.out, hlt]
                · have := HF.out j (by omega)
                  simp only [List.getD] at this ⊢
                  rw [List.getElem?_set_ne (by omega)]; exact this
            case measure => simp [intOf] <;> omega
          · obtain rfl : l = i := by omega
            have hlt' : ¬ (l : Int) < (l : Int) := by omega
            have HE := Lib.hid (show ts = appR n N ms ss by
              apply List.ext_getElem
              · rw [HTL.out, HRL.out]
              · intro j h1 h2
                have h1' : j < l := by rw [HTL.out] at h1; exact h1
                have := HF.out j h1'
                rw [← appR_at n N ms ss j (by rw [HL.out]; exact h1')] at this
                simpa [List.getD, h1, h2] using this)
            have HX := Lib.hid (R.out.texts (by rw [HE.out]; exact appR_le n N ms ss))
            rw [HTL.out, HE.out] at HX
            go_wp2
            go_ret2
            exact ⟨some ⟨w2.heap.size, 0, none⟩, l, by rw [HRL.out]; rfl, by rw [HRL.out]; exact Nat.le_refl _, by unfold maxLen; omega, by rw [HRL.out]; exact HX.out, HB.out⟩
      · have e2 : appL n N ms ss = [] := by simp [appL, appB, HK.out, hN]
        have e3 : appE n N ms ss = 2 := by simp [appE, h, h2, HK.out, hN]
        rw [e2, e3]
        have t1 : ((k : Int) != N) = true := by simpa using hN
        clear e2 e3 h h2 hbd hN
        go_enter Tryd.func16, Tryd.ntmps16
        go_wp2_with fail
        refine HR.out.mono ?_
        rintro e w1 ⟨rfl, hb⟩
        have P := Lib.hid (Q0.out.keep hb)
        have B := Lib.hid (chainN HW.out HW.out.size hb)
        clear hb r0 r1
        go_wp2_with fail
        refine (HSum.out _ B.out).mono ?_
        rw [e4.out]
        rintro e w2 ⟨rfl, hb⟩
        have P := Lib.hid (P.out.keep hb)
        have B := Lib.hid (chainN B.out B.out.size hb)
        clear hb
        obtain ⟨r0, r1, -, -⟩ := P.out.two
        go_wp2
        go_ret2
        exact ⟨none, 0, rfl, Nat.le_refl _, Nat.zero_le _, Texts.nil _ _, B.out⟩
end
section
/- Equations that blocks make: Apply's answers as numbers. -/
set_option linter.unusedVariables false
set_option linter.unusedSimpArgs false
open Go.RowKit
theorem appF_sum5 {n k : Nat} {ms : List (Int × List Nat)} {ss : List ByteArray} (hr : rightM k ms = true) (ho : okS n ss = true) (hk : ss.length = k) (i : Nat) (hi : i < ms.length) : appF n k ms ss i = ⟨(bsums ss (bitsL (ms.getD i (0, [])).2 k) k n).toArray⟩ := by
  have h := (rightM_at hr i hi).2
  have e : ((k : Int) == (ss.length : Int)) = true := by simp [hk]
  have h2 := okS_picks ho (ms.getD i (0, [])).2
  rw [hk] at h2
  unfold appF pickS
  rw [ho, h, e, bsums_bits]
  simp only [Bool.and_self, if_true, Int.toNat_natCast, sumS, h2]
end
section
/- BacksubTold: the walk. -/
set_option linter.unusedVariables false
set_option linter.unusedSimpArgs false
open Go.RowKit
set_option maxRecDepth 100000
theorem Texts.take {w : World} {A : Option Addr} {l : Nat} {ss : List ByteArray} (h : Texts w A l ss) (k : Nat) (hk : k ≤ l) : Texts w A k (ss.take k) := by
  refine ⟨by rw [List.length_take, h.1]; omega, fun j => ?_, fun hp => ?_⟩
  · by_cases hj : j < k
    · have : (ss.take k).getD j ByteArray.empty = ss.getD j ByteArray.empty := by simp [List.getD, List.getElem?_take, hj]
      rw [this]; exact h.2.1 j
    · have : (ss.take k)[j]? = none := List.getElem?_eq_none (by rw [List.length_take, h.1]; omega)
      simp only [List.getD, this, Option.getD_none]; unfold maxLen; decide
  · obtain ⟨b, o, hA, hlt, hc⟩ := h.2.2 (by omega)
    refine ⟨b, o, hA, hlt, fun j hj => ?_⟩
    have : (ss.take k).getD j ByteArray.empty = ss.getD j ByteArray.empty := by simp [List.getD, List.getElem?_take, hj]
    rw [this]; exact hc j (by omega)
/-- What equations that blocks make are. -/
structure Made (N n : Nat) (X : List Nat) (ts ls : List ByteArray) : Prop where
  size : ∀ s ∈ ls, s.size = n
  lin : Lin N (fun j => bn (ts.getD j ByteArray.empty).data.toList) (zs N X ls)
theorem made_app {N n : Nat} {X : List Nat} {ts : List ByteArray} (hX : ∀ r ∈ X, r < 2 ^ N) (hr : rightM N (mkM N X) = true) (ho : okS n ts = true) (hk : ts.length = N) : Made N n X ts (appR n N (mkM N X) ts) := by
  have hsz : ∀ j, j < N → (ts.getD j ByteArray.empty).size = n := fun j hj => by
    have h := ho
    simp only [okS, Bool.and_eq_true] at h
    have := allL_at h.1.2 j (by omega)
    omega
  have hz : ∀ i, i < X.length → ∀ j, j < N → (bitsL ((mkM N X).getD i (0, [])).2 N).getD j 0 = if (X.getD i 0).testBit j then 1 else 0 := fun i hi j hj => by
    rw [bitsL_get _ _ _ hj, mkM_at N X i hi]
    show ((bitAt (rowOf N (X.getD i 0)) j : Nat) : Int) = _
    rw [rowOf_bitN N _ j hj]; split <;> rfl
  have hat : ∀ i, i < X.length → (appR n N (mkM N X) ts).getD i ByteArray.empty = ⟨(bsums ts (bitsL ((mkM N X).getD i (0, [])).2 N) N n).toArray⟩ := fun i hi => by
    rw [appR_at n N (mkM N X) ts i (by rw [mkM_len]; exact hi), appF_sum5 hr ho hk i (by rw [mkM_len]; exact hi)]
  have hlen : (appR n N (mkM N X) ts).length = X.length := by rw [appR_len, mkM_len]
  refine ⟨fun s hs => ?_, fun z hz' => ?_⟩
  · obtain ⟨i, hi, rfl⟩ := List.getElem_of_mem hs
    have e : (appR n N (mkM N X) ts).getD i ByteArray.empty = (appR n N (mkM N X) ts)[i] := by simp [List.getD, hi]
    rw [← e, hat i (by omega)]
    simp [ByteArray.size, bsums]
  · obtain ⟨p, hp, rfl⟩ := List.mem_map.1 hz'
    obtain ⟨i, hi, rfl⟩ := List.getElem_of_mem hp
    have hi' : i < X.length := by simp [pairs, hlen] at hi; exact hi
    have e : (pairs X (appR n N (mkM N X) ts))[i] = (X.getD i 0, (appR n N (mkM N X) ts).getD i ByteArray.empty) := by
      have := pairs_at X (appR n N (mkM N X) ts) X.length i rfl hlen hi'
      rw [← this]; simp [List.getD, hi]
    rw [e, hat i hi']
    have g : GoodP N n (X.getD i 0, (⟨(bsums ts (bitsL ((mkM N X).getD i (0, [])).2 N) N n).toArray⟩ : ByteArray)) := ⟨lt_all hX i, by simp [ByteArray.size, bsums]⟩
    rw [z_high g, z_low g]
    exact bn_bsums hsz (hz i hi')
theorem Made.take {N n : Nat} {X : List Nat} {ts ls : List ByteArray} (h : Made N n X ts ls) (k : Nat) : Made N n (X.take k) ts (ls.take k) :=
  ⟨fun s hs => h.size s (List.mem_of_mem_take hs), fun z hz => by
    refine h.lin z ?_
    unfold zs pairs at hz ⊢
    rw [List.zip, ← List.take_zipWith] at hz
    obtain ⟨p, hp, rfl⟩ := List.mem_map.1 hz
    exact List.mem_map_of_mem (List.mem_of_mem_take hp)⟩
/-- Told blocks are those of the columns. -/
theorem Made.told {N n : Nat} {X cols : List Nat} {ts ls blks : List ByteArray} (h : Made N n X ts ls) (ho : okS n ts = true) (hk : ts.length = N) (hkn : KnownP N n X (zs N X ls) cols blks) (j : Nat) (hj : j < cols.length) : cols.getD j 0 < N ∧ blks.getD j ByteArray.empty = ts.getD (cols.getD j 0) ByteArray.empty := by
  obtain ⟨h1, h2⟩ := h.lin.known hkn j hj
  refine ⟨h1, ?_⟩
  have hs1 := (hkn.2.2.2 j hj).1
  have hs2 : (ts.getD (cols.getD j 0) ByteArray.empty).size = n := by
    have h := ho
    simp only [okS, Bool.and_eq_true] at h
    have := allL_at h.1.2 _ (show cols.getD j 0 < ts.length by omega)
    omega
  have e := bn_inj _ _ (by rw [size_list, size_list, hs1, hs2]) h2
  rw [← back_list (blks.getD j ByteArray.empty), ← back_list (ts.getD (cols.getD j 0) ByteArray.empty), e]
theorem Made.full {N n : Nat} {X cols : List Nat} {ts ls blks : List ByteArray} (h : Made N n X ts ls) (ho : okS n ts = true) (hk : ts.length = N) (hkn : KnownP N n X (zs N X ls) cols blks) (hl : ¬ cols.length < N) : blks = ts := by
  have hc := rising_full hkn.1 (fun x hx => ((hkn.2.1 x).1 hx).1) (by omega)
  have hcl : cols.length = N := by rw [hc, List.length_range]
  refine List.ext_getElem (by rw [hkn.2.2.1, hcl, hk]) fun j h1 h2 => ?_
  have := (h.told ho hk hkn j (by rw [← hkn.2.2.1]; exact h1)).2
  have hcj : cols.getD j 0 = j := by rw [hc]; simp [List.getD, show j < N by omega]
  rw [hcj] at this
  simpa [List.getD, h1, h2] using this
theorem rising_at {L : List Nat} (h : L.Pairwise (· < ·)) (j : Nat) (hj : j + 1 < L.length) : L.getD j 0 < L.getD (j + 1) 0 := by
  have := List.pairwise_iff_getElem.1 h j (j + 1) (by omega) hj (by omega)
  simpa [List.getD, hj, show j < L.length by omega] using this
theorem knres_ok {N n : Nat} {X Z cols : List Nat} {E : Int} {blks : List ByteArray} (hf : FitsP N Z) (h : KnRes N n X Z E cols blks) : E = 0 ∧ KnownP N n X Z cols blks := by
  rcases h with ⟨h1, -, h3⟩ | ⟨-, h, -⟩
  · exact ⟨h1, h3⟩
  · exact absurd hf h
theorem mkM_tk (N : Nat) (X : List Nat) (k : Nat) : (mkM N X).take k = mkM N (X.take k) := by simp [mkM, List.map_take]
theorem cols64 {N n k : Nat} {X Z cols : List Nat} {blks : List ByteArray} (h : KnownP N n X Z cols blks) (hk : k < cols.length) : cols.getD k 0 < N := ((h.2.1 _).1 (getD_mem hk)).1
set_option maxHeartbeats 8000000 in
theorem told_walk (N : Int) (A : Option Addr) (l c : Nat) (ms : List (Int × List Nat)) (n : Int) (S : Option Addr) (k d : Nat) (ss : List ByteArray) (many : Int) (W : World) (s0 : SliceOk A l c) (h0 : MatAt W 0 A l ms) (hn1 : -9223372036854775808 ≤ n) (hn2 : n ≤ 9223372036854775807) (s1 : SliceOk S k d) (h1 : Texts W S k ss) (hy1 : -9223372036854775808 ≤ many) (hy2 : many ≤ 9223372036854775807) (hT : TabAt W 0) :
    Calls Tryd.prog 4 #[.agg #[.int .i64 N, .slice A l c], .int .i64 n, .slice S k d, .int .i64 many] W fun e w' => e = .returned (.bool true) ∧ Below W.heap.size W w' := by
  have b1 : Below W.heap.size W (W.alloc (.cells #[.int .i64 N, .slice A l c] 24)) := (Below.refl _ _).alloc (Nat.le_refl _) _
  have Q := Lib.hid (Box.new W 24 #[.int .i64 N, .slice A l c])
  have HB := Lib.hid b1
  have HTb := Lib.hid hT
  have HF := Lib.hid (few5_any N A S l c k d ms ss _ s0 (h0.below b1) s1 (h1.below b1))
  have hl66 : (fewM ms).length ≤ 66 := by have := fewM_len ms; omega
  have ht66 : (fewT ss (min k 66)).length ≤ 66 := by rw [fewT_len ss _ (by rw [h1.1]; omega)]; omega
  generalize fewM ms = fs at *
  generalize fewT ss (min k 66) = ts at *
  obtain ⟨r0, r1, f0, f1⟩ := Q.out.two
  clear b1 h0 s0 h1 s1 hT
  go_enter Tryd.func4, Tryd.ntmps4
  go_wp2_with fail
  refine HF.out.mono ?_
  rintro e x1 ⟨A1, S1, c1, d1, rfl, q1, q2, hm, ht, hlo, hb⟩
  have Q1 := Lib.hid (Q.out.keep hb)
  have HB1 := Lib.hid (chain HB.out hb)
  have P1 := Lib.hid (Q1.out.put2 (u := .int .i64 N) (v := .slice A1 fs.length c1))
  have M1 := Lib.hid ((hm.put2 (y := N) Q1.out (by simp) (.slice A1 fs.length c1)).low (Nat.zero_le _))
  have T1 := Lib.hid (texts_put ht Q1.out (fun b o hA h0 => by have := hlo b o hA h0; simp at this; omega) (.int .i64 N) (.slice A1 fs.length c1))
  have B1 := Lib.hid ((HB1.out.setCell (p := ⟨W.heap.size, 0, none⟩) (Nat.le_refl _) (.int .i64 N)).setCell (p := ⟨W.heap.size, 1, none⟩) (Nat.le_refl _) (.slice A1 fs.length c1))
  obtain ⟨r0', r1', f0', f1'⟩ := Q1.out.two
  have hc1 := q1.2.1
  have hd1 := q2.2.1
  have hcl := q1.1
  have hdl := q2.1
  have SL1 := Lib.hid q1
  unfold maxLen at hc1 hd1
  clear r0 r1 f0 f1 hb HF Q HB hm ht hlo q1 q2
  go_upto_region 2 with (fail)
  generalize hX2 : (x1.setCell ⟨W.heap.size, 0, none⟩ (.int .i64 N)).setCell ⟨W.heap.size, 1, none⟩ (.slice A1 fs.length c1) = x2 at *
  clear hX2 Q1 HB1 r0' r1' f0' f1' x1
  obtain ⟨r0, r1, f0, f1⟩ := P1.out.two
  have hT2 : TabAt x2 0 := HTb.out.below B1.out
  have HAp := apply_any n N A1 fs.length c1 0 fs S1 ts.length d1 ts x2 M1.out (by unfold maxLen; omega) T1.out hdl (by unfold maxLen; omega) hT2
  clear hT2 HTb
  by_cases hE : appB n N fs ts = true
  · have he : appE n N fs ts = 0 := by
      have h := hE
      simp only [appB, Bool.and_eq_true] at h
      rw [appE, if_pos h.1, if_pos h.2.1, if_pos h.2.2]
    have hLs : appL n N fs ts = appR n N fs ts := by rw [appL, if_pos hE]
    rw [he, hLs] at HAp
    simp only [appB, Bool.and_eq_true, beq_iff_eq] at hE
    obtain ⟨hr, ho, htl⟩ := hE
    have ho' := ho
    simp only [okS, Bool.and_eq_true, decide_eq_true_eq] at ho'
    obtain ⟨nn, rfl⟩ := Int.eq_ofNat_of_zero_le ((smb_iff n).1 ho'.1.1).1
    have hn64 : nn ≤ 64 := by have := ((smb_iff nn).1 ho'.1.1).2; omega
    obtain ⟨N', X, rfl, hN64, hX64, rfl, hXl⟩ := mat_num hr (fun i j => M1.out.lt i j)
    have htl' : ts.length = N' := by omega
    have HMd := Lib.hid (made_app hXl hr ho htl')
    have hlen : (appR nn N' (mkM N' X) ts).length = X.length := by rw [appR_len, mkM_len]
    generalize appR nn N' (mkM N' X) ts = ls at *
    rw [mkM_len] at *
    have HAp := Lib.hid HAp
    have HO := Lib.hid ho
    have HTl := Lib.hid htl'
    have HXl := Lib.hid hXl
    have HR := Lib.hid hr
    have HLn := Lib.hid hlen
    clear he hLs hr ho ho' htl htl' hlen hXl
    go_wp2_with fail
    refine HAp.out.mono ?_
    rintro e x3 ⟨A3, c3, rfl, hc3, hm3, ht3, hb⟩
    have hXlen : ls.length = X.length := HLn.out
    rw [hXlen] at ht3 hc3
    rw [hXlen]
    have hm3' := hm3
    unfold maxLen at hm3'
    have C2 := Lib.hid (chainN B1.out B1.out.size hb)
    have HIn := Lib.hid (show BkIn x3 N' nn X ls A1 A3 X.length c1 c3 from ⟨hN64, hn64, HXl.out, rfl, hX64, HMd.out.size, SL1.out, M1.out.below hb, HR.out, ht3, hc3, hm3⟩)
    have TX := Lib.hid (T1.out.below hb)
    have Q := Lib.hid (P1.out.keep hb)
    clear hb hc3 hm3 ht3 hXlen r0 r1 f0 f1 HAp P1 M1 T1 SL1 B1
    obtain ⟨r0, r1, f0, f1⟩ := Q.out.two
    obtain ⟨Z, hZ⟩ : ∃ Z, Z = zs N' X ls := ⟨_, rfl⟩
    have HRa := Lib.hid (fun w (hb : Below x3.heap.size x3 w) => rank_yes N' hN64 X HXl.out hX64 A1 c1 0 w (HIn.out.hm.below hb) HR.out)
    have HSv := Lib.hid (fun w (hb : Below x3.heap.size x3 w) => solve_yes w (HIn.out.below hb))
    have HKn := Lib.hid (fun w (hb : Below x3.heap.size x3 w) => known_yes w (HIn.out.below hb))
    have HFi := Lib.hid (fun w (hb : Below x3.heap.size x3 w) => fits_yes w (HIn.out.below hb))
    rw [← hZ] at HSv HKn HFi
    have HF := Lib.hid (show FitsP N' Z from hZ ▸ HMd.out.lin.fits)
    have HZ := Lib.hid hZ
    clear hZ
    go_wp2_with fail
    refine (HRa.out _ (Below.refl _ _)).mono ?_
    rintro e x4 ⟨M, P, hR1, hR2, rfl, hb⟩
    have RK := Lib.hid (And.intro hR1 hR2)
    have HMl := Lib.hid (rref_len hR1 (fun r hr' => sp_lt HXl.out ((hR2 r).2 (sp_mem hr'))))
    have Q := Lib.hid (Q.out.keep hb)
    have C4 := Lib.hid hb
    clear hb r0 r1 f0 f1 hR1 hR2 HRa
    obtain ⟨r0, r1, f0, f1⟩ := Q.out.two
    go_wp2_with fail
    refine (HSv.out _ C4.out).mono ?_
    rintro e x5 ⟨E1, blks1, B1, e1, rfl, ht1, hl1, hk1, hq1, hres1, hb⟩
    have Q := Lib.hid (Q.out.keep hb)
    have C5 := Lib.hid (chain C4.out hb)
    have T1 := Lib.hid ht1
    have HR1 := Lib.hid hres1
    clear ht1 hres1 HSv C4 hb r0 r1 f0 f1
    obtain ⟨r0, r1, f0, f1⟩ := Q.out.two
    go_wp2_with fail
    refine (HKn.out _ C5.out).mono ?_
    rintro e x6 ⟨E2, cols, blks, B2, B3, e2, e3, rfl, hi2, ht2, hl2, hl3, hk3, hq3, hres2, hb⟩
    obtain ⟨rfl, hkn⟩ : E2 = 0 ∧ KnownP N' nn X Z cols blks := by
      rcases hres2 with ⟨h1, -, h3⟩ | ⟨-, h, -⟩
      · exact ⟨h1, h3⟩
      · exact absurd HF.out h
    have hbl := hkn.2.2.1
    rw [hbl] at ht2 hl3 hk3
    rw [hbl]
    have Q := Lib.hid (Q.out.keep hb)
    have C6 := Lib.hid (chain C5.out hb)
    have I2 := Lib.hid hi2
    have T2 := Lib.hid ht2
    have KN := Lib.hid hkn
    have T1 := Lib.hid (T1.out.below hb)
    unfold maxLen at hq1 hq3
    clear hi2 ht2 hres2 hkn hbl hl3 C5 hb r0 r1 f0 f1
    obtain ⟨r0, r1, f0, f1⟩ := Q.out.two
    go_wp2_with fail
    refine (HFi.out _ C6.out).mono ?_
    rintro e x7 ⟨b3, hb3, rfl, hb⟩
    obtain rfl : b3 = true := hb3.2 HF.out
    have Q := Lib.hid (Q.out.keep hb)
    have C7 := Lib.hid (chain C6.out hb)
    have T1 := Lib.hid (T1.out.below hb)
    have I2 := Lib.hid (I2.out.below hb)
    have T2 := Lib.hid (T2.out.below hb)
    clear HFi hb3 C6 hb r0 r1 f0 f1
    obtain ⟨r0, r1, f0, f1⟩ := Q.out.two
    go_wp2_with fail
    refine (alive5_any _).mono ?_
    rintro e x8 ⟨rfl, hb⟩
    have Q := Lib.hid (Q.out.keep hb)
    have C8 := Lib.hid (chain C7.out hb)
    have T1 := Lib.hid (T1.out.below hb)
    have I2 := Lib.hid (I2.out.below hb)
    have T2 := Lib.hid (T2.out.below hb)
    clear C7 hb r0 r1 f0 f1
    obtain ⟨r0, r1, f0, f1⟩ := Q.out.two
    have HFull := Lib.hid (rank_known HXl.out KN.out RK.out.1 RK.out.2)
    have TX := Lib.hid (TX.out.below C8.out)
    obtain ⟨fb, hfb⟩ : ∃ b : Bool, ((M.length : Int) == (N' : Int)) = b := ⟨_, rfl⟩
    have HFb := Lib.hid hfb
    have TXo := Lib.hid (fun (_ : Unit) => TX.out)
    go_upto_region 12 with (fail)
    go_cut [128] (fun v wx => v = .bool false ∧ Hid (Below x8.heap.size x8 wx))
    case first =>
      cases fb with
      | false =>
        have hlt : cols.length < N' := by
          have h1 := HFb.out
          simp only [beq_eq_false_iff_ne, ne_eq, Int.natCast_inj] at h1
          exact Classical.byContradiction fun h => h1 (HFull.out.2 h)
        obtain ⟨rfl, rfl⟩ : E1 = 9 ∧ blks1 = [] := by
          rcases HR1.out with ⟨-, h, -⟩ | ⟨h1, -, h2, cols', bl, h3, h4⟩ | ⟨h1, -, cols', h3, h4⟩
          · exact absurd HF.out h
          · exact ⟨h1, h2⟩
          · rw [(known_uniq HF.out h3 KN.out).1] at h4; exact absurd hlt h4
        go_wp2_with fail
        go_meet
        exact ⟨rfl, Lib.hid (Below.refl _ _)⟩
      | true =>
        have hlt : ¬ cols.length < N' := by
          have h1 := HFb.out
          simp only [beq_iff_eq, Int.natCast_inj] at h1
          exact HFull.out.1 h1
        obtain ⟨rfl, rfl⟩ : E1 = 0 ∧ blks1 = ts := by
          rcases HR1.out with ⟨-, h, -⟩ | ⟨h1, -, h2, cols', bl, h3, h4⟩ | ⟨h1, -, cols', h3, h4⟩
          · exact absurd HF.out h
          · rw [(known_uniq HF.out h3 KN.out).1] at h4; exact absurd h4 hlt
          · refine ⟨h1, ?_⟩
            rw [(known_uniq HF.out h3 KN.out).2]
            exact HMd.out.full HO.out HTl.out (HZ.out ▸ KN.out) hlt
        have HTs := Lib.hid (refTexts_same B1 S1 blks1.length e1 d1 blks1 _ T1.out TX.out (by omega))
        go_wp2_with fail
        refine HTs.out.mono ?_
        rintro e x9 ⟨rfl, hb⟩
        have HBx := Lib.hid hb
        clear hb
        go_wp2_with fail
        go_meet
        exact ⟨rfl, HBx⟩
    case rest =>
      obtain ⟨rfl, HBx⟩ := hcut
      obtain ⟨x9, hx9⟩ : ∃ x : World, x = wc := ⟨_, rfl⟩
      subst hx9
      have Q := Lib.hid (Q.out.keep HBx.out)
      have C9 := Lib.hid (chain C8.out HBx.out)
      have I2 := Lib.hid (I2.out.below HBx.out)
      have T2 := Lib.hid (T2.out.below HBx.out)
      have TX := Lib.hid (TX.out.below HBx.out)
      clear HBx C8 T1 HR1 HFull HFb hfb r0 r1 f0 f1 TXo
      go_wp2_with fail
      go_loopw [131] (fun t wr => ∃ k : Nat, k ≤ cols.length ∧ t = .int .i64 (k : Int) ∧ Hid (Below x9.heap.size x9 wr)) (fun t _ => cols.length - (intOf t).toNat)
      case atStart => exact ⟨0, Nat.zero_le _, rfl, Lib.hid (Below.refl _ _)⟩
      case round =>
        obtain ⟨k, hk, rfl, HBk⟩ := hrel
        obtain ⟨x10, hx10⟩ : ∃ x : World, x = wr := ⟨_, rfl⟩
        subst hx10
        by_cases hlt : k < cols.length
        · have hlt' : (k : Int) < (cols.length : Int) := by omega
          obtain ⟨b, o, hB2, hbl, hci⟩ := (I2.out.below HBk.out).2.2 (by omega)
          obtain ⟨b', o', hB3, hbl', hct⟩ := (T2.out.below HBk.out).2.2 (by omega)
          subst hB2 hB3
          obtain ⟨hcN, hce⟩ := HMd.out.told HO.out HTl.out (HZ.out ▸ KN.out) k hlt
          have hcl : cols.getD k 0 < ts.length := by rw [HTl.out]; exact hcN
          obtain ⟨b'', o'', hS1, hbl'', hcx⟩ := (TX.out.below HBk.out).2.2 (by omega)
          subst hS1
          have g1 := hci k hlt
          have g2 := hct k hlt
          have g3 := hcx _ hcl
          rw [hce] at g2
          have hcg : (cols.map fun x : Nat => (x : Int)).getD k 0 = ((cols.getD k 0 : Nat) : Int) := by simp [List.getD, hlt]
          rw [hcg] at g1
          have hprev : 0 < k → ∃ c0 k1 : Nat, (k : Int) - 1 = (k1 : Int) ∧ x10.cell? ⟨b, o + k1, none⟩ = some (.int .i64 (c0 : Int)) ∧ c0 < cols.getD k 0 ∧ k1 < cols.length := fun h0 => by
            refine ⟨cols.getD (k - 1) 0, k - 1, by omega, ?_, ?_, by omega⟩
            · have := hci (k - 1) (by omega)
              rw [this]; simp [List.getD, show k - 1 < cols.length by omega]
            · have := rising_at KN.out.1 (k - 1) (by omega)
              rwa [show k - 1 + 1 = k by omega] at this
          have HPr := Lib.hid hprev
          have hcb := cols64 KN.out hlt
          generalize cols.getD k 0 = cv at *
          generalize ts.getD cv ByteArray.empty = tv at *
          have hcl2 : (cv : Int) < (ts.length : Int) := by omega
          clear hci hct hcx hprev hcg hce hcN
          go_wp2_with fail
          go_cut [167] (fun v wx => v = .bool false ∧ Hid (Below x10.heap.size x10 wx))
          case first =>
            by_cases h0 : 0 < k
            · have h0' : (0 : Int) < (k : Int) := by omega
              obtain ⟨c0, k1, hk1, g4, hc0c, hk1l⟩ := HPr.out h0
              have hc0' : ¬ (cv : Int) ≤ (c0 : Int) := by omega
              have hk1l' : (k1 : Int) < (cols.length : Int) := by omega
              have hc0 : ¬ (cv : Int) < 0 := by omega
              have hcl' : ¬ (ts.length : Int) ≤ (cv : Int) := by omega
              go_quiet (fail)
              go_wp2_with fail
              go_meet
              exact ⟨rfl, Lib.hid ⟨rfl, rfl, rfl, Nat.le_refl _, fun _ _ => rfl⟩⟩
            · have h0' : ¬ (0 : Int) < (k : Int) := by omega
              have hc0 : ¬ (cv : Int) < 0 := by omega
              have hcl' : ¬ (ts.length : Int) ≤ (cv : Int) := by omega
              go_quiet (fail)
              go_wp2_with fail
              go_meet
              exact ⟨rfl, Lib.hid ⟨rfl, rfl, rfl, Nat.le_refl _, fun _ _ => rfl⟩⟩
          case rest =>
            obtain ⟨rfl, HBx⟩ := hcut
            go_wp2_with fail
            go_roundw
            case rel => exact ⟨k + 1, by omega, by go_num, Lib.hid (HBk.out.trans (HBx.out.mono HBk.out.size))⟩
            case measure => simp [intOf] <;> omega
        · have hlt' : ¬ (k : Int) < (cols.length : Int) := by omega
          have Q := Lib.hid (Q.out.keep HBk.out)
          have C9 := Lib.hid (chain C9.out HBk.out)
          have TX := Lib.hid (TX.out.below HBk.out)
          go_upto_region 20 with (fail)
          go_cut [3] (fun v wx => ∃ kk : Nat, kk ≤ X.length ∧ v = .int .i64 (kk : Int) ∧ Hid (Below x10.heap.size x10 wx))
          case first =>
            have k0 : (0 : Int) < (X.length : Int) + 1 := by omega
            have k1 : ¬ (X.length : Int) + 1 = 0 := by omega
            have k2 : (X.length : Int) + 1 ≤ 65 := by omega
            have g1 : -((X.length : Int) + 1) < many.tmod ((X.length : Int) + 1) := Int.lt_tmod_of_pos many k0
            have g2 : many.tmod ((X.length : Int) + 1) < (X.length : Int) + 1 := Int.tmod_lt_of_pos many k0
            go_wp2_with fail
            go_meet
            have p1 := Int.emod_nonneg (many.tmod ((X.length : Int) + 1) + (X.length : Int) + 1) k1
            have p2 := Int.emod_lt_of_pos (many.tmod ((X.length : Int) + 1) + (X.length : Int) + 1) k0
            exact ⟨((many.tmod ((X.length : Int) + 1) + (X.length : Int) + 1) % ((X.length : Int) + 1)).toNat, by omega, by rw [Int.toNat_of_nonneg p1], Lib.hid (Below.refl _ _)⟩
          case rest =>
            obtain ⟨kk, hkk, rfl, HBx⟩ := hcut
            obtain ⟨x11, hx11⟩ : ∃ x : World, x = wc := ⟨_, rfl⟩
            subst hx11
            have Q := Lib.hid (Q.out.keep HBx.out)
            have C9 := Lib.hid (chain C9.out HBx.out)
            have TX := Lib.hid (TX.out.below HBx.out)
            clear HBx HBk I2 T2
            clear hy1 hy2
            obtain ⟨r0, r1, -, -⟩ := Q.out.two
            have hc1k : kk ≤ c1 := by omega
            have hc3k : kk ≤ c3 := by have := HIn.out.hmd; omega
            have hc1k' : (kk : Int) ≤ (c1 : Int) := by omega
            have hc3k' : (kk : Int) ≤ (c3 : Int) := by omega
            have hXk : (X.take kk).length = kk := by rw [List.length_take]; omega
            have HPre := Lib.hid (fun w (hb : Below x11.heap.size x11 w) => (show BkIn w N' nn (X.take kk) (ls.take kk) A1 A3 kk c1 c3 from ⟨hN64, hn64, fun r hr => HXl.out r (List.mem_of_mem_take hr), hXk, by omega, (HMd.out.take kk).size, ⟨hc1k, HIn.out.hsl.2.1, fun h => by have := HIn.out.hsl.2.2 h; omega⟩, mkM_tk N' X kk ▸ (HIn.out.hm.below (chain C9.out hb)).take kk hkk, right_mk N' hN64 _ (by omega) fun r hr => HXl.out r (List.mem_of_mem_take hr), (HIn.out.ht.below (chain C9.out hb)).take kk hkk, hc3k, HIn.out.hd⟩))
            have HKp := Lib.hid (fun w (hb : Below x11.heap.size x11 w) => known_yes w (HPre.out w hb))
            have HFp := Lib.hid ((HMd.out.take kk).lin.fits)
            obtain ⟨Z2, hZ2⟩ : ∃ Z2, Z2 = zs N' (X.take kk) (ls.take kk) := ⟨_, rfl⟩
            rw [← hZ2] at HKp HFp
            have HZ2 := Lib.hid hZ2
            have HDr := Lib.hid (show Below x11.heap.size x11 x11.drew from ⟨rfl, rfl, rfl, Nat.le_refl _, fun _ _ => rfl⟩)
            clear hZ2 hXk
            go_upto_region 21 with (fail)
            go_cut [23, 24, 25] (fun a b e wx => ∃ (cols3 : List Nat) (blks3 : List ByteArray) (D1 D2 : Option Addr) (d3 d4 : Nat), a = .slice D1 cols3.length d3 ∧ b = .slice D2 cols3.length d4 ∧ e = .int .i64 0 ∧ Hid (Ints wx D1 cols3.length (cols3.map fun x : Nat => (x : Int))) ∧ Hid (Texts wx D2 cols3.length blks3) ∧ cols3.length ≤ 64 ∧ Hid (KnownP N' nn (X.take kk) Z2 cols3 blks3) ∧ Hid (Below x11.heap.size x11 wx))
            case first =>
              have QD := Lib.hid (Q.out.keep HDr.out)
              go_region_held3 (fun w' => w'.cell? ⟨W.heap.size, 0, none⟩ = some (.int .i64 (N' : Int)) ∧ w'.cell? ⟨W.heap.size, 1, none⟩ = some (.slice A1 X.length c1)) (go_keep) (first | (go_at_call 19; refine (HKp.out _ HDr.out).mono ?_; rintro e y ⟨E3, cols3, blks3, D1, D2, d3, d4, rfl, hi3, ht3, hl4, hl5, hk4, hq4, hres3, hb⟩; obtain ⟨rfl, hkn3⟩ := knres_ok HFp.out hres3; have hbl3 := hkn3.2.2.1; rw [hbl3] at ht3 hl5 hk4; rw [hbl3]; have I3 := Lib.hid hi3; have T3 := Lib.hid ht3; have K3 := Lib.hid hkn3; have HBy := Lib.hid (HDr.out.trans (hb.mono HDr.out.size)); have Q5 := Lib.hid (QD.out.keep hb); clear hi3 ht3 hres3 hkn3 hbl3 hb; obtain ⟨g0, g1, -, -⟩ := Q5.out.two))
              all_goals
                go_wp2_with fail
                go_meet
                exact ⟨cols3, blks3, D1, D2, d3, d4, rfl, rfl, rfl, I3, T3, hl4, K3, HBy⟩
            case rest =>
              obtain ⟨cols3, blks3, D1, D2, d3, d4, rfl, rfl, rfl, I3, T3, hl4, K3, HBx⟩ := hcut
              obtain ⟨x12, hx12⟩ : ∃ x : World, x = wc := ⟨_, rfl⟩
              subst hx12
              have hless : ¬ (cols.length : Int) < (cols3.length : Int) := by have := known_less KN.out K3.out; omega
              have C9 := Lib.hid (chain C9.out HBx.out)
              have TX := Lib.hid (TX.out.below HBx.out)
              clear HBx HKp HPre HDr r0 r1 Q
              go_wp2_with fail
              go_loopw [209] (fun t wr => ∃ k : Nat, k ≤ cols3.length ∧ t = .int .i64 (k : Int) ∧ Hid (Below x12.heap.size x12 wr)) (fun t _ => cols3.length - (intOf t).toNat)
              case atStart => exact ⟨0, Nat.zero_le _, rfl, Lib.hid (Below.refl _ _)⟩
              case round =>
                obtain ⟨k, hk, rfl, HBk⟩ := hrel
                obtain ⟨x13, hx13⟩ : ∃ x : World, x = wr := ⟨_, rfl⟩
                subst hx13
                by_cases hlt : k < cols3.length
                · have hlt' : (k : Int) < (cols3.length : Int) := by omega
                  obtain ⟨b, o, hB2, hbl, hci⟩ := (I3.out.below HBk.out).2.2 (by omega)
                  obtain ⟨b', o', hB3, hbl', hct⟩ := (T3.out.below HBk.out).2.2 (by omega)
                  subst hB2 hB3
                  obtain ⟨hcN, hce⟩ := (HMd.out.take kk).told HO.out HTl.out (HZ2.out ▸ K3.out) k hlt
                  have hcl : cols3.getD k 0 < ts.length := by rw [HTl.out]; exact hcN
                  obtain ⟨b'', o'', hS1, hbl'', hcx⟩ := (TX.out.below HBk.out).2.2 (by omega)
                  subst hS1
                  have g1 := hci k hlt
                  have g2 := hct k hlt
                  have g3 := hcx _ hcl
                  rw [hce] at g2
                  have hcg : (cols3.map fun x : Nat => (x : Int)).getD k 0 = ((cols3.getD k 0 : Nat) : Int) := by simp [List.getD, hlt]
                  rw [hcg] at g1
                  have hcb := cols64 K3.out hlt
                  generalize cols3.getD k 0 = cv at *
                  generalize ts.getD cv ByteArray.empty = tv at *
                  have hcl2 : (cv : Int) < (ts.length : Int) := by omega
                  clear hci hct hcx hcg hce hcN
                  go_wp2_with fail
                  go_cut [232] (fun v wx => v = .bool false ∧ Hid (Below x13.heap.size x13 wx))
                  case first =>
                    have hc0 : ¬ (cv : Int) < 0 := by omega
                    have hcl' : ¬ (ts.length : Int) ≤ (cv : Int) := by omega
                    go_quiet (fail)
                    go_wp2_with fail
                    go_meet
                    exact ⟨rfl, Lib.hid ⟨rfl, rfl, rfl, Nat.le_refl _, fun _ _ => rfl⟩⟩
                  case rest =>
                    obtain ⟨rfl, HBx⟩ := hcut
                    go_wp2_with fail
                    go_roundw
                    case rel => exact ⟨k + 1, by omega, by go_num, Lib.hid (HBk.out.trans (HBx.out.mono HBk.out.size))⟩
                    case measure => simp [intOf] <;> omega
                · have hlt' : ¬ (k : Int) < (cols3.length : Int) := by omega
                  have C9 := Lib.hid (chain C9.out HBk.out)
                  have HFin := Lib.hid (chain C2.out C9.out)
                  go_wp2_with fail
                  go_ret
                  exact ⟨rfl, HFin.out⟩
  · have he : ¬ appE n N fs ts = 0 := by
      intro h
      apply hE
      rw [appE] at h
      split at h
      · split at h
        · split at h
          · simp [appB, *]
          · cases h
        · cases h
      · cases h
    have hLs : appL n N fs ts = [] := by rw [appL, if_neg hE]
    rw [hLs] at HAp
    obtain ⟨E, hEe⟩ : ∃ E, E = appE n N fs ts := ⟨_, rfl⟩
    rw [← hEe] at HAp he
    have tE : (E != 0) = true := by simpa using he
    have HAp := Lib.hid HAp
    clear hE he hLs hEe
    go_wp2_with fail
    refine HAp.out.mono ?_
    rintro e x3 ⟨A3, c3, rfl, -, -, -, hb⟩
    have C3 := Lib.hid (chainN B1.out B1.out.size hb)
    clear hb
    go_wp2_with fail
    refine (alive5_any _).mono ?_
    rintro e x4 ⟨rfl, hb⟩
    have HBf := Lib.hid (chain C3.out hb)
    clear hb
    go_wp2_with fail
    go_ret
    exact ⟨by simp, HBf.out⟩
end
section
/- How a row (a struct with a slice of words) and a slice of ints that came in are opened. -/
set_option linter.unusedVariables false
set_option linter.unusedSimpArgs false
open Go.RowKit Go.Joins Go.ChangeShapes Go.WideShapes
theorem cellsRow : Tryd.prog.cellsOf 27 = 2 := by kernel_rfl
set_option maxRecDepth 100000 in
theorem open_row {H : Type} {enc : TypeId × Value → H} {W : World} {r : Reach} {b0 : Nat} {v : Value} {d : DataW H} {p : List MemPlace}
    (hv : Value.okWide Tryd.prog W r b0 27 v) (h : DataW.Trod enc Tryd.prog W 0 (fun _ => true) true 27 v d p) :
    ∃ n A l c us, v = .agg #[.int .i64 n, .slice A l c] ∧ (Lit.int .i64 n).wf = true ∧ SliceOk A l c ∧ Words W A l us := by
  obtain ⟨c0, c1, y0, y1, m, rfl, rfl, rfl, hy0, hy1⟩ := open_agg2 Tryd.underlying27 (by kernel_rfl) cellsRow hv h
  obtain ⟨a, e0, -, wa⟩ := DataW.trod_int Tryd.underlying3 hy0
  obtain ⟨A, l, c, us, e1, hs, hw⟩ := open_words hy1
  simp at e0 e1
  subst e0 e1
  exact ⟨a, A, l, c, us, rfl, wa, hs, hw⟩
end
section
/- How a slice of texts that came in is opened. -/
set_option linter.unusedVariables false
set_option linter.unusedSimpArgs false
open Go.RowKit Go.Joins Go.ChangeShapes Go.WideShapes
theorem cellsStr : Tryd.prog.cellsOf 9 = 1 := by kernel_rfl
theorem open_texts {H : Type} {enc : TypeId × Value → H} {W : World} {fuel : Nat} {cs : List Value} {x : DataW H × List MemPlace}
    (h : DataW.trod enc Tryd.prog W 0 (fun _ => true) true fuel 44 cs = some x) : ∃ A l c ss, cs = [.slice A l c] ∧ SliceOk A l c ∧ Texts W A l ss := by
  rcases open_strings Tryd.underlying44 Tryd.underlying9 cellsStr h with ⟨hcs, _⟩ | ⟨a, len, cap, ss, hcs, _, hl, hm, hz, _, hcell, hwz⟩
  · exact ⟨none, 0, 0, [], hcs, ⟨Nat.le_refl _, Nat.zero_le _, fun _ => ⟨rfl, rfl⟩⟩, Texts.nil _ _⟩
  · have hz' : ss.length = cap := by simpa using hz
    refine ⟨some a, len, cap, ss.take len, hcs, ⟨hl, hm, fun h => by cases h⟩, ?_⟩
    have hget : ∀ j, j < len → (ss.take len).getD j ByteArray.empty = ss.getD j ByteArray.empty := fun j hj => by
      simp [List.getD, hj]
    refine ⟨by simp; omega, fun j => ?_, fun hp => ?_⟩
    · by_cases hj : j < len
      · rw [hget j hj]
        have hjs : j < ss.length := by omega
        have := hwz (ss[j]) (List.getElem_mem _)
        simpa [List.getD, hjs] using this
      · have hn : (ss.take len)[j]? = none := List.getElem?_eq_none (by simp; omega)
        simp [List.getD, hn, maxLen]
    · obtain ⟨b, o, rfl⟩ := addr_at (hcell 0 (by omega))
      have hadd : ∀ j, Addr.add { block := b, off := o } j = ⟨b, o + j, none⟩ := fun j => by
        by_cases h : j = 0 <;> simp [Addr.add, h]
      refine ⟨b, o, rfl, ?_, fun j hj => ?_⟩
      · have := block_lt_of_cell (hcell 0 (by omega))
        rw [hadd] at this
        exact this
      · have := hcell j (by omega)
        rw [hadd] at this
        rw [this, hget j hj]
end
end Go.Proofs.YtdfmogcgangdnaaDoor
