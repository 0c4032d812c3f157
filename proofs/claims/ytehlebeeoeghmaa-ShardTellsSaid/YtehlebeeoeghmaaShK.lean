/- Layer 13: shard.Add: rows that are cloned and put in. -/
import Derived.Test.YtehlebeeoeghmaaShJ
import Derived.Test.YtehlebeeoeghmaaHTail
import Derived.Test.YtehlebeeoeghmaaKTail
namespace Go.Proofs.Ytehlebeeoeghmaa
set_option linter.unusedVariables false
set_option linter.unusedSimpArgs false
open Go.RowKit Go.Lib
set_option maxRecDepth 100000
/-- A spine of n cells, its rows the call's own, each in a block of its own. -/
structure LM (w : World) (base gL : Nat) (rs : List SlT) (ls : List (List SymR)) : Prop where
  bx : Box w gL 43 (rs.map slV).toArray
  ln : rs.length = ls.length
  row : ∀ j, j < ls.length → (rs.getD j sl0).2.1 = (ls.getD j []).length ∧ w.ownsRow base 27 2 (slV (rs.getD j sl0)) (ls.getD j []).length ((ls.getD j []).flatMap encS)
  ap : ∀ i j, i < ls.length → j < ls.length → i ≠ j → NoSh (slV (rs.getD i sl0)) (slV (rs.getD j sl0))
theorem LM.keepB {w w' : World} {base gL : Nat} {rs : List SlT} {ls : List (List SymR)} (h : LM w base gL rs ls) (hb : Below w.heap.size w w') : LM w' base gL rs ls :=
  ⟨h.bx.keep hb, h.ln, fun j hj => ⟨(h.row j hj).1, own_keepB (h.row j hj).2 hb⟩, h.ap⟩
theorem setD {α : Type} (l : List α) (i j : Nat) (x d : α) (hi : i < l.length) : (l.set i x).getD j d = if i = j then x else l.getD j d := by
  simp only [List.getD_eq_getElem?_getD, List.getElem?_set]
  by_cases e : i = j
  · subst e
    simp [hi]
  · simp [e]
theorem LM.made {w : World} {base gL n : Nat} (h : Box w gL 43 (Array.replicate n (.slice none 0 0))) : LM w base gL (List.replicate n sl0) (List.replicate n []) := by
  refine ⟨?_, by simp, fun j hj => ?_, fun i j hi hj _ g hg => ?_⟩
  · have e : ((List.replicate n sl0).map slV).toArray = Array.replicate n (Value.slice none 0 0) := by simp
    rw [e]; exact h
  · rw [List.length_replicate] at hj
    have e1 : (List.replicate n sl0).getD j sl0 = sl0 := by simp [List.getD, hj]
    have e2 : (List.replicate n ([] : List SymR)).getD j [] = [] := by simp [List.getD, hj]
    rw [e1, e2]
    exact ⟨rfl, World.ownsRow_nil _ _ _ _⟩
  · rw [List.length_replicate] at hi
    have e1 : (List.replicate n sl0).getD i sl0 = sl0 := by simp [List.getD, hi]
    rw [e1] at hg
    cases hg
theorem LM.put {w w' : World} {base gL j : Nat} {rs : List SlT} {ls : List (List SymR)} {r : SlT} {xs : List SymR} (h : LM w base gL rs ls) (hb : Below w.heap.size w w') (hj : j < ls.length) (hbase : base ≤ w.heap.size) (hr1 : r.2.1 = xs.length)
    (hr : w'.ownsRow w.heap.size 27 2 (slV r) xs.length (xs.flatMap encS)) : LM (w'.setCell ⟨gL, j, none⟩ (slV r)) base gL (rs.set j r) (ls.set j xs) := by
  have hB := h.bx.keep hb
  have hjr : j < rs.length := by rw [h.ln]; exact hj
  refine ⟨?_, by simp [h.ln], fun k hk => ?_, fun i k hi hk hne => ?_⟩
  · have h1 := hB.put j (slV r)
    have e : ((rs.set j r).map slV).toArray = (rs.map slV).toArray.setIfInBounds j (slV r) := by rw [List.map_set, List.setIfInBounds_toArray]
    rw [e]; exact h1
  · rw [List.length_set] at hk
    rw [setD rs j k r sl0 hjr, setD ls j k xs [] hj]
    by_cases e : j = k
    · rw [if_pos e, if_pos e]
      exact ⟨hr1, own_far (own_low hr hbase) hB (by decide) j _⟩
    · rw [if_neg e, if_neg e]
      exact ⟨(h.row k hk).1, own_far (own_keepB (h.row k hk).2 hb) hB (by decide) j _⟩
  · rw [List.length_set] at hi hk
    rw [setD rs j i r sl0 hjr, setD rs j k r sl0 hjr]
    by_cases e : j = i
    · rw [if_pos e, if_neg (by omega)]
      exact (nosh_new (h.row k hk).2 hr (Nat.le_refl _)).symm
    · rw [if_neg e]
      by_cases e2 : j = k
      · rw [if_pos e2]
        exact nosh_new (h.row i hi).2 hr (Nat.le_refl _)
      · rw [if_neg e2]
        exact h.ap i k hi hk hne
/-- A row is put in that was grown out of the old one. -/
theorem LM.ins {w w' : World} {base gL j : Nat} {rs : List SlT} {ls : List (List SymR)} {r : SlT} {xs : List SymR} (h : LM w base gL rs ls) (hg : w.grownBy w' (slV (rs.getD j sl0)).ownBlock) (hj : j < ls.length) (hr1 : r.2.1 = xs.length)
    (hr : w'.ownsRow base 27 2 (slV r) xs.length (xs.flatMap encS)) (hbg : base ≤ gL) (hn : ls.length ≤ 1000) (w0 : World) : SpS w0 base (w'.setCell ⟨gL, j, none⟩ (slV r)) (.slice (some ⟨gL, 0, none⟩) ls.length ls.length) (ls.set j xs) := by
  have hjr : j < rs.length := by rw [h.ln]; exact hj
  have hB : Box w' gL 43 (rs.map slV).toArray := h.bx.grown hg (own_ne (h.row j hj).2 h.bx (by decide))
  have hB2 : Box (w'.setCell ⟨gL, j, none⟩ (slV r)) gL 43 ((rs.set j r).map slV).toArray := by
    have e : ((rs.set j r).map slV).toArray = (rs.map slV).toArray.setIfInBounds j (slV r) := by rw [List.map_set, List.setIfInBounds_toArray]
    rw [e]; exact hB.put j (slV r)
  refine ⟨rs.set j r, by simp [h.ln], ?_, fun k hk => ?_⟩
  · have h1 := box_ownS hB2 hbg (n := ls.length) (by simp [h.ln]) (by unfold maxLen; omega)
    rw [List.length_set]
    simpa using h1
  · rw [List.length_set] at hk
    rw [setD rs j k r sl0 hjr, setD ls j k xs [] hj]
    by_cases e : j = k
    · rw [if_pos e, if_pos e]
      exact ⟨hr1, .inr (own_far hr hB (by decide) j _)⟩
    · rw [if_neg e, if_neg e]
      refine ⟨(h.row k hk).1, .inr (own_far (World.ownsRow.kept (h.row k hk).2 hg ?_) hB (by decide) j _)⟩
      cases e5 : (slV (rs.getD k sl0)).ownBlock with
      | none => exact .inl rfl
      | some b => exact .inr fun e6 => h.ap k j hk hj (fun q => e q.symm) b e5 e6.symm
theorem byNumberB_any (w : World) : Calls Try.prog 28 #[numF] w fun e w' => e = .returned (cmpF w.heap.size) ∧ Below w.heap.size w w' ∧ Box w' w.heap.size 61 #[numF] :=
  (byNumber_any w).mono fun e w' ⟨h1, h2⟩ => ⟨h1, by rw [h2]; exact (Below.refl _ _).alloc (Nat.le_refl _) _, by rw [h2]; exact Box.new _ _ _⟩
def cl (ls : List (List SymR)) (i : Nat) : List (List SymR) := ls.take i ++ List.replicate (ls.length - i) []
theorem cl_len (ls : List (List SymR)) (i : Nat) (h : i ≤ ls.length) : (cl ls i).length = ls.length := by simp [cl]; omega
theorem cl_zero (ls : List (List SymR)) : cl ls 0 = List.replicate ls.length [] := by simp [cl]
theorem cl_all (ls : List (List SymR)) : cl ls ls.length = ls := by simp [cl]
theorem cl_succ (ls : List (List SymR)) (i : Nat) (h : i < ls.length) : (cl ls i).set i (ls.getD i []) = cl ls (i + 1) := by
  unfold cl
  have e : ls.take (i + 1) = ls.take i ++ [ls.getD i []] := take_snocD ls i h
  have e2 : ls.length - i = (ls.length - (i + 1)) + 1 := by omega
  have e3 : (ls.take i).length = i := by rw [List.length_take]; omega
  rw [e, e2, List.replicate_succ, List.set_append, if_neg (by omega), e3, Nat.sub_self, List.set_cons_zero, List.append_assoc]
  rfl
theorem addTo_set (ls : List (List SymR)) (x : SymR) (h : 0 < ls.length) : addTo ls x ls.length = ls.set (x.1 % ls.length) (withS (ls.getD (x.1 % ls.length) []) x) := by
  apply List.ext_getElem?
  intro k
  unfold addTo
  rw [List.getElem?_map, List.getElem?_set]
  by_cases hk : k < ls.length
  · rw [List.getElem?_range hk]
    by_cases e : x.1 % ls.length = k
    · rw [if_pos e, if_pos (by omega)]
      simp only [Option.map_some, addF]
      rw [if_pos e.symm, ← e]
    · rw [if_neg e]
      simp only [Option.map_some, addF]
      rw [if_neg (fun q => e q.symm)]
      simp [List.getD, hk]
  · rw [List.getElem?_eq_none (by simpa using Nat.le_of_not_lt hk)]
    have : x.1 % ls.length < ls.length := Nat.mod_lt _ h
    rw [if_neg (by omega), List.getElem?_eq_none (by omega)]
    rfl
/-- Why a symbol may not come, as the program finds it. -/
def addE (s : ShR) (x : SymR) : Int := if rightSh s then (if (x.2.size : Int) = s.2.1 then (if hasI (s.2.2.getD (x.1 % s.2.2.length) []) x.1 then 8 else if (cntS s.2.2 : Int) = s.1 then 7 else 0) else 2) else 1
def addR (s : ShR) (x : SymR) : ShR := if addE s x = 0 then addSh s x else (0, 0, [])
set_option maxHeartbeats 16000000 in
theorem shAdd_any (v : Value) (s : ShR) (x : SymR) (w : World) (h : ShAt w v s) (ho : OkSh s.2.2) : Calls Try.prog 7 #[v, .agg (smA x)] w (ShOut (addR s x) (addE s x) w) := by
  obtain ⟨A, c, rfl, hs, hl⟩ := h
  obtain ⟨q, z, ls⟩ := s
  dsimp only at hs hl ho ⊢
  have HL := Lib.hid hl
  have HO := Lib.hid ho
  have HK := Lib.hid hs
  have hn := ho.n
  have b1 : Below w.heap.size w (w.alloc (.cells #[.int .i64 q, .int .i64 z, .slice A ls.length c] 24)) := (Below.refl w.heap.size w).alloc (Nat.le_refl _) _
  have b2 := b1.alloc b1.size (.cells (smA x) 27)
  have b3 := b2.alloc b2.size (.cells #[.int .i64 0, .int .i64 0, .slice none 0 0] 24)
  obtain ⟨w1, hw1⟩ : ∃ y, y = ((w.alloc (.cells #[.int .i64 q, .int .i64 z, .slice A ls.length c] 24)).alloc (.cells (smA x) 27)).alloc (.cells #[.int .i64 0, .int .i64 0, .slice none 0 0] 24) := ⟨_, rfl⟩
  have g0 : Box w1 w.heap.size 24 #[.int .i64 q, .int .i64 z, .slice A ls.length c] := by rw [hw1]; exact ((Box.new w _ _).alloc _).alloc _
  have g1 : Box w1 (w.heap.size + 1) 27 (smA x) := by
    rw [hw1]
    have := (Box.new (w.alloc (.cells #[.int .i64 q, .int .i64 z, .slice A ls.length c] 24)) 27 (smA x)).alloc (.cells #[.int .i64 0, .int .i64 0, .slice none 0 0] 24)
    simpa only [World.size_alloc] using this
  have g2 : Box w1 (w.heap.size + 1 + 1) 24 #[.int .i64 0, .int .i64 0, .slice none 0 0] := by
    rw [hw1]
    have := Box.new ((w.alloc (.cells #[.int .i64 q, .int .i64 z, .slice A ls.length c] 24)).alloc (.cells (smA x) 27)) 24 #[.int .i64 0, .int .i64 0, .slice none 0 0]
    simpa only [World.size_alloc] using this
  have HSz := Lib.hid (show w1.heap.size = w.heap.size + 3 by rw [hw1]; simp only [World.size_alloc])
  rw [← hw1] at b3
  have HB := Lib.hid b3
  have G0 := Lib.hid g0
  have G1 := Lib.hid g1
  have G2 := Lib.hid g2
  have HSw := Lib.hid (Nat.le_refl w1.heap.size)
  have HRt := Lib.hid (shRight_any _ (q, z, ls) w1 ⟨A, c, rfl, hs, Lsts.below hl b3⟩ ho)
  have HE0 := Lib.hid (show addE (q, z, ls) x = if rightSh (q, z, ls) then (if (x.2.size : Int) = z then (if hasI (ls.getD (x.1 % ls.length) []) x.1 then 8 else if (cntS ls : Int) = q then 7 else 0) else 2) else 1 from rfl)
  obtain ⟨x0, x1⟩ := x
  clear hs hl ho b1 b2 b3 g0 g1 g2
  have HW1 := Lib.hid hw1
  clear hw1
  obtain ⟨r0, r1, r2⟩ := G0.out.tri
  obtain ⟨s0, s1, -, -⟩ := G1.out.two
  obtain ⟨p0, p1, p2⟩ := G2.out.tri
  have f0 := G2.out.free 0
  have f1 := G2.out.free 1
  have f2 := G2.out.free 2
  cases hr : rightSh (q, z, ls) with
  | false =>
    rw [hr] at HRt
    have HE := Lib.hid (show addE (q, z, ls) (x0, x1) = 1 by rw [HE0.out, hr]; rfl)
    clear hr HE0
    go_enter Try.func7, Try.ntmps7
    have hw1 := HW1.out
    go_upto_region 1 with (fail)
    rw [← hw1]
    clear hw1 HW1
    go_wp2_with fail
    refine HRt.out.mono ?_
    rintro e w2 ⟨rfl, hb⟩
    clear r0 r1 r2 s0 s1 p0 p1 p2 f0 f1 f2 HRt
    replace G0 := Lib.hid (G0.out.keep hb)
    replace G1 := Lib.hid (G1.out.keep hb)
    replace G2 := Lib.hid (G2.out.keep hb)
    replace HB := Lib.hid (HB.out.trans (hb.mono HB.out.size))
    replace HSw := Lib.hid (Nat.le_trans HSw.out hb.size)
    obtain ⟨r0, r1, r2⟩ := G0.out.tri
    obtain ⟨s0, s1, -, -⟩ := G1.out.two
    obtain ⟨p0, p1, p2⟩ := G2.out.tri
    have f0 := G2.out.free 0
    have f1 := G2.out.free 1
    have f2 := G2.out.free 2
    clear hb
    go_wp2_with fail
    refine close_cell Try.results7 rfl rfl rfl G2.out.put3S Try.underlying24 rfl (by kernel_rfl) ?_
    have hR : addR (q, z, ls) (x0, x1) = (0, 0, []) := by unfold addR; rw [if_neg (by rw [HE.out]; decide)]
    rw [hR, HE.out]
    exact ⟨.slice none 0 0, rfl, SpS.nil _ _ _, below3 HB.out (show w.heap.size ≤ w.heap.size + 1 + 1 by omega) _ _ _⟩
  | true =>
    rw [hr] at HRt
    have HE1 := Lib.hid (show addE (q, z, ls) (x0, x1) = if (x1.size : Int) = z then (if hasI (ls.getD (x0 % ls.length) []) x0 then 8 else if (cntS ls : Int) = q then 7 else 0) else 2 by rw [HE0.out, hr]; rfl)
    have hr1 : inK (ls.length : Int) 1 16 = true ∧ rowsB ls.length z ls ls.length = true := by
      have h9 : (inK (ls.length : Int) 1 16 && (inK z 0 64 && inK q 1 64) && decide ((cntS ls : Int) ≤ q) && rowsB ls.length z ls ls.length) = true := hr
      simp only [Bool.and_eq_true] at h9
      exact ⟨h9.1.1.1, h9.2⟩
    have hlen : 0 < ls.length := by have := hr1.1; unfold inK at this; simp at this; omega
    have HPw := Lib.hid (show ∀ k, k < ls.length → (ls.getD k []).Pairwise ltS from fun k hk => by
      have h9 := hr1.2
      unfold rowsB at h9
      rw [List.all_eq_true] at h9
      exact strB_pw (h9 k (List.mem_range.2 hk)))
    clear hr hr1 HE0
    go_enter Try.func7, Try.ntmps7
    have hw1 := HW1.out
    go_upto_region 1 with (fail)
    rw [← hw1]
    clear hw1 HW1
    go_wp2_with fail
    refine HRt.out.mono ?_
    rintro e w2 ⟨rfl, hb⟩
    clear r0 r1 r2 s0 s1 p0 p1 p2 f0 f1 f2 HRt
    replace G0 := Lib.hid (G0.out.keep hb)
    replace G1 := Lib.hid (G1.out.keep hb)
    replace G2 := Lib.hid (G2.out.keep hb)
    replace HB := Lib.hid (HB.out.trans (hb.mono HB.out.size))
    replace HSw := Lib.hid (Nat.le_trans HSw.out hb.size)
    obtain ⟨r0, r1, r2⟩ := G0.out.tri
    obtain ⟨s0, s1, -, -⟩ := G1.out.two
    obtain ⟨p0, p1, p2⟩ := G2.out.tri
    have f0 := G2.out.free 0
    have f1 := G2.out.free 1
    have f2 := G2.out.free 2
    clear hb
    by_cases e1 : (x1.size : Int) = z
    · have HE2 := Lib.hid (HE1.out.trans (if_pos e1))
      have t1 : ((x1.size : Int) != z) = false := by simp [e1]
      clear HE1 e1
      obtain ⟨own, hown⟩ : ∃ k, k = x0 % ls.length := ⟨_, rfl⟩
      have hol : own < ls.length := by rw [hown]; exact Nat.mod_lt _ hlen
      have HSt := Lib.hid (stripe_any q z A c ls.length x0 w2 hlen hn)
      have HOw := Lib.hid hown
      rw [← hown] at HSt HE2
      clear hown
      obtain ⟨b, off, B, l, d, rfl, hbl, y0, hk, hS⟩ := RRow.at HL.out own hol
      have Y0 := Lib.hid (fun w' (hw : Below w.heap.size w w') => (hw.cell (p := ⟨b, off + own, none⟩) hbl).trans y0)
      have HX := Lib.hid hS
      have hlx : (ls.getD own []).length = l := hS.1
      have hl1 := HO.out.r own
      have HXl := Lib.hid hlx
      have hl2 : l ≤ 1000 := by omega
      have HPo := Lib.hid (HPw.out own hol)
      have hol' : (own : Int) < (ls.length : Int) := by omega
      have ho0 : (0 : Int) ≤ (own : Int) := by omega
      clear y0 hk hS hlx hl1
      go_wp2_with fail
      refine HSt.out.mono ?_
      rintro e w3 ⟨rfl, hb⟩
      clear r0 r1 r2 s0 s1 p0 p1 p2 f0 f1 f2 HSt t1
      replace G0 := Lib.hid (G0.out.keep hb)
      replace G1 := Lib.hid (G1.out.keep hb)
      replace G2 := Lib.hid (G2.out.keep hb)
      replace HB := Lib.hid (HB.out.trans (hb.mono HB.out.size))
      replace HSw := Lib.hid (Nat.le_trans HSw.out hb.size)
      obtain ⟨r0, r1, r2⟩ := G0.out.tri
      obtain ⟨s0, s1, -, -⟩ := G1.out.two
      obtain ⟨p0, p1, p2⟩ := G2.out.tri
      have f0 := G2.out.free 0
      have f1 := G2.out.free 1
      have f2 := G2.out.free 2
      clear hb
      have y0 := Y0.out _ HB.out
      have HBn := Lib.hid (byNumberB_any w3.drew)
      obtain ⟨xs, hxs⟩ : ∃ y, y = ls.getD own [] := ⟨_, rfl⟩
      rw [← hxs] at HX HXl HPo HE2
      have HXs := Lib.hid hxs
      clear hxs
      obtain ⟨fd, hfd⟩ : ∃ y, y = hasI xs x0 := ⟨_, rfl⟩
      have HFd := Lib.hid (fun g wy (hg : Box wy g 61 #[numF]) (hw : Below w.heap.size w wy) => show Calls Try.prog 27 #[.slice B l d, .agg #[.int .u64 (x0 : Int), .string x1], cmpF g] wy (fun e w' => ∃ i : Nat, e = .returned (.tuple #[.int .i64 (i : Int), .bool fd]) ∧ PlaceOf xs x0 i ∧ Below wy.heap.size wy w') from by rw [hfd]; exact find_any g B l d xs (x0, x1) wy hg (Recs.below HX.out hw) hl2 HPo.out)
      rw [← hfd] at HE2
      have HFb := Lib.hid hfd
      clear hfd
      go_upto_region 6 with (fail)
      go_region_held3 (fun (w' : World) => w'.cell? ⟨w.heap.size, 0, none⟩ = some (.int .i64 q) ∧ w'.cell? ⟨w.heap.size, 1, none⟩ = some (.int .i64 z) ∧ w'.cell? ⟨w.heap.size, 2, none⟩ = some (.slice (some ⟨b, off, none⟩) ls.length c) ∧ w'.cell? ⟨w.heap.size + 1, 0, none⟩ = some (.int .u64 (x0 : Int)) ∧ w'.cell? ⟨w.heap.size + 1, 1, none⟩ = some (.string x1) ∧ w'.cell? ⟨b, off + own, none⟩ = some (.slice B l d)) (go_keep) (first
        | (go_at_call 28; ((with_reducible refine HBn.out.mono ?_); rintro e wn ⟨rfl, hbn, hnb⟩; have NB := Lib.hid hnb; have HBx := Lib.hid (HB.out.drew.trans (hbn.mono HB.out.size)); have G0x := Lib.hid (G0.out.drew.keep hbn); have G1x := Lib.hid (G1.out.drew.keep hbn); have G2x := Lib.hid (G2.out.drew.keep hbn); have HSx := Lib.hid (Nat.le_trans HSw.out hbn.size); clear hbn hnb; obtain ⟨k0, k1, k2⟩ := G0x.out.tri; obtain ⟨m0, m1, -, -⟩ := G1x.out.two; have yx := Y0.out _ HBx.out))
        | (go_at_call 27; ((with_reducible refine (HFd.out w3.heap.size _ NB.out HBx.out).mono ?_); rintro e wf ⟨ii, rfl, hpl, hbf⟩; have HPl := Lib.hid hpl; have HBf := Lib.hid (HBx.out.trans (hbf.mono HBx.out.size)); have G0f := Lib.hid (G0x.out.keep hbf); have G1f := Lib.hid (G1x.out.keep hbf); have G2f := Lib.hid (G2x.out.keep hbf); have HSf := Lib.hid (Nat.le_trans HSx.out hbf.size); clear hbf hpl; obtain ⟨k0, k1, k2⟩ := G0f.out.tri; obtain ⟨m0, m1, -, -⟩ := G1f.out.two; have yx := Y0.out _ HBf.out)))
      clear r0 r1 r2 s0 s1 p0 p1 p2 f0 f1 f2 y0 k0 k1 k2 m0 m1 yx G0 G1 G2 HB HSw G0x G1x G2x HBx HSx NB HFd HBn
      have G0 := Lib.hid G0f.out
      have G1 := Lib.hid G1f.out
      have G2 := Lib.hid G2f.out
      have HB := Lib.hid HBf.out
      have HSw := Lib.hid HSf.out
      clear G0f G1f G2f HBf HSf
      obtain ⟨r0, r1, r2⟩ := G0.out.tri
      obtain ⟨s0, s1, -, -⟩ := G1.out.two
      obtain ⟨p0, p1, p2⟩ := G2.out.tri
      have f0 := G2.out.free 0
      have f1 := G2.out.free 1
      have f2 := G2.out.free 2
      cases fd with
      | true =>
        have HE := Lib.hid (show addE (q, z, ls) (x0, x1) = 8 from HE2.out.trans (if_pos rfl))
        clear HE2
        go_wp2_with fail
        refine close_cell Try.results7 rfl rfl rfl G2.out.put3S Try.underlying24 rfl (by kernel_rfl) ?_
        have hR : addR (q, z, ls) (x0, x1) = (0, 0, []) := by unfold addR; rw [if_neg (by rw [HE.out]; decide)]
        rw [hR, HE.out]
        exact ⟨.slice none 0 0, rfl, SpS.nil _ _ _, below3 HB.out (show w.heap.size ≤ w.heap.size + 1 + 1 by omega) _ _ _⟩
      | false =>
        have HE3 := Lib.hid (show addE (q, z, ls) (x0, x1) = if (cntS ls : Int) = q then 7 else 0 from HE2.out.trans (if_neg (by decide)))
        clear HE2
        have HCt := Lib.hid (symbolsIn_any q z (some ⟨b, off, none⟩) c ls wf.drew (Lsts.below HL.out HB.out.drew) HO.out)
        by_cases e7 : (cntS ls : Int) = q
        · have HE := Lib.hid (HE3.out.trans (if_pos e7))
          have t7 : ((cntS ls : Int) == q) = true := by simp [e7]
          clear HE3 e7
          generalize cntS ls = cnt at *
          go_upto_region 9 with (fail)
          go_region_held3 (fun (w' : World) => w'.cell? ⟨w.heap.size, 0, none⟩ = some (.int .i64 q) ∧ w'.cell? ⟨w.heap.size, 1, none⟩ = some (.int .i64 z) ∧ w'.cell? ⟨w.heap.size, 2, none⟩ = some (.slice (some ⟨b, off, none⟩) ls.length c)) (go_keep) (first
            | (go_at_call 30; ((with_reducible refine HCt.out.mono ?_); rintro e wg ⟨rfl, hbg⟩; have HBx := Lib.hid (HB.out.drew.trans (hbg.mono HB.out.size)); have G0x := Lib.hid (G0.out.drew.keep hbg); have G2x := Lib.hid (G2.out.drew.keep hbg); clear hbg; obtain ⟨k0, k1, k2⟩ := G0x.out.tri)))
          clear r0 r1 r2 s0 s1 p0 p1 p2 f0 f1 f2 G0 G2 HB HCt
          have G0 := Lib.hid G0x.out
          have G2 := Lib.hid G2x.out
          have HB := Lib.hid HBx.out
          clear G0x G2x HBx
          obtain ⟨p0, p1, p2⟩ := G2.out.tri
          have f0 := G2.out.free 0
          have f1 := G2.out.free 1
          have f2 := G2.out.free 2
          go_wp2_with fail
          refine close_cell Try.results7 rfl rfl rfl G2.out.put3S Try.underlying24 rfl (by kernel_rfl) ?_
          have hR : addR (q, z, ls) (x0, x1) = (0, 0, []) := by unfold addR; rw [if_neg (by rw [HE.out]; decide)]
          rw [hR, HE.out]
          exact ⟨.slice none 0 0, rfl, SpS.nil _ _ _, below3 HB.out (show w.heap.size ≤ w.heap.size + 1 + 1 by omega) _ _ _⟩
        · have HE := Lib.hid (HE3.out.trans (if_neg e7))
          have t7 : ((cntS ls : Int) == q) = false := by simpa using e7
          clear HE3 e7
          generalize cntS ls = cnt at *
          go_upto_region 9 with (fail)
          go_region_held3 (fun (w' : World) => w'.cell? ⟨w.heap.size, 0, none⟩ = some (.int .i64 q) ∧ w'.cell? ⟨w.heap.size, 1, none⟩ = some (.int .i64 z) ∧ w'.cell? ⟨w.heap.size, 2, none⟩ = some (.slice (some ⟨b, off, none⟩) ls.length c)) (go_keep) (first
            | (go_at_call 30; ((with_reducible refine HCt.out.mono ?_); rintro e wg ⟨rfl, hbg⟩; have HBx := Lib.hid (HB.out.drew.trans (hbg.mono HB.out.size)); have G0x := Lib.hid (G0.out.drew.keep hbg); have G1x := Lib.hid (G1.out.drew.keep hbg); have G2x := Lib.hid (G2.out.drew.keep hbg); have HSx := Lib.hid (Nat.le_trans HSw.out hbg.size); clear hbg; obtain ⟨k0, k1, k2⟩ := G0x.out.tri)))
          clear r0 r1 r2 s0 s1 p0 p1 p2 f0 f1 f2 G0 G1 G2 HB HSw HCt
          have G0 := Lib.hid G0x.out
          have G1 := Lib.hid G1x.out
          have G2 := Lib.hid G2x.out
          have HB := Lib.hid HBx.out
          have HSw := Lib.hid HSx.out
          clear G0x G1x G2x HBx HSx
          go_upto_region 11 with (fail)
          have hmk := fun w => makeR_any ls.length (by omega) w
          go_upto_region 12 with (fail)
          have hbq : Below wg.heap.size wg (wg.alloc (.cells (Array.replicate ls.length (.slice none 0 0)) 43)) := (Below.refl _ _).alloc (Nat.le_refl _) _
          have M0 := Lib.hid (show LM (wg.alloc (.cells (Array.replicate ls.length (.slice none 0 0)) 43)) w1.heap.size wg.heap.size (List.replicate ls.length sl0) (cl ls 0) by rw [cl_zero]; exact LM.made (Box.new wg _ _))
          clear k0 k1 k2
          have HgL := Lib.hid HSw.out
          replace G0 := Lib.hid (G0.out.keep hbq)
          replace G1 := Lib.hid (G1.out.keep hbq)
          replace G2 := Lib.hid (G2.out.keep hbq)
          replace HB := Lib.hid (HB.out.trans (hbq.mono HB.out.size))
          replace HSw := Lib.hid (Nat.le_trans HSw.out hbq.size)
          obtain ⟨gL, hgL⟩ : ∃ y, y = wg.heap.size := ⟨_, rfl⟩
          obtain ⟨wh, hwh⟩ : ∃ y, y = wg.alloc (.cells (Array.replicate ls.length (.slice none 0 0)) 43) := ⟨_, rfl⟩
          rw [← hgL] at M0 HgL ⊢
          rw [← hwh] at M0 G0 G1 G2 HB HSw ⊢
          clear hgL hwh hbq hmk
          obtain ⟨r0, r1, r2⟩ := G0.out.tri
          go_wp2_with fail
          clear r0 r1 r2
          go_loopw [53] (fun t wr => ∃ i : Nat, i ≤ ls.length ∧ t = .int .i64 (i : Int) ∧ ∃ rs : List SlT, Hid (LM wr w1.heap.size gL rs (cl ls i)) ∧ Hid (Box wr w.heap.size 24 #[.int .i64 q, .int .i64 z, .slice (some ⟨b, off, none⟩) ls.length c]) ∧ Hid (Box wr (w.heap.size + 1) 27 (smA (x0, x1))) ∧ Hid (Box wr (w.heap.size + 1 + 1) 24 #[.int .i64 0, .int .i64 0, .slice none 0 0]) ∧ Hid (Below w.heap.size w wr) ∧ Hid (w1.heap.size ≤ wr.heap.size)) (fun t _ => ls.length - (Go.RowKit.intOf t).toNat)
          case atStart => exact ⟨0, Nat.zero_le _, rfl, _, M0, G0, G1, G2, HB, HSw⟩
          case round =>
            clear M0 G0 G1 G2 HB HSw
            obtain ⟨i, hi, rfl, rs, M, G0, G1, G2, HB, HSw⟩ := hrel
            by_cases hlt : i < ls.length
            · have hlt' : (i : Int) < (ls.length : Int) := Int.ofNat_lt.2 hlt
              have hi0 : (0 : Int) ≤ (i : Int) := by omega
              obtain ⟨b2, off2, B2, l2, d2, e2, hb2, y2, hk2, hS2⟩ := RRow.at HL.out i hlt
              injection e2 with e2
              injection e2 with e2 e3
              subst e2 e3
              have y2 := (HB.out.cell (p := ⟨b, off + i, none⟩) hb2).trans y2
              have hl9 : (ls.getD i []).length = l2 := hS2.1
              have h10 := HO.out.r i
              have hSw2 : Syms wr B2 l2 (ls.getD i []) := Recs.below hS2 HB.out
              have HCl := Lib.hid (clone_syms B2 l2 d2 ((ls.getD i []).flatMap encS) wr hk2.2.2 (by rw [flat_len encS_len, hl9]) (Recs.news hSw2 encS_len (by decide)) (encs_one _) (by omega))
              have HcS := Lib.hid (cl_succ ls i hlt)
              have HcL := Lib.hid (cl_len ls i hi)
              have HL9 := Lib.hid hl9
              clear hk2 hS2 hl9 h10 hSw2 hb2
              go_upto_region 15 with (fail)
              go_wp2_with fail
              refine HCl.out.mono ?_
              rintro e w5 ⟨A5, c5, rfl, ho5, hb5⟩
              have hMp := M.out.put hb5 (j := i) (r := (A5, l2, c5)) (xs := ls.getD i []) (by rw [HcL.out]; exact hlt) HSw.out HL9.out.symm (by rw [HL9.out]; exact ho5)
              rw [HcS.out] at hMp
              have HM9 := Lib.hid hMp
              have MB := M.out.bx.keep hb5
              have hgl5 := MB.lt
              have mc := MB.cell i
              have mf := MB.free i
              have e9 : (rs.map slV).toArray[i]? = some (slV (rs.getD i sl0)) := by rw [List.getElem?_toArray]; exact map_slV_at _ i (by rw [M.out.ln, HcL.out]; exact hlt)
              rw [e9] at mc
              have G0n := Lib.hid ((G0.out.keep hb5).aside (g' := gL) (by have := HgL.out; have := HSz.out; omega) i (.slice A5 l2 c5))
              have G1n := Lib.hid ((G1.out.keep hb5).aside (g' := gL) (by have := HgL.out; have := HSz.out; omega) i (.slice A5 l2 c5))
              have G2n := Lib.hid ((G2.out.keep hb5).aside (g' := gL) (by have := HgL.out; have := HSz.out; omega) i (.slice A5 l2 c5))
              have HBn := Lib.hid ((HB.out.trans (hb5.mono HB.out.size)).setCell (p := ⟨gL, i, none⟩) (show w.heap.size ≤ gL by have := HgL.out; have := HSz.out; omega) (.slice A5 l2 c5))
              have HSn := Lib.hid (show w1.heap.size ≤ (w5.setCell ⟨gL, i, none⟩ (.slice A5 l2 c5)).heap.size by rw [size_setS]; exact Nat.le_trans HSw.out hb5.size)
              clear hMp MB hgl5 e9 ho5 hb5 M G0 G1 G2 HB HSw HCl y2
              go_wp2_with fail
              go_roundw
              case rel => exact ⟨i + 1, hlt, by go_num, _, HM9, G0n, G1n, G2n, HBn, HSn⟩
              case measure => simp [Go.RowKit.intOf] <;> omega
            · obtain rfl : i = ls.length := Nat.le_antisymm hi (Nat.le_of_not_lt hlt)
              have hlt' : ¬ (ls.length : Int) < (ls.length : Int) := Int.lt_irrefl _
              rw [cl_all] at M
              have hrw := M.out.row own hol
              rw [← HXs.out] at hrw
              have MB := M.out.bx.cell own
              have e9 : (rs.map slV).toArray[own]? = some (slV (rs.getD own sl0)) := by rw [List.getElem?_toArray]; exact map_slV_at _ own (by rw [M.out.ln]; exact hol)
              rw [e9] at MB
              obtain ⟨r9, hr9⟩ : ∃ r, r = rs.getD own sl0 := ⟨_, rfl⟩
              rw [← hr9] at hrw MB e9
              obtain ⟨Ar, lr, cr⟩ := r9
              have hlr : lr = l := hrw.1.trans HXl.out
              subst hlr
              have HR9 := Lib.hid hr9
              have mc : wr.cell? ⟨gL, own, none⟩ = some (.slice Ar lr cr) := MB
              have MC9 := Lib.hid (show (rs.map slV).toArray[own]? = some (.slice Ar lr cr) from e9)
              have hro := hrw.2
              rw [HXl.out] at hro
              have hbq : Below wr.heap.size wr (wr.drew.alloc (.cells (smA (x0, x1)) 27)) := ((Below.refl _ wr).drew).alloc (Nat.le_refl _) _
              have hRo := own_keepB hro hbq
              have HMq := Lib.hid (M.out.keepB hbq)
              have hvne : (Value.slice Ar lr cr).ownBlock ≠ some wr.heap.size := fun e => by have := (hro.lt _ e).2; omega
              have HIn := Lib.hid (show Calls Try.prog 32 #[.slice Ar lr cr, .int .i64 (ii : Int), .slice (some ⟨wr.heap.size, 0, none⟩) 1 1] (wr.drew.alloc (.cells (smA (x0, x1)) 27)) (InsOut w1.heap.size (insS xs ii (x0, x1)) (Value.slice Ar lr cr).ownBlock (wr.drew.alloc (.cells (smA (x0, x1)) 27))) from insert_any w1.heap.size Ar lr cr ii xs (x0, x1) wr.heap.size _ hRo HXl.out (Box.new wr.drew _ _) hvne (by have := HPl.out.1; rw [HXl.out] at this; exact this) hl2 (Nat.le_trans HSw.out hbq.size))
              have NE := Lib.hid (show ∀ k, (Value.slice Ar lr cr).ownBlock = some k → w1.heap.size ≤ k from fun k hk => (hro.lt k hk).1)
              have HWi := Lib.hid (show withS xs (x0, x1) = insS xs ii (x0, x1) from with_place HPl.out HFb.out.symm)
              have HBq := Lib.hid (HB.out.trans (hbq.mono HB.out.size))
              have G0q := Lib.hid (G0.out.keep hbq)
              have G2q := Lib.hid (G2.out.keep hbq)
              have HSq := Lib.hid (Nat.le_trans HSw.out hbq.size)
              obtain ⟨s0, s1, -, -⟩ := G1.out.two
              have HRo := Lib.hid hRo
              clear hrw MB e9 hr9 hro hbq hRo hvne
              go_upto_region 17 with (fail)
              refine wp_heldK_bar [(9, (fun (w' : World) => w'.cell? ⟨gL, own, none⟩ = some (.slice Ar lr cr))), (8, (fun (w' : World) => w'.cell? ⟨w.heap.size + 1, 0, none⟩ = some (.int .u64 (x0 : Int)) ∧ w'.cell? ⟨w.heap.size + 1, 1, none⟩ = some (.string x1)))] 12 (by kernel_rfl) (by decide) ?_
              have hS0 := (show ((fun (w' : World) => w'.cell? ⟨gL, own, none⟩ = some (.slice Ar lr cr))) wr.drew from mc)
              have hS1 := (show ((fun (w' : World) => w'.cell? ⟨w.heap.size + 1, 0, none⟩ = some (.int .u64 (x0 : Int)) ∧ w'.cell? ⟨w.heap.size + 1, 1, none⟩ = some (.string x1))) wr.drew from ⟨s0, s1⟩)
              refine headK_take (i := 0) (v := ?_) rfl (by kernel_rfl) (fun _ _ _ h => h) (fun _ _ _ h => passed_ready h.1) (Or.inl ⟨by rfl, ?hy1⟩) ⟨fun _ => hS0, fun _ => hS1, trivial⟩ ?rest1
              case hy1 => intro w _; go_simp; try (with_reducible rfl)
              case rest1 =>
              try simp only [Act.put, List.setIfInBounds_toArray, List.set_cons_zero, List.set_cons_succ]
              refine headK_take (i := 1) (v := ?_) rfl (by kernel_rfl) (fun _ _ _ h => h) (fun _ _ _ h => passed_ready h.1) (Or.inl ⟨by rfl, ?hy2⟩) ⟨fun _ => hS0, fun _ => hS1, trivial⟩ ?rest2
              case hy2 => intro w _; go_simp; try (with_reducible rfl)
              case rest2 =>
              try simp only [Act.put, List.setIfInBounds_toArray, List.set_cons_zero, List.set_cons_succ]
              refine headK_take (i := 2) (v := ?_) rfl (by kernel_rfl) (fun _ _ _ h => h) (fun _ _ _ h => passed_ready h.1) (Or.inl ⟨by rfl, ?hy3⟩) ⟨fun _ => hS0, fun _ => hS1, trivial⟩ ?rest3
              case hy3 => intro w _; go_simp; try (with_reducible rfl)
              case rest3 =>
              try simp only [Act.put, List.setIfInBounds_toArray, List.set_cons_zero, List.set_cons_succ]
              refine headK_take (i := 3) (v := ?_) rfl (by kernel_rfl) (fun _ _ _ h => h) (fun _ _ _ h => passed_ready h.1) (Or.inl ⟨by rfl, ?hy4⟩) ⟨fun _ => hS0, fun _ => hS1, trivial⟩ ?rest4
              case hy4 => intro w _; go_simp; try (with_reducible rfl)
              case rest4 =>
              try simp only [Act.put, List.setIfInBounds_toArray, List.set_cons_zero, List.set_cons_succ]
              refine headK_take (i := 6) (v := ?_) rfl (by kernel_rfl) (fun _ _ _ h => h) (fun _ _ _ h => passed_ready h.1) (Or.inl ⟨by rfl, ?hy5⟩) ⟨fun _ => hS0, fun _ => hS1, trivial⟩ ?rest5
              case hy5 => intro w _; go_simp; try (with_reducible rfl)
              case rest5 =>
              try simp only [Act.put, List.setIfInBounds_toArray, List.set_cons_zero, List.set_cons_succ]
              refine headK_take (i := 4) (v := ?_) rfl (by kernel_rfl) (fun _ _ _ h => h) (fun _ _ _ h => passed_ready h.1) (Or.inl ⟨by rfl, ?hy6⟩) ⟨fun _ => hS0, fun _ => hS1, trivial⟩ ?rest6
              case hy6 => intro w _; go_simp; try (with_reducible rfl)
              case rest6 =>
              try simp only [Act.put, List.setIfInBounds_toArray, List.set_cons_zero, List.set_cons_succ]
              refine headK_load 0 9 _ rfl (i := 5) (v := ?_) rfl (by kernel_rfl) (fun _ _ _ h => h) (fun _ _ _ h => passed_ready h.1) (Or.inl ⟨by rfl, ?hy7⟩) ⟨fun _ => hS0, fun _ => hS1, trivial⟩ ?rest7
              case hy7 => intro w hSw; (try dsimp only at hSw); go_simp; try (with_reducible rfl)
              case rest7 =>
              try simp only [Act.put, List.setIfInBounds_toArray, List.set_cons_zero, List.set_cons_succ]
              refine headK_load 1 8 _ rfl (i := 7) (v := ?_) rfl (by kernel_rfl) (fun _ _ _ h => h) (fun _ _ _ h => passed_ready h.1) (Or.inl ⟨by rfl, ?hy8⟩) ⟨fun _ => hS0, fun _ => hS1, trivial⟩ ?rest8
              case hy8 => intro w hSw; (try dsimp only at hSw); obtain ⟨hc0, hc1⟩ := hSw; go_simp; try (with_reducible rfl)
              case rest8 =>
              try simp only [Act.put, List.setIfInBounds_toArray, List.set_cons_zero, List.set_cons_succ]
              refine headK_one (i := 8) (by kernel_rfl) rfl (fun K hK => ?_)
              go_simp
              have hS0 := (show ((fun (w' : World) => w'.cell? ⟨gL, own, none⟩ = some (.slice Ar lr cr))) (wr.drew.alloc (.cells (smA (x0, x1)) 27)) from (show _ = _ from (HMq.out.bx.cell own).trans MC9.out))
              refine hK.out _ _ ⟨fun _ => hS0, fun h => Bool.noConfusion (show true = false from h), trivial⟩ ?_
              clear hK K
              try simp only [Act.put, List.setIfInBounds_toArray, List.set_cons_zero, List.set_cons_succ]
              refine headK_one (i := 9) (by kernel_rfl) rfl (fun K hK => ?_)
              go_simp
              refine HIn.out.mono ?_
              rintro e w9 ⟨A9, c9, rfl, hro9, hg9⟩
              have HSp := Lib.hid (HMq.out.ins (r := (A9, (insS xs ii (x0, x1)).length, c9)) (by rw [← HR9.out]; exact hg9) hol rfl hro9 (Nat.le_trans HgL.out (Nat.le_refl _)) (by omega) w)
              have HMb := Lib.hid (HMq.out.bx.grown hg9 (own_ne HRo.out HMq.out.bx (by decide)))
              have G09 := Lib.hid (Box.grown G0q.out hg9 (own_ne HRo.out G0q.out (by decide)))
              have G29 := Lib.hid (Box.grown G2q.out hg9 (own_ne HRo.out G2q.out (by decide)))
              have HB9 := Lib.hid (HBq.out.grown hg9 HBq.out.size (fun k hk => Nat.le_trans (show w.heap.size ≤ w1.heap.size by have := HSz.out; omega) (NE.out k hk)))
              refine hK.out _ _ ⟨fun h => Bool.noConfusion (show true = false from h), fun h => Bool.noConfusion (show true = false from h), trivial⟩ ?_
              clear hK K hro9 hg9
              try simp only [Act.put, List.setIfInBounds_toArray, List.set_cons_zero, List.set_cons_succ]
              refine headK_take (i := 10) (v := ?_) rfl (by kernel_rfl) (fun _ _ _ h => h) (fun _ _ _ h => passed_ready h.1) (Or.inl ⟨by rfl, ?hya10⟩) ⟨fun h => Bool.noConfusion (show true = false from h), fun h => Bool.noConfusion (show true = false from h), trivial⟩ ?resta10
              case hya10 => intro w _; go_simp; try (with_reducible rfl)
              case resta10 =>
              try simp only [Act.put, List.setIfInBounds_toArray, List.set_cons_zero, List.set_cons_succ]
              have mc9 := (HMb.out.cell own).trans MC9.out
              have mf9 := HMb.out.free own
              refine headK_one (i := 11) (by kernel_rfl) rfl (fun K hK => ?_)
              go_simp
              refine hK.out _ _ ⟨fun h => Bool.noConfusion (show true = false from h), fun h => Bool.noConfusion (show true = false from h), trivial⟩ ?_
              clear hK K
              try simp only [Act.put, List.setIfInBounds_toArray, List.set_cons_zero, List.set_cons_succ]
              refine ⟨by kernel_rfl, ?_⟩
              refine wpAny_done (by kernel_rfl) ?_ _
              have hgz : w.heap.size + 1 + 1 < gL := by have := HgL.out; have := HSz.out; omega
              have G0z := Lib.hid (G09.out.aside (g' := gL) (by omega) own (.slice A9 (insS xs ii (x0, x1)).length c9))
              have G2z := Lib.hid (G29.out.aside (g' := gL) (by omega) own (.slice A9 (insS xs ii (x0, x1)).length c9))
              have HBz := Lib.hid (HB9.out.setCell (p := ⟨gL, own, none⟩) (show w.heap.size ≤ gL by omega) (.slice A9 (insS xs ii (x0, x1)).length c9))
              obtain ⟨wz, hwz⟩ : ∃ y, y = w9.setCell ⟨gL, own, none⟩ (.slice A9 (insS xs ii (x0, x1)).length c9) := ⟨_, rfl⟩
              have HSz2 := Lib.hid (show SpS w w1.heap.size wz (.slice (some ⟨gL, 0, none⟩) ls.length ls.length) (ls.set own (insS xs ii (x0, x1))) by rw [hwz]; exact HSp.out)
              rw [← hwz] at G0z G2z HBz ⊢
              clear hwz HSp HMb G09 G29 HB9 mc9 mf9 hS0 mc s0 s1 G0q G2q HBq
              have S1 := HSz2.out.far G2z.out (by decide) (by decide) 0 (.int .i64 q)
              have S2 := S1.far (G2z.out.put 0 (.int .i64 q)) (by decide) (by decide) 1 (.int .i64 z)
              have HS3 := Lib.hid (S2.far ((G2z.out.put 0 (.int .i64 q)).put 1 (.int .i64 z)) (by decide) (by decide) 2 (.slice (some ⟨gL, 0, none⟩) ls.length ls.length))
              have HB3 := Lib.hid (below3 HBz.out (show w.heap.size ≤ w.heap.size + 1 + 1 by omega) (.int .i64 q) (.int .i64 z) (.slice (some ⟨gL, 0, none⟩) ls.length ls.length))
              have GP := Lib.hid (G2z.out.put3S (u := .int .i64 q) (v := .int .i64 z) (x := .slice (some ⟨gL, 0, none⟩) ls.length ls.length))
              have HEr := Lib.hid (show addR (q, z, ls) (x0, x1) = (q, z, ls.set own (insS xs ii (x0, x1))) by
                unfold addR
                rw [if_pos HE.out]
                show (q, z, addTo ls (x0, x1) ls.length) = _
                rw [addTo_set ls (x0, x1) hlen]
                show (q, z, ls.set (x0 % ls.length) (withS (ls.getD (x0 % ls.length) []) (x0, x1))) = _
                rw [← HOw.out, ← HXs.out, HWi.out])
              obtain ⟨r0, r1, r2⟩ := G0z.out.tri
              obtain ⟨p0, p1, p2⟩ := G2z.out.tri
              have f0 := G2z.out.free 0
              have f1 := G2z.out.free 1
              have f2 := G2z.out.free 2
              clear S1 S2 HSz2
              go_wp2_with fail
              refine close_cell Try.results7 rfl rfl rfl GP.out Try.underlying24 rfl (by kernel_rfl) ?_
              rw [HEr.out, HE.out]
              exact ⟨_, rfl, HS3.out.low (show w.heap.size ≤ w1.heap.size by have := HSz.out; omega), HB3.out⟩
    · have HE := Lib.hid (HE1.out.trans (if_neg e1))
      have t1 : ((x1.size : Int) != z) = true := by simpa using e1
      clear HE1 e1
      go_wp2_with fail
      refine close_cell Try.results7 rfl rfl rfl G2.out.put3S Try.underlying24 rfl (by kernel_rfl) ?_
      have hR : addR (q, z, ls) (x0, x1) = (0, 0, []) := by unfold addR; rw [if_neg (by rw [HE.out]; decide)]
      rw [hR, HE.out]
      exact ⟨.slice none 0 0, rfl, SpS.nil _ _ _, below3 HB.out (show w.heap.size ≤ w.heap.size + 1 + 1 by omega) _ _ _⟩
end Go.Proofs.Ytehlebeeoeghmaa
