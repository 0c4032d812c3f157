/- Layer 13: the comparison by numbers, with the world that it leaves. -/
import Derived.Test.YtehlebeeoeghmaaShQ
namespace Go.Proofs.Ytehlebeeoeghmaa
set_option linter.unusedVariables false
set_option linter.unusedSimpArgs false
open Go.RowKit Go.Lib
set_option maxRecDepth 100000
theorem numberX_any (x : SymR) (w : World) : Calls Try.prog 29 #[.agg (smA x)] w fun e w' => e = .returned (.int .u64 (x.1 : Int)) ∧ w' = w.alloc (.cells (smA x) 63) ∧ Below w.heap.size w w' := by
  have Q := Lib.hid (Box.new w 63 (smA x))
  obtain ⟨x0, x1⟩ := x
  obtain ⟨g0, g1, -, -⟩ := Q.out.two
  go_enter Try.func29, Try.ntmps29
  go_wp2_with fail
  go_ret
  exact ⟨rfl, rfl, (Below.refl _ _).alloc (Nat.le_refl _) _⟩
set_option maxHeartbeats 4000000 in
theorem cmpX_any (g : Nat) (a b : SymR) (w : World) (hg : Box w g 61 #[numF]) : Calls Try.prog 43 #[.agg (smA a), .agg (smA b), .pointer (some ⟨g, 0, none⟩)] w fun e w' => e = .returned (.int .i64 (cmpI (a.1 : Int) (b.1 : Int))) ∧ w' = ((((w.alloc (.cells (smA a) 27)).alloc (.cells (smA b) 27)).drew.alloc (.cells (smA a) 63)).alloc (.cells (smA b) 63)) := by
  have eg : ∀ args w, (callFunc 29 args).run Try.prog w = .ok (.enter 29 args) w := enters_of Try.func29 (by kernel_rfl) rfl
  have hb1 : Below w.heap.size w (w.alloc (.cells (smA a) 27)) := (Below.refl w.heap.size w).alloc (Nat.le_refl _) _
  have W1 := Lib.hid (hb1.alloc hb1.size (.cells (smA b) 27)).drew
  have QA := Lib.hid ((Box.new w 27 (smA a)).alloc (.cells (smA b) 27)).drew
  have QB0 := Box.new (w.alloc (.cells (smA a) 27)) 27 (smA b)
  simp only [World.size_alloc] at QB0
  have QB := Lib.hid QB0.drew
  have HG := Lib.hid (hg.keep W1.out)
  have HNa := Lib.hid (fun w => numberX_any a w)
  have HNb := Lib.hid (fun w => numberX_any b w)
  have HCm := Lib.hid (fun w => cmpNat_any a.1 b.1 w)
  have HW := Lib.hid (show ∃ w1, w1 = ((w.alloc (.cells (smA a) 27)).alloc (.cells (smA b) 27)).drew from ⟨_, rfl⟩)
  clear hg hb1 QB0
  obtain ⟨a0, a1⟩ := a
  obtain ⟨b0, b1⟩ := b
  obtain ⟨r0, r1, -, -⟩ := QA.out.two
  obtain ⟨s0, s1, -, -⟩ := QB.out.two
  have g0 := HG.out.cell 0
  go_enter Try.func43, Try.ntmps43
  go_upto_region 1 with (fail)
  go_region_held3 (fun (w' : World) => w'.cell? ⟨g, 0, none⟩ = some numF ∧ w'.cell? ⟨w.heap.size, 0, none⟩ = some (.int .u64 (a0 : Int)) ∧ w'.cell? ⟨w.heap.size, 1, none⟩ = some (.string a1) ∧ w'.cell? ⟨w.heap.size + 1, 0, none⟩ = some (.int .u64 (b0 : Int)) ∧ w'.cell? ⟨w.heap.size + 1, 1, none⟩ = some (.string b1)) (go_keep) (first
    | (go_at_call 44; ((with_reducible refine (HCm.out _).mono ?_); rintro e w3 ⟨rfl, rfl⟩))
    | (go_at_call 29; ((with_reducible refine (HNa.out _).mono ?_); rintro e wa ⟨rfl, ha, hb⟩; have HWa := Lib.hid ha; have W2 := Lib.hid (chain W1.out hb); have QA2 := Lib.hid (QA.out.keep hb); have QB2 := Lib.hid (QB.out.keep hb); have HG2 := Lib.hid (HG.out.keep hb); clear hb ha; obtain ⟨p0, p1, -, -⟩ := QA2.out.two; obtain ⟨q0, q1, -, -⟩ := QB2.out.two; have n0 := HG2.out.cell 0))
    | (go_at_call 29; ((with_reducible refine (HNb.out _).mono ?_); rintro e wb ⟨rfl, ha, hb⟩; have HWb := Lib.hid ha; have W3 := Lib.hid (chain W2.out hb); have QA3 := Lib.hid (QA2.out.keep hb); have QB3 := Lib.hid (QB2.out.keep hb); have HG3 := Lib.hid (HG2.out.keep hb); clear hb ha; obtain ⟨p0, p1, -, -⟩ := QA3.out.two; obtain ⟨q0, q1, -, -⟩ := QB3.out.two; have n0 := HG3.out.cell 0)))
  go_wp2_with fail
  go_ret
  exact ⟨rfl, by rw [HWb.out, HWa.out]⟩
end Go.Proofs.Ytehlebeeoeghmaa
