/- Contract of layer 11's reference: Put. -/
import Derived.Test.YthihcdocfcfnkaaDg3
import Derived.Deep.RegionHeld3
import Derived.Deep.RegionWith
import Derived.Deep.DeepCutAuto
namespace Go.Proofs.Ythihcdocfcfnkaa
open Go.RowKit Go.Lib
theorem box_later {W w1 : World} {cs : Array Value} {t : TypeId} (hb : Below (W.alloc (.cells cs t)).heap.size (W.alloc (.cells cs t)) w1) : Box w1 W.heap.size t cs := (Box.new W t cs).keep hb
theorem box_laterD {W w1 : World} {cs : Array Value} {t : TypeId} (hb : Below (W.alloc (.cells cs t)).drew.heap.size (W.alloc (.cells cs t)).drew w1) : Box w1 W.heap.size t cs := (Box.new W t cs).drew.keep hb
theorem box_conv {W : World} {g : Nat} (h : Box W g 5 #[.int .u8 68, .int .u8 1]) : (convert 32 9 (.slice (some ⟨g, 0, none⟩) 2 2)).run Try.prog W = .ok (.string ⟨[68, 1].toArray⟩) W := by
  refine run_convert_bytes_back (P := Try.prog) _ 32 9 5 ⟨g, 0, none⟩ 2 [68, 1] Try.underlying32 Try.underlying5 Try.underlying9 ?_
  intro j hj
  have hadd : Addr.add { block := g, off := 0 } j = ⟨g, j, none⟩ := by
    by_cases h : j = 0 <;> simp [Addr.add, h]
  rw [hadd, h.cell j]
  match j, hj with
  | 0, _ => rfl
  | 1, _ => rfl
set_option maxHeartbeats 20000000 in
theorem refPutD_any (o k z i : Nat) (s : ByteArray) (w : World) (ho : o < 18446744073709551616) (hi : i < 18446744073709551616) (h : dgB k z s = true) :
    Calls Try.prog 23 #[dgV o k z i s] w fun e w' => e = .returned (.string (sealB ⟨(dgL o k z i s).toArray⟩)) ∧ Below w.heap.size w w' := by
  have hd := of_decide_eq_true h
  have hs : s.size ≤ 64 := by omega
  have hk : k ≤ 64 := by omega
  have hz : z ≤ 64 := by omega
  have Q := Lib.hid (Box.new w 39 #[.int .u64 o, .int .i64 k, .int .i64 z, .int .u64 i, .string s])
  have B := Lib.hid ((Below.refl w.heap.size w).alloc (Nat.le_refl _) (.cells #[.int .u64 o, .int .i64 k, .int .i64 z, .int .u64 i, .string s] 39))
  obtain ⟨c0, c1, c2, c3, c4⟩ := Q.out.five
  have h68 : (⟨[68, 1].toArray⟩ : ByteArray).size ≤ 2 := by decide
  have hso : (⟨(be o 8).toArray⟩ : ByteArray).size ≤ 8 := by rw [bytes_size, be_len]; omega
  have hsi : (⟨(be i 8).toArray⟩ : ByteArray).size ≤ 8 := by rw [bytes_size, be_len]; omega
  have HLO := Lib.hid (fun W => long_any o ho W)
  have HLI := Lib.hid (fun W => long_any i hi W)
  have HL := Lib.hid (show (⟨(dgL o k z i s).toArray⟩ : ByteArray) = ⟨[68, 1].toArray⟩ ++ ⟨(be o 8).toArray⟩ ++ ⟨(be i 8).toArray⟩ ++ ⟨[UInt8.ofNat k, UInt8.ofNat z].toArray⟩ ++ s by
    have e : s = ⟨s.data.toList.toArray⟩ := by apply ByteArray.ext; simp
    conv => rhs; rw [e]
    rw [bytes_app, bytes_app, bytes_app, bytes_app]; rfl)
  have HSZ2 := Lib.hid (show (⟨(dgL o k z i s).toArray⟩ : ByteArray).size ≤ 1000000 from by
    rw [bytes_size]; simp [dgL, be_len]; omega)
  generalize (⟨(dgL o k z i s).toArray⟩ : ByteArray) = D at *
  generalize (⟨(be o 8).toArray⟩ : ByteArray) = SO at *
  generalize (⟨(be i 8).toArray⟩ : ByteArray) = SI at *
  have cvA : ∀ W : World, (convert 32 9 (.slice (some ⟨W.heap.size, 0, none⟩) 2 2)).run Try.prog (W.alloc (.cells #[.int .u8 68, .int .u8 1] 5)) = .ok (.string ⟨[68, 1].toArray⟩) (W.alloc (.cells #[.int .u8 68, .int .u8 1] 5)) := fun W => box_conv (Box.new W _ _)
  have cvD : ∀ W : World, (convert 32 9 (.slice (some ⟨W.heap.size, 0, none⟩) 2 2)).run Try.prog (W.alloc (.cells #[.int .u8 68, .int .u8 1] 5)).drew = .ok (.string ⟨[68, 1].toArray⟩) (W.alloc (.cells #[.int .u8 68, .int .u8 1] 5)).drew := fun W => box_conv (Box.new W _ _).drew
  have HBC := Lib.hid (fun (W : World) (g : Nat) (h : Box W g 5 #[.int .u8 68, .int .u8 1]) => box_conv h)
  generalize (⟨[68, 1].toArray⟩ : ByteArray) = S68 at *
  clear h hd
  go_enter Try.func23, Try.ntmps23
  go_upto_region 1 with (fail)
  generalize hW0 : w.alloc (.cells #[.int .u64 o, .int .i64 k, .int .i64 z, .int .u64 i, .string s] 39) = W0 at *
  clear hW0
  have hlt := Q.out.lt
  have hlw := B.out.size
  go_cut [3] (fun s3 wx => s3 = .string (S68 ++ SO ++ SI) ∧ Box wx w.heap.size 39 #[.int .u64 o, .int .i64 k, .int .i64 z, .int .u64 i, .string s] ∧ Below w.heap.size w wx)
  case first =>
    go_region_with
      (first
        | (go_at_call_of 29 (Value.int .u64 (o : Int)); refine (HLO.out _).mono ?_; rintro e w1 ⟨rfl, hb⟩; have P := Lib.hid (show Box w1 w.heap.size 39 #[.int .u64 o, .int .i64 k, .int .i64 z, .int .u64 i, .string s] from (by first | (with_reducible exact Box.keep (Box.drew Q.out) hb) | (with_reducible exact Box.keep (Box.drew (Box.alloc Q.out _)) hb))); have T := Lib.hid (show Below w.heap.size w w1 from (by first | (with_reducible exact chain (Below.drew B.out) hb) | (with_reducible exact chain (Below.drew (Below.alloc B.out hlw _)) hb))); (try (with_reducible (have bq := Lib.hid (box_laterD hb); have cv1 := HBC.out _ _ bq.out))); have d0 := P.out.cell 0; have d3 := P.out.cell 3; have dl := P.out.lt; clear hb)
        | (go_at_call_of 29 (Value.int .u64 (i : Int)); refine (HLI.out _).mono ?_; rintro e w2 ⟨rfl, hb⟩; have P := Lib.hid (show Box w2 w.heap.size 39 #[.int .u64 o, .int .i64 k, .int .i64 z, .int .u64 i, .string s] from (by first | (with_reducible exact Box.keep P.out hb) | (with_reducible exact Box.keep (Box.alloc P.out _) hb))); have T := Lib.hid (show Below w.heap.size w w2 from (by first | (with_reducible exact chain T.out hb) | (with_reducible exact chain (Below.alloc T.out T.out.size _) hb))); (first | (with_reducible (have bq := Lib.hid (box_later hb); have cv2 := HBC.out _ _ bq.out)) | (with_reducible (have bq := Lib.hid (Box.keep bq.out hb); have cv2 := HBC.out _ _ bq.out)) | skip); clear hb))
    all_goals (go_wp2_with fail; go_meet; exact ⟨rfl, (by first | (with_reducible exact P.out) | (with_reducible exact Box.alloc P.out _)), (by first | (with_reducible exact T.out) | (with_reducible exact Below.alloc T.out T.out.size _))⟩)
  case rest =>
    obtain ⟨rfl, Q1, T1⟩ := hcut
    have P := Lib.hid Q1
    have T := Lib.hid T1
    clear Q1 T1 cvA cvD
    obtain ⟨c0, c1, c2, c3, c4⟩ := P.out.five
    have cv := conv_cells wc [UInt8.ofNat k, UInt8.ofNat z] 2 #[.int .u8 (k : Int), .int .u8 (z : Int)] rfl (by simp [byteV]; omega)
    have hkz : (⟨[UInt8.ofNat k, UInt8.ofNat z].toArray⟩ : ByteArray).size ≤ 2 := by rw [bytes_size]; simp
    generalize (⟨[UInt8.ofNat k, UInt8.ofNat z].toArray⟩ : ByteArray) = SKZ at *
    have hdl := P.out.lt
    have XB := Lib.hid (T.out.alloc T.out.size (.cells #[.int .u8 (k : Int), .int .u8 (z : Int)] 5))
    have hH : (S68 ++ SO ++ SI).size ≤ 18 := by simp [ByteArray.size_append]; omega
    generalize S68 ++ SO ++ SI = HD at *
    go_wp2_with fail
    rw [← HL.out]
    refine (refSeal_any _ HSZ2.out _).mono ?_
    rintro e w6 ⟨rfl, hb⟩
    have B6 := Lib.hid (chain XB.out hb)
    clear hb cv
    go_wp2_with fail
    go_ret
    exact ⟨rfl, B6.out⟩
end Go.Proofs.Ythihcdocfcfnkaa
