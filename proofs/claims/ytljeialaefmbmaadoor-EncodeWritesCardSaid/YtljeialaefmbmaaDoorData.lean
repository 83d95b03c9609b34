/- Contracts of package encode: Data of a Writer. -/
import Derived.Test.YtljeialaefmbmaaDoorDataN
import Derived.Deep.RegionLaw
set_option linter.unusedSimpArgs false
set_option linter.unusedVariables false
namespace Go.Proofs.YtljeialaefmbmaaDoor
open Go.RowKit

def dataS (l : List ByteArray) (o : Nat) : ByteArray := ⟨(joinR l ++ List.replicate o 101).toArray⟩

set_option maxHeartbeats 4000000 in
set_option maxRecDepth 100000 in
theorem data_pos (b : Nat) (l : List ByteArray) (o : Nat) (w : World) (hW : WAt w b l o) (hs : sumLen l + o ≤ 1099511627776) (hne : ∀ t ∈ l, 0 < t.size) (hpos : 0 < sumLen l + o) :
    Calls Tryd.prog 8 #[.pointer (some ⟨b, 0, none⟩)] w fun e w' => e = .returned (.string (dataS l o)) ∧ Below w.heap.size w w' := by
  obtain ⟨⟨v, c0, hc⟩, c1, c2, ff, lt⟩ := hW
  obtain ⟨p0, rfl⟩ := hc.ptr
  have HCH := Lib.hid hc
  clear hc
  have HJ := Lib.hid (joinR_len l)
  have HNE := Lib.hid hne
  clear hne
  obtain ⟨N, hN⟩ : ∃ N, N = sumLen l + o := ⟨_, rfl⟩
  have hN2 : (sumLen l : Int) + (o : Int) = (N : Int) := by omega
  have hNb : N ≤ 1099511627776 := by omega
  have hN0 : 0 < N := by omega
  have HN := Lib.hid hN
  have hwN : IntKind.i64.wrap (N : Int) = (N : Int) := IntWalk.i64_in _ (by omega)
  clear hN
  generalize hsl : sumLen l = sl at *
  have HSL := Lib.hid hsl
  clear hsl
  have hRep := Lib.hid (fun (q : Nat) (W : World) (h : W.cell? ⟨q, 0, none⟩ = some (.int .u8 101)) => rep_any q N (.int .u8 101) W hNb hN0 h rfl)
  go_enter Tryd.func8, Tryd.ntmps8
  go_upto_region 1 with fail
  go_cut [3] (fun s3 wx => ∃ (g : Nat) (Z : List Value), s3 = .slice (some ⟨g, 0, none⟩) N N ∧ wx.heap[g]? = some (.cells Z.toArray 5 (0, 0)) ∧ N ≤ Z.length ∧ Z.take N = List.replicate N (.int .u8 101) ∧ w.heap.size ≤ g ∧ Below w.heap.size w wx)
  case first =>
    go_region_held3 (fun w' => w'.cell? ⟨b, 1, none⟩ = some (.int .i64 (sl : Int)) ∧ w'.cell? ⟨b, 2, none⟩ = some (.int .i64 (o : Int)))
      ((first | (simp [go_sem, c1, c2, lt]; done) | (simp (maxDischargeDepth := 6) [go_sem, c1, c2, lt]; done) | (simp (maxDischargeDepth := 6) [go_sem, hc2, c1, c2, lt, lt1]; done)))
      (first
        | (go_at_call 27; refine (hRep.out _ _ (by simp [go_sem])).mono ?_; rintro e w2 ⟨g, Z, rfl, hZ, hZl, hZt, hg, hb2⟩; (repeat (with_reducible replace hb2 := undrew hb2)); obtain ⟨hc2, hf2⟩ := bcell hb2; have hz2 := bsize hb2; (try simp at hz2 hg); have lt1 : b < w.heap.size + 1 := (by omega)))
    all_goals
      go_wp2_with fail
      go_meet
      refine ⟨g, Z, rfl, hZ, hZl, hZt, ?_, ?_⟩
      · omega
      · exact (by repeat (first | with_reducible exact Below.refl _ _ | (with_reducible refine Below.setCell ?_ (by first | exact Nat.le_refl _ | omega | (simp; done) | (simp; omega)) _) | (with_reducible refine Below.alloc ?_ (by first | exact Nat.le_refl _ | omega | (simp; done) | (simp; omega)) _) | with_reducible refine Below.drew ?_ | with_reducible refine bel_drewN ?_ _ | (with_reducible refine bel_by (by with_reducible assumption) (by first | exact Nat.le_refl _ | omega | (simp; done) | (simp; omega)) ?_)))
  obtain ⟨g, Z, rfl, hZ, hZl, hZt, hg, hbC⟩ := hcut
  have d0 := (hbC.cell (p := ⟨b, 0, none⟩) lt).trans c0
  have d1 := (hbC.cell (p := ⟨b, 1, none⟩) lt).trans c1
  have d2 := (hbC.cell (p := ⟨b, 2, none⟩) lt).trans c2
  have HC0 := Lib.hid c0
  have HZ0 := Lib.hid (And.intro hZ (And.intro hZl (And.intro hZt hbC)))
  clear hZ hZl hZt hbC hRep c0 c1 c2 ff hpos hN2
  go_wp2
  go_loopw [4, 5] (fun s4 s5 wr => ∃ (l1 : List ByteArray) (p : Option Addr) (Z : List Value) (rest : List UInt8), s4 = .int .i64 (sumLen l1 : Int) ∧ s5 = .pointer p ∧ Hid (Chain w b (.pointer p) l1) ∧ Hid (∀ t ∈ l1, 0 < t.size) ∧ wr.heap[g]? = some (.cells Z.toArray 5 (0, 0)) ∧ N ≤ Z.length ∧ Hid (Z.take N = List.replicate (sumLen l1) (cellOf 101) ++ (rest.map cellOf ++ List.replicate o (cellOf 101))) ∧ Hid (joinR l = joinR l1 ++ rest) ∧ Below w.heap.size w wr) (fun s4 _ _ => (intOf s4).toNat)
  case atStart =>
    obtain ⟨hZ, hZl, hZt, hbC⟩ := HZ0.out
    refine ⟨l, p0, Z, [], by rw [HSL.out], rfl, HCH, HNE, hZ, hZl, Lib.hid ?_, Lib.hid (by simp), hbC⟩
    rw [hZt, HN.out, ← HSL.out, ← List.replicate_append_replicate]
    rfl
  case round =>
    clear HZ0 HCH HNE d0 d1 d2
    obtain ⟨l1, p, Z, rest, rfl, rfl, hch, hne, hZ, hZl, hZt, hjoin, hbel⟩ := hrel
    cases l1 with
    | nil =>
      obtain rfl : p = none := by have := hch.out; simpa [Chain] using this
      have hlen : (joinR l ++ List.replicate o (101 : UInt8)).length = N := by
        rw [List.length_append, HJ.out, List.length_replicate, HN.out]
      have hconv := data_text (P := Tryd.prog) (l := joinR l ++ List.replicate o 101) hZ (by rw [hZt.out, hjoin.out]; simp [joinR, sumLen]) hlen 53 9 5 Tryd.underlying53 Tryd.underlying5 Tryd.underlying9
      have HDS := Lib.hid (show dataS l o = ⟨(joinR l ++ List.replicate o 101).toArray⟩ from rfl)
      generalize (joinR l ++ List.replicate o (101 : UInt8)).toArray = T at *
      clear hlen
      go_wp2
      go_ret
      exact ⟨by rw [HDS.out]; rfl, hbel⟩
    | cons t l2 =>
      obtain ⟨g', pre, e, hgb, hg', k0, k1, hrest⟩ := hch.out
      obtain rfl : p = some ⟨g', 0, none⟩ := by simpa using e
      obtain ⟨p', rfl⟩ := hrest.ptr
      have HREST := Lib.hid hrest
      have ht0 := hne.out t (by simp)
      have HNE2 := Lib.hid (fun (u : ByteArray) (hu : u ∈ l2) => hne.out u (by simp [hu]))
      have hsum : sumLen (t :: l2) = t.size + sumLen l2 := by simp [sumLen]
      have k0' := (hbel.cell (p := ⟨g', 0, none⟩) hg').trans k0
      have k1' := (hbel.cell (p := ⟨g', 1, none⟩) hg').trans k1
      have hlen : N = t.size + sumLen l2 + rest.length + o := by
        have := congrArg List.length hZt.out
        rw [List.length_take, Nat.min_eq_left hZl, hsum] at this
        simp at this
        omega
      have htl : t.data.toList.length = t.size := (Lib.size_eq t).symm
      have hspl : (splice Z (sumLen l2) (t.data.toList.map cellOf)).take N = List.replicate (sumLen l2) (cellOf 101) ++ ((t.data.toList ++ rest).map cellOf ++ List.replicate o (cellOf 101)) := by
        have h := splice_mid (Z := Z) (A := List.replicate (sumLen l2) (cellOf 101)) (B := List.replicate t.size (cellOf 101)) (C := rest.map cellOf ++ List.replicate o (cellOf 101)) (cs := t.data.toList.map cellOf) (a := sumLen l2) (N := N) (by rw [hZt.out, hsum, Nat.add_comm, ← List.replicate_append_replicate, List.append_assoc]) hZl (by simp) (by rw [List.length_replicate, List.length_map, htl])
        rw [h]
        simp
      have hkf : sumLen l2 + (t.data.toList.map cellOf).length ≤ Z.length := by rw [List.length_map, htl]; omega
      have HSl := Lib.hid (length_splice Z (sumLen l2) (t.data.toList.map cellOf) hkf)
      have HSP := Lib.hid hspl
      have HJ2 := Lib.hid (show joinR l = joinR l2 ++ (t.data.toList ++ rest) by rw [hjoin.out, joinR]; simp)
      have hZd : wr.drew.heap[g]? = some (.cells Z.toArray 5 (0, 0)) := hZ
      have hBd : Below w.heap.size w wr.drew := hbel.drew
      obtain ⟨Q, hQ⟩ : ∃ Q, Q = sumLen (t :: l2) := ⟨_, rfl⟩
      rw [← hQ]
      have y0 : (Q : Int) - (t.size : Int) = ((sumLen l2 : Nat) : Int) := by omega
      have hQ1 : Q ≤ N := by omega
      have hQ2 : t.size ≤ Q := by omega
      have HQ := Lib.hid (show sumLen l2 + t.size ≤ N by omega)
      have HM := Lib.hid (show sumLen l2 < Q by omega)
      have hqN : sumLen l2 < N := by omega
      have hqN2 : sumLen l2 ≤ N := by omega
      have hnp : ¬ N = sumLen l2 := by omega
      have HSL2 := Lib.hid (show sumLen l2 = sumLen l2 from rfl)
      generalize hq : sumLen l2 = q at *
      have HQL := Lib.hid hq
      clear hQ hsum hlen hspl hrest k0 k1 hne hch hZt hjoin hq htl hZ hbel e
      go_wp2_with fail
      go_region_law (refine step_copy_rowstr rfl (.tmp 40) (.tmp 44) 53 9 rfl 5 Tryd.underlying53 byte_info g q (N - q) (N - q) t (by simp [Act.eval, Act.put, hnp]) (by simp [Act.eval, Act.put]) (by have := HQ.out; omega) Z 5 hZd (by have := HQ.out; omega) w.heap.size w hBd hg ?_; intro w4 hg4 hb4)
      all_goals
        have hZ4 := hg4.out
        have hSl := HSl.out
        have HSp := Lib.hid HSP.out
        generalize splice Z q (t.data.toList.map cellOf) = Z4 at *
        clear hg4
        have k0 := (hb4.cell (p := ⟨g', 0, none⟩) hg').trans ((hBd.cell (p := ⟨g', 0, none⟩) hg').symm.trans k0')
        try simp [Act.put]
        go_wp2
        go_roundw
        case rel => exact ⟨l2, p', Z4, t.data.toList ++ rest, by rw [HQL.out], rfl, HREST, HNE2, hZ4, by omega, by rw [HQL.out]; exact HSp, HJ2, hb4⟩
        case measure => have := HM.out; simp [intOf]; omega
end Go.Proofs.YtljeialaefmbmaaDoor
