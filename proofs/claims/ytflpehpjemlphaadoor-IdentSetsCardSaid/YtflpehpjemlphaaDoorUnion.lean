/- ident.Union and ident.Set. -/
import Derived.Test.YtflpehpjemlphaaDoorCat
import Derived.Sort.OwnSorted
set_option linter.unusedSimpArgs false
set_option linter.unusedVariables false
namespace Go.Proofs.YtflpehpjemlphaaDoor
open Go.RowKit Go.Sort

theorem own_take {w : World} {base e g n cap m : Nat} {xs : List Value} (h : w.ownsRow base e 1 (.slice (some ⟨g, 0, none⟩) n cap) n xs) (hm : m ≤ n) :
    w.ownsRow base e 1 (.slice (some ⟨g, 0, none⟩) m cap) m (xs.take m) := by
  obtain ⟨hl, h⟩ := h
  rcases h with ⟨h', _⟩ | ⟨g', cap', cur, h', hg, hb, h1, h2, h3, h4⟩
  · cases h'
  · cases h'
    refine ⟨by rw [List.length_take]; omega, Or.inr ⟨g, cap, cur, rfl, hg, hb, by omega, h2, h3, ?_⟩⟩
    rw [← h4, List.take_take]
    congr 1
    omega
theorem own_low {w : World} {base base' e n : Nat} {v : Value} {xs : List Value} (h : w.ownsRow base e 1 v n xs) (hb : base' ≤ base) : w.ownsRow base' e 1 v n xs := by
  obtain ⟨hl, h⟩ := h
  rcases h with h | ⟨g, cap, cur, h', hg, h''⟩
  · exact ⟨hl, Or.inl h⟩
  · exact ⟨hl, Or.inr ⟨g, cap, cur, h', Nat.le_trans hb hg, h''⟩⟩
def lst (L : List ByteArray) : List (List UInt8) := L.map (fun x => x.data.toList)
theorem enc_lst (L : List ByteArray) : (lst L).map encStr = L.map Value.string := by
  unfold lst
  rw [List.map_map]
  apply List.map_congr_left
  intro x _
  cases x
  rfl
theorem enc_bytes (l : List (List UInt8)) : l.map encStr = (l.map bytesOf).map Value.string := by
  rw [List.map_map]
  apply List.map_congr_left
  intro x _
  rfl
set_option maxHeartbeats 1000000 in
/-- sorted, and once each, where a slice of the call's own lies -/
theorem sorted_row {v : Value} {base : Nat} {L : List ByteArray} {w : World} (hown : w.ownsRow base 9 1 v L.length (L.map Value.string)) (hlen : L.length ≤ 1000000) (hbase : base ≤ w.heap.size) :
    Calls Tryd.prog 28 #[v] w fun e w1 => e = .returned (.tuple #[]) ∧ Below base w w1 ∧
      Calls Tryd.prog 29 #[v] w1 fun e w2 => ∃ v', e = .returned v' ∧ w2.ownsRow base 9 1 v' (setL L).length ((setL L).map Value.string) ∧ Below base w w2 := by
  rcases hown.2 with ⟨rfl, h0⟩ | ⟨g, cap, cur, rfl, hg, hb, h1, h2, h3, h4⟩
  · have : L = [] := List.eq_nil_of_length_eq_zero h0
    subst this
    refine (Tryd.slices_Sort_string_none none 0 w).mono ?_
    rintro e w1 ⟨rfl, rfl⟩
    refine ⟨rfl, Below.refl _ _, ?_⟩
    refine (Tryd.slices_Compact_string_empty none 0 w1).mono ?_
    rintro e w2 ⟨rfl, rfl⟩
    exact ⟨_, rfl, World.ownsRow_nil w2 _ _ _, Below.refl _ _⟩
  · have hgs : g < w.heap.size := (Array.getElem?_eq_some_iff.1 hb).1
    have hll : (lst L).length = L.length := by simp [lst]
    have hH : Holds encStr w g 0 (lst L).toArray := holds_of_block hb (by rw [hll, enc_lst]; simpa using h4)
    have hS := Tryd.slices_Sort_string g 0 cap (lst L) w hH hgs (by omega)
    rw [hll] at hS
    refine hS.mono ?_
    rintro e w1 ⟨rfl, n, os, rfl⟩
    have o1 := ownsRow_sorted (n := n) (os := os) (ts := (lst L).mergeSort fun x y => decide (x ≤ y)) (ss := lst L) (by simp) hg hb (by omega) h2 (by simpa using h3)
    have b1 : Below base w (grow (putRow encStr (Sort.ahead w n) g 0 ((lst L).mergeSort fun x y => decide (x ≤ y)).toArray) os) := (Below.refl base w).grown (grownBy_sorted _) hbase (by simp; omega)
    refine ⟨rfl, b1, ?_⟩
    generalize grow (putRow encStr (Sort.ahead w n) g 0 ((lst L).mergeSort fun x y => decide (x ≤ y)).toArray) os = w1 at *
    have hsc : (Lib.compact ((lst L).mergeSort fun x y => decide (x ≤ y))).map bytesOf = setL L := sort_compact L
    have hzl : ((lst L).mergeSort fun x y => decide (x ≤ y)).length = L.length := by simp [hll]
    generalize ((lst L).mergeSort fun x y => decide (x ≤ y)) = zs at *
    rw [hll] at o1
    rcases o1.2 with ⟨h', _⟩ | ⟨g', cap', cur', h', hg', hb', h1', h2', h3', h4'⟩
    · cases h'
    · cases h'
      have hC := Tryd.slices_Compact_string g 0 cap zs w1 (holds_of_block hb' (by rw [hzl]; simpa using h4')) (by omega) (by omega)
      rw [hzl] at hC
      refine hC.mono ?_
      rintro e w2 ⟨rfl, q, rfl⟩
      have hcl : (Lib.compact zs).length = (setL L).length := by rw [← hsc, List.length_map]
      have hle : (Lib.compact zs).length ≤ L.length := by
        rw [← hzl]
        unfold Lib.compact Lib.compactUpTo
        rw [List.length_map]
        exact Nat.le_trans (List.length_filter_le _ _) (by simp)
      have o2 := ownsRow_sorted (n := q) (os := #[]) (ts := Lib.compact zs ++ List.replicate (L.length - (Lib.compact zs).length) []) (ss := zs) (by simp; omega) hg hb' (by omega) h2 (by simpa using h3')
      rw [grow_empty, hzl] at o2
      have b2 := (Below.refl base w1).grown (grownBy_sorted (n := q) (os := #[]) (g := g) (Lib.compact zs ++ List.replicate (L.length - (Lib.compact zs).length) []).toArray) (Nat.le_trans hbase b1.size) (by simp; omega)
      rw [grow_empty] at b2
      refine ⟨_, rfl, ?_, b1.trans b2⟩
      have o3 := own_take o2 hle
      rw [List.map_append, List.take_left' (by simp), enc_bytes, hsc, hcl] at o3
      rw [hcl]
      exact o3
set_option maxHeartbeats 1000000 in
set_option maxRecDepth 100000 in
theorem union_any {a a' : Option Addr} {b b' off off' len len' cap cap' : Nat} {A B : List ByteArray} {w : World} (hA : SlS w a b off len cap A) (hB : SlS w a' b' off' len' cap' B) (na : a = none → cap = 0) (nb : a' = none → cap' = 0)
    (h1 : len ≤ 500000) (h2 : len' ≤ 500000) :
    Calls Tryd.prog 13 #[.slice a len cap, .slice a' len' cap'] w (CatPost w (setL (A ++ B))) := by
  have HA := Lib.hid hA
  have HB := Lib.hid hB
  clear hA hB
  go_enter Tryd.func13, Tryd.ntmps13
  go_wp2_with fail
  have hBw : Below w.heap.size w (w.alloc (Obj.cells #[Value.slice a len cap, Value.slice a' len' cap'] 22)) := (by repeat (first | with_reducible exact Below.refl _ _ | (with_reducible refine Below.setCell ?_ (by first | exact Nat.le_refl _ | omega | (simp; done) | (simp; omega)) _) | (with_reducible refine Below.alloc ?_ (by first | exact Nat.le_refl _ | omega | (simp; done) | (simp; omega)) _) | with_reducible refine Below.drew ?_ | with_reducible refine bel_drewN ?_ _ | (with_reducible refine bel_by (by with_reducible assumption) (by first | exact Nat.le_refl _ | omega | (simp; done) | (simp; omega)) ?_)))
  have hsz : w.heap.size < (w.alloc (Obj.cells #[Value.slice a len cap, Value.slice a' len' cap'] 22)).heap.size := by simp
  have hcat := concat_any (HA.out.keep hBw) (HB.out.keep hBw) na nb w.heap.size 0 hsz (by unfold World.cell?; rw [heap_alloc_new]; rfl) (by unfold World.cell?; rw [heap_alloc_new]; rfl) h1 h2
  generalize w.alloc (Obj.cells #[Value.slice a len cap, Value.slice a' len' cap'] 22) = W at *
  refine hcat.mono ?_
  rintro e w1 ⟨v, rfl, hown, hB1⟩
  have hown1 := own_low hown (Nat.le_of_lt hsz)
  have hBw1 := Lib.hid (hBw.trans (hB1.mono (Nat.le_of_lt hsz)))
  have hso := sorted_row hown1 (by rw [List.length_append, HA.out.hl, HB.out.hl]; omega) hBw1.out.size
  clear hcat hown hown1 hB1 hBw HA HB
  go_wp2_with fail
  refine hso.mono ?_
  rintro e w2 ⟨rfl, hB2, hco⟩
  clear hso hB2
  go_wp2_with fail
  refine hco.mono ?_
  rintro e w3 ⟨v', rfl, hown3, hB3⟩
  have hBw3 := Lib.hid (hBw1.out.trans hB3)
  have HO := Lib.hid hown3
  clear hco hB3 hBw1 hown3
  go_wp2
  go_ret
  exact ⟨v', rfl, HO.out, hBw3.out⟩
theorem sls_nil (w : World) : SlS w none 0 0 0 0 [] := by
  refine ⟨rfl, fun h => absurd h (Nat.lt_irrefl 0), fun h => absurd h (Nat.lt_irrefl 0), Nat.le_refl _, Nat.zero_le _, fun k hk => absurd hk (Nat.not_lt_zero k)⟩
set_option maxHeartbeats 1000000 in
set_option maxRecDepth 100000 in
theorem set_any {a : Option Addr} {b off len cap : Nat} {A : List ByteArray} {w : World} (hA : SlS w a b off len cap A) (na : a = none → cap = 0) (h1 : len ≤ 500000) :
    Calls Tryd.prog 9 #[.slice a len cap] w (CatPost w (setL A)) := by
  have hu := union_any hA (sls_nil w) na (fun _ => rfl) h1 (Nat.zero_le _)
  rw [List.append_nil] at hu
  clear hA
  go_enter Tryd.func9, Tryd.ntmps9
  go_wp2_with fail
  refine hu.mono ?_
  rintro e w1 ⟨v, rfl, hown, hB⟩
  have HO := Lib.hid hown
  have HB := Lib.hid hB
  clear hu hown hB
  go_wp2
  go_ret
  exact ⟨v, rfl, HO.out, HB.out⟩
end Go.Proofs.YtflpehpjemlphaaDoor
