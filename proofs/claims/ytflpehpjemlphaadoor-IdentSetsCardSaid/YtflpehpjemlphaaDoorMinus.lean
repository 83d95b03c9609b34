/- ident.Minus and ident.Subset. -/
import Derived.Test.YtflpehpjemlphaaDoorUnion
set_option linter.unusedSimpArgs false
set_option linter.unusedVariables false
namespace Go.Proofs.YtflpehpjemlphaaDoor
open Go.RowKit Go.Sort

theorem own_sls {w : World} {base : Nat} {v : Value} {L : List ByteArray} (h : w.ownsRow base 9 1 v L.length (L.map Value.string)) :
    (v = .slice none 0 0 ∧ L = []) ∨ ∃ g cap, v = .slice (some ⟨g, 0, none⟩) L.length cap ∧ base ≤ g ∧ g < w.heap.size ∧ L.length ≤ cap ∧ SlS w (some ⟨g, 0, none⟩) g 0 L.length cap L ∧ Holds encStr w g 0 (lst L).toArray := by
  have hcell := h
  rcases h.2 with ⟨rfl, h0⟩ | ⟨g, cap, cur, rfl, hg, hb, h1, h2, h3, h4⟩
  · exact Or.inl ⟨rfl, List.eq_nil_of_length_eq_zero h0⟩
  · have hgs : g < w.heap.size := (Array.getElem?_eq_some_iff.1 hb).1
    refine Or.inr ⟨g, cap, rfl, hg, hgs, h1, ⟨rfl, fun _ => rfl, fun _ => hgs, h1, h2, fun k hk => ?_⟩, holds_of_block hb (by rw [show (lst L).length = L.length by simp [lst], enc_lst]; simpa using h4)⟩
    rw [Nat.zero_add, hcell.cellAt k (by omega)]
    simp [hk]
theorem own_any {w : World} {base : Nat} {v : Value} {L : List ByteArray} (h : w.ownsRow base 9 1 v L.length (L.map Value.string)) :
    ∃ a b cap, v = .slice a L.length cap ∧ SlS w a b 0 L.length cap L ∧ (a = none → cap = 0) := by
  rcases own_sls h with ⟨rfl, rfl⟩ | ⟨g, cap, rfl, _, _, _, hs, _⟩
  · exact ⟨none, 0, 0, rfl, sls_nil w, fun _ => rfl⟩
  · exact ⟨_, g, cap, rfl, hs, fun h => by cases h⟩
theorem ins_len (x : ByteArray) : ∀ (L : List ByteArray), (insL x L).length ≤ L.length + 1
  | [] => by simp [insL]
  | a :: t => by
    have := ins_len x t
    unfold insL
    split
    · simp
    · split
      · simp; omega
      · simp
theorem set_len : ∀ (L : List ByteArray), (setL L).length ≤ L.length
  | [] => by simp [setL]
  | a :: t => by
    have h1 := set_len t
    have h2 := ins_len a (setL t)
    have e : setL (a :: t) = insL a (setL t) := rfl
    rw [e, List.length_cons]
    omega
set_option maxHeartbeats 1000000 in
set_option maxRecDepth 100000 in
theorem minus1_any {pb : Nat} {a : Option Addr} {b len cap : Nat} {L : List ByteArray} {W : World} (hbox : W.cell? ⟨pb, 0, none⟩ = some (.slice a len cap)) (h : SlS W a b 0 len cap L) (hs : srtL L = true) (hlen : len ≤ 2000000) (x : ByteArray) :
    Calls Tryd.prog 31 #[.string x, .pointer (some ⟨pb, 0, none⟩)] W fun e w' => e = .returned (.bool (Lib.containsS L x)) ∧ w' = W := by
  have hbin := bin_any h hs hlen x
  clear h
  go_enter Tryd.func31, Tryd.ntmps31
  go_wp2_with fail
  refine hbin.mono ?_
  rintro e w1 ⟨k, rfl, rfl⟩
  go_wp2
  go_ret
  exact ⟨rfl, rfl⟩
set_option maxHeartbeats 1000000 in
set_option maxRecDepth 100000 in
theorem delete_nil (fv : Value) (w : World) : Calls Tryd.prog 30 #[.slice none 0 0, fv] w fun e w' => e = .returned (.slice none 0 0) ∧ w' = w := by
  go_enter Tryd.func30, Tryd.ntmps30
  go_wp2_with fail
  refine (Tryd.slices_IndexFunc_empty (α := List UInt8) none 0 fv w).mono ?_
  rintro e w1 ⟨rfl, rfl⟩
  go_wp2
  go_ret
  exact ⟨rfl, rfl⟩
set_option maxHeartbeats 1000000 in
theorem delete_row {v : Value} {base pb bB cB : Nat} {aB : Option Addr} {L M : List ByteArray} {w : World} (hown : w.ownsRow base 9 1 v L.length (L.map Value.string)) (hlen : L.length ≤ 1000000) (hbase : base ≤ w.heap.size)
    (hgive : ∀ W', Below base w W' → W'.cell? ⟨pb, 0, none⟩ = some (.slice aB M.length cB) ∧ SlS W' aB bB 0 M.length cB M) (hs : srtL M = true) (hM : M.length ≤ 2000000) :
    Calls Tryd.prog 30 #[v, .func (.func 31) #[] #[.pointer (some ⟨pb, 0, none⟩)]] w fun e w2 =>
      ∃ v', e = .returned v' ∧ w2.ownsRow base 9 1 v' (L.filter fun x => !Lib.containsS M x).length ((L.filter fun x => !Lib.containsS M x).map Value.string) ∧ Below base w w2 := by
  have hg : ∀ W', Below base w W' → ∀ x : List UInt8, FnGives Tryd.prog 31 #[.pointer (some ⟨pb, 0, none⟩)] #[encStr x] (.bool (Lib.containsS M (bytesOf x))) W' := by
    intro W' hW x
    obtain ⟨q1, q2⟩ := hgive W' hW
    refine (minus1_any q1 q2 hs hM (bytesOf x)).mono ?_
    rintro e w1 ⟨rfl, rfl⟩
    exact ⟨rfl, 0, rfl⟩
  rcases hown.2 with ⟨rfl, h0⟩ | ⟨g, cap, cur, rfl, hgb, hb, h1, h2, h3, h4⟩
  · have : L = [] := List.eq_nil_of_length_eq_zero h0
    subst this
    refine (delete_nil _ w).mono ?_
    rintro e w1 ⟨rfl, rfl⟩
    exact ⟨_, rfl, World.ownsRow_nil w1 _ _ _, Below.refl _ _⟩
  · have hgs : g < w.heap.size := (Array.getElem?_eq_some_iff.1 hb).1
    have hll : (lst L).length = L.length := by simp [lst]
    have hH : Holds encStr w g 0 (lst L).toArray := holds_of_block hb (by rw [hll, enc_lst]; simpa using h4)
    have hD := Tryd.slices_DeleteFunc encStr (fun x => rfl) (fun x => Lib.containsS M (bytesOf x)) 31 #[.pointer (some ⟨pb, 0, none⟩)] (enters_of Tryd.func31 (by kernel_rfl) rfl) [] Tryd.zeroValue9 g 0 cap (lst L).toArray w
      (fun W' x hW => hg W' (hW.mono hbase) x)
      (fun n os dk x _ => hg _ ((Below.refl base w).grown (grownBy_sorted dk) hbase (by simp; omega)) x) hH (by simp [hll]; omega) (by simp [hll]; omega)
    have hfl : ((lst L).filter fun x => !Lib.containsS M (bytesOf x)).map bytesOf = L.filter fun x => !Lib.containsS M x := by
      unfold lst
      rw [List.filter_map, List.map_map]
      rw [show (bytesOf ∘ fun (x : ByteArray) => x.data.toList) = id from funext bytesOf_list, List.map_id]
      congr 1
    simp only [List.size_toArray, hll] at hD
    refine hD.mono ?_
    rintro e w2 ⟨rfl, q, rfl⟩
    have hzl : ((lst L).filter fun x => !Lib.containsS M (bytesOf x)).length ≤ L.length := by rw [← hll]; exact List.length_filter_le _ _
    generalize ((lst L).filter fun x => !Lib.containsS M (bytesOf x)) = zs at *
    have hcl : zs.length = (L.filter fun x => !Lib.containsS M x).length := by rw [← hfl, List.length_map]
    have o2 := ownsRow_sorted (n := q) (os := #[]) (ts := zs ++ List.replicate (L.length - zs.length) []) (ss := lst L) (by simp; omega) hgb hb (by omega) h2 (by simpa using h3)
    rw [grow_empty, hll] at o2
    have b2 := (Below.refl base w).grown (grownBy_sorted (n := q) (os := #[]) (g := g) (zs ++ List.replicate (L.length - zs.length) []).toArray) hbase (by simp; omega)
    rw [grow_empty] at b2
    refine ⟨_, rfl, ?_, b2⟩
    have o3 := own_take o2 hzl
    rw [List.map_append, List.take_left' (by simp), enc_bytes, hfl, hcl] at o3
    rw [hcl]
    exact o3
set_option maxHeartbeats 1000000 in
set_option maxRecDepth 100000 in
theorem minus_any {a a' : Option Addr} {b b' off off' len len' cap cap' : Nat} {A B : List ByteArray} {w : World} (hA : SlS w a b off len cap A) (hB : SlS w a' b' off' len' cap' B) (na : a = none → cap = 0) (nb : a' = none → cap' = 0)
    (h1 : len ≤ 500000) (h2 : len' ≤ 500000) :
    Calls Tryd.prog 15 #[.slice a len cap, .slice a' len' cap'] w (CatPost w ((setL A).filter fun x => !Lib.containsS (setL B) x)) := by
  have HA := Lib.hid hA
  have HB := Lib.hid hB
  clear hA hB
  go_enter Tryd.func15, Tryd.ntmps15
  go_wp2_with fail
  refine (set_any HB.out nb h2).mono ?_
  rintro e w1 ⟨vB, rfl, hown1, hB1⟩
  obtain ⟨aB, bB, cB, rfl, hs1, _⟩ := own_any hown1
  have HA1 := Lib.hid (HA.out.keep hB1)
  have HS1 := Lib.hid hs1
  have HW1 := Lib.hid hB1
  have hlB : (setL B).length ≤ 2000000 := by have := set_len B; rw [HB.out.hl] at this; omega
  clear hown1 hs1 hB1 HA HB
  go_wp2_with fail
  have hBw : Below w1.heap.size w1 (w1.alloc (Obj.cells #[Value.slice aB (setL B).length cB] 22)) := (Below.refl _ w1).alloc (Nat.le_refl _) _
  have hsz : (w1.alloc (Obj.cells #[Value.slice aB (setL B).length cB] 22)).heap.size = w1.heap.size + 1 := by simp
  have hbox : (w1.alloc (Obj.cells #[Value.slice aB (setL B).length cB] 22)).cell? ⟨w1.heap.size, 0, none⟩ = some (.slice aB (setL B).length cB) := by unfold World.cell?; rw [heap_alloc_new]; rfl
  have hlow : w.heap.size ≤ w1.heap.size := HW1.out.size
  have HWW := Lib.hid (HW1.out.trans (hBw.mono hlow))
  have HSW := Lib.hid (HS1.out.keep hBw)
  have HAW := Lib.hid (HA1.out.keep hBw)
  generalize w1.alloc (Obj.cells #[Value.slice aB (setL B).length cB] 22) = W at *
  clear HW1 HS1 HA1 hBw
  generalize w1.heap.size = pb at *
  refine (set_any HAW.out na h1).mono ?_
  rintro e w2 ⟨vA, rfl, hown2, hB2⟩
  have hlA : (setL A).length ≤ 1000000 := by have := set_len A; rw [HAW.out.hl] at this; omega
  have hdel := delete_row hown2 hlA hB2.size (pb := pb) (aB := aB) (bB := bB) (cB := cB) (M := setL B) (fun W' hW' => by
    have hall := hB2.trans hW'
    exact ⟨(hall.cell (p := ⟨pb, 0, none⟩) (by rw [hsz]; exact Nat.lt_succ_self pb)).trans hbox, HSW.out.keep hall⟩) (set_srt B) hlB
  have HB2 := Lib.hid hB2
  clear hown2 hB2 hbox HAW HSW
  go_wp2_with fail
  refine hdel.mono ?_
  rintro e w3 ⟨v', rfl, hown3, hB3⟩
  have hle : w.heap.size ≤ W.heap.size := HWW.out.size
  have HO := Lib.hid (own_low hown3 hle)
  have HB3 := Lib.hid (HWW.out.trans ((HB2.out.trans hB3).mono hle))
  clear hdel hown3 hB3 HB2 HWW
  go_wp2
  go_ret
  exact ⟨v', rfl, HO.out, HB3.out⟩
def minL (A B : List ByteArray) : List ByteArray := (setL A).filter fun x => !Lib.containsS (setL B) x
def subB (A B : List ByteArray) : Bool := decide ((minL A B).length = 0)
set_option maxHeartbeats 1000000 in
set_option maxRecDepth 100000 in
theorem subset_any {a a' : Option Addr} {b b' off off' len len' cap cap' : Nat} {A B : List ByteArray} {w : World} (hA : SlS w a b off len cap A) (hB : SlS w a' b' off' len' cap' B) (na : a = none → cap = 0) (nb : a' = none → cap' = 0)
    (h1 : len ≤ 500000) (h2 : len' ≤ 500000) :
    Calls Tryd.prog 17 #[.slice a len cap, .slice a' len' cap'] w fun e w' => e = .returned (.bool (subB A B)) ∧ Below w.heap.size w w' := by
  have hmi := minus_any hA hB na nb h1 h2
  have hml : (minL A B).length ≤ 500000 := by
    have h3 : (minL A B).length ≤ (setL A).length := List.length_filter_le _ _
    have h4 := set_len A
    rw [hA.hl] at h4
    omega
  clear hA hB
  have hsub : subB A B = (((minL A B).length : Int) == 0) := by
    unfold subB
    rw [Bool.eq_iff_iff, decide_eq_true_eq, beq_iff_eq]
    omega
  rw [hsub]
  obtain ⟨m, hm⟩ : ∃ m, (minL A B).length = m := ⟨_, rfl⟩
  rw [hm] at hml ⊢
  go_enter Tryd.func17, Tryd.ntmps17
  go_wp2_with fail
  refine hmi.mono ?_
  rintro e w1 ⟨v, rfl, hown, hB⟩
  obtain ⟨av, bv, cv, rfl, _, _⟩ := own_any hown
  rw [show (setL A).filter (fun x => !Lib.containsS (setL B) x) = minL A B from rfl]
  have HB := Lib.hid hB
  clear hmi hown hB hsub
  rw [hm]
  go_wp2
  go_ret
  exact ⟨rfl, HB.out⟩
end Go.Proofs.YtflpehpjemlphaaDoor
