/- The reference's Permutation. -/
import Derived.Test.YtflmjoikojfgaaaGreatSam
import Derived.Test.YtflmjoikojfgaaaGreatMed
set_option linter.unusedSimpArgs false
set_option linter.unusedVariables false
namespace Go.Proofs.YtflmjoikojfgaaaGreat
open Go.RowKit Go.Sort

/-- the numbers from 0 to n - 1, each of them once -/
def PermI (L : List Int) (n : Nat) : Prop := L.Nodup ∧ (∀ x ∈ L, 0 ≤ x ∧ x < (n : Int)) ∧ L.length = n
instance (L : List Int) (n : Nat) : Decidable (PermI L n) := by unfold PermI; exact inferInstance
def permB (L : List Int) (n : Nat) : Bool := decide (PermI L n)
theorem perm_no1 {L : List Int} {n k : Nat} (hk : k < L.length) (h : ¬ (0 ≤ L.getD k 0 ∧ L.getD k 0 < (n : Int))) : permB L n = false :=
  decide_eq_false fun hp => h (by
    have e : L.getD k 0 = L[k] := by simp [List.getD, hk]
    rw [e]
    exact hp.2.1 _ (List.getElem_mem hk))
theorem perm_no2 {L : List Int} {n k : Nat} (hk : k < L.length) (h : L.getD k 0 ∈ L.take k) : permB L n = false :=
  decide_eq_false fun hp => by
    have e : L.getD k 0 = L[k] := by simp [List.getD, hk]
    have hn := hp.1
    rw [← List.take_append_drop (k + 1) L, List.take_succ_eq_append_getElem hk] at hn
    have h1 := (List.nodup_append.1 hn).1
    have h2 := (List.nodup_append.1 h1).2.2
    rw [e] at h
    exact h2 _ h _ (List.mem_singleton.2 rfl) rfl
/-- what is known of the first ones -/
def PermK (L : List Int) (n k : Nat) : Prop := (L.take k).Nodup ∧ ∀ x ∈ L.take k, 0 ≤ x ∧ x < (n : Int)
theorem permK_next {L : List Int} {n k m : Nat} (h : PermK L n k) (hk : k < L.length) (hm : L.getD k 0 = (m : Int)) (hn : m < n) (hnew : ¬ (m : Int) ∈ L.take k) : PermK L n (k + 1) := by
  have e : L[k] = (m : Int) := by rw [← hm]; simp [List.getD, hk]
  unfold PermK
  rw [List.take_succ_eq_append_getElem hk, e]
  refine ⟨List.nodup_append.2 ⟨h.1, by simp, fun a ha b hb => ?_⟩, fun x hx => ?_⟩
  · rw [List.mem_singleton] at hb
    subst hb
    exact fun e => hnew (e ▸ ha)
  · rw [List.mem_append, List.mem_singleton] at hx
    rcases hx with hx | rfl
    · exact h.2 x hx
    · omega
theorem seen_next {L : List Int} {n k m : Nat} {Z : List Bool} (hZ : Z.length = n) (h : ∀ j, j < n → Z.getD j false = decide ((j : Int) ∈ L.take k)) (hk : k < L.length) (hm : L.getD k 0 = (m : Int)) (hn : m < n) :
    ∀ j, j < n → (Z.set m true).getD j false = decide ((j : Int) ∈ L.take (k + 1)) := by
  intro j hj
  have e : L[k] = (m : Int) := by rw [← hm]; simp [List.getD, hk]
  rw [List.take_succ_eq_append_getElem hk, e]
  by_cases hjm : j = m
  · subst hjm
    simp [List.getD, hZ, hj]
  · have := h j hj
    simp only [List.getD] at this ⊢
    rw [List.getElem?_set_ne (by omega), this, decide_eq_decide, List.mem_append, List.mem_singleton]
    constructor
    · exact Or.inl
    · rintro (h | h)
      · exact h
      · omega
theorem infoB : (Tryz.prog.info? 4).map (fun i => (i.zero, i.size, i.bytes)) = some (some (.bool false), 1, 1) := by kernel_rfl
set_option maxHeartbeats 2000000 in
set_option maxRecDepth 100000 in
theorem perm_any {a : Option Addr} {b off len cap n : Nat} {L : List Int} {w : World} (h : SlI w a b off len cap L) (hn : n ≤ 1000000) :
    Calls Tryz.prog 25 #[.slice a len cap, .int .i64 (n : Int)] w fun e w' => e = .returned (.bool (permB L n)) ∧ Below w.heap.size w w' := by
  obtain ⟨iz, hi, hz0, hz1, hz2⟩ := info_parts infoB
  obtain ⟨w4, hrun, hown, hgrow⟩ := run_make_full (P := Tryz.prog) w w.heap.size 73 4 iz (.bool false) 1 Tryz.underlying73 hi hz0 hz1 .i64 .i64 n (by rw [hz2]; omega) (by unfold maxLen; omega) (Nat.le_refl _)
  have hB4 : Below w.heap.size w w4 := (Below.refl _ _).grown hgrow (Nat.le_refl _) (by simp)
  have HO4 := Lib.hid (show w4.ownsRow w.heap.size 4 1 (.slice (some ⟨w.heap.size, 0, none⟩) n n) n ((List.replicate n false).map Value.bool) by
    have e : (madeCells (Value.bool false).cells (n * 1)).toList = (List.replicate n false).map Value.bool := by
      rw [List.map_replicate, Nat.mul_one]
      exact toList_madeCells_one _ _
    rw [← e]; exact hown)
  have HB4 := Lib.hid hB4
  clear hown hgrow hB4
  have hl := h.hl
  have hcap := h.hcap
  have hmax := h.hmax
  unfold maxLen at hmax
  have HS := Lib.hid h
  clear h
  obtain ⟨gz, hgz⟩ : ∃ gz, w.heap.size = gz := ⟨_, rfl⟩
  rw [hgz] at hrun HO4 HB4 ⊢
  have HGZ := Lib.hid hgz
  clear hgz
  go_enter Tryz.func25, Tryz.ntmps25
  go_wp2_with fail
  clear hrun
  go_loopw [6] (fun s6 wr => ∃ (k : Nat) (Z : List Bool), k ≤ len ∧ s6 = .int .i64 (k : Int) ∧ Hid (wr.ownsRow gz 4 1 (.slice (some ⟨gz, 0, none⟩) n n) n (Z.map Value.bool)) ∧ Hid (Below gz w wr) ∧ Hid (Z.length = n) ∧ Hid (∀ j, j < n → Z.getD j false = decide ((j : Int) ∈ L.take k)) ∧ Hid (PermK L n k)) (fun s6 _ => (len - (intOf s6)).toNat)
  case atStart => exact ⟨0, List.replicate n false, Nat.zero_le _, rfl, HO4, HB4, Lib.hid (by simp), Lib.hid (fun j hj => by simp [List.getD, hj]), Lib.hid ⟨by simp, by simp⟩⟩
  case round =>
    clear HO4 HB4
    obtain ⟨k, Z, hk, rfl, HO, HB, HZL, HZV, HK⟩ := hrel
    by_cases hlt : k < len
    · have l1 : (k : Int) < (len : Int) := by omega
      obtain rfl := HS.out.ha (by omega)
      have hkL : k < L.length := by omega
      have x1 : wr.cell? ⟨b, off + k, none⟩ = some (.int .i64 (L.getD k 0)) := by
        have := (HS.out.keep (HGZ.out ▸ HB.out)).cell k hkL
        simpa [List.getD, hkL] using this
      have HNO1 := Lib.hid (fun h => perm_no1 (n := n) hkL h)
      have HNO2 := Lib.hid (fun h => perm_no2 (n := n) hkL h)
      have HNX := Lib.hid (fun m hm hlt hnew => permK_next (m := m) HK.out hkL hm hlt hnew)
      have HSN := Lib.hid (fun m hm hlt => seen_next (m := m) HZL.out HZV.out hkL hm hlt)
      generalize L.getD k 0 = x at *
      clear HK
      by_cases h0 : x < 0
      · have HE := Lib.hid (HNO1.out (by omega))
        clear HNO1 HNO2 HNX HSN
        have k1 : decide (x < 0) = true := decide_eq_true h0
        go_wp2_with fail
        go_ret
        exact ⟨by rw [HE.out]; rfl, HB.out⟩
      · have k1 : decide (x < 0) = false := decide_eq_false h0
        obtain ⟨m, rfl⟩ : ∃ m : Nat, x = (m : Int) := ⟨x.toNat, by omega⟩
        by_cases hmn : m < n
        · have k2 : ¬ (n : Int) ≤ (m : Int) := by omega
          have k3 : decide ((m : Int) ≥ (n : Int)) = false := decide_eq_false (by omega)
          have hmZ : m < Z.length := by rw [HZL.out]; exact hmn
          have y1 : wr.cell? ⟨gz, m, none⟩ = some (.bool (Z.getD m false)) := by
            rw [HO.out.cellAt m (by omega), List.getElem?_map, List.getElem?_eq_getElem hmZ]
            simp [List.getD, hmZ]
          have hzv := HZV.out m hmn
          have fz : wr.frozen? ⟨gz, m, none⟩ = false := HO.out.frozenAt m
          by_cases hin : (m : Int) ∈ L.take k
          · rw [hzv, decide_eq_true hin] at y1
            have HE := Lib.hid (HNO2.out hin)
            clear HNO1 HNO2 HNX HSN hin hzv
            go_wp2_with fail
            go_ret
            exact ⟨by rw [HE.out]; rfl, HB.out⟩
          · rw [hzv, decide_eq_false hin] at y1
            have HE := Lib.hid (HNX.out m rfl hmn hin)
            have HE2 := Lib.hid (HSN.out m rfl hmn)
            clear HNO1 HNO2 HNX HSN hin hzv
            go_wp2_with fail
            go_roundw
            case rel =>
              have hst := HO.out.stored m (.bool true)
              rw [← List.map_set] at hst
              exact ⟨k + 1, Z.set m true, by omega, by go_num, Lib.hid hst.1, Lib.hid (HB.out.setCell (by simp) _), Lib.hid (by rw [List.length_set]; exact HZL.out), HE2, HE⟩
            case measure => simp [intOf]; omega
        · have k2 : (n : Int) ≤ (m : Int) := by omega
          have k3 : decide ((m : Int) ≥ (n : Int)) = true := decide_eq_true (by omega)
          have HE := Lib.hid (HNO1.out (by omega))
          clear HNO1 HNO2 HNX HSN
          go_wp2_with fail
          go_ret
          exact ⟨by rw [HE.out]; rfl, HB.out⟩
    · obtain rfl : k = len := by omega
      have l1 : ¬ (k : Int) < (k : Int) := by omega
      have HE := Lib.hid (show permB L n = decide ((k : Int) = (n : Int)) by
        have hK := HK.out
        unfold PermK at hK
        rw [List.take_of_length_le (by omega)] at hK
        unfold permB
        rw [decide_eq_decide]
        constructor
        · intro hp; have := hp.2.2; omega
        · intro he; exact ⟨hK.1, hK.2, by omega⟩)
      clear HK HZV HO
      go_wp2
      go_ret
      exact ⟨by rw [HE.out]; rfl, HB.out⟩
end Go.Proofs.YtflmjoikojfgaaaGreat
