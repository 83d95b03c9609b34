/- The reference's Decimal; a decimal number is read as the number. -/
import Derived.Test.YtfdalnkdeeminaaDoorDec
set_option linter.unusedSimpArgs false
set_option linter.unusedVariables false
namespace Go.Proofs.YtfdalnkdeeminaaDoor
open Go.RowKit

set_option maxHeartbeats 2000000 in
set_option maxRecDepth 100000 in
theorem rdec_no (n d : Int) (hd : ¬ (0 ≤ d ∧ d ≤ 6)) (w : World) :
    Calls Tryd.prog 37 #[.int .i64 n, .int .i64 d] w fun e w' => e = .returned (.tuple #[.string ⟨#[]⟩, .int .i64 1]) ∧ Below w.heap.size w w' := by
  by_cases h0 : d < 0
  · clear hd
    go_enter Tryd.func37, Tryd.ntmps37
    go_wp2
    go_ret2
    exact ⟨rfl, (by repeat (first | with_reducible exact Below.refl _ _ | (with_reducible refine Below.setCell ?_ (by first | exact Nat.le_refl _ | omega | (simp; done) | (simp; omega)) _) | (with_reducible refine Below.alloc ?_ (by first | exact Nat.le_refl _ | omega | (simp; done) | (simp; omega)) _) | with_reducible refine Below.drew ?_ | with_reducible refine bel_drewN ?_ _ | (with_reducible refine bel_by (by with_reducible assumption) (by first | exact Nat.le_refl _ | omega | (simp; done) | (simp; omega)) ?_)))⟩
  · have h6 : 6 < d := by omega
    clear hd
    go_enter Tryd.func37, Tryd.ntmps37
    go_wp2
    go_ret2
    exact ⟨rfl, (by repeat (first | with_reducible exact Below.refl _ _ | (with_reducible refine Below.setCell ?_ (by first | exact Nat.le_refl _ | omega | (simp; done) | (simp; omega)) _) | (with_reducible refine Below.alloc ?_ (by first | exact Nat.le_refl _ | omega | (simp; done) | (simp; omega)) _) | with_reducible refine Below.drew ?_ | with_reducible refine bel_drewN ?_ _ | (with_reducible refine bel_by (by with_reducible assumption) (by first | exact Nat.le_refl _ | omega | (simp; done) | (simp; omega)) ?_)))⟩

def zB (j : Nat) (n : Int) : ByteArray := ⟨(List.replicate j 48 ++ Lib.decDigits n.natAbs).toArray⟩
theorem zB_succ (j : Nat) (n : Int) : (⟨#[48]⟩ : ByteArray) ++ zB j n = zB (j + 1) n := by
  apply ba_ext
  rw [Joins.data_append]
  rfl
theorem zB_size (j : Nat) (n : Int) : (zB j n).size = j + (Lib.decDigits n.natAbs).length := by simp [zB, ByteArray.size]

set_option maxHeartbeats 4000000 in
set_option maxRecDepth 100000 in
/-- the reference's Decimal -/
theorem rdec_any (n : Int) (k : Nat) (h0 : -9223372036854775808 ≤ n) (h1 : n ≤ 9223372036854775807) (hk : k ≤ 6) (w : World) (ht : TabW w) :
    Calls Tryd.prog 37 #[.int .i64 n, .int .i64 (k : Int)] w fun e w' => e = .returned (.tuple #[.string (decB n k), .int .i64 0]) ∧ Below w.heap.size w w' := by
  have HM := Lib.hid (fun W => rsize_any n h0 h1 W)
  have ha := absI_1 h0 h1
  have HF := fun W (ht : TabW W) => ufmt_any (absI n) (absI_0 n) (by omega) W ht
  rw [show (absI n).natAbs = n.natAbs from by unfold absI; omega] at HF
  have HFF := Lib.hid HF
  have HT := Lib.hid ht
  obtain ⟨P1, P2⟩ := padB_size k n h0 h1 hk
  have hdl := (dec_facts n.natAbs).2.2.2 19 (by omega) (by omega)
  have e0 : (⟨(Lib.decDigits n.natAbs).toArray⟩ : ByteArray) = zB 0 n := rfl
  rw [e0] at HFF
  have hPZ : padB k n = zB (k + 1 - (Lib.decDigits n.natAbs).length) n := rfl
  have HS := Lib.hid (fun j => zB_succ j n)
  have HZ := Lib.hid (fun j => zB_size j n)
  unfold decB
  have hQ2 : (pntB k (padB k n)).size ≤ 80 := pnt_size P2
  clear HF ht ha e0
  generalize absI n = m at *
  generalize (Lib.decDigits n.natAbs).length = dl at *
  generalize hPP : padB k n = P at *
  clear hPP
  have HPZ := Lib.hid hPZ
  clear hPZ
  have HY := Lib.hid (fun h => pnt_yes (k := k) (P := P) h)
  have HN := Lib.hid (fun h => pnt_no (k := k) (P := P) h)
  generalize hQQ : pntB k P = Q at *
  clear hQQ
  have HSG := Lib.hid (show sgnB n Q = if n < 0 then ⟨#[45]⟩ ++ Q else Q from rfl)
  generalize sgnB n Q = R at *
  have g0 : ¬ (k : Int) < 0 := by omega
  have g6 : ¬ (6 : Int) < (k : Int) := by omega
  go_enter Tryd.func37, Tryd.ntmps37
  go_wp2_with fail
  refine (HM.out _).mono ?_
  rintro e w1 ⟨rfl, rfl⟩
  go_wp2_with fail
  refine (HFF.out _ HT.out).mono ?_
  rintro e w1 ⟨rfl, hb1⟩
  go_wp2
  go_loop [6] (fun s6 => ∃ j : Nat, j ≤ k + 1 - dl ∧ s6 = .string (zB j n)) (fun s6 => match s6 with | .string z => k + 1 - z.size | _ => 0)
  case atStart => exact ⟨0, Nat.zero_le _, rfl⟩
  case round =>
    obtain ⟨j, hj, rfl⟩ := hrel
    have hzj := HZ.out j
    have hzj1 := HZ.out (j + 1)
    by_cases hlt : j < k + 1 - dl
    · have HE := Lib.hid (HS.out j)
      have hle : ((zB j n).size : Int) ≤ (k : Int) := by omega
      have HM1 := Lib.hid (show k + 1 - (zB (j + 1) n).size < k + 1 - (zB j n).size by omega)
      have hs1 : (zB j n).size ≤ 6 := by omega
      clear hzj hzj1
      generalize zB j n = z at *
      go_wp2
      go_round
      case rel => exact ⟨j + 1, by omega, congrArg Value.string HE.out⟩
      case measure => simp only [HE.out]; exact HM1.out
    · have hle : ¬ ((zB j n).size : Int) ≤ (k : Int) := by omega
      have hz : zB j n = P := by rw [HPZ.out]; congr 1; omega
      clear hzj hzj1 hlt hj
      rw [hz] at hle ⊢
      clear hz
      have HBW := Lib.hid hb1
      clear hb1
      go_upto_if 23 with fail
      go_cut [6] (fun s6 wx => s6 = .string Q ∧ Below w1.heap.size w1 wx)
      case first =>
        by_cases hk0 : 0 < k
        · obtain ⟨pt, hpt⟩ : ∃ pt : Nat, pt = P.size - k := ⟨_, rfl⟩
          have hpi : (P.size : Int) - (k : Int) = (pt : Int) := by omega
          have hp1 : pt ≤ P.size := by omega
          have hk1 : (0 : Int) < (k : Int) := by omega
          have HE := Lib.hid (show P.extract 0 pt ++ ⟨#[46]⟩ ++ P.extract pt P.size = Q by rw [hpt]; exact HY.out hk0)
          clear hpt hk0
          go_wp2_with fail
          go_quiet (fail)
          go_wp2_with fail
          go_meet
          exact ⟨congrArg Value.string HE.out, (by repeat (first | with_reducible exact Below.refl _ _ | (with_reducible refine Below.setCell ?_ (by first | exact Nat.le_refl _ | omega | (simp; done) | (simp; omega)) _) | (with_reducible refine Below.alloc ?_ (by first | exact Nat.le_refl _ | omega | (simp; done) | (simp; omega)) _) | with_reducible refine Below.drew ?_ | with_reducible refine bel_drewN ?_ _ | (with_reducible refine bel_by (by with_reducible assumption) (by first | exact Nat.le_refl _ | omega | (simp; done) | (simp; omega)) ?_)))⟩
        · have hk1 : ¬ (0 : Int) < (k : Int) := by omega
          have HE := Lib.hid (HN.out hk0)
          clear hk0
          go_wp2_with fail
          go_meet
          exact ⟨congrArg Value.string HE.out, (by repeat (first | with_reducible exact Below.refl _ _ | (with_reducible refine Below.setCell ?_ (by first | exact Nat.le_refl _ | omega | (simp; done) | (simp; omega)) _) | (with_reducible refine Below.alloc ?_ (by first | exact Nat.le_refl _ | omega | (simp; done) | (simp; omega)) _) | with_reducible refine Below.drew ?_ | with_reducible refine bel_drewN ?_ _ | (with_reducible refine bel_by (by with_reducible assumption) (by first | exact Nat.le_refl _ | omega | (simp; done) | (simp; omega)) ?_)))⟩
      obtain ⟨rfl, hbV⟩ := hcut
      have hbW := HBW.out
      have hz2 := bsize hbW
      by_cases hn : n < 0
      · have HE := Lib.hid (show ⟨#[45]⟩ ++ Q = R by rw [HSG.out, if_pos hn])
        go_wp2
        go_ret2
        exact ⟨by rw [← HE.out]; rfl, (by repeat (first | with_reducible exact Below.refl _ _ | (with_reducible refine Below.setCell ?_ (by first | exact Nat.le_refl _ | omega | (simp; done) | (simp; omega)) _) | (with_reducible refine Below.alloc ?_ (by first | exact Nat.le_refl _ | omega | (simp; done) | (simp; omega)) _) | with_reducible refine Below.drew ?_ | with_reducible refine bel_drewN ?_ _ | (with_reducible refine bel_by (by with_reducible assumption) (by first | exact Nat.le_refl _ | omega | (simp; done) | (simp; omega)) ?_)))⟩
      · have HE := Lib.hid (show Q = R by rw [HSG.out, if_neg hn])
        go_wp2
        go_ret2
        exact ⟨by rw [← HE.out]; rfl, (by repeat (first | with_reducible exact Below.refl _ _ | (with_reducible refine Below.setCell ?_ (by first | exact Nat.le_refl _ | omega | (simp; done) | (simp; omega)) _) | (with_reducible refine Below.alloc ?_ (by first | exact Nat.le_refl _ | omega | (simp; done) | (simp; omega)) _) | with_reducible refine Below.drew ?_ | with_reducible refine bel_drewN ?_ _ | (with_reducible refine bel_by (by with_reducible assumption) (by first | exact Nat.le_refl _ | omega | (simp; done) | (simp; omega)) ?_)))⟩

-- a decimal number is read as the number
theorem numL_zeros (j : Nat) (l : List UInt8) : numL (List.replicate j 48 ++ l) = numL l := by
  rw [numL_append]
  have : numL (List.replicate j 48) = 0 := by
    induction j with
    | zero => rfl
    | succ j ih => rw [List.replicate_succ', numL_snoc, ih]; rfl
  rw [this, Int.zero_mul, Int.zero_add]
theorem padL_dig (k u : Nat) : AllDig (padL k (Lib.decDigits u)) := by
  intro c hc
  unfold padL at hc
  rcases List.mem_append.1 hc with h | h
  · rw [List.eq_of_mem_replicate h]; rfl
  · exact (dec_facts u).1 c h
theorem padL_num (k u : Nat) : numL (padL k (Lib.decDigits u)) = u := by
  unfold padL
  rw [numL_zeros]
  exact (dec_facts u).2.1
theorem decB_list (n : Int) (k : Nat) : (decB n k).data.toList = (if n < 0 then [45] else []) ++ (if 0 < k then (padL k (Lib.decDigits n.natAbs)).take ((padL k (Lib.decDigits n.natAbs)).length - k) ++ 46 :: (padL k (Lib.decDigits n.natAbs)).drop ((padL k (Lib.decDigits n.natAbs)).length - k) else padL k (Lib.decDigits n.natAbs)) := by
  have e : (padB k n).data.toList = padL k (Lib.decDigits n.natAbs) := by simp [padB]
  have e2 : (padB k n).size = (padL k (Lib.decDigits n.natAbs)).length := by simp [padB, ByteArray.size]
  have e3 : (pntB k (padB k n)).data.toList = (if 0 < k then (padL k (Lib.decDigits n.natAbs)).take ((padL k (Lib.decDigits n.natAbs)).length - k) ++ 46 :: (padL k (Lib.decDigits n.natAbs)).drop ((padL k (Lib.decDigits n.natAbs)).length - k) else padL k (Lib.decDigits n.natAbs)) := by
    unfold pntB
    by_cases hk : 0 < k
    · rw [if_pos hk, if_pos hk, Joins.data_append, Joins.data_append, ext_take, ext_drop, e, e2]
      first | rfl | simp
    · rw [if_neg hk, if_neg hk, e]
  unfold decB sgnB
  by_cases hn : n < 0
  · rw [if_pos hn, if_pos hn, Joins.data_append, e3]; try rfl
  · rw [if_neg hn, if_neg hn, e3]; try rfl
theorem bnd_ok {n : Int} {d : Nat} (hn : n.natAbs ≤ 1000000000000000000) (hd : d ≤ 1000000000000000000) : (Fr.bnd n d).2.2 = 0 := by
  unfold Fr.bnd
  rw [if_pos]
  unfold Fr.lim
  have h1 := Nat.div_le_self n.natAbs (n.natAbs.gcd d)
  have h2 := Nat.div_le_self d (n.natAbs.gcd d)
  omega
theorem hasP_no {c : UInt8} {l : List UInt8} (hc : isDig c = true) : Lib.hasPrefix (c :: l) [45] = false := by
  have hc := isDig_out hc
  have hne : (45 : UInt8) ≠ c := by
    intro e
    rw [← e] at hc
    have : ((45 : UInt8).toNat : Int) = 45 := rfl
    omega
  unfold Lib.hasPrefix
  simp [List.isPrefixOf, hne]
/-- the sign is cut off -/
theorem strip_sgn (n : Int) (l : List UInt8) (hl : ∃ c t, l = c :: t ∧ isDig c = true) : Lib.hasPrefix ((if n < 0 then [45] else []) ++ l) [45] = decide (n < 0) ∧ Lib.trimPrefix ((if n < 0 then [45] else []) ++ l) [45] = l := by
  by_cases h : n < 0
  · rw [if_pos h]
    unfold Lib.trimPrefix Lib.hasPrefix
    simp [h, List.isPrefixOf]
  · obtain ⟨c, t, rfl, hc⟩ := hl
    rw [if_neg h, List.nil_append]
    unfold Lib.trimPrefix
    rw [hasP_no hc]
    simp [h]
theorem pw6 (k : Nat) (h : k ≤ 6) : (10 : Int) ^ k ≤ 1000000 := by
  revert h; revert k; decide
theorem parse_dec (n : Int) (k : Nat) (hn : -1000000000000 ≤ n) (hn' : n ≤ 1000000000000) (hk : k ≤ 6) :
    parseS (decB n k) = makeS n (pw10 (k : Int)) ∧ (makeS n (pw10 (k : Int))).2.2 = 0 := by
  obtain ⟨p0, p1⟩ := pw10_bd (k : Int) (by omega)
  have hp6 : pw10 (k : Int) ≤ 1000000 := by
    unfold pw10
    rw [Int.toNat_natCast]
    exact pw6 k hk
  have hM : makeS n (pw10 (k : Int)) = bndI (decide (n < 0)) (absI n) (pw10 (k : Int)) := by
    unfold makeS
    rw [if_neg (by omega), decide_eq_false (show ¬ pw10 (k : Int) < 0 by omega)]
    rw [show absI (pw10 (k : Int)) = pw10 (k : Int) from by unfold absI; omega]
    simp
  have hlen := (dec_facts n.natAbs).2.2.2 13 (by omega) (by omega)
  have hlen1 := (dec_facts n.natAbs).2.2.1
  have hdig := padL_dig k n.natAbs
  have hnum := padL_num k n.natAbs
  have hpl := padL_length k (Lib.decDigits n.natAbs)
  have habs : ((n.natAbs : Nat) : Int) = absI n := rfl
  rw [habs] at hnum
  refine ⟨?_, ?_⟩
  · unfold parseS
    rw [decB_list, hM]
    generalize padL k (Lib.decDigits n.natAbs) = p at *
    have hp1 : p.length ≤ 13 := by omega
    have hp2 : k + 1 ≤ p.length := by omega
    obtain ⟨c, t, hct⟩ : ∃ c t, p = c :: t := by
      cases p with
      | nil => simp at hp2
      | cons c t => exact ⟨c, t, rfl⟩
    have hcd : isDig c = true := hdig c (by rw [hct]; simp)
    by_cases hk0 : 0 < k
    · rw [if_pos hk0]
      have hs := strip_sgn n (p.take (p.length - k) ++ 46 :: p.drop (p.length - k)) (by
        refine ⟨c, t.take (p.length - k - 1) ++ 46 :: p.drop (p.length - k), ?_, hcd⟩
        rw [hct]
        obtain ⟨q, hq⟩ : ∃ q, (c :: t).length - k = q + 1 := ⟨(c :: t).length - k - 1, by rw [← hct]; omega⟩
        rw [hq]
        rfl)
      rw [hs.1, hs.2]
      have ha : (p.take (p.length - k)).length = p.length - k := by rw [List.length_take]; omega
      have hb : (p.drop (p.length - k)).length = k := by rw [List.length_drop]; omega
      have hda : AllDig (p.take (p.length - k)) := fun x hx => hdig x (List.mem_of_mem_take hx)
      have hdb : AllDig (p.drop (p.length - k)) := fun x hx => hdig x (List.mem_of_mem_drop hx)
      have hcat : numL (p.take (p.length - k) ++ p.drop (p.length - k)) = absI n := by rw [List.take_append_drop]; exact hnum
      generalize p.take (p.length - k) = A at *
      generalize p.drop (p.length - k) = B at *
      have hr : runL (A ++ 46 :: B) = A.length := by
        refine runL_take _ _ (by simp) (by rw [List.take_left]; exact hda) (Or.inr ⟨by simp, ?_⟩)
        simp
        decide
      have hrB := runL_self hdb
      unfold parseL
      rw [hr, if_pos ⟨by omega, by omega⟩, List.drop_left, List.take_left]
      simp only
      rw [hrB, List.drop_length, List.take_length, if_pos (show 1 ≤ B.length ∧ B.length ≤ 19 ∧ ([] : List UInt8) = [] from ⟨by omega, by omega, rfl⟩), if_neg (show ¬ (46 : UInt8).toNat = 47 by decide), if_pos (show (46 : UInt8).toNat = 46 from rfl), if_neg (by omega), hcat, hb]
    · have hk1 : k = 0 := by omega
      subst hk1
      rw [if_neg hk0]
      have hs := strip_sgn n p ⟨c, t, hct, hcd⟩
      rw [hs.1, hs.2]
      have hr := runL_self hdig
      unfold parseL
      rw [hr, if_pos ⟨by omega, by omega⟩, List.drop_length, List.take_length]
      simp only
      rw [hnum]
      rfl
  · rw [hM]
    unfold bndI
    rw [sg_abs]
    exact bnd_ok (by omega) (by omega)
theorem decB_size (n : Int) (k : Nat) (h0 : -9223372036854775808 ≤ n) (h1 : n ≤ 9223372036854775807) (hk : k ≤ 6) : (decB n k).size ≤ 100 := by
  have := pnt_size (k := k) (padB_size k n h0 h1 hk).2
  unfold decB sgnB
  have h45 : (⟨#[45]⟩ : ByteArray).size = 1 := rfl
  split
  · simp; omega
  · omega
end Go.Proofs.YtfdalnkdeeminaaDoor
