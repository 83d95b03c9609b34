/- push: the walk. -/
import Derived.Test.YtpcdbnlljdfogaaPsh
set_option linter.unusedSimpArgs false
set_option linter.unusedVariables false
namespace Go.Proofs.Ytpcdbnlljdfogaa
open Go.RowKit

def pushP (H R : List Int) (A : List (List Int)) (s t : Int) (F : Nat) : Option (Bool × List Int) :=
  if atI (srch H R A s) t = -1 then some (false, R) else (pushO H (srch H R A s) s F t R).map fun R' => (true, R')
abbrev Nt.row (N : Nt) : Option Nat := (Value.slice N.aR N.R.length N.cR).ownBlock
set_option maxHeartbeats 8000000 in
set_option maxRecDepth 100000 in
theorem psh_any (N : Nt) (nb B F : Nat) (w : World) (hN : NtO w B nb N) (wf : NtWf N) (he : N.H.length % 2 = 0) (s t : Nat) (hs : s < N.A.length) (ht : t < N.A.length) (b : Bool) (R' : List Int)
    (hp : pushP N.H N.R N.arcs (s : Int) (t : Int) F = some (b, R')) :
    Calls Try.prog 60 #[.pointer (some ⟨nb, 0, none⟩), .int .i64 (s : Int), .int .i64 (t : Int)] w fun e w' => e = .returned (.bool b) ∧ NtO w' B nb (N.room R') ∧ NtWf (N.room R') ∧ w.grownBy w' N.row := by
  have HN := Lib.hid hN
  have HWf := Lib.hid wf
  have HSr := Lib.hid (srch_any N nb w hN.at_ wf s hs)
  have hnz := wf.asz.1
  have hlb : (srch N.H N.R N.arcs (s : Int)).length = N.A.length ∨ True := .inr trivial
  unfold pushP at hp
  obtain ⟨by_, hby⟩ : ∃ y, y = srch N.H N.R N.arcs (s : Int) := ⟨_, rfl⟩
  rw [← hby] at hp HSr
  clear hby hlb hN wf
  obtain ⟨n, hn⟩ : ∃ y, y = N.A.length := ⟨_, rfl⟩
  rw [← hn] at hs ht HSr hnz
  have Hn := Lib.hid hn
  have hsz : (s : Int) < (n : Int) := by omega
  have htz : (t : Int) < (n : Int) := by omega
  clear hn
  have Hp := Lib.hid hp
  clear hp
  go_enter Try.func60, Try.ntmps60
  go_wp2_with fail
  refine HSr.out.mono ?_
  rintro e w2 ⟨g, rfl, ho, hb⟩
  have HO := Lib.hid ho
  have HB := Lib.hid hb
  have hgb := (World.ownsRow.lt ho g rfl)
  have hll := ho.len
  have ct := ho.at_ t (by omega)
  have hxt : atI by_ (t : Int) = by_[t]'(by omega) := by rw [atI_eq (by simp; omega)]; simp
  rw [← hxt] at ct
  clear ho hb HSr hxt
  have hp := Hp.out
  by_cases q : atI by_ (t : Int) = -1
  · rw [if_pos q] at hp
    rw [q] at ct
    clear Hp
    obtain ⟨rfl, rfl⟩ : b = false ∧ R' = N.R := by
      simp at hp
      exact ⟨hp.1, hp.2.symm⟩
    have HG := Lib.hid (Gby.of HB.out N.row)
    have HNk := Lib.hid (HN.out.keep HB.out)
    clear hp
    go_wp2_with fail
    go_ret
    exact ⟨rfl, HNk.out, HWf.out, HG.out⟩
  · rw [if_neg q] at hp
    have q' : (atI by_ (t : Int) == -1) = false := by simpa using q
    obtain ⟨Rf, hRf, hbb⟩ := Option.map_eq_some_iff.1 hp
    obtain ⟨rfl, rfl⟩ : true = b ∧ Rf = R' := by simpa using hbb
    have HF := Lib.hid hRf
    clear Hp hp hbb hRf q
    have HG := Lib.hid (Gby.of HB.out N.row)
    have HNk := Lib.hid (show NtO w2 B nb (N.room N.R) from HN.out.keep HB.out)
    have HWk := Lib.hid (show NtWf (N.room N.R) from HWf.out)
    go_wp2_with fail
    go_loopg [8] F (fun k s8 wq => ∃ (v : Nat) (Rk : List Int), s8 = .int .i64 (v : Int) ∧ v < n ∧ Hid (pushO N.H by_ (s : Int) k (v : Int) Rk = some Rf) ∧ Hid (Rk.length = N.R.length) ∧ Hid (NtO wq B nb (N.room Rk)) ∧ Hid (NtWf (N.room Rk)) ∧ Hid (OwI wq w.heap.size (.slice (some ⟨g, 0, none⟩) n n) n by_) ∧ Hid (w.grownBy wq N.row))
    case atStart => exact ⟨t, N.R, rfl, ht, HF, Lib.hid rfl, HNk, HWk, HO, HG⟩
    case round =>
      clear HF HNk HWk HO HG ct HB
      obtain ⟨v, Rk, rfl, hv, HF, HL, HNk, HWk, HO, HG⟩ := hrel
      by_cases q : v = s
      · subst q
        have hz : ((v : Int) != (v : Int)) = false := by simp
        have hR := pushO_at HF.out
        subst hR
        go_wp2_with fail
        go_ret
        exact ⟨rfl, HNk.out, HWk.out, HG.out⟩
      · have hz : ((v : Int) != (s : Int)) = true := by simp; omega
        have hvz : (v : Int) < (n : Int) := by omega
        obtain ⟨f', hf', a0, a1, a2, a3, HF'⟩ := pushO_step HF.out (by omega)
        obtain ⟨a, haa⟩ : ∃ a : Nat, atI by_ (v : Int) = (a : Int) := ⟨(atI by_ (v : Int)).toNat, by omega⟩
        rw [haa, Int.toNat_natCast] at a3 HF'
        rw [haa] at a0 a1 a2
        have cb := HO.out.at_ v (by omega)
        have hxv : atI by_ (v : Int) = by_[v]'(by omega) := by rw [atI_eq (by simp; omega)]; simp
        rw [← hxv, haa] at cb
        have haH : a < N.H.length := by omega
        have hmH : mate a < N.H.length := mate_lt haH he
        have hHR : N.H.length = Rk.length := HWk.out.hr
        have hHs : N.H.length ≤ 10000 := HWk.out.hs
        have HF2 := Lib.hid HF'
        clear hxv HF'
        have haR : a < Rk.length := by omega
        have hmR : mate a < Rk.length := by omega
        obtain ⟨p1, p2, p3⟩ := HNk.out.spot (show 0 < (N.room Rk).R.length by show 0 < Rk.length; omega)
        have p1' : N.aR = some ⟨N.bR, 0, none⟩ := p1
        have c3 := HNk.out.at_.c3
        rw [p1] at c3
        have c3' : wr.cell? ⟨nb, 3, none⟩ = some (.slice (some ⟨N.bR, 0, none⟩) Rk.length N.cR) := c3
        have hown : OwI wr B (.slice (some ⟨N.bR, 0, none⟩) Rk.length N.cR) Rk.length Rk := by have := HNk.out.own; rw [p1] at this; exact this
        have dR := hown.at_ a haR
        have hxa : atI Rk (a : Int) = Rk[a]'haR := by rw [atI_eq (by simpa using haR)]; simp
        rw [← hxa] at dR
        have fR := World.ownsRow.frozenAt hown a
        have hnb := HNk.out.nb _ p3
        have hgN : g ≠ N.bR := by have := HNk.out.at_.r.hb (show 0 < Rk.length by omega); have h3 : N.bR < w.heap.size := HN.out.at_.r.hb (by rw [← HL.out]; omega); omega
        have hra := HWk.out.rv (atI Rk (a : Int)) (by rw [hxa]; exact List.getElem_mem haR)
        have hcR := HNk.out.at_.r.hcap
        have hmx := HNk.out.at_.r.hmax
        have hcR' : Rk.length ≤ N.cR := hcR
        unfold maxLen at hmx
        have hmx' : N.cR ≤ 9223372036854775807 := hmx
        have haz : (a : Int) < (Rk.length : Int) := by omega
        have hx7 := hnb.1
        clear c3 hcR hmx hnb p1 p3 p2 hxa
        have Hxx := Lib.hid p1'
        have HO7 := Lib.hid (HO.out.far (p := ⟨N.bR, a, none⟩) (.int .i64 (atI Rk (a : Int) - 1)) (by simp [Value.ownBlock]; exact hgN))
        have HN7 := Lib.hid (HNk.out.set (k := a) haR (atI Rk (a : Int) - 1))
        clear p1' hown
        have HNk0 := HNk
        clear HNk
        generalize hr : atI Rk (a : Int) = ra at *
        go_wp2_with fail
        go_region
        obtain ⟨W7, hW7⟩ : ∃ W7, W7 = (wr.setCell ⟨N.bR, a, none⟩ (.int .i64 (ra - 1))).drew := ⟨_, rfl⟩
        rw [← hW7]
        have HO8 := Lib.hid (show OwI W7 w.heap.size (.slice (some ⟨g, 0, none⟩) n n) n by_ by rw [hW7]; exact HO7.out.keep (Below.refl _ _).drew)
        have HN8 := Lib.hid (show NtO W7 B nb (N.room (Rk.set a (ra - 1))) by rw [hW7]; exact HN7.out.keep (Below.refl _ _).drew)
        have HG8 := Lib.hid (show w.grownBy W7 N.row by
          have e : N.row = some N.bR := by show (Value.slice N.aR N.R.length N.cR).ownBlock = _; rw [Hxx.out]; rfl
          rw [hW7, e]
          rw [e] at HG
          exact HG.out.trans ((grownBy_set wr ⟨N.bR, a, none⟩ (.int .i64 (ra - 1))).trans (Gby.of (Below.refl _ _).drew _)))
        clear HO7 HN7 HG HO HNk0 hW7 c3' cb dR fR
        have hl1 : (Rk.set a (ra - 1)).length = Rk.length := by simp
        obtain ⟨p1, p2, p3⟩ := HN8.out.spot (show 0 < (N.room (Rk.set a (ra - 1))).R.length by show 0 < (Rk.set a (ra - 1)).length; omega)
        have c3 := HN8.out.at_.c3
        rw [p1] at c3
        have c3' : W7.cell? ⟨nb, 3, none⟩ = some (.slice (some ⟨N.bR, 0, none⟩) Rk.length N.cR) := by rw [← hl1]; exact c3
        have hown : OwI W7 B (.slice (some ⟨N.bR, 0, none⟩) Rk.length N.cR) Rk.length (Rk.set a (ra - 1)) := by have := HN8.out.own; rw [p1] at this; rw [← hl1]; exact this
        have dR := hown.at_ (mate a) (by omega)
        have hxm : (Rk.set a (ra - 1))[mate a]'(by omega) = atI Rk (mate a : Int) := by
          rw [List.getElem_set_ne (fun e => mate_ne a e.symm), atI_eq (by simpa using hmR)]
          simp
        rw [hxm] at dR
        have fR := World.ownsRow.frozenAt hown (mate a)
        have cb := HO8.out.at_ v (by omega)
        have hxv : atI by_ (v : Int) = by_[v]'(by omega) := by rw [atI_eq (by simp; omega)]; simp
        rw [← hxv, haa] at cb
        have hxb := bits_mate a (by omega)
        have hrm := HWk.out.rv (atI Rk (mate a : Int)) (by rw [atI_eq (by simpa using hmR)]; exact List.getElem_mem _)
        have hmz : ((mate a : Nat) : Int) < (Rk.length : Int) := by omega
        have HO9 := Lib.hid (HO8.out.far (p := ⟨N.bR, mate a, none⟩) (.int .i64 (atI Rk (mate a : Int) + 1)) (by simp [Value.ownBlock]; exact hgN))
        have HN9 := Lib.hid (HN8.out.set (k := mate a) (show mate a < (Rk.set a (ra - 1)).length by omega) (atI Rk (mate a : Int) + 1))
        have HUp := Lib.hid (show (Rk.set a (ra - 1)).set (mate a) (atI Rk (mate a : Int) + 1) = upd Rk a by unfold upd; rw [hr])
        have HWu := Lib.hid (show NtWf (N.room (upd Rk a)) from (by
          obtain ⟨y1, y2, y3, y4, y5, y6⟩ := HWk.out
          refine ⟨?_, y2, y3, y4, y5, ?_⟩
          · show N.H.length = (upd Rk a).length
            rw [upd_len]
            exact y1
          · intro x hx
            have hx' : x ∈ (Rk.set a (atI Rk (a : Int) - 1)).set (mate a) (atI Rk (mate a : Int) + 1) := hx
            rw [hr] at hx'
            rcases List.mem_or_eq_of_mem_set hx' with hx2 | rfl
            · rcases List.mem_or_eq_of_mem_set hx2 with hx3 | rfl
              · exact y6 x hx3
              · omega
            · omega))
        clear hown hxm hxv p1 p2 p3 c3 hl1
        generalize hrm' : atI Rk (mate a : Int) = rm at *
        go_wp2_with fail
        go_region
        obtain ⟨W9, hW9⟩ : ∃ W9, W9 = (W7.setCell ⟨N.bR, mate a, none⟩ (.int .i64 (rm + 1))).drew := ⟨_, rfl⟩
        rw [← hW9]
        have HOa := Lib.hid (show OwI W9 w.heap.size (.slice (some ⟨g, 0, none⟩) n n) n by_ by rw [hW9]; exact HO9.out.keep (Below.refl _ _).drew)
        have HNa := Lib.hid (show NtO W9 B nb (N.room (upd Rk a)) by rw [hW9, ← HUp.out]; exact HN9.out.keep (Below.refl _ _).drew)
        have HGa := Lib.hid (show w.grownBy W9 N.row by
          have e : N.row = some N.bR := by show (Value.slice N.aR N.R.length N.cR).ownBlock = _; rw [Hxx.out]; rfl
          rw [hW9, e]
          rw [e] at HG8
          exact HG8.out.trans ((grownBy_set W7 ⟨N.bR, mate a, none⟩ (.int .i64 (rm + 1))).trans (Gby.of (Below.refl _ _).drew _)))
        clear HO9 HN9 HG8 HO8 HN8 hW9 c3' cb dR fR
        have c2 := HNa.out.at_.c2
        have h1 : N.aH = some ⟨N.bH, N.oH, none⟩ := HNa.out.at_.h.ha (show 0 < N.H.length by omega)
        have c2' : W9.cell? ⟨nb, 2, none⟩ = some (.slice (some ⟨N.bH, N.oH, none⟩) N.H.length N.cH) := by rw [← h1]; exact c2
        have dH := HNa.out.at_.h.cell (mate a) hmH
        have dH' : W9.cell? ⟨N.bH, N.oH + mate a, none⟩ = some (.int .i64 (N.H[mate a]'hmH)) := dH
        have hhv := HWf.out.hv _ (List.getElem_mem hmH)
        have hxh : atI N.H (mate a : Int) = N.H[mate a]'hmH := by rw [atI_eq (by simpa using hmH)]; simp
        rw [← hxh] at dH' hhv
        obtain ⟨u, hu⟩ : ∃ u : Nat, atI N.H (mate a : Int) = (u : Int) := ⟨(atI N.H (mate a : Int)).toNat, by omega⟩
        rw [hu] at dH' hhv HF2
        have hun : u < n := by have := Hn.out; omega
        have cb := HOa.out.at_ v (by omega)
        have hxv : atI by_ (v : Int) = by_[v]'(by omega) := by rw [atI_eq (by simp; omega)]; simp
        rw [← hxv, haa] at cb
        have hcH := HNa.out.at_.h.hcap
        have hmxH := HNa.out.at_.h.hmax
        unfold maxLen at hmxH
        have hcH' : N.H.length ≤ N.cH := hcH
        have hmz2 : ((mate a : Nat) : Int) < (N.H.length : Int) := by omega
        clear c2 dH hxh hxv hu h1 hcH
        go_wp2_with fail
        go_quiet (fail)
        go_wp2_with fail
        have HBq := Lib.hid (bel_drewN (Below.refl W9.heap.size W9) nq)
        have HOb := Lib.hid (HOa.out.keep HBq.out)
        have HNb := Lib.hid (HNa.out.keep HBq.out)
        have HGb := Lib.hid (HGa.out.trans (Gby.of HBq.out N.row))
        have HLn := Lib.hid (show (upd Rk a).length = N.R.length by rw [upd_len]; exact HL.out)
        clear HOa HNa HGa c2' dH' cb
        go_roundg f'
        case measure => exact hf'
        case rel => exact ⟨u, _, rfl, hun, HF2, HLn, HNb, HWu, HOb, HGb⟩
end Go.Proofs.Ytpcdbnlljdfogaa
