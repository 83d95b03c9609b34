/- Contract of layer 10: the entries within so many open blocks. -/
import Derived.Test.YtohalocbghhenaaGreatDoorEnt
set_option linter.unusedSimpArgs false
set_option linter.unusedVariables false
namespace Go.Proofs.YtohalocbghhenaaGreatDoor
open Go.RowKit

theorem infoC : (Tryz.prog.info? 25).map (fun i => (i.zero, i.size, i.bytes)) = some (some (.agg #[.string ⟨#[]⟩, .slice none 0 0, .bool false, .slice none 0 0, .int .i64 0]), 5, 80) := by kernel_rfl
def encC (wd : ByteArray) (va : Value) (bl : Bool) (vk : Value) (a : Int) : List Value := [.string wd, va, .bool bl, vk, .int .i64 a]
theorem cl_cells (w : World) (wd : ByteArray) (va vk : Value) (bl : Bool) (a : Int) : ∀ j u, (encC wd va bl vk a)[j]? = some u → (w.alloc (.cells #[.string wd, va, .bool bl, vk, .int .i64 a] 25)).cell? ((⟨w.heap.size, 0, none⟩ : Addr).add j) = some u := by
  intro j u hu
  obtain ⟨z0, z1, z2, z3, z4, _, _⟩ := cl_new w wd va vk bl a 25
  unfold encC at hu
  match j, hu with
  | 0, hu => simp at hu; subst hu; exact z0
  | 1, hu => simp at hu; subst hu; exact z1
  | 2, hu => simp at hu; subst hu; exact z2
  | 3, hu => simp at hu; subst hu; exact z3
  | 4, hu => simp at hu; subst hu; exact z4
  | j + 5, hu => simp at hu
/-- a number in a block -/
structure NmAt (w : World) (b : Nat) (n : Int) : Prop where
  c0 : w.cell? ⟨b, 0, none⟩ = some (.int .i64 n)
  f : ∀ k, w.frozen? ⟨b, k, none⟩ = false
  lt : b < w.heap.size
theorem NmAt.grown {w w' : World} {row : Option Nat} {b : Nat} {n : Int} (h : NmAt w b n) (hg : w.grownBy w' row) (hne : some b ≠ row) : NmAt w' b n :=
  ⟨(World.cell?_of_block (a := ⟨b, 0, none⟩) (hg.block b h.lt hne)).trans h.c0, fun k => (World.frozen?_of_block (a := ⟨b, k, none⟩) (hg.block b h.lt hne)).trans (h.f k), Nat.lt_of_lt_of_le h.lt hg.size⟩
theorem NmAt.keep {w w' : World} {b : Nat} {n : Int} (h : NmAt w b n) (hb : Below w.heap.size w w') : NmAt w' b n := h.grown (grb_below (r := none) hb) (by simp)
theorem nm_new (w : World) (n : Int) (T : TypeId) : NmAt (w.alloc (.cells #[.int .i64 n] T)) w.heap.size n := by
  refine ⟨?_, fun k => ?_, ?_⟩
  all_goals simp [go_sem]
theorem RdC.grown {w w' : World} {S : Nat} {v : Value} {row : Option Nat} {c : Cls} {vs : List Value} (h : RdC w (fun x => S ≤ x ∧ v.ownBlock ≠ some x) vs c) (hg : w.grownBy w' row) (hr : row = v.ownBlock ∨ ∀ x, row = some x → x < S) : RdC w' (fun x => S ≤ x ∧ v.ownBlock ≠ some x) vs c := by
  refine RdC.mono (F := fun x => (S ≤ x ∧ v.ownBlock ≠ some x) ∧ x < w.heap.size) (fun x hx => hx.1) (RdC.agree hg.size (fun x hx k => World.cell?_of_block (a := ⟨x, k, none⟩) (hg.block x hx.2 ?_)) h.here)
  rcases hr with hr | hr
  · rw [hr]; exact fun e => hx.1.2 e.symm
  · intro e
    have := hr x e.symm
    omega
theorem SlC.grown {w w' : World} {B : Nat} {row : Option Nat} {a : Option Addr} {b o len cap : Nat} {c : Cls} (h : SlC w (fun x => B ≤ x) a b o len cap c) (hg : w.grownBy w' row) (hr : ∀ x, row = some x → x < B) : SlC w' (fun x => B ≤ x) a b o len cap c := by
  obtain ⟨s1, s2, s3, s4, s5⟩ := h.here
  have hag : ∀ x, (B ≤ x ∧ x < w.heap.size) → ∀ k, w'.cell? ⟨x, k, none⟩ = w.cell? ⟨x, k, none⟩ := fun x hx k => World.cell?_of_block (a := ⟨x, k, none⟩) (hg.block x hx.2 (by
    intro e
    have := hr x e.symm
    omega))
  exact SlC.mono (F := fun x => B ≤ x ∧ x < w.heap.size) (fun x hx => hx.1) ⟨s1, s2, s3, fun h => ⟨(s4 h).1, Nat.lt_of_lt_of_le (s4 h).2.1 hg.size, (s4 h).2.2⟩, AtC.agree hg.size hag (fun h k => hag b (s4 (by omega)).2.2 k) s5⟩
theorem RdC.own {w w' : World} {S : Nat} {v v' : Value} {c : Cls} {vs : List Value} (h : RdC w (fun x => S ≤ x ∧ v.ownBlock ≠ some x) vs c) (hg : w.grownBy w' v.ownBlock) (hb : v'.ownBlock = v.ownBlock ∨ ∀ k, v'.ownBlock = some k → w.heap.size ≤ k) : RdC w' (fun x => S ≤ x ∧ v'.ownBlock ≠ some x) vs c := by
  refine RdC.mono (F := fun x => (S ≤ x ∧ v.ownBlock ≠ some x) ∧ x < w.heap.size) (fun x hx => ⟨hx.1.1, fun e => ?_⟩) (RdC.agree hg.size (fun x hx k => World.cell?_of_block (a := ⟨x, k, none⟩) (hg.block x hx.2 (fun e => hx.1.2 e.symm))) h.here)
  rcases hb with hb | hb
  · rw [hb] at e; exact hx.1.2 e
  · have := hb x e
    omega
theorem SlC.grow2 {w w' : World} {B : Nat} {row : Option Nat} {F : Nat → Prop} {a : Option Addr} {b o len cap : Nat} {c : Cls} (h : SlC w (fun x => B ≤ x) a b o len cap c) (hg : w.grownBy w' row) (hr : ∀ x, row = some x → x < B) (hF : ∀ x, B ≤ x → x < w.heap.size → F x) : SlC w' F a b o len cap c := by
  obtain ⟨s1, s2, s3, s4, s5⟩ := h.here
  have hag : ∀ x, (B ≤ x ∧ x < w.heap.size) → ∀ k, w'.cell? ⟨x, k, none⟩ = w.cell? ⟨x, k, none⟩ := fun x hx k => World.cell?_of_block (a := ⟨x, k, none⟩) (hg.block x hx.2 (by
    intro e
    have := hr x e.symm
    omega))
  exact SlC.mono (F := fun x => B ≤ x ∧ x < w.heap.size) (fun x hx => hF x hx.1 hx.2) ⟨s1, s2, s3, fun h => ⟨(s4 h).1, Nat.lt_of_lt_of_le (s4 h).2.1 hg.size, (s4 h).2.2⟩, AtC.agree hg.size hag (fun h k => hag b (s4 (by omega)).2.2 k) s5⟩
theorem fin2_ex {w : World} {fb : Nat} {c a : Int} (c' a' : Int) (h : FtAt w fb c a) : ∃ W, (w.setCell ⟨fb, 0, none⟩ (.int .i64 c')).setCell ⟨fb, 1, none⟩ (.int .i64 a') = W ∧ FtAt W fb c' a' ∧ w.grownBy W (some fb) :=
  ⟨_, rfl, h.setAll, (grownBy_set w ⟨fb, 0, none⟩ _).trans (grownBy_set _ ⟨fb, 1, none⟩ _)⟩
set_option maxHeartbeats 8000000 in
set_option maxRecDepth 100000 in
theorem ents_any (F : Nat) (L : List Tk) (a : Option Addr) (b o len cap : Nat) (hl : len ≤ 1000000) (hF : L.length < F) : ∀ n, EntsC F L a b o len cap n
  | 0 => fun _ _ _ _ _ _ _ _ _ h _ => absurd h (Nat.not_lt_zero _)
  | n + 1 => fun w pb k op hP hS hb hne hE hn ho => by
    have HEN := Lib.hid (fun w pb k k0 t x1 x2 x3 x4 x5 x6 x7 => ent_any F L a b o len cap n hl (Lib.hid (ents_any F L a b o len cap hl hF n)) w pb k k0 t x1 x2 x3 x4 x5 x6 x7)
    have HED := Lib.hid (fun k t n a W ob hob hlt => ends_any ⟨k, t, n, a⟩ W ob op (by omega) hob hlt)
    have HNX := Lib.hid (fun W k' x (h : Env w pb a b o len cap L W k') (hk : k' < L.length) (hx : L[k']'hk = x) => hx ▸ pnext_any W pb a b o len cap L k' h.p h.s hk hl)
    simp only [Tk.val] at HED
    have HE0 := Lib.hid (show Env w pb a b o len cap L w k from ⟨World.grownBy.refl _ _, hP, hS, hP.lt, hb, hne⟩)
    have HHE := Lib.hid hE
    have hpl := hP.lt
    have hLl := hS.hl
    have hkL := hE.pos
    have HCO := Lib.hid (comb_nil F op (L.drop k))
    clear hP hS hE
    obtain ⟨iz, hi, hz0, hz1, hz2⟩ := info_parts infoC
    obtain ⟨P, hPP⟩ : ∃ P, parL F op (L.drop k) = P := ⟨_, rfl⟩
    rw [hPP]
    have HP := Lib.hid hPP
    clear hPP
    go_enter Tryz.func44, Tryz.ntmps44
    go_wp2_with fail
    have HB := Lib.hid (show Below w.heap.size w ((w.alloc (.cells #[.int .i64 (op : Int)] 3)).alloc (.cells #[.int .i64 0, .int .i64 0] 40)) from (by repeat (first | with_reducible exact Below.refl _ _ | (with_reducible refine Below.setCell ?_ (by first | exact Nat.le_refl _ | omega | (simp; done) | (simp; omega)) _) | (with_reducible refine Below.alloc ?_ (by first | exact Nat.le_refl _ | omega | (simp; done) | (simp; omega)) _) | with_reducible refine Below.drew ?_ | with_reducible refine bel_drewN ?_ _ | (with_reducible refine bel_by (by with_reducible assumption) (by first | exact Nat.le_refl _ | omega | (simp; done) | (simp; omega)) ?_))))
    have HOB := Lib.hid ((nm_new w (op : Int) 3).keep ((Below.refl _ _).alloc (Nat.le_refl _) (.cells #[.int .i64 0, .int .i64 0] 40)))
    have HFB := Lib.hid (ft_new (w.alloc (.cells #[.int .i64 (op : Int)] 3)) 0 0 40)
    have hsz : ((w.alloc (.cells #[.int .i64 (op : Int)] 3)).alloc (.cells #[.int .i64 0, .int .i64 0] 40)).heap.size = w.heap.size + 1 + 1 := by simp
    simp only [World.size_alloc] at HFB
    generalize (w.alloc (.cells #[.int .i64 (op : Int)] 3)).alloc (.cells #[.int .i64 0, .int .i64 0] 40) = W0 at *
    have o1 : w.heap.size < w.heap.size + 1 := Nat.lt_succ_self _
    obtain ⟨ob, hob⟩ : ∃ ob, w.heap.size = ob := ⟨_, rfl⟩
    rw [hob] at HOB HFB hsz o1 ⊢
    generalize ob + 1 = fb at *
    have HE1 := Lib.hid (HE0.out.below HB.out)
    clear HE0 HB
    go_step3
    go_wp2_with fail
    go_step3
    go_wp2_with fail
    go_loopw [7] (fun s7 wr => ∃ (k' : Nat) (acc : Cls) (vs : List Value) (v : Value), s7 = v ∧ k ≤ k' ∧ k' ≤ L.length ∧ acc.len ≤ k' ∧ fb < wr.heap.size ∧ Hid (Env w pb a b o len cap L wr k') ∧ Hid (HasE (L.drop k')) ∧ Hid (NmAt wr ob (op : Int)) ∧ Hid (FtAt wr fb 0 0) ∧ Hid (wr.ownsRow (fb + 1) 25 5 v acc.len vs) ∧ Hid (RdC wr (fun x => fb + 1 ≤ x ∧ v.ownBlock ≠ some x) vs acc) ∧ Hid (comb acc (parL F op (L.drop k')) = P)) (fun _ wr => L.length - posOf wr pb)
    case atStart => exact ⟨k, .nil, [], .slice none 0 0, rfl, by omega, by omega, Nat.zero_le _, by omega, HE1, HHE, HOB, HFB, Lib.hid (World.ownsRow_nil _ _ _ _), Lib.hid rfl, Lib.hid (HCO.out.trans HP.out)⟩
    case round =>
      obtain ⟨k', acc, vs, v, hv, hk1, hk2, hacc, hfw, HE, HH, HO, HF, HW, HV, HC⟩ := hrel
      replace hv := hv.symm
      subst hv
      have HPO := Lib.hid (posOf_eq HE.out.p)
      clear HE1 HHE HOB HFB HCO HP hsz
      have hkL2 : k' < L.length := HH.out.pos
      have HNL := Lib.hid (show L.drop k' = L[k']'hkL2 :: L.drop (k' + 1) from List.drop_eq_getElem_cons hkL2)
      go_wp2_with fail
      generalize hx : L[k']'hkL2 = x at *
      have HCL := Lib.hid (HNX.out wr k' x HE.out hkL2 hx)
      obtain ⟨yk, yt, yn, ya⟩ := x
      simp only [Tk.val] at HCL
      clear hx
      refine HCL.out.mono ?_
      rintro e w1 ⟨rfl, hg1, hp1⟩
      have HE' := Lib.hid (HE.out.moved hg1 hp1)
      have HO' := Lib.hid (HO.out.grown hg1 (by intro e; cases e; omega))
      have HF' := Lib.hid (HF.out.grown hg1 (by intro e; cases e; omega))
      have HV' := Lib.hid (HV.out.grown hg1 (Or.inr (fun x hx => by cases hx; omega)))
      have HW' := Lib.hid (HW.out.kept hg1 (by
        by_cases h : v.ownBlock = none
        · exact Or.inl h
        · refine Or.inr (fun e => ?_)
          have := (HW.out.lt _ e).1
          omega))
      have hs1 := hg1.size
      obtain ⟨av, cv, rfl⟩ := own_form HW'.out
      clear hg1 hp1 HCL HE HO HF HV HW
      have HE2 := Lib.hid (HE'.out.below ((Below.refl _ _).alloc (Nat.le_refl _) (.cells #[.int .i64 yk, .string yt, .int .i64 yn, .int .i64 ya] 51)))
      have HO2 := Lib.hid (HO'.out.keep ((Below.refl _ _).alloc (Nat.le_refl _) (.cells #[.int .i64 yk, .string yt, .int .i64 yn, .int .i64 ya] 51)))
      have HF2 := Lib.hid (HF'.out.keep ((Below.refl _ _).alloc (Nat.le_refl _) (.cells #[.int .i64 yk, .string yt, .int .i64 yn, .int .i64 ya] 51)))
      have HV2 := Lib.hid (HV'.out.grown (grb_below (r := none) ((Below.refl _ _).alloc (Nat.le_refl _) (.cells #[.int .i64 yk, .string yt, .int .i64 yn, .int .i64 ya] 51))) (Or.inr (fun x hx => by cases hx)))
      have HW2 := Lib.hid (HW'.out.alloc (.cells #[.int .i64 yk, .string yt, .int .i64 yn, .int .i64 ya] 51))
      have HT2 := Lib.hid (tk_new w1 ⟨yk, yt, yn, ya⟩ 51)
      have hs2 : w1.heap.size + 1 = (w1.alloc (.cells #[.int .i64 yk, .string yt, .int .i64 yn, .int .i64 ya] 51)).heap.size := by simp
      clear HE' HO' HF' HV' HW'
      obtain ⟨t0, t1, t2, t3, tf, tl⟩ := HT2.out
      simp only at t0 t1 t2 t3
      go_wp2_with fail
      clear t0 t1 t2 t3 tf tl
      generalize w1.alloc (.cells #[.int .i64 yk, .string yt, .int .i64 yn, .int .i64 ya] 51) = w2 at *
      refine (HED.out _ _ _ _ _ _ HO2.out.c0 HO2.out.lt).mono ?_
      rintro e w3 ⟨rfl, hb3⟩
      have HE3 := Lib.hid (HE2.out.below hb3)
      have HO3 := Lib.hid (HO2.out.keep hb3)
      have HF3 := Lib.hid (HF2.out.keep hb3)
      have HT3 := Lib.hid (HT2.out.keep hb3)
      have HV3 := Lib.hid (HV2.out.grown (grb_below (r := none) hb3) (Or.inr (fun x hx => by cases hx)))
      have HW3 := Lib.hid (own_below HW2.out hb3)
      have hs3 := hb3.size
      clear hb3 HE2 HO2 HF2 HT2 HV2 HW2 HED
      cases hen : endsB op ⟨yk, yt, yn, ya⟩ with
      | true =>
        have hP2 : P = (acc, L.drop (k' + 1), 0, 0) := by
          rw [← HC.out, HNL.out]
          match F, hF with
          | F + 1, _ => rw [parL_ends hen, comb_end]
        have HP2 := Lib.hid hP2
        clear hP2 HC HNX HEN
        obtain ⟨f0, f1, ff, fl⟩ := HF3.out
        go_wp2_with fail
        rw [Exit.noGoto_ret]
        obtain ⟨W7, hW7, HFW, hgW⟩ := fin2_ex 0 0 HF3.out
        rw [hW7]
        clear hW7 f0 f1 ff fl
        obtain ⟨f0, f1, ff, fl⟩ := HFW
        have HEW := HE3.out.step hgW (fun j hj => by cases hj; omega)
        have HVW := HV3.out.grown hgW (Or.inr (fun x hx => by cases hx; omega))
        have HWW := HW3.out.kept hgW (by
          by_cases h : (Value.slice av acc.len cv).ownBlock = none
          · exact Or.inl h
          · refine Or.inr (fun e => ?_)
            have := (HW3.out.lt _ e).1
            omega)
        refine bodyPost_ret (v := .tuple #[.slice av acc.len cv, .agg #[.int .i64 0, .int .i64 0]]) (by simp [results, Tryz.results44, go_sem, f0, f1, ff, fl]) rfl ?_
        rw [HP2.out]
        exact ⟨.slice av acc.len cv, vs, _, rfl, HEW.g, HEW.p, own_low HWW (by omega), RdC.mono (fun x hx => ⟨by omega, hx.2⟩) HVW, fun _ => ⟨rfl, by omega⟩⟩
      | false =>
        by_cases hk : yk = 1
        · subst hk
          have hP2 := HC.out
          rw [HNL.out, parL_word (by have := List.length_drop (i := k') (l := L); rw [HNL.out] at this; omega) hen rfl] at hP2
          have HP1 := Lib.hid hP2
          have HC7 := Lib.hid (HEN.out w3 pb (k' + 1) op ⟨1, yt, yn, ya⟩ HE3.out.p HE3.out.s (by have := HE3.out.bl; have := HE3.out.size; omega) HE3.out.ne (by
            have := HH.out
            rw [HNL.out] at this
            exact HasE.drop (L := []) this (by simp) (by simp)) (by omega) ho)
          have HHM := Lib.hid (fun h0 => entR_hasE (F := F) (o := op) (l := L.drop (k' + 1)) (by
            have := HH.out
            rw [HNL.out] at this
            exact HasE.drop (L := []) this (by simp) (by simp)) h0 (by rw [List.length_drop]; omega))
          obtain ⟨r, hr⟩ : ∃ r, entR F op (L.drop (k' + 1)) = r := ⟨_, rfl⟩
          rw [hr] at HC7 HP1 HHM
          clear hP2 HEN HC
          obtain ⟨xs, bl, kd, mm, rc, ra⟩ := r
          obtain ⟨t0, t1, t2, t3, tf, tl⟩ := HT3.out
          obtain ⟨q0, qf, ql⟩ := HO3.out
          simp only [Tk.val] at t0 t1 t2 t3 HC7
          unfold EntPost at HC7
          simp only at HC7 HP1 HHM
          go_wp2_with fail
          refine HC7.out.mono ?_
          rintro e w4 ⟨k4, hg4, hp4, hor⟩
          have HE4 := Lib.hid (HE3.out.moved hg4 hp4)
          have HO4 := Lib.hid (HO3.out.grown hg4 (by intro e; cases e; omega))
          have HF4 := Lib.hid (HF3.out.grown hg4 (by intro e; cases e; omega))
          have HV4 := Lib.hid (HV3.out.grown hg4 (Or.inr (fun x hx => by cases hx; omega)))
          have HW4 := Lib.hid (HW3.out.kept hg4 (by
            by_cases h : (Value.slice av acc.len cv).ownBlock = none
            · exact Or.inl h
            · refine Or.inr (fun e => ?_)
              have := (HW3.out.lt _ e).1
              omega))
          have hs4 := hg4.size
          clear hg4 hp4 HE3 HO3 HF3 HV3 t0 t1 t2 t3 tf tl q0 qf ql
          rcases hor with ⟨hc, rfl⟩ | ⟨hc, hk4, hk5, aa, ba, oa, ca, ak, bk, ok, ck, rfl, hsl, hsb, hkc⟩
          · have hcb : (rc == 0) = false := by simpa using hc
            have hcn : (rc != 0) = true := by simpa using hc
            have hp := HP1.out
            rw [if_neg hc, comb_bad hc] at hp
            have HP2 := Lib.hid hp.symm
            clear hp HP1
            have HB5 := Lib.hid (((Below.refl w4.heap.size w4).alloc (Nat.le_refl _) (.cells #[.string ⟨#[]⟩, .slice none 0 0, .bool false, .slice none 0 0, .int .i64 0] 25)).alloc (by simp) (.cells #[.int .i64 rc, .int .i64 ra] 40))
            have HE5 := Lib.hid (HE4.out.below HB5.out)
            have HF5 := Lib.hid (HF4.out.keep HB5.out)
            have HO5 := Lib.hid (HO4.out.keep HB5.out)
            have HW5 := Lib.hid (own_below HW4.out HB5.out)
            have HV5 := Lib.hid (HV4.out.grown (grb_below (r := none) HB5.out) (Or.inr (fun x hx => by cases hx)))
            have HG5 := Lib.hid (ft_new (w4.alloc (.cells #[.string ⟨#[]⟩, .slice none 0 0, .bool false, .slice none 0 0, .int .i64 0] 25)) rc ra 40)
            have HS5 := Lib.hid (show (w4.heap.size + 1 + 1 : Nat) = ((w4.alloc (.cells #[.string ⟨#[]⟩, .slice none 0 0, .bool false, .slice none 0 0, .int .i64 0] 25)).alloc (.cells #[.int .i64 rc, .int .i64 ra] 40)).heap.size by simp)
            simp only [World.size_alloc] at HG5
            obtain ⟨g0, g1, gf, gl⟩ := HG5.out
            obtain ⟨f0, f1, ff, fl⟩ := HF5.out
            clear HE4 HF4 HO4 HW4 HV4
            unfold zeroC fV
            go_wp2_with fail
            go_region
            all_goals
              go_wp2_with fail
              rw [Exit.noGoto_ret]
              obtain ⟨W7, hW7, HFW, hgW⟩ := fin2_ex rc ra HF5.out
              rw [hW7]
              clear hW7 f0 f1 ff fl
              obtain ⟨f0, f1, ff, fl⟩ := HFW
              have HEW := HE5.out.step hgW (fun j hj => by cases hj; omega)
              have HED := HEW.below (w' := W7.drew) ((Below.refl _ _).drew)
              refine bodyPost_ret (v := .tuple #[.slice none 0 0, .agg #[.int .i64 rc, .int .i64 ra]]) (by simp [results, Tryz.results44, go_sem, f0, f1, ff, fl]) rfl ?_
              rw [HP2.out]
              exact ⟨.slice none 0 0, [], _, rfl, HED.g, HED.p, World.ownsRow_nil _ _ _ _, rfl, fun h => absurd h hc⟩
          · simp only [Prod.mk.injEq] at hc
            obtain ⟨rfl, rfl⟩ := hc
            have hp := HP1.out
            rw [if_pos rfl, comb_snoc] at hp
            simp only at hp
            have HP2 := Lib.hid hp
            clear hp HP1
            have HB5 := Lib.hid (((Below.refl w4.heap.size w4).alloc (Nat.le_refl _) (.cells #[.string yt, .slice aa xs.length ca, .bool bl, .slice ak kd.len ck, .int .i64 ya] 25)).alloc (by simp) (.cells #[.int .i64 0, .int .i64 0] 40))
            have HE5 := Lib.hid (HE4.out.below HB5.out)
            have HF5 := Lib.hid (HF4.out.keep HB5.out)
            have HO5 := Lib.hid (HO4.out.keep HB5.out)
            have HW5 := Lib.hid (own_below HW4.out HB5.out)
            have HV5 := Lib.hid (HV4.out.grown (grb_below (r := none) HB5.out) (Or.inr (fun x hx => by cases hx)))
            have HG5 := Lib.hid (ft_new (w4.alloc (.cells #[.string yt, .slice aa xs.length ca, .bool bl, .slice ak kd.len ck, .int .i64 ya] 25)) 0 0 40)
            have HS5 := Lib.hid (show (w4.heap.size + 1 + 1 : Nat) = ((w4.alloc (.cells #[.string yt, .slice aa xs.length ca, .bool bl, .slice ak kd.len ck, .int .i64 ya] 25)).alloc (.cells #[.int .i64 0, .int .i64 0] 40)).heap.size by simp)
            simp only [World.size_alloc] at HG5
            have HC5 := Lib.hid ((cl_new w4 yt (.slice aa xs.length ca) (.slice ak kd.len ck) bl ya 25).keep ((Below.refl _ _).alloc (Nat.le_refl _) (.cells #[.int .i64 0, .int .i64 0] 40)))
            have HX5 := Lib.hid (hsl.keep HB5.out)
            have HK5 := Lib.hid (hkc.grown (grb_below (r := none) HB5.out) (fun x hx => by cases hx))
            have HXB := Lib.hid (fun h => And.intro (hsb h) (hsl.hb (b := ba) h))
            have HVL := Lib.hid (fun g (h : (Value.slice av acc.len cv).ownBlock = some g) => HW3.out.lt g h)
            obtain ⟨c0, c1, c2, c3, c4, cf, cl⟩ := HC5.out
            obtain ⟨g0, g1, gf, gl⟩ := HG5.out
            clear HE4 HF4 HO4 HW4 HV4 hsl hkc hsb HW3
            unfold fV
            have hce := cl_cells ((w4.alloc (.cells #[.string yt, .slice aa xs.length ca, .bool bl, .slice ak kd.len ck, .int .i64 ya] 25)).alloc (.cells #[.int .i64 0, .int .i64 0] 40)) yt (.slice aa xs.length ca) (.slice ak kd.len ck) bl ya
            simp only [World.size_alloc] at hce
            have HCE := Lib.hid hce
            have HW6 := Lib.hid (HW5.out.alloc (.cells #[.string yt, .slice aa xs.length ca, .bool bl, .slice ak kd.len ck, .int .i64 ya] 25))
            have HB6 := Lib.hid ((Below.refl ((w4.alloc (.cells #[.string yt, .slice aa xs.length ca, .bool bl, .slice ak kd.len ck, .int .i64 ya] 25)).alloc (.cells #[.int .i64 0, .int .i64 0] 40)).heap.size ((w4.alloc (.cells #[.string yt, .slice aa xs.length ca, .bool bl, .slice ak kd.len ck, .int .i64 ya] 25)).alloc (.cells #[.int .i64 0, .int .i64 0] 40))).alloc (Nat.le_refl _) (.cells #[.string yt, .slice aa xs.length ca, .bool bl, .slice ak kd.len ck, .int .i64 ya] 25))
            clear hce
            go_wp2_with (at_builtin; go_loud (refine wpList_append_blk _ rfl _ _ 23 rfl (fb + 1) 25 iz (.agg #[.string ⟨#[]⟩, .slice none 0 0, .bool false, .slice none 0 0, .int .i64 0]) 5 80 Tryz.underlying23 hi hz0 hz1 hz2 rfl (by decide) _ _ _ rfl HW6.out ⟨w4.heap.size + 1 + 1, 0, none⟩ 1 1 (encC yt (.slice aa xs.length ca) bl (.slice ak kd.len ck) ya) rfl rfl HCE.out ?n1 ?n2 ?n3 ?n4 (by decide) ?_))
            case n1 => intro u hu; simp only [encC, List.mem_cons, List.not_mem_nil, or_false] at hu; rcases hu with rfl | rfl | rfl | rfl | rfl <;> rfl
            case n2 => unfold maxLen; omega
            case n3 => omega
            case n4 => simp; omega
            intro v' w7 ho hg hbk
            clear c0 c1 c2 c3 c4 cf cl g0 g1 gf gl HCE HC5 HG5 HW6 HC7
            generalize (w4.alloc (.cells #[.string yt, .slice aa xs.length ca, .bool bl, .slice ak kd.len ck, .int .i64 ya] 25)).alloc (.cells #[.int .i64 0, .int .i64 0] 40) = W5 at *
            rw [HS5.out] at hbk
            have hs6 : W5.heap.size + 1 = (W5.alloc (.cells #[.string yt, .slice aa xs.length ca, .bool bl, .slice ak kd.len ck, .int .i64 ya] 25)).heap.size := by simp
            rw [hs6] at hbk
            have hS5 := HS5.out
            have hHE := HHM.out (by simp)
            rw [← hk4] at hHE
            have HE7 := Lib.hid ((HE5.out.below HB6.out).step hg (fun j hj => by have := (HVL.out j hj).1; omega))
            have HO7 := Lib.hid ((HO5.out.keep HB6.out).grown hg (fun e => by have := (HVL.out _ e.symm).1; omega))
            have HF7 := Lib.hid ((HF5.out.keep HB6.out).grown hg (fun e => by have := (HVL.out _ e.symm).1; omega))
            have HV7 := Lib.hid ((HV5.out.grown (grb_below (r := none) HB6.out) (Or.inr (fun x hx => by cases hx))).own hg hbk)
            have HX7 := Lib.hid ((HX5.out.keep HB6.out).agree hg.size (fun h k => World.cell?_of_block (a := ⟨ba, k, none⟩) (hg.block ba (by have := (HXB.out h).2; omega) (fun e => absurd (HVL.out _ e.symm).2 (Nat.not_lt.2 (HXB.out h).1)))))
            have HK7 := Lib.hid ((HK5.out.grown (grb_below (r := none) HB6.out) (fun x hx => by cases hx)).grow2 (F := fun x => fb + 1 ≤ x ∧ v'.ownBlock ≠ some x) hg (fun x hx => (HVL.out x hx).2) (fun x h1 h2 => ⟨by omega, fun e => by
              rcases hbk with hbk | hbk
              · rw [hbk] at e
                exact absurd (HVL.out _ e).2 (Nat.not_lt.2 h1)
              · have := hbk x e
                exact absurd h2 (Nat.not_lt.2 this)⟩))
            have HXB7 := Lib.hid (fun (h : 0 < xs.length) => show fb + 1 ≤ ba ∧ v'.ownBlock ≠ some ba from ⟨by have := (HXB.out h).1; omega, fun e => by
              have h1 := HXB.out h
              rcases hbk with hbk | hbk
              · rw [hbk] at e
                exact absurd (HVL.out _ e).2 (Nat.not_lt.2 h1.1)
              · have := hbk ba e
                rw [← hs6] at this
                have := h1.2
                omega⟩)
            have hs7 := hg.size
            have HO8 := Lib.hid ho
            have HPO2 := Lib.hid (posOf_eq HE7.out.p)
            clear ho hg hbk HE5 HO5 HF5 HV5 HX5 HK5 HXB HB5 HB6 HVL HW5
            go_wp2_with fail
            go_roundw
            case rel =>
              refine ⟨k4, acc.app (.cons yt xs bl kd ya .nil), _, v', rfl, by omega, ?_, ?_, by omega, HE7, Lib.hid hHE, HO7, HF7, Lib.hid ?_, Lib.hid (RdC.snoc HX7.out HXB7.out HK7.out HV7.out), Lib.hid ?_⟩
              · have := hHE.pos; omega
              · rw [Cls.len_app]; simp only [Cls.len]; omega
              · rw [Cls.len_app]; exact HO8.out
              · rw [hk4]; exact HP2.out
            case measure => rw [HPO2.out, HPO.out]; exact Nat.sub_lt_sub_left hkL2 (Nat.lt_of_succ_lt hk5)
        · have hk1 : (yk == 1) = false := by simpa using hk
          have hkn : (yk != 1) = true := by simpa using hk
          have hP2 : P = (.nil, [], 2, ya) := by
            rw [← HC.out, HNL.out, parL_odd (by omega) hen hk, comb_bad (by simp)]
          have HP2 := Lib.hid hP2
          clear hP2 HC HNX HEN
          obtain ⟨t0, t1, t2, t3, tf, tl⟩ := HT3.out
          simp only at t0 t1 t2 t3
          obtain ⟨f0, f1, ff, fl⟩ := HF3.out
          go_wp2_with fail
          go_region
          all_goals
            go_wp2_with fail
            rw [Exit.noGoto_ret]
            obtain ⟨W7, hW7, HFW, hgW⟩ := fin2_ex 2 ya HF3.out
            rw [hW7]
            clear hW7 f0 f1 ff fl
            obtain ⟨f0, f1, ff, fl⟩ := HFW
            have HEW := HE3.out.step hgW (fun j hj => by cases hj; omega)
            have HED := HEW.below (w' := W7.drew) ((Below.refl _ _).drew)
            refine bodyPost_ret (v := .tuple #[.slice none 0 0, .agg #[.int .i64 2, .int .i64 ya]]) (by simp [results, Tryz.results44, go_sem, f0, f1, ff, fl]) rfl ?_
            rw [HP2.out]
            exact ⟨.slice none 0 0, [], _, rfl, HED.g, HED.p, World.ownsRow_nil _ _ _ _, rfl, fun h => absurd h (by first | decide | (simp; done) | (simpa using hc))⟩
end Go.Proofs.YtohalocbghhenaaGreatDoor
