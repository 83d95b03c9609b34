/- The law of two lists, one behind the other: for every two slices of entries. -/
import Derived.Test.YtohalocbghhenaaGreatDoorPaw
import Derived.Test.YtohalocbghhenaaGreatDoorVls
import Derived.Test.YtohalocbghhenaaGreatDoorLawReads
set_option linter.unusedSimpArgs false
set_option linter.unusedVariables false
namespace Go.Proofs.YtohalocbghhenaaGreatDoor
open Go.RowKit

theorem formed_app : ∀ (c d : Cls), formed (c.app d) = (formed c && formed d)
  | .nil, _ => rfl
  | .cons w xs b k a r, d => by
    simp only [Cls.app, formed, formed_app r d, Bool.and_assoc]
theorem small_app : ∀ (c d : Cls), small c → small d → small (c.app d)
  | .nil, _, _, h => h
  | .cons w xs b k a r, d, ⟨h1, h2, h3, h4⟩, h => ⟨h1, h2, h3, small_app r d h4 h⟩
theorem lok_app : ∀ (c d : Cls), lok c → lok d → lok (c.app d)
  | .nil, _, _, h => h
  | .cons w xs b k a r, d, ⟨h1, h2, h3, h4, h5, h6⟩, h => ⟨h1, h2, h3, h4, h5, lok_app r d h6 h⟩
theorem count_app : ∀ (c d : Cls), (c.app d).count = c.count + d.count
  | .nil, _ => by simp [Cls.app, Cls.count]
  | .cons w xs b k a r, d => by simp only [Cls.app, Cls.count, count_app r d]; omega
theorem depth_app : ∀ (c d : Cls), (c.app d).depth = max c.depth d.depth
  | .nil, _ => by simp [Cls.app, Cls.depth]
  | .cons w xs b k a r, d => by simp only [Cls.app, Cls.depth, depth_app r d]; omega
theorem check_app (c d : Cls) : checkS (c.app d) = 0 ↔ (checkS c = 0 ∧ checkS d = 0) := by
  have hx : ∀ e : Cls, checkS e = 0 ↔ (formed e = true ∧ e.depth ≤ 8) := fun e => ⟨check_ok, fun ⟨h1, h2⟩ => by unfold checkS; rw [if_pos h1, if_neg (by omega)]⟩
  rw [hx, hx, hx, formed_app, depth_app, Bool.and_eq_true]
  constructor
  · rintro ⟨⟨h1, h2⟩, h3⟩; exact ⟨⟨h1, by omega⟩, h2, by omega⟩
  · rintro ⟨⟨h1, h3⟩, h2, h4⟩; exact ⟨⟨h1, h2⟩, by omega⟩
theorem prt_size (c : Cls) : (bs (prtS c).1).size ≤ 65536 := by
  unfold prtS
  split
  · split
    · rename_i h; simp only [bs_size]; exact h
    · simp [bs_size]
  · simp [bs_size]
theorem bs_app (l m : List UInt8) : bs (l ++ m) = bs l ++ bs m := by
  apply bs_inj
  simp [bs_data]
theorem prt_app (c d : Cls) : ((prtS c).2 = 0 → (prtS d).2 = 0 → ((prtS (c.app d)).2 = 0 ∧ bs (prtS (c.app d)).1 = bs (prtS c).1 ++ bs (prtS d).1) ∨ ((prtS (c.app d)).2 = 6 ∧ 65536 < (bs (prtS c).1).size + (bs (prtS d).1).size)) ∧
    (¬ ((prtS c).2 = 0 ∧ (prtS d).2 = 0) → (prtS (c.app d)).2 ≠ 0) := by
  have hz : ∀ e : Cls, (prtS e).2 = 0 ↔ (checkS e = 0 ∧ (linS e 0).length ≤ 65536) := fun e => by
    unfold prtS
    split
    · rename_i h
      split
      · rename_i h2; simp [h, h2]
      · rename_i h2; simp [h2]
    · rename_i h; simp [h]
  have hv : ∀ e : Cls, (prtS e).2 = 0 → (prtS e).1 = linS e 0 := fun e h => by
    obtain ⟨h1, h2⟩ := (hz e).1 h
    unfold prtS
    rw [if_pos h1, if_pos h2]
  constructor
  · intro h1 h2
    have e1 := hv c h1
    have e2 := hv d h2
    obtain ⟨p1, q1⟩ := (hz c).1 h1
    obtain ⟨p2, q2⟩ := (hz d).1 h2
    have hc := (check_app c d).2 ⟨p1, p2⟩
    have hl := lin_app c d 0
    by_cases hh : (linS (c.app d) 0).length ≤ 65536
    · have h3 := (hz (c.app d)).2 ⟨hc, hh⟩
      refine Or.inl ⟨h3, ?_⟩
      rw [hv _ h3, e1, e2, hl, bs_app]
    · refine Or.inr ⟨by unfold prtS; rw [if_pos hc, if_neg hh], ?_⟩
      rw [e1, e2, bs_size, bs_size]
      rw [hl, List.length_append] at hh
      omega
  · intro h h3
    obtain ⟨p, q⟩ := (hz (c.app d)).1 h3
    obtain ⟨p1, p2⟩ := (check_app c d).1 p
    rw [lin_app, List.length_append] at q
    exact h ⟨(hz c).2 ⟨p1, by omega⟩, (hz d).2 ⟨p2, by omega⟩⟩
set_option maxHeartbeats 4000000 in
set_option maxRecDepth 100000 in
theorem joins_walk {c d : Cls} {a a' : Option Addr} {b o cap b' o' cap' : Nat} {w : World} (hA : SlC w AllB a b o c.len cap c) (hZ : a = none → cap = 0) (hA' : SlC w AllB a' b' o' d.len cap' d) (hZ' : a' = none → cap' = 0) (hT : Tabs w) :
    Calls Tryz.prog 8 #[.slice a c.len cap, .slice a' d.len cap'] w fun e w' => e = .returned (.bool true) ∧ Below w.heap.size w w' := by
  have HW := Lib.hid (awake_any w hT)
  have HSL := Lib.hid (fun W (hB : Below w.heap.size w W) => SlC.low (w' := W) hA.here (fun x hx => hx.2) hB)
  have HSL' := Lib.hid (fun W (hB : Below w.heap.size w W) => SlC.low (w' := W) hA'.here (fun x hx => hx.2) hB)
  have HSM := Lib.hid (fun W (hB : Below w.heap.size w W) => small_any (c := c) (m := 300) (by omega) (by omega) (HSL.out W hB))
  have HSM' := Lib.hid (fun W (hB : Below w.heap.size w W) => small_any (c := d) (m := 300) (by omega) (by omega) (HSL'.out W hB))
  cases hr : decide (0 ≤ roomS c 300) with
  | false =>
    rw [hr] at HSM
    generalize c.len = y at *
    generalize d.len = y' at *
    clear hA hA' hZ hZ' hT HSL HSL' hr HSM'
    go_enter Tryz.func8, Tryz.ntmps8
    go_wp2_with fail
    refine HW.out.mono ?_
    rintro e w1 ⟨rfl, hb1⟩
    have HB1 := Lib.hid hb1
    clear hb1 HW
    go_wp2_with fail
    refine (HSM.out _ HB1.out).mono ?_
    rintro e w2 ⟨rfl, rfl⟩
    go_wp2_with fail
    go_ret
    exact ⟨rfl, HB1.out⟩
  | true =>
    cases hr' : decide (0 ≤ roomS d 300) with
    | false =>
      rw [hr] at HSM
      rw [hr'] at HSM'
      generalize c.len = y at *
      generalize d.len = y' at *
      clear hA hA' hZ hZ' hT HSL HSL' hr hr'
      go_enter Tryz.func8, Tryz.ntmps8
      go_wp2_with fail
      refine HW.out.mono ?_
      rintro e w1 ⟨rfl, hb1⟩
      have HB1 := Lib.hid hb1
      clear hb1 HW
      go_wp2_with fail
      refine (HSM.out _ HB1.out).mono ?_
      rintro e w2 ⟨rfl, rfl⟩
      go_wp2_with fail
      refine (HSM'.out _ HB1.out).mono ?_
      rintro e w2 ⟨rfl, rfl⟩
      go_wp2_with fail
      go_ret
      exact ⟨rfl, HB1.out⟩
    | true =>
      obtain ⟨r1, r2, r3⟩ := room_print (Int.le_refl _) (of_decide_eq_true hr)
      obtain ⟨s1, s2, s3⟩ := room_print (Int.le_refl _) (of_decide_eq_true hr')
      rw [hr] at HSM
      rw [hr'] at HSM'
      have HPR := Lib.hid (fun W (hB : Below w.heap.size w W) => prt_any c (by omega) r2 r3 W a b o cap _ (HSL.out W hB) (hT.below hB))
      have HPR' := Lib.hid (fun W (hB : Below w.heap.size w W) => prt_any d (by omega) s2 s3 W a' b' o' cap' _ (HSL'.out W hB) (hT.below hB))
      have HPA := Lib.hid (fun W (hB : Below w.heap.size w W) F g be ce (h : SlC W F g be 0 (c.app d).len ce (c.app d)) => prt_any (c.app d) (by rw [count_app]; omega) (small_app _ _ r2 s2) (fun hc => lok_app _ _ (r3 ((check_app c d).1 hc).1) (s3 ((check_app c d).1 hc).2)) W g be 0 ce F h (hT.below hB))
      have HPL := Lib.hid (prt_app c d)
      have hS1 := prt_size c
      have hS2 := prt_size d
      have hlc : c.len ≤ 300 := by have := kidsN_le c 0; omega
      have hld : d.len ≤ 300 := by have := kidsN_le d 0; omega
      have hcp := hA.2.1
      have hcp' := hA'.2.1
      have HZ := Lib.hid (show a = none → c.len = 0 ∧ cap = 0 from fun h => ⟨by have := hZ h; omega, hZ h⟩)
      have HZ' := Lib.hid (show a' = none → d.len = 0 ∧ cap' = 0 from fun h => ⟨by have := hZ' h; omega, hZ' h⟩)
      generalize hP1 : prtS c = P1 at *
      generalize hP2 : prtS d = P2 at *
      generalize hP3 : prtS (c.app d) = P3 at *
      obtain ⟨l1, z1⟩ := P1
      obtain ⟨l2, z2⟩ := P2
      obtain ⟨l3, z3⟩ := P3
      simp only at HPR HPR' HPA HPL hS1 hS2
      generalize bs l1 = S1 at *
      generalize bs l2 = S2 at *
      generalize bs l3 = S3 at *
      clear hZ hZ' hr hr' hA hA' r1 r2 r3 s1 s2 s3 hP1 hP2 hP3 hT hcp hcp'
      go_enter Tryz.func8, Tryz.ntmps8
      go_wp2_with fail
      refine HW.out.mono ?_
      rintro e w1 ⟨rfl, hb1⟩
      have HB1 := Lib.hid hb1
      clear hb1 HW
      go_wp2_with fail
      refine (HSM.out _ HB1.out).mono ?_
      rintro e w2 ⟨rfl, rfl⟩
      go_wp2_with fail
      refine (HSM'.out _ HB1.out).mono ?_
      rintro e w2 ⟨rfl, rfl⟩
      go_wp2_with fail
      refine (HPR.out _ HB1.out).mono ?_
      rintro e w2 ⟨rfl, hb2⟩
      have HB2 := Lib.hid (HB1.out.trans (Below.mono hb2 HB1.out.size))
      clear hb2 HB1 HSM HSM' HPR
      go_wp2_with fail
      refine (HPR'.out _ HB2.out).mono ?_
      rintro e w3 ⟨rfl, hb3⟩
      have HB3 := Lib.hid (HB2.out.trans (Below.mono hb3 HB2.out.size))
      have hs3 := HB3.out.size
      clear hb3 HB2 HPR'
      have HB4 := Lib.hid (HB3.out.alloc hs3 (.cells #[] 25))
      have HX4 := Lib.hid ((Below.refl w3.heap.size w3).alloc (Nat.le_refl _) (.cells #[] 25))
      have HO4 := Lib.hid (World.ownsRow_made (e := 25) (size := 5) (base := w3.heap.size) w3 #[] 0 (by simp) (Nat.zero_le _) rfl)
      obtain ⟨iz, hi, hz0, hz1, hz2⟩ := info_parts infoC
      have hsl := HSL.out _ HB4.out
      have hsl' := HSL'.out _ HB4.out
      obtain ⟨vs, v1, v2, v3, v4⟩ := AtC.vals hsl.2.2.2.2
      obtain ⟨us, u1, u2, u3, u4⟩ := AtC.vals hsl'.2.2.2.2
      have HVS := Lib.hid v1
      have HUS := Lib.hid u1
      have HV3 := Lib.hid (show ∀ ad, a = some ad → ∀ j u, vs[j]? = some u → (w3.alloc (.cells #[] 25)).cell? (ad.add j) = some u from fun ad had j u hu => by
        have hj : j < vs.length := by
          by_cases hh : j < vs.length
          · exact hh
          · rw [List.getElem?_eq_none (by omega)] at hu; exact absurd hu (by simp)
        obtain ⟨e1, _, _⟩ := hsl.2.2.2.1 (by omega)
        rw [had] at e1
        obtain rfl := Option.some.inj e1
        rw [Addr.add_lit]
        exact v3 j u hu)
      have HU3 := Lib.hid (show ∀ ad, a' = some ad → ∀ j u, us[j]? = some u → (w3.alloc (.cells #[] 25)).cell? (ad.add j) = some u ∧ ad.block < w.heap.size ∧ (ad.add j).block = ad.block from fun ad had j u hu => by
        have hj : j < us.length := by
          by_cases hh : j < us.length
          · exact hh
          · rw [List.getElem?_eq_none (by omega)] at hu; exact absurd hu (by simp)
        obtain ⟨e1, _, e2⟩ := hsl'.2.2.2.1 (by omega)
        rw [had] at e1
        obtain rfl := Option.some.inj e1
        rw [Addr.add_lit]
        exact ⟨u3 j u hu, e2.2, rfl⟩)
      have hs4 : (w3.alloc (.cells #[] 25)).heap.size = w3.heap.size + 1 := by simp
      clear v1 v3 u1 u3 hsl hsl' HSL HSL' HB3
      go_wp2_with (at_builtin; go_loud (refine wpList_append_all _ rfl _ _ 23 rfl w3.heap.size 25 iz (.agg #[.string ⟨#[]⟩, .slice none 0 0, .bool false, .slice none 0 0, .int .i64 0]) 5 80 Tryz.underlying23 hi hz0 hz1 hz2 rfl (by decide) w3.heap.size 0 0 [] rfl HO4.out a c.len cap vs rfl v2 HZ.out HV3.out v4 ?n1 ?n2 ?n3 ?_))
      case n1 => unfold maxLen; omega
      case n2 => omega
      case n3 => omega
      intro g9 cap9 w9 ho9 hg9
      have hgl : w3.heap.size ≤ g9 := (ho9.lt g9 rfl).1
      have HB9 := Lib.hid (HB4.out.grown hg9 (by omega) (fun k hk => by cases hk; omega))
      have HX9 := Lib.hid (HX4.out.grown hg9 (by omega) (fun k hk => by cases hk; omega))
      have hbx := (Below.refl w3.heap.size (w3.alloc (.cells #[] 25))).grown hg9 (by omega) (fun k hk => by cases hk; omega)
      have HVS9 := Lib.hid (RdC.low (fun x hx => by have : x < w.heap.size := hx.2; omega) hbx HVS.out)
      have HUS9 := Lib.hid (RdC.low (fun x hx => by have : x < w.heap.size := hx.2; omega) hbx HUS.out)
      have HU9 := Lib.hid (show ∀ ad, a' = some ad → ∀ j u, us[j]? = some u → w9.cell? (ad.add j) = some u from fun ad had j u hu => by
        obtain ⟨e1, e2, e3⟩ := HU3.out ad had j u hu
        refine hg9.cell e1 ?_
        intro e
        have := Option.some.inj e
        omega)
      have hs9x : w3.heap.size + 1 ≤ w9.heap.size := by have := hg9.size; omega
      have HO9 := Lib.hid ho9
      clear ho9 hg9 hbx HB4 HX4 HVS HUS HV3 HU3 HO4 hs4
      go_wp2_with (at_builtin; go_loud (refine wpList_append_all _ rfl _ _ 23 rfl w3.heap.size 25 iz (.agg #[.string ⟨#[]⟩, .slice none 0 0, .bool false, .slice none 0 0, .int .i64 0]) 5 80 Tryz.underlying23 hi hz0 hz1 hz2 rfl (by decide) g9 c.len cap9 vs rfl HO9.out a' d.len cap' us rfl u2 HZ'.out HU9.out u4 ?m1 ?m2 ?m3 ?_))
      case m1 => unfold maxLen; omega
      case m2 => omega
      case m3 => omega
      intro g10 cap10 w10 ho10 hg10
      have hgk : w3.heap.size ≤ g10 ∧ g10 < w10.heap.size := ho10.lt g10 rfl
      have HB10 := Lib.hid (HB9.out.grown hg10 (by omega) (fun k hk => by cases hk; omega))
      have hbx := (Below.refl w3.heap.size w9).grown hg10 (by omega) (fun k hk => by cases hk; omega)
      have hv10 := RdC.low (fun x hx => by have : x < w.heap.size := hx.2; omega) hbx HVS9.out
      have hu10 := RdC.low (fun x hx => by have : x < w.heap.size := hx.2; omega) hbx HUS9.out
      have hs10 := HB10.out.size
      have hap := RdC.app (RdC.mono (G := fun y => y < w10.heap.size) (fun x hx => by have : x < w.heap.size := hx.2; omega) hu10) (RdC.mono (G := fun y => y < w10.heap.size) (fun x hx => by have : x < w.heap.size := hx.2; omega) hv10)
      have hlen : c.len + d.len = (c.app d).len := by rw [Cls.len_app]
      rw [hlen] at ho10
      obtain ⟨ae, be, ce, hve, hse⟩ := slC_own ho10 hap (fun x hx => (ho10.lt x hx).2)
      simp only [Value.slice.injEq, true_and] at hve
      obtain ⟨rfl, rfl⟩ := hve
      have HE := Lib.hid hse
      have HPX := Lib.hid (HPA.out _ HB10.out _ _ _ _ hse)
      rw [hlen]
      generalize c.app d = ee at *
      generalize ee.len = n at *
      clear ho10 hg10 hbx hv10 hu10 hap hse HVS9 HUS9 HU9 HO9 HB9 HX9 hlen v2 u2 v4 u4 HPA HE
      go_wp2_with fail
      refine HPX.out.mono ?_
      rintro e w11 ⟨rfl, hb11⟩
      have HB11 := Lib.hid (HB10.out.trans (Below.mono hb11 HB10.out.size))
      clear hb11 HB10 HPX
      obtain ⟨p1, p2⟩ := HPL.out
      clear HPL
      by_cases y1 : z1 = 0
      · subst y1
        by_cases y2 : z2 = 0
        · subst y2
          have hsz := ByteArray.size_append (a := S1) (b := S2)
          rcases p1 rfl rfl with ⟨rfl, rfl⟩ | ⟨rfl, h6⟩
          · go_wp2_with fail
            go_ret
            exact ⟨by simp, HB11.out⟩
          · have k1 : decide ((S1.size : Int) + (S2.size : Int) > 65536) = true := decide_eq_true (by omega)
            clear p1 p2
            go_wp2_with fail
            go_ret
            exact ⟨by simp, HB11.out⟩
        · have h3 := p2 (by simp [y2])
          have q0 : (z2 == 0) = false := by simpa using y2
          have q1 : (z2 != 0) = true := by simpa using y2
          have t0 : (z3 == 0) = false := by simpa using h3
          have t1 : (z3 != 0) = true := by simpa using h3
          clear p1 p2
          go_wp2_with fail
          go_ret
          exact ⟨by simp [t1], HB11.out⟩
      · have h3 := p2 (by simp [y1])
        have q0 : (z1 == 0) = false := by simpa using y1
        have q1 : (z1 != 0) = true := by simpa using y1
        have t0 : (z3 == 0) = false := by simpa using h3
        have t1 : (z3 != 0) = true := by simpa using h3
        clear p1 p2
        go_wp2_with fail
        go_ret
        exact ⟨by simp [t1], HB11.out⟩
end Go.Proofs.YtohalocbghhenaaGreatDoor
