/- Contracts of the reference of layer 10: formed, Check. -/
import Derived.Test.YtohalocbghhenaaGreatDoorQdp
import Derived.Test.YtohalocbghhenaaGreatDoorRSg
import Derived.Test.YtohalocbghhenaaGreatDoorRefI
import Derived.Test.YtohalocbghhenaaGreatDoorQls
import Derived.Test.YtohalocbghhenaaGreatDoorLok
set_option linter.unusedSimpArgs false
set_option linter.unusedVariables false
namespace Go.Proofs.YtohalocbghhenaaGreatDoor
open Go.RowKit

/-- words and atoms of at most 200 bytes -/
def tiny : Cls → Prop
  | .nil => True
  | .cons wd xs _ k _ r => wd.size ≤ 200 ∧ (∀ t ∈ xs, t.t.size ≤ 200) ∧ xs.length ≤ 1000000 ∧ tiny k ∧ tiny r
theorem tiny_drop : ∀ (c : Cls) (i : Nat) {wd : ByteArray} {xs : List Tk} {bl : Bool} {k : Cls} {a : Int} {r : Cls}, tiny c → c.drop i = .cons wd xs bl k a r → wd.size ≤ 200 ∧ (∀ t ∈ xs, t.t.size ≤ 200) ∧ xs.length ≤ 1000000 ∧ tiny k
  | .nil, 0, _, _, _, _, _, _, _, h => by simp [Cls.drop] at h
  | .nil, _ + 1, _, _, _, _, _, _, _, h => by simp [Cls.drop] at h
  | .cons _ _ _ _ _ _, 0, _, _, _, _, _, _, hs, h => by
    simp only [Cls.drop, Cls.cons.injEq] at h
    obtain ⟨rfl, rfl, rfl, rfl, rfl, rfl⟩ := h
    exact ⟨hs.1, hs.2.1, hs.2.2.1, hs.2.2.2.1⟩
  | .cons _ _ _ _ _ r', i + 1, _, _, _, _, _, _, hs, h => tiny_drop r' i hs.2.2.2.2 h
theorem room_tiny : ∀ (c : Cls) (m : Int), m ≤ 1000000 → 0 ≤ roomS c m → tiny c
  | .nil, m, _, h => trivial
  | .cons w xs b k a r, m, hm, h => by
    rw [roomS] at h
    split at h
    · omega
    · rename_i h0
      split at h
      · omega
      · rename_i h1
        split at h
        · omega
        · rename_i h2
          split at h
          · omega
          · rename_i h3
            have hk0 : 0 ≤ roomS k (m - (1 + (xs.length : Int))) := by
              by_cases hh : 0 ≤ roomS k (m - (1 + (xs.length : Int)))
              · exact hh
              · rw [roomS_neg (by omega)] at h
                omega
            have hle := (roomS_le k (m - (1 + (xs.length : Int))) (by omega)).2
            refine ⟨by omega, ?_, by omega, room_tiny k _ (by omega) hk0, room_tiny r _ (by omega) h⟩
            intro t ht
            have h4 : xs.all (fun t => decide (t.t.size ≤ 200)) = true := by simpa using h3
            have := List.all_eq_true.1 h4 t ht
            simpa using this
/-- an atom as entries may have it -/
def okA (t : Tk) : Bool := validT t && atmB t
theorem formed_drop {c : Cls} {i : Nat} {wd : ByteArray} {xs : List Tk} {bl : Bool} {k : Cls} {a : Int} {r : Cls} (h : c.drop i = .cons wd xs bl k a r) : formed (c.drop i) = (validT ⟨1, wd, 0, 0⟩ && xs.all okA && (bl || k.len == 0) && formed k && formed (c.drop (i + 1))) := by
  rw [drop_next c i h, h]; rfl
def FmC (n : Nat) : Prop := ∀ (c : Cls), c.count < n → tiny c → ∀ (w : World) (F : Nat → Prop) (a : Option Addr) (b o cap : Nat), SlC w F a b o c.len cap c → Tabs w →
    Calls Tryz.prog 30 #[.slice a c.len cap] w fun e w' => e = .returned (.bool (formed c)) ∧ Below w.heap.size w w'
set_option maxHeartbeats 2000000 in
set_option maxRecDepth 100000 in
theorem rformed_any : ∀ n : Nat, n ≤ 4611686018427387904 → FmC n
  | 0, _ => fun _ h => absurd h (Nat.not_lt_zero _)
  | n + 1, hn => fun c hc hty w F a b o cap hA hT => by
    have IH := Lib.hid (rformed_any n (by omega))
    have HA := Lib.hid hA.here
    have HT := Lib.hid hT
    have HM := Lib.hid (fun i wd xs bl k a r => @drop_count c i wd xs bl k a r)
    have HD := Lib.hid (fun i wd xs bl k a r => @formed_drop c i wd xs bl k a r)
    have HY := Lib.hid (fun i wd xs bl k a r => @tiny_drop c i wd xs bl k a r hty)
    have HE := Lib.hid (show formed (c.drop c.len) = true by rw [drop_all]; rfl)
    have HZ := Lib.hid (show formed c = formed (c.drop 0) by rw [drop_zero])
    have hlc : c.len ≤ 4611686018427387904 := by have := kidsN_le c 0; omega
    obtain ⟨N, hN⟩ : ∃ N, c.count = N := ⟨_, rfl⟩
    obtain ⟨l, hl⟩ : ∃ l, c.len = l := ⟨_, rfl⟩
    obtain ⟨D, hD⟩ : ∃ D, formed c = D := ⟨_, rfl⟩
    rw [hN] at HM hc
    rw [hl] at HA HE hlc ⊢
    rw [hD] at HZ ⊢
    have HLN := Lib.hid hl
    clear hA hN hl hD hT hty
    go_enter Tryz.func30, Tryz.ntmps30
    go_wp2_with fail
    go_loopw [3] (fun s3 wr => ∃ (k : Nat), k ≤ l ∧ s3 = .int .i64 (k : Int) ∧ Hid (D = formed (c.drop k)) ∧ Hid (Below w.heap.size w wr)) (fun s3 _ => (l - (intOf s3)).toNat)
    case atStart => exact ⟨0, Nat.zero_le _, rfl, Lib.hid HZ.out, Lib.hid (Below.refl _ _)⟩
    case round =>
      obtain ⟨k, hk, rfl, HR, HB⟩ := hrel
      by_cases hlt : k < l
      · have hl : (k : Int) < (l : Int) := by omega
        have SA := HA.out.low (fun x hx => hx.2) HB.out
        obtain ⟨rfl, ba, _⟩ := SA.2.2.2.1 (by omega)
        obtain ⟨wd, xs, bl, kd, av, rest, aa, ba', oa, la, ca, ak, bk, ok, ck, hd, c0, c1, c2, c3, c4, SX, _, SK⟩ := AtC.get k (by rw [HLN.out]; exact hlt) SA.2.2.2.2
        have hnx := HD.out _ _ _ _ _ _ _ hd
        have hkc := HM.out _ _ _ _ _ _ _ hd
        obtain ⟨t1, t2, t3, t4⟩ := HY.out _ _ _ _ _ _ _ hd
        have hr := HR.out
        rw [hnx] at hr
        have HDR := Lib.hid hr
        have hbs := HB.out.size
        have HC0 := Lib.hid (cl_new wr wd (.slice aa la ca) (.slice ak kd.len ck) bl av 25)
        have HB0 := Lib.hid ((Below.refl wr.heap.size wr).alloc (Nat.le_refl _) (.cells #[.string wd, .slice aa la ca, .bool bl, .slice ak kd.len ck, .int .i64 av] 25))
        have HBW0 := Lib.hid (HB.out.trans (HB0.out.mono hbs))
        have HV := Lib.hid (rvalid_any ⟨1, wd, 0, 0⟩ (by show wd.size ≤ 1000; omega) _ (HT.out.below HBW0.out))
        have HSX := Lib.hid SX
        have HFM := Lib.hid (fun W (hB : Below wr.heap.size wr W) hW => show Calls Tryz.prog 30 #[.slice ak kd.len ck] W (fun e w' => e = .returned (.bool (formed kd)) ∧ Below W.heap.size W w') from
          IH.out kd (by omega) t4 W _ ak bk ok ck (SlC.low (B := wr.heap.size) SK (fun x hx => Nat.lt_of_lt_of_le hx.2 hbs) hB) hW)
        have HAT := Lib.hid (fun (t : Tk) (ht : t ∈ xs) W => ratom_any10 t W)
        have HVT := Lib.hid (fun (t : Tk) (ht : t ∈ xs) W hW => rvalid_any t (by have := t2 t ht; omega) W hW)
        have hxl := SX.hl
        subst hxl
        simp only [Tk.val] at HV
        generalize validT ⟨1, wd, 0, 0⟩ = v1 at *
        obtain ⟨z0, z1, z2, z3, z4, zf, zl⟩ := HC0.out
        have HBAD := Lib.hid (fun (j : Nat) (h : j < xs.length) (hh : okA (xs[j]'h) = false) => show xs.all okA = false by
          rw [← Bool.not_eq_true, List.all_eq_true]
          intro hall
          rw [hall _ (List.getElem_mem h)] at hh
          exact absurd hh (by decide))
        have HALL := Lib.hid (fun (hh : ∀ (j : Nat) (h : j < xs.length), okA (xs[j]'h) = true) => show xs.all okA = true by
          rw [List.all_eq_true]
          intro t ht
          obtain ⟨k, hk, rfl⟩ := List.getElem_of_mem ht
          exact hh k hk)
        generalize xs.all okA = al at *
        clear SA SX SK hd hnx hr HR IH HM HD HY t4 t2
        generalize formed kd = fk at *
        have HLK := Lib.hid (show (kd.len == 0) = decide (kd.len = 0) by by_cases h : kd.len = 0 <;> simp [h])
        generalize kd.len = y at *
        go_wp2_with fail
        generalize (wr.alloc (.cells #[.string wd, .slice aa xs.length ca, .bool bl, .slice ak y ck, .int .i64 av] 25)) = V at *
        refine HV.out.mono ?_
        rintro e w1 ⟨rfl, hb1⟩
        have HBV1 := Lib.hid (HB0.out.trans (Below.mono hb1 HB0.out.size))
        have HBW1 := Lib.hid (HBW0.out.trans (Below.mono hb1 HBW0.out.size))
        have HC1 := Lib.hid (HC0.out.keep hb1)
        clear z0 z1 z2 z3 z4 zf zl hb1 HC0 HB0 HBW0 HB HV HLK
        have hbw1 := HBV1.out.size
        cases v1 with
        | false =>
          go_wp2_with fail
          go_ret
          exact ⟨ret_bool (by rw [HDR.out]; simp), HBW1.out⟩
        | true =>
          obtain ⟨z0, z1, z2, z3, z4, zf, zl⟩ := HC1.out
          have hcase : (bl = false ∧ 0 < y) ∨ (bl = false ∧ y = 0) ∨ bl = true := by
            cases bl <;> simp; omega
          rcases hcase with ⟨rfl, h0⟩ | ⟨rfl, h0⟩ | rfl
          · have j1 : decide ((y : Int) > 0) = true := decide_eq_true (by omega)
            have j2 : decide (0 < y) = true := decide_eq_true h0
            have j3 : (y == 0) = false := by simp; omega
            go_wp2_with fail
            go_ret
            exact ⟨ret_bool (by rw [HDR.out, j3]; simp), HBW1.out⟩
          all_goals
            try have j1 : decide ((y : Int) > 0) = false := decide_eq_false (by omega)
            try have j2 : decide (0 < y) = false := decide_eq_false (by omega)
            have HDX := Lib.hid (show D = ((al && fk) && formed (c.drop (k + 1))) by rw [HDR.out]; simp [*])
            clear HDR
            try subst h0
            go_wp2_with fail
            refine (HFM.out w1 HBV1.out (HT.out.below HBW1.out)).mono ?_
            rintro e w2 ⟨rfl, hb2⟩
            have HBV2 := Lib.hid (HBV1.out.trans (Below.mono hb2 HBV1.out.size))
            have HBW2 := Lib.hid (HBW1.out.trans (Below.mono hb2 HBW1.out.size))
            have HC2 := Lib.hid (HC1.out.keep hb2)
            clear z0 z1 z2 z3 z4 zf zl hb2 HC1 HBV1 HBW1 HFM
            try clear j1 j2
            cases fk with
            | false =>
              go_wp2_with fail
              go_ret
              exact ⟨ret_bool (by rw [HDX.out]; simp), HBW2.out⟩
            | true =>
              have hxm := HSX.out.hcap
              have hxx := HSX.out.hmax
              unfold maxLen at hxx
              go_wp2_with fail
              go_loopw [5] (fun s5 wi => ∃ j : Nat, j ≤ xs.length ∧ s5 = .int .i64 (j : Int) ∧ Hid (∀ (i : Nat) (h : i < xs.length), i < j → okA (xs[i]'h) = true) ∧ Hid (Below wr.heap.size wr wi) ∧ Hid (Below w.heap.size w wi) ∧ Hid (∃ bl' vk', ClAt wi wr.heap.size wd (.slice aa xs.length ca) bl' vk' av)) (fun s5 _ => (xs.length - (intOf s5)).toNat)
              case atStart => exact ⟨0, Nat.zero_le _, rfl, Lib.hid (fun i h hi => absurd hi (Nat.not_lt_zero _)), HBV2, HBW2, Lib.hid ⟨_, _, HC2.out⟩⟩
              case round =>
                obtain ⟨j, hj, rfl, HJ, HBVi, HBWi, HCx⟩ := hrel
                obtain ⟨bl', vk', hcx⟩ := HCx.out
                have HCi := Lib.hid hcx
                clear hcx HCx
                obtain ⟨z0, z1, z2, z3, z4, zf, zl⟩ := HCi.out
                by_cases hlj : j < xs.length
                · have hljz : (j : Int) < (xs.length : Int) := by omega
                  have SXi := HSX.out.keep HBVi.out
                  obtain rfl := SXi.ha (by omega)
                  have bbx := SXi.hb (by omega)
                  have ca0 := SXi.c0 j hlj
                  have ca1 := SXi.c1 j hlj
                  have ca2 := SXi.c2 j hlj
                  have ca3 := SXi.c3 j hlj
                  have HA1 := Lib.hid (HAT.out _ (List.getElem_mem hlj))
                  have HV1 := Lib.hid (HVT.out _ (List.getElem_mem hlj))
                  have HOK := Lib.hid (show okA (xs[j]'hlj) = (validT (xs[j]'hlj) && atmB (xs[j]'hlj)) from rfl)
                  have HBD := Lib.hid (HBAD.out j hlj)
                  have HJ2 := Lib.hid (fun (hx : okA (xs[j]'hlj) = true) => show ∀ (i : Nat) (h : i < xs.length), i < j + 1 → okA (xs[i]'h) = true from fun i h hi => by
                    by_cases hij : i = j
                    · subst hij; exact hx
                    · exact HJ.out i h (by omega))
                  generalize okA (xs[j]'hlj) = ok at *
                  generalize validT (xs[j]'hlj) = vx at *
                  generalize atmB (xs[j]'hlj) = ax at *
                  generalize xs[j]'hlj = x at *
                  obtain ⟨xk, xt, xn, xa⟩ := x
                  simp only [Tk.val] at ca0 ca1 ca2 ca3 HA1 HV1
                  clear SXi HJ HBAD HALL HAT HVT HA
                  go_wp2_with fail
                  refine (HA1.out _).mono ?_
                  rintro e w4 ⟨rfl, hb4⟩
                  cases ax with
                  | false =>
                    have hal : al = false := HBD.out (by rw [HOK.out]; simp)
                    subst hal
                    go_wp2_with fail
                    go_ret
                    exact ⟨ret_bool (by rw [HDX.out]; simp), HBWi.out.trans (Below.mono hb4 HBWi.out.size)⟩
                  | true =>
                    have HB4 := Lib.hid hb4
                    have HBV4 := Lib.hid (HBVi.out.trans (Below.mono hb4 HBVi.out.size))
                    have HBW4 := Lib.hid (HBWi.out.trans (Below.mono hb4 HBWi.out.size))
                    have HC4 := Lib.hid (HCi.out.keep hb4)
                    have ca0' := (hb4.cell (p := ⟨ba', oa + j * 4, none⟩) bbx).trans ca0
                    have ca1' := (hb4.cell (p := ⟨ba', oa + j * 4 + 1, none⟩) bbx).trans ca1
                    have ca2' := (hb4.cell (p := ⟨ba', oa + j * 4 + 2, none⟩) bbx).trans ca2
                    have ca3' := (hb4.cell (p := ⟨ba', oa + j * 4 + 3, none⟩) bbx).trans ca3
                    clear z0 z1 z2 z3 z4 zf zl hb4 HBVi HBWi HCi ca0 ca1 ca2 ca3
                    obtain ⟨z0, z1, z2, z3, z4, zf, zl⟩ := HC4.out
                    go_wp2_with fail
                    refine (HV1.out _ (HT.out.below HBW4.out)).mono ?_
                    rintro e w5 ⟨rfl, hb5⟩
                    have HBV5 := Lib.hid (HBV4.out.trans (Below.mono hb5 HBV4.out.size))
                    have HBW5 := Lib.hid (HBW4.out.trans (Below.mono hb5 HBW4.out.size))
                    have HC5 := Lib.hid (HC4.out.keep hb5)
                    clear z0 z1 z2 z3 z4 zf zl hb5 ca0' ca1' ca2' ca3'
                    cases vx with
                    | false =>
                      have hal : al = false := HBD.out (by rw [HOK.out]; simp)
                      subst hal
                      go_wp2_with fail
                      go_ret
                      exact ⟨ret_bool (by rw [HDX.out]; simp), HBW5.out⟩
                    | true =>
                      have HJ3 := Lib.hid (HJ2.out (by rw [HOK.out]; rfl))
                      clear HJ2 HOK HBD
                      go_wp2_with fail
                      go_roundw
                      case rel => exact ⟨j + 1, by omega, by go_num, HJ3, HBV5, HBW5, Lib.hid ⟨_, _, HC5.out⟩⟩
                      case measure => simp [intOf]; omega
                · have hljz : ¬ (j : Int) < (xs.length : Int) := by omega
                  obtain rfl : j = xs.length := by omega
                  have hal : al = true := HALL.out (fun i h => HJ.out i h h)
                  subst hal
                  have HDY := Lib.hid (show D = formed (c.drop (k + 1)) by rw [HDX.out]; simp)
                  clear HJ HBAD HALL HAT HVT HDX
                  go_wp2_with fail
                  go_roundw
                  case rel => exact ⟨k + 1, by omega, by go_num, HDY, HBWi⟩
                  case measure => simp [intOf]; omega
      · have hl : ¬ (k : Int) < (l : Int) := by omega
        obtain rfl : k = l := by omega
        have he := HR.out
        rw [HE.out] at he
        subst he
        clear HA HD HE IH HM HR HZ HY
        go_wp2_with fail
        go_ret
        exact ⟨rfl, HB.out⟩
end Go.Proofs.YtohalocbghhenaaGreatDoor
/- Contract of the reference of layer 10: Check. -/
namespace Go.Proofs.YtohalocbghhenaaGreatDoor
open Go.RowKit

set_option maxHeartbeats 2000000 in
set_option maxRecDepth 100000 in
theorem rcheck_any (c : Cls) (hc : c.count < 4611686018427387904) (hty : tiny c) (w : World) (F : Nat → Prop) (a : Option Addr) (b o cap : Nat) (hA : SlC w F a b o c.len cap c) (hT : Tabs w) :
    Calls Tryz.prog 13 #[.slice a c.len cap] w fun e w' => e = .returned (.int .i64 (checkS c)) ∧ Below w.heap.size w w' := by
  have HW := Lib.hid (rformed_any (c.count + 1) (by omega) c (Nat.lt_succ_self _) hty w F a b o cap hA hT)
  have HD := Lib.hid (fun W (h : SlC W (fun x => F x ∧ x < w.heap.size) a b o c.len cap c) => rdepth_any (c.count + 1) (by omega) c (Nat.lt_succ_self _) W _ a b o cap h)
  have HA := Lib.hid hA.here
  have hdc := depth_count c
  have HR := Lib.hid (show checkS c = if formed c then (if 8 < c.depth then 6 else 0) else 2 from rfl)
  clear hA hT hty
  generalize checkS c = r at *
  generalize formed c = f at *
  generalize c.depth = d at *
  go_enter Tryz.func13, Tryz.ntmps13
  go_wp2_with fail
  refine HW.out.mono ?_
  rintro e w1 ⟨rfl, hb1⟩
  have HB1 := Lib.hid hb1
  clear hb1
  cases f with
  | false =>
    go_wp2_with fail
    go_ret
    exact ⟨ret_int (by rw [HR.out]; rfl), HB1.out⟩
  | true =>
    go_wp2_with fail
    refine (HD.out _ (HA.out.low (fun x hx => hx.2) HB1.out)).mono ?_
    rintro e w2 ⟨rfl, rfl⟩
    by_cases h8 : 8 < d
    · have e8 : decide ((d : Int) > 8) = true := decide_eq_true (by omega)
      go_wp2_with fail
      go_ret
      exact ⟨ret_int (by rw [HR.out]; simp [h8]), HB1.out⟩
    · have e8 : decide ((d : Int) > 8) = false := decide_eq_false (by omega)
      go_wp2_with fail
      go_ret
      exact ⟨ret_int (by rw [HR.out]; simp [h8]), HB1.out⟩
end Go.Proofs.YtohalocbghhenaaGreatDoor
/- Contracts of the reference of layer 11: Source, Print, Lines. -/
namespace Go.Proofs.YtohalocbghhenaaGreatDoor
open Go.RowKit

def joinL (L : List (List UInt8)) : List UInt8 := L.flatMap fun l => l ++ [10]
theorem joinL_take {L : List (List UInt8)} {k : Nat} (h : k < L.length) : bs (joinL (L.take k)) ++ (bs (L[k]'h) ++ ⟨#[10]⟩) = bs (joinL (L.take (k + 1))) := by
  apply bs_inj
  have e : joinL (L.take (k + 1)) = joinL (L.take k) ++ (L[k]'h ++ [10]) := by
    unfold joinL
    rw [List.take_succ_eq_append_getElem h, List.flatMap_append]
    simp
  rw [bs_data, e]
  simp [bs_data]
theorem joinL_len : ∀ (L : List (List UInt8)), (∀ l ∈ L, l.length ≤ 60000000) → (joinL L).length ≤ L.length * 60000001
  | [], _ => by simp [joinL]
  | l :: r, h => by
    have ih := joinL_len r (fun x hx => h x (by simp [hx]))
    have := h l (by simp)
    simp only [joinL, List.flatMap_cons, List.length_append, List.length_cons, List.length_nil] at ih ⊢
    omega
theorem joinL_lin (c : Cls) : joinL (refL c) = linS c 0 := by
  rw [← refL_lin c 0]
  unfold joinL indS
  rfl
theorem strs_cell {w : World} {base n cv : Nat} {av : Option Addr} {L : List (List UInt8)} (h : w.ownsRow base 9 1 (.slice av n cv) L.length (L.map strV)) {k : Nat} (hk : k < L.length) : ∃ g, av = some ⟨g, 0, none⟩ ∧ base ≤ g ∧ g < w.heap.size ∧ w.cell? ⟨g, k, none⟩ = some (.string (bs (L[k]'hk))) := by
  rcases h.2 with ⟨_, h0⟩ | ⟨gk, yk, cu, hv, _⟩
  · omega
  · simp only [Value.slice.injEq] at hv
    obtain ⟨rfl, _⟩ := hv
    refine ⟨gk, rfl, (h.lt gk rfl).1, (h.lt gk rfl).2, ?_⟩
    have := h.cells (g := gk) rfl k (strV (L[k]'hk)) (by simp [hk])
    rw [Addr.add_lit] at this
    simpa [strV] using this
set_option maxHeartbeats 4000000 in
set_option maxRecDepth 100000 in
theorem rsource_any (c : Cls) (hcm : c.count ≤ 1000000) (hf : formed c = true) (hlk : lok c) (w : World) (F : Nat → Prop) (a : Option Addr) (b o cap : Nat) (hA : SlC w F a b o c.len cap c) (hT : Tabs w) :
    Calls Tryz.prog 39 #[.slice a c.len cap] w fun e w' => e = .returned (.string (bs (linS c 0))) ∧ Below w.heap.size w w' := by
  have HL := Lib.hid (rlines_any (c.count + 1) c (Nat.lt_succ_self _) hcm hf hlk w F a b o cap hA hT)
  have HB := Lib.hid (fun l (h : l ∈ refL c) => show l.length ≤ 60000000 by have := refL_bound c hlk l h; omega)
  have hle := refL_le c
  rw [← joinL_lin]
  generalize refL c = L at *
  generalize c.len = n at *
  clear hA hT
  have HG := Lib.hid (fun k (h : k < L.length) => joinL_take h)
  have HS := Lib.hid (fun k => show (bs (joinL (L.take k))).size ≤ 200000000000000 by
    rw [bs_size]
    have := joinL_len (L.take k) (fun l hl => HB.out l (List.mem_of_mem_take hl))
    have h2 : (L.take k).length ≤ 2000000 := by rw [List.length_take]; omega
    omega)
  have HX := Lib.hid (fun k (h : k < L.length) => show (bs (L[k]'h)).size ≤ 60000000 by rw [bs_size]; exact HB.out _ (List.getElem_mem h))
  have H0 := Lib.hid (show (⟨#[]⟩ : ByteArray) = bs (joinL (L.take 0)) from rfl)
  have HE := Lib.hid (show bs (joinL (L.take L.length)) = bs (joinL L) by rw [List.take_length])
  generalize bs (joinL L) = R at *
  obtain ⟨G, hG⟩ : ∃ G : Nat → ByteArray, G = fun k => bs (joinL (L.take k)) := ⟨_, rfl⟩
  have HG2 := Lib.hid (show ∀ k (h : k < L.length), G k ++ (bs (L[k]'h) ++ ⟨#[10]⟩) = G (k + 1) by rw [hG]; exact HG.out)
  have HS2 := Lib.hid (show ∀ k, (G k).size ≤ 200000000000000 by rw [hG]; exact HS.out)
  have H02 := Lib.hid (show (⟨#[]⟩ : ByteArray) = G 0 by rw [hG]; exact H0.out)
  have HE2 := Lib.hid (show G L.length = R by rw [hG]; exact HE.out)
  clear HG HS H0 HE hG HB
  have hLl : L.length ≤ 2000000 := by omega
  clear hle hcm
  go_enter Tryz.func39, Tryz.ntmps39
  go_wp2_with fail
  refine HL.out.mono ?_
  rintro e w1 ⟨v, rfl, ho, hb⟩
  obtain ⟨av, cv, rfl, hn⟩ := own_form2 ho
  have HO := Lib.hid ho
  have HB1 := Lib.hid hb
  clear ho hb HL hn
  go_wp2_with fail
  go_loopw [3, 5] (fun s3 s5 wr => ∃ k : Nat, k ≤ L.length ∧ s3 = .string (G k) ∧ s5 = .int .i64 (k : Int) ∧ wr = w1) (fun _ s5 _ => (L.length - (intOf s5)).toNat)
  case atStart => exact ⟨0, Nat.zero_le _, congrArg Value.string H02.out, rfl, rfl⟩
  case round =>
    obtain ⟨k, hk, rfl, rfl, rfl⟩ := hrel
    by_cases hlt : k < L.length
    · have hl : (k : Int) < (L.length : Int) := by omega
      obtain ⟨g, rfl, hg1, hg2, hg3⟩ := strs_cell HO.out hlt
      have hx1 := HX.out k hlt
      have hx2 := HS2.out k
      have HGK := Lib.hid (HG2.out k hlt)
      generalize bs (L[k]'hlt) = X at *
      generalize hGk : G k = G0 at *
      have hx3 : (X ++ (⟨#[10]⟩ : ByteArray)).size ≤ 70000000 := by rw [ByteArray.size_append]; have e1 : (⟨#[10]⟩ : ByteArray).size = 1 := rfl; omega
      clear HX HG2 HE2 H02
      go_wp2_with fail
      go_roundw
      case rel => exact ⟨k + 1, by omega, by rw [← HGK.out], by go_num, trivial⟩
      case measure => simp [intOf]; omega
    · have hl : ¬ (k : Int) < (L.length : Int) := by omega
      obtain rfl : k = L.length := by omega
      have he := HE2.out
      clear HX HG2 HE2 H02
      go_wp2_with fail
      go_ret
      exact ⟨by first | rfl | rw [he], HB1.out⟩
set_option maxHeartbeats 4000000 in
set_option maxRecDepth 100000 in
theorem rlns_any (c : Cls) (hcm : c.count ≤ 1000000) (hf : formed c = true) (hlk : lok c) (w : World) (F : Nat → Prop) (a : Option Addr) (b o cap : Nat) (hA : SlC w F a b o c.len cap c) (hT : Tabs w) :
    Calls Tryz.prog 18 #[.slice a c.len cap] w fun e w' => e = .returned (.int .i64 ((refL c).length : Int)) ∧ Below w.heap.size w w' := by
  have HL := Lib.hid (rlines_any (c.count + 1) c (Nat.lt_succ_self _) hcm hf hlk w F a b o cap hA hT)
  generalize refL c = L at *
  generalize c.len = n at *
  clear hA hT
  go_enter Tryz.func18, Tryz.ntmps18
  go_wp2_with fail
  refine HL.out.mono ?_
  rintro e w1 ⟨v, rfl, ho, hb⟩
  obtain ⟨av, cv, rfl, hn⟩ := own_form2 ho
  go_wp2_with fail
  go_ret
  exact ⟨rfl, hb⟩
set_option maxHeartbeats 4000000 in
set_option maxRecDepth 100000 in
theorem rprint_any (c : Cls) (hcm : c.count ≤ 1000000) (hty : tiny c) (hlk : checkS c = 0 → lok c) (w : World) (F : Nat → Prop) (a : Option Addr) (b o cap : Nat) (hA : SlC w F a b o c.len cap c) (hT : Tabs w) :
    Calls Tryz.prog 17 #[.slice a c.len cap] w fun e w' => e = .returned (.tuple #[.string (bs (prtS c).1), .int .i64 (prtS c).2]) ∧ Below w.heap.size w w' := by
  have HC := Lib.hid (rcheck_any c (by omega) hty w F a b o cap hA hT)
  by_cases hck : checkS c = 0
  · have HS := Lib.hid (fun W (hB : Below w.heap.size w W) => rsource_any c hcm (check_ok hck).1 (hlk hck) W _ a b o cap (SlC.low (w' := W) hA.here (fun x hx => hx.2) hB) (hT.below hB))
    rw [hck] at HC
    unfold prtS
    rw [if_pos hck]
    have hsz := bs_size (linS c 0)
    generalize hln : (linS c 0).length = z at *
    generalize hbs : bs (linS c 0) = S at *
    generalize c.len = n at *
    clear hA hT hlk
    by_cases hl : z ≤ 65536
    · rw [if_pos hl]
      have k1 : decide ((S.size : Int) > 65536) = false := decide_eq_false (by omega)
      simp only [hbs]
      go_enter Tryz.func17, Tryz.ntmps17
      go_wp2_with fail
      refine HC.out.mono ?_
      rintro e w1 ⟨rfl, hb1⟩
      go_wp2_with fail
      refine (HS.out _ hb1).mono ?_
      rintro e w2 ⟨rfl, hb2⟩
      go_wp2_with fail
      go_ret2
      exact ⟨rfl, hb1.trans (hb2.mono hb1.size)⟩
    · rw [if_neg hl]
      have k1 : decide ((S.size : Int) > 65536) = true := decide_eq_true (by omega)
      go_enter Tryz.func17, Tryz.ntmps17
      go_wp2_with fail
      refine HC.out.mono ?_
      rintro e w1 ⟨rfl, hb1⟩
      go_wp2_with fail
      refine (HS.out _ hb1).mono ?_
      rintro e w2 ⟨rfl, hb2⟩
      go_wp2_with fail
      go_ret2
      exact ⟨rfl, hb1.trans (hb2.mono hb1.size)⟩
  · unfold prtS
    rw [if_neg hck]
    generalize checkS c = z at *
    generalize c.len = n at *
    have hz1 : (z != 0) = true := by simpa using hck
    have hz0 : (z == 0) = false := by simpa using hck
    clear hA hT
    go_enter Tryz.func17, Tryz.ntmps17
    go_wp2_with fail
    refine HC.out.mono ?_
    rintro e w1 ⟨rfl, hb1⟩
    go_wp2_with fail
    go_ret2
    exact ⟨rfl, hb1⟩
end Go.Proofs.YtohalocbghhenaaGreatDoor
