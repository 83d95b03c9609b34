/- Entries as values: a slice of them appended to another one. -/
import Derived.Test.YtiofekoadjgjdaaGreatDoorPrl
set_option linter.unusedSimpArgs false
set_option linter.unusedVariables false
namespace Go.Proofs.YtiofekoadjgjdaaGreatDoor
open Go.RowKit

theorem AtC.vals {w : World} {F : Nat → Prop} : ∀ {c : Cls} {b o : Nat}, AtC w c F b o → ∃ vs, RdC w F vs c ∧ vs.length = c.len * 5 ∧ (∀ j u, vs[j]? = some u → w.cell? ⟨b, o + j, none⟩ = some u) ∧ (∀ u ∈ vs, u.oneCell' = true)
  | .nil, _, _, _ => ⟨[], rfl, rfl, fun j u h => by simp at h, fun u h => by simp at h⟩
  | .cons wd xs bl kids a rest, b, o, h => by
    obtain ⟨⟨aa, ba, oa, la, ca, h1, h2, h3⟩, ⟨ak, bk, ok, ck, k1, k2, k3, k4, k5⟩, h4, h5, h6, h7⟩ := h
    obtain ⟨vs, r1, r2, r3, r4⟩ := AtC.vals h7
    refine ⟨.string wd :: .slice aa la ca :: .bool bl :: .slice ak kids.len ck :: .int .i64 a :: vs, ⟨aa, ba, oa, la, ca, ak, bk, ok, ck, vs, rfl, h2, h3, ⟨rfl, k2, k3, k4, k5⟩, r1⟩, ?_, fun j u hu => ?_, fun u hu => ?_⟩
    · simp only [List.length_cons, r2, Cls.len]; omega
    · match j, hu with
      | 0, hu => simp at hu; rw [← hu]; exact h4
      | 1, hu => simp at hu; rw [← hu]; exact h1
      | 2, hu => simp at hu; rw [← hu]; exact h5
      | 3, hu => simp at hu; rw [← hu]; exact k1
      | 4, hu => simp at hu; rw [← hu]; exact h6
      | j + 5, hu =>
        have := r3 j u (by simpa using hu)
        rw [show o + (j + 5) = o + 5 + j by omega]
        exact this
    · simp only [List.mem_cons] at hu
      rcases hu with rfl | rfl | rfl | rfl | rfl | hu
      · rfl
      · rfl
      · rfl
      · rfl
      · rfl
      · exact r4 u hu
theorem RdC.app {w : World} {F : Nat → Prop} {d : Cls} {us : List Value} (hd : RdC w F us d) : ∀ {c : Cls} {vs : List Value}, RdC w F vs c → RdC w F (vs ++ us) (c.app d)
  | .nil, _, h => by rw [h]; exact hd
  | .cons _ _ _ _ _ rest, _, h => by
    obtain ⟨aa, ba, oa, la, ca, ak, bk, ok, ck, vs', rfl, h1, h2, h3, h'⟩ := h
    exact ⟨aa, ba, oa, la, ca, ak, bk, ok, ck, _, rfl, h1, h2, h3, RdC.app hd h'⟩
theorem RdC.low {w w' : World} {B : Nat} {F : Nat → Prop} (hF : ∀ x, F x → x < B) (hB : Below B w w') {c : Cls} {vs : List Value} (h : RdC w F vs c) : RdC w' F vs c :=
  RdC.agree hB.size (fun x hx k => hB.cell (p := ⟨x, k, none⟩) (hF x hx)) h
/-- append to a slice of the call's own that is not nil, whatever is appended -/
theorem wpList_append_all {P : Program} (w : World) {ops : Array Oper} {rest : List Oper} {o : Oper} {a : Act} {Q : Exit → Act → World → Prop} (hgd : o.guard = none) (s x : Operand) (t : TypeId)
    (ho : o.op = .call { callee := .builtin .append, args := #[s, x], argTypes := #[t, t] })
    (base : Nat) (e : TypeId) (i : TypeInfo) (z : Value) (size bytes : Nat) (ht : P.underlying t = some (.slice e)) (hi : P.info? e = some i) (hz : i.zero = some z)
    (hsize : i.size = size) (hby : i.bytes = bytes) (hzs : z.cells.size = size) (hsz : 0 < size)
    (g n cap : Nat) (xs : List Value) (hs : a.eval s = .slice (some ⟨g, 0, none⟩) n cap) (hown : w.ownsRow base e size (.slice (some ⟨g, 0, none⟩) n cap) n xs)
    (ao : Option Addr) (m c : Nat) (news : List Value) (hx : a.eval x = .slice ao m c) (hl : news.length = m * size) (hnone : ao = none → m = 0 ∧ c = 0) (hnews : ∀ ad, ao = some ad → ∀ j u, news[j]? = some u → w.cell? (ad.add j) = some u) (h1 : ∀ u ∈ news, u.oneCell' = true)
    (h63 : n + m ≤ maxLen) (hbytes : (n + m) * bytes ≤ 140737488355328) (hbase : base ≤ w.heap.size)
    (h : ∀ g' cap' w', w'.ownsRow base e size (.slice (some ⟨g', 0, none⟩) (n + m) cap') (n + m) (xs ++ news) → w.grownBy w' (some g) → wpList P ops Q rest (a.put o.dst (.slice (some ⟨g', 0, none⟩) (n + m) cap')) w') : wpList P ops Q (o :: rest) a w := by
  by_cases hm : 0 < m
  · obtain ⟨ad, rfl⟩ : ∃ ad, ao = some ad := by
      cases ao with
      | none => have := (hnone rfl).1; omega
      | some ad => exact ⟨ad, rfl⟩
    refine wpList_append_blk w hgd s x t ho base e i z size bytes ht hi hz hsize hby hzs hsz _ n xs hs hown ad m c news hx hl (hnews ad rfl) h1 h63 hbytes hbase hm ?_
    intro v' w' ho' hg' _
    rcases ho'.2 with ⟨_, h0⟩ | ⟨g', cap', cur, rfl, _⟩
    · omega
    · exact h g' cap' w' ho' hg'
  · obtain rfl : m = 0 := by omega
    have hcap : n ≤ cap := by
      rcases hown.2 with ⟨h', _⟩ | ⟨g', cap', cur, h', _, _, h2, _⟩
      · simp at h'
      · simp only [Value.slice.injEq, Option.some.injEq, Addr.mk.injEq, and_true, true_and] at h'
        obtain ⟨_, rfl⟩ := h'
        exact h2
    exact wpList_append_fits_any w hgd s x t ho base e i size ht hi hsize g n cap xs hs hown ao 0 c news hx hl hnone hnews h1 hcap (fun w' r1 r2 => h g cap w' r1 r2)
end Go.Proofs.YtiofekoadjgjdaaGreatDoor
/- Contract of layer 10's laws: the tokens of a list of entries. -/
namespace Go.Proofs.YtiofekoadjgjdaaGreatDoor
open Go.RowKit

section
variable {P : Program} {w : World}
theorem run_append_none_c (base : Nat) (t ty e : TypeId) (i : TypeInfo) (size c : Nat) (ht : P.underlying t = some (.slice e)) (hi : P.info? e = some i)
    (v : Value) (n : Nat) (xs : List Value) (hown : w.ownsRow base e size v n xs) :
    (Builtin.append_ #[t, t] ty #[v, .slice none 0 c]).run P w = .ok v w := by
  rcases hown.2 with ⟨rfl, rfl⟩ | ⟨g, cap, cur, rfl, _, _, hnc, _⟩
  · simp [Builtin.append_, run_underlying ht, sizeOf, typeInfo, hi, Builtin.lenOf, Builtin.firstCells]
  · simp [Builtin.append_, run_underlying ht, sizeOf, typeInfo, hi, Builtin.lenOf, Builtin.firstCells, hnc, storeCells]
end
/-- append to a slice of the call's own, whatever is appended, nil included -/
theorem wpList_append_every {P : Program} (w : World) {ops : Array Oper} {rest : List Oper} {o : Oper} {a : Act} {Q : Exit → Act → World → Prop} (hgd : o.guard = none) (s x : Operand) (t : TypeId)
    (ho : o.op = .call { callee := .builtin .append, args := #[s, x], argTypes := #[t, t] })
    (base : Nat) (e : TypeId) (i : TypeInfo) (z : Value) (size bytes : Nat) (ht : P.underlying t = some (.slice e)) (hi : P.info? e = some i) (hz : i.zero = some z)
    (hsize : i.size = size) (hby : i.bytes = bytes) (hzs : z.cells.size = size) (hsz : 0 < size)
    (g n cap : Nat) (xs : List Value) (hs : a.eval s = .slice (some ⟨g, 0, none⟩) n cap) (hown : w.ownsRow base e size (.slice (some ⟨g, 0, none⟩) n cap) n xs)
    (ao : Option Addr) (m c : Nat) (news : List Value) (hx : a.eval x = .slice ao m c) (hl : news.length = m * size) (hnone : ao = none → m = 0) (hnews : ∀ ad, ao = some ad → ∀ j u, news[j]? = some u → w.cell? (ad.add j) = some u) (h1 : ∀ u ∈ news, u.oneCell' = true)
    (h63 : n + m ≤ maxLen) (hbytes : (n + m) * bytes ≤ 140737488355328) (hbase : base ≤ w.heap.size)
    (h : ∀ g' cap' w', w'.ownsRow base e size (.slice (some ⟨g', 0, none⟩) (n + m) cap') (n + m) (xs ++ news) → w.grownBy w' (some g) → wpList P ops Q rest (a.put o.dst (.slice (some ⟨g', 0, none⟩) (n + m) cap')) w') : wpList P ops Q (o :: rest) a w := by
  cases ao with
  | some ad => exact wpList_append_all w hgd s x t ho base e i z size bytes ht hi hz hsize hby hzs hsz g n cap xs hs hown (some ad) m c news hx hl (fun h => by cases h) hnews h1 h63 hbytes hbase h
  | none =>
    obtain rfl := hnone rfl
    have hnn : news = [] := List.eq_nil_of_length_eq_zero (by simpa using hl)
    subst hnn
    refine wpList_plain hgd fun K hK' => ?_
    have hrun := run_append_none_c (P := P) base t o.type e i size c ht hi _ n xs hown
    unfold Oper.wp
    simp [execOp, ho, resolve, invoke, builtin, hs, hx, hrun, Result.andThen]
    exact hK' _ _ (by simpa using h g cap w (by simpa using hown) (World.grownBy.refl _ _))
theorem drop_next : ∀ (c : Cls) (i : Nat) {wd : ByteArray} {xs : List Tk} {bl : Bool} {k : Cls} {a : Int} {r : Cls}, c.drop i = .cons wd xs bl k a r → c.drop (i + 1) = r
  | .nil, 0, _, _, _, _, _, _, h => by simp [Cls.drop] at h
  | .nil, _ + 1, _, _, _, _, _, _, h => by simp [Cls.drop] at h
  | .cons _ _ _ _ _ r, 0, _, _, _, _, _, _, h => by
    simp only [Cls.drop, Cls.cons.injEq] at h
    obtain ⟨_, _, _, _, _, rfl⟩ := h
    cases r <;> rfl
  | .cons _ _ _ _ _ r, i + 1, _, _, _, _, _, _, h => drop_next r i h
theorem drop_all : ∀ (c : Cls), c.drop c.len = .nil
  | .nil => rfl
  | .cons _ _ _ _ _ r => drop_all r
def TokC (n : Nat) : Prop := ∀ (c : Cls), c.count < n → (toksC c).length ≤ 1000000 → ∀ (w : World) (F : Nat → Prop) (a : Option Addr) (b o cap : Nat), SlC w F a b o c.len cap c →
    Calls Tryz.prog 12 #[.slice a c.len cap] w fun e w' => ∃ v, e = .returned v ∧ w'.ownsRow w.heap.size 51 4 v (toksC c).length (flatT (toksC c)) ∧ Below w.heap.size w w'
set_option maxHeartbeats 8000000 in
set_option maxRecDepth 100000 in
theorem tok_any : ∀ n : Nat, n ≤ 4611686018427387904 → TokC n
  | 0, _ => fun _ h => absurd h (Nat.not_lt_zero _)
  | n + 1, hn => fun c hc hlen w F a b o cap hA => by
    have IH := Lib.hid (tok_any n (by omega))
    have HA := Lib.hid hA.here
    have HM := Lib.hid (fun i wd xs bl k a r => @drop_count c i wd xs bl k a r)
    have HN := Lib.hid (fun i wd xs bl k a r => @drop_next c i wd xs bl k a r)
    have HE := Lib.hid (drop_all c)
    have HT0 := Lib.hid (show toksC c = toksC (c.drop 0) by cases c <;> rfl)
    have hlc : c.len ≤ 4611686018427387904 := by have := kidsN_le c 0; omega
    obtain ⟨iz, hi, hz0, hz1, hz2⟩ := info_parts infoT
    obtain ⟨N, hN⟩ : ∃ N, c.count = N := ⟨_, rfl⟩
    obtain ⟨l, hl⟩ : ∃ l, c.len = l := ⟨_, rfl⟩
    rw [hN] at HM hc
    rw [hl] at HA HE hlc ⊢
    have HLN := Lib.hid hl
    clear hA hN hl
    go_enter Tryz.func12, Tryz.ntmps12
    go_wp2_with fail
    go_loopw [3, 4] (fun s3 s4 wr => ∃ (i : Nat) (acc : List Tk) (v : Value), i ≤ l ∧ s3 = v ∧ s4 = .int .i64 (i : Int) ∧ Hid (Below w.heap.size w wr) ∧ Hid (wr.ownsRow w.heap.size 51 4 v acc.length (flatT acc)) ∧ Hid (toksC c = acc ++ toksC (c.drop i))) (fun _ s4 _ => (l - (intOf s4)).toNat)
    case atStart => exact ⟨0, [], _, Nat.zero_le _, rfl, rfl, Lib.hid (Below.refl _ _), Lib.hid (World.ownsRow_nil _ _ _ _), HT0⟩
    case round =>
      obtain ⟨i, acc, v, hi', hv, rfl, HB, HO, HTK⟩ := hrel
      replace hv := hv.symm
      subst hv
      obtain ⟨av0, cv0, rfl⟩ := own_form HO.out
      by_cases hlt : i < l
      · have hlz : (i : Int) < (l : Int) := by omega
        have SA := HA.out
        obtain ⟨rfl, bb, _⟩ := SA.2.2.2.1 (by omega)
        obtain ⟨wd, xs, bl, kd, av, rest, aa, xb, oa, la, ca, ak, bk, ok, ck, hd, e0, e1, e2, e3, e4, SX, _, SK⟩ := AtC.get i (by rw [HLN.out]; exact hlt) SA.2.2.2.2
        have hkc := HM.out _ _ _ _ _ _ _ hd
        have htk := HTK.out
        rw [hd] at htk
        simp only [toksC] at htk
        rw [← HN.out _ _ _ _ _ _ _ hd] at htk
        have hle := congrArg List.length htk
        simp only [List.length_append, List.length_cons] at hle
        have hxl := SX.hl
        subst hxl
        have HSX := Lib.hid SX
        have HSK := Lib.hid SK
        have HXN := Lib.hid (show aa = none → xs.length = 0 from fun h => by
          by_cases h0 : 0 < xs.length
          · rw [SX.ha h0] at h; exact absurd h (by simp)
          · omega)
        have HXA := Lib.hid (show ∀ W, Below w.heap.size w W → ∀ ad, aa = some ad → ∀ j u, (flatT xs)[j]? = some u → W.cell? (ad.add j) = some u from fun W hW ad had j u hu => by
          have h0 : 0 < xs.length := by
            by_cases h0 : 0 < xs.length
            · exact h0
            · have : xs = [] := List.eq_nil_of_length_eq_zero (by omega)
              rw [this] at hu; simp [flatT] at hu
          have := SX.ha h0
          rw [had] at this
          obtain rfl := Option.some.inj this
          exact slt_flat (SX.keep hW) j u hu)
        have HX1 := Lib.hid (flat_one xs)
        have hxf := flatT_len xs
        have hKB : (toksC kd).length ≤ 1000000 ∨ bl = false := by
          cases bl with
          | false => exact Or.inr rfl
          | true =>
            simp only [if_true, List.length_cons, List.length_append] at hle
            exact Or.inl (by omega)
        clear SA SX SK hd HTK
        have HTK := Lib.hid htk
        clear htk
        have c0 := (HB.out.cell (p := ⟨b, _, none⟩) bb).trans e0
        have c1 := (HB.out.cell (p := ⟨b, _, none⟩) bb).trans e1
        have c2 := (HB.out.cell (p := ⟨b, _, none⟩) bb).trans e2
        have c3 := (HB.out.cell (p := ⟨b, _, none⟩) bb).trans e3
        have hs1 := HB.out.size
        have HO1a := Lib.hid (HO.out.alloc (.cells #[.int .i64 1, .string wd, .int .i64 0, .int .i64 0] 51))
        have HB1a := Lib.hid (HB.out.alloc hs1 (.cells #[.int .i64 1, .string wd, .int .i64 0, .int .i64 0] 51))
        have HCE1 := Lib.hid (tk_cells wr ⟨1, wd, 0, 0⟩)
        go_wp2_with (at_builtin; go_loud (refine wpList_append_blk _ rfl _ _ 36 rfl w.heap.size 51 iz (.agg #[.int .i64 0, .string ⟨#[]⟩, .int .i64 0, .int .i64 0]) 4 40 Tryz.underlying36 hi hz0 hz1 hz2 rfl (by decide) _ _ _ rfl HO1a.out ⟨wr.heap.size, 0, none⟩ 1 1 (encT ⟨1, wd, 0, 0⟩) rfl rfl HCE1.out ?n1 ?n2 ?n3 ?n4 (by decide) ?_))
        case n1 => intro u hu; simp only [encT, List.mem_cons, List.not_mem_nil, or_false] at hu; rcases hu with rfl | rfl | rfl | rfl <;> rfl
        case n2 => unfold maxLen; omega
        case n3 => omega
        case n4 => first | omega | (simp; omega)
        intro v1 w1 ho1 hg1 _
        obtain ⟨g1, y1, rfl⟩ : ∃ g y, v1 = .slice (some ⟨g, 0, none⟩) (acc.length + 1) y := by
          rcases ho1.2 with ⟨_, h0⟩ | ⟨g, y, cu, rfl, _⟩
          · omega
          · exact ⟨g, y, rfl⟩
        have HB1 := Lib.hid (HB1a.out.grown hg1 (by simp; omega) (fun k hk => (HO1a.out.lt k hk).1))
        have HO1 := Lib.hid ho1
        clear ho1 hg1 c0 c1 c2 c3 HO1a HB1a HCE1
        have c0 := (HB1.out.cell (p := ⟨b, _, none⟩) bb).trans e0
        have c1 := (HB1.out.cell (p := ⟨b, _, none⟩) bb).trans e1
        have c2 := (HB1.out.cell (p := ⟨b, _, none⟩) bb).trans e2
        have c3 := (HB1.out.cell (p := ⟨b, _, none⟩) bb).trans e3
        have hs2 := HB1.out.size
        go_wp2_with (at_builtin; go_loud (refine wpList_append_every _ rfl _ _ 36 rfl w.heap.size 51 iz (.agg #[.int .i64 0, .string ⟨#[]⟩, .int .i64 0, .int .i64 0]) 4 40 Tryz.underlying36 hi hz0 hz1 hz2 rfl (by decide) _ _ _ _ rfl HO1.out aa xs.length ca (flatT xs) rfl hxf HXN.out (HXA.out _ HB1.out) HX1.out ?n2 ?n3 ?n4 ?_))
        case n2 => unfold maxLen; omega
        case n3 => omega
        case n4 => omega
        intro g2 y2 w2 ho2 hg2
        have HB2 := Lib.hid (HB1.out.grown hg2 (by omega) (fun k hk => (HO1.out.lt k hk).1))
        have HO2 := Lib.hid ho2
        clear ho2 hg2 c0 c1 c2 c3
        cases bl with
        | false =>
          have c0 := (HB2.out.cell (p := ⟨b, _, none⟩) bb).trans e0
          have c1 := (HB2.out.cell (p := ⟨b, _, none⟩) bb).trans e1
          have c2 := (HB2.out.cell (p := ⟨b, _, none⟩) bb).trans e2
          have c3 := (HB2.out.cell (p := ⟨b, _, none⟩) bb).trans e3
          have hs3 := HB2.out.size
          have HO3a := Lib.hid (HO2.out.alloc (.cells #[.int .i64 4, .string ⟨#[59]⟩, .int .i64 0, .int .i64 0] 51))
          have HB3a := Lib.hid (HB2.out.alloc hs3 (.cells #[.int .i64 4, .string ⟨#[59]⟩, .int .i64 0, .int .i64 0] 51))
          have HCE3 := Lib.hid (tk_cells w2 ⟨4, ⟨#[59]⟩, 0, 0⟩)
          go_wp2_with (at_builtin; go_loud (refine wpList_append_blk _ rfl _ _ 36 rfl w.heap.size 51 iz (.agg #[.int .i64 0, .string ⟨#[]⟩, .int .i64 0, .int .i64 0]) 4 40 Tryz.underlying36 hi hz0 hz1 hz2 rfl (by decide) _ _ _ rfl HO3a.out ⟨w2.heap.size, 0, none⟩ 1 1 (encT ⟨4, ⟨#[59]⟩, 0, 0⟩) rfl rfl HCE3.out ?n1 ?n2 ?n3 ?n4 (by decide) ?_))
          case n1 => intro u hu; simp only [encT, List.mem_cons, List.not_mem_nil, or_false] at hu; rcases hu with rfl | rfl | rfl | rfl <;> rfl
          case n2 => unfold maxLen; omega
          case n3 => omega
          case n4 => first | omega | (simp; omega)
          intro v3 w3 ho3 hg3 _
          obtain ⟨g3, y3, rfl⟩ : ∃ g y, v3 = .slice (some ⟨g, 0, none⟩) (acc.length + 1 + xs.length + 1) y := by
            rcases ho3.2 with ⟨_, h0⟩ | ⟨g, y, cu, rfl, _⟩
            · omega
            · exact ⟨g, y, rfl⟩
          have HB3 := Lib.hid (HB3a.out.grown hg3 (by simp; omega) (fun k hk => (HO3a.out.lt k hk).1))
          have HO3 := Lib.hid ho3
          clear ho3 hg3 c0 c1 c2 c3 HO3a HB3a HCE3
          go_wp2_with fail
          go_roundw
          case rel =>
            refine ⟨i + 1, acc ++ (⟨1, wd, 0, 0⟩ :: (xs ++ [⟨4, ⟨#[59]⟩, 0, 0⟩])), _, by omega, rfl, by go_num, HB3, Lib.hid ?_, Lib.hid ?_⟩
            · have := HO3.out
              simpa [flatT, List.flatMap_append, Nat.add_assoc, Nat.add_comm, Nat.add_left_comm] using this
            · rw [HTK.out]; simp [bs]
          case measure => simp [intOf]; omega
        | true =>
          have hkb : (toksC kd).length ≤ 1000000 := by
            rcases hKB with h | h
            · exact h
            · exact absurd h (by simp)
          have hkf := flatT_len (toksC kd)
          have HK1 := Lib.hid (flat_one (toksC kd))
          have HIK := Lib.hid (fun W (h : SlC W (fun x => F x ∧ x < w.heap.size) ak bk ok kd.len ck kd) => IH.out kd (by omega) hkb W _ ak bk ok ck h)
          simp only [if_true, List.length_cons, List.length_append] at hle
          generalize hKK : toksC kd = KT at *
          generalize kd.len = y at *
          have c0 := (HB2.out.cell (p := ⟨b, _, none⟩) bb).trans e0
          have c1 := (HB2.out.cell (p := ⟨b, _, none⟩) bb).trans e1
          have c2 := (HB2.out.cell (p := ⟨b, _, none⟩) bb).trans e2
          have c3 := (HB2.out.cell (p := ⟨b, _, none⟩) bb).trans e3
          have hs3 := HB2.out.size
          have HO3a := Lib.hid (HO2.out.alloc (.cells #[.int .i64 4, .string ⟨#[123]⟩, .int .i64 0, .int .i64 0] 51))
          have HB3a := Lib.hid (HB2.out.alloc hs3 (.cells #[.int .i64 4, .string ⟨#[123]⟩, .int .i64 0, .int .i64 0] 51))
          have HCE3 := Lib.hid (tk_cells w2 ⟨4, ⟨#[123]⟩, 0, 0⟩)
          go_wp2_with (at_builtin; go_loud (refine wpList_append_blk _ rfl _ _ 36 rfl w.heap.size 51 iz (.agg #[.int .i64 0, .string ⟨#[]⟩, .int .i64 0, .int .i64 0]) 4 40 Tryz.underlying36 hi hz0 hz1 hz2 rfl (by decide) _ _ _ rfl HO3a.out ⟨w2.heap.size, 0, none⟩ 1 1 (encT ⟨4, ⟨#[123]⟩, 0, 0⟩) rfl rfl HCE3.out ?n1 ?n2 ?n3 ?n4 (by decide) ?_))
          case n1 => intro u hu; simp only [encT, List.mem_cons, List.not_mem_nil, or_false] at hu; rcases hu with rfl | rfl | rfl | rfl <;> rfl
          case n2 => unfold maxLen; omega
          case n3 => omega
          case n4 => first | omega | (simp; omega)
          intro v3 w3 ho3 hg3 _
          obtain ⟨g3, y3, rfl⟩ : ∃ g y, v3 = .slice (some ⟨g, 0, none⟩) (acc.length + 1 + xs.length + 1) y := by
            rcases ho3.2 with ⟨_, h0⟩ | ⟨g, y, cu, rfl, _⟩
            · omega
            · exact ⟨g, y, rfl⟩
          have HB3 := Lib.hid (HB3a.out.grown hg3 (by simp; omega) (fun k hk => (HO3a.out.lt k hk).1))
          have HO3 := Lib.hid ho3
          clear ho3 hg3 c0 c1 c2 c3 HO3a HB3a HCE3
          have c0 := (HB3.out.cell (p := ⟨b, _, none⟩) bb).trans e0
          have c1 := (HB3.out.cell (p := ⟨b, _, none⟩) bb).trans e1
          have c2 := (HB3.out.cell (p := ⟨b, _, none⟩) bb).trans e2
          have c3 := (HB3.out.cell (p := ⟨b, _, none⟩) bb).trans e3
          go_wp2_with fail
          refine (HIK.out _ (HSK.out.low (fun x hx => hx.2) HB3.out)).mono ?_
          rintro e w4 ⟨vk, rfl, hok, hbk⟩
          obtain ⟨avk, cvk, rfl, hnk⟩ := own_form2 hok
          have hsq := HB3.out.size
          have HB4 := Lib.hid (HB3.out.trans (Below.mono hbk HB3.out.size))
          have HO4 := Lib.hid (own_below HO3.out hbk)
          have HKC := Lib.hid (show ∀ ad, avk = some ad → ∀ j u, (flatT KT)[j]? = some u → w4.cell? (ad.add j) = some u from fun ad had j u hu => by
            subst had
            have := hok.cells (g := ad.block) rfl j u hu
            rcases hok.2 with ⟨h, _⟩ | ⟨g, _, _, h, _⟩
            · simp at h
            · simp only [Value.slice.injEq, Option.some.injEq] at h
              obtain ⟨rfl, _⟩ := h
              exact this)
          clear hok hbk c0 c1 c2 c3
          have c0 := (HB4.out.cell (p := ⟨b, _, none⟩) bb).trans e0
          have c1 := (HB4.out.cell (p := ⟨b, _, none⟩) bb).trans e1
          have c2 := (HB4.out.cell (p := ⟨b, _, none⟩) bb).trans e2
          have c3 := (HB4.out.cell (p := ⟨b, _, none⟩) bb).trans e3
          have hs5 := HB4.out.size
          go_wp2_with (at_builtin; go_loud (refine wpList_append_every _ rfl _ _ 36 rfl w.heap.size 51 iz (.agg #[.int .i64 0, .string ⟨#[]⟩, .int .i64 0, .int .i64 0]) 4 40 Tryz.underlying36 hi hz0 hz1 hz2 rfl (by decide) _ _ _ _ rfl HO4.out avk KT.length cvk (flatT KT) rfl hkf (fun h => (hnk h).1) HKC.out HK1.out ?n2 ?n3 ?n4 ?_))
          case n2 => unfold maxLen; omega
          case n3 => omega
          case n4 => omega
          intro g5 y5 w5 ho5 hg5
          have HB5 := Lib.hid (HB4.out.grown hg5 (by omega) (fun k hk => (HO4.out.lt k hk).1))
          have HO5 := Lib.hid ho5
          clear ho5 hg5 c0 c1 c2 c3
          have c0 := (HB5.out.cell (p := ⟨b, _, none⟩) bb).trans e0
          have c1 := (HB5.out.cell (p := ⟨b, _, none⟩) bb).trans e1
          have c2 := (HB5.out.cell (p := ⟨b, _, none⟩) bb).trans e2
          have c3 := (HB5.out.cell (p := ⟨b, _, none⟩) bb).trans e3
          have hs6 := HB5.out.size
          have HO6a := Lib.hid (HO5.out.alloc (.cells #[.int .i64 4, .string ⟨#[125]⟩, .int .i64 0, .int .i64 0] 51))
          have HB6a := Lib.hid (HB5.out.alloc hs6 (.cells #[.int .i64 4, .string ⟨#[125]⟩, .int .i64 0, .int .i64 0] 51))
          have HCE6 := Lib.hid (tk_cells w5 ⟨4, ⟨#[125]⟩, 0, 0⟩)
          go_wp2_with (at_builtin; go_loud (refine wpList_append_blk _ rfl _ _ 36 rfl w.heap.size 51 iz (.agg #[.int .i64 0, .string ⟨#[]⟩, .int .i64 0, .int .i64 0]) 4 40 Tryz.underlying36 hi hz0 hz1 hz2 rfl (by decide) _ _ _ rfl HO6a.out ⟨w5.heap.size, 0, none⟩ 1 1 (encT ⟨4, ⟨#[125]⟩, 0, 0⟩) rfl rfl HCE6.out ?n1 ?n2 ?n3 ?n4 (by decide) ?_))
          case n1 => intro u hu; simp only [encT, List.mem_cons, List.not_mem_nil, or_false] at hu; rcases hu with rfl | rfl | rfl | rfl <;> rfl
          case n2 => unfold maxLen; omega
          case n3 => omega
          case n4 => first | omega | (simp; omega)
          intro v6 w6 ho6 hg6 _
          obtain ⟨g6, y6, rfl⟩ : ∃ g y, v6 = .slice (some ⟨g, 0, none⟩) (acc.length + 1 + xs.length + 1 + KT.length + 1) y := by
            rcases ho6.2 with ⟨_, h0⟩ | ⟨g, y, cu, rfl, _⟩
            · omega
            · exact ⟨g, y, rfl⟩
          have HB6 := Lib.hid (HB6a.out.grown hg6 (by simp; omega) (fun k hk => (HO6a.out.lt k hk).1))
          have HO6 := Lib.hid ho6
          clear ho6 hg6 c0 c1 c2 c3 HO6a HB6a HCE6
          go_wp2_with fail
          go_roundw
          case rel =>
            refine ⟨i + 1, acc ++ (⟨1, wd, 0, 0⟩ :: (xs ++ ⟨4, ⟨#[123]⟩, 0, 0⟩ :: (KT ++ [⟨4, ⟨#[125]⟩, 0, 0⟩]))), _, by omega, rfl, by go_num, HB6, Lib.hid ?_, Lib.hid ?_⟩
            · have := HO6.out
              simpa [flatT, List.flatMap_append, Nat.add_assoc, Nat.add_comm, Nat.add_left_comm] using this
            · rw [HTK.out]; simp [bs]
          case measure => simp [intOf]; omega
      · have hlz : ¬ (i : Int) < (l : Int) := by omega
        obtain rfl : i = l := by omega
        have HQ := Lib.hid (show toksC c = acc by have := HTK.out; rw [HE.out] at this; simpa [toksC] using this)
        go_wp2_with fail
        go_ret
        exact ⟨_, rfl, by rw [HQ.out]; exact HO.out, HB.out⟩
end Go.Proofs.YtiofekoadjgjdaaGreatDoor
