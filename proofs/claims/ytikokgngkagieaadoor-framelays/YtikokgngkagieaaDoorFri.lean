/- The law's apart; of no statement by itself. -/
import Derived.Test.YtikokgngkagieaaDoorFrd
import Derived.Test.YtikokgngkagieaaDoorFrg
import Derived.Test.YtikokgngkagieaaDoorFrh
import Derived.Test.YtikokgngkagieaaDoorBla
namespace Go.Proofs.YtikokgngkagieaaDoor
open Go.RowKit
set_option linter.unusedVariables false
set_option linter.unusedSimpArgs false
theorem wpList_append_keep {P : Program} {w : World} {ops : Array Oper} {rest : List Oper} {o : Oper} {a : Act} {Q : Exit → Act → World → Prop} (hgd : o.guard = none) (s x : Operand) (t : TypeId)
    (ho : o.op = .call { callee := .builtin .append, args := #[s, x], argTypes := #[t, t] })
    (B : Nat) (e : TypeId) (i : TypeInfo) (z : Value) (bytes : Nat) (ht : P.underlying t = some (.slice e)) (hi : P.info? e = some i) (hz : i.zero = some z)
    (hsize : i.size = 1) (hby : i.bytes = bytes) (hzs : z.cells.size = 1)
    (v : Value) (n : Nat) (xs : List Value) (hs : a.eval s = v) (ad : Option Addr) (m c : Nat) (hx : a.eval x = .slice ad m c) (news : List Value)
    (hown : w.ownsRow B e 1 v n xs) (hsrc : From w ad m c 1 news) (h1 : ∀ u ∈ news, u.oneCell' = true)
    (h63 : n + m ≤ maxLen) (hbytes : (n + m) * bytes ≤ 140737488355328) (hB : B ≤ w.heap.size)
    (h : ∀ v' w', w'.ownsRow B e 1 v' (n + m) (xs ++ news) → w.grownBy w' v.ownBlock → Moved w v v' → w'.ownsRow B e 1 v n xs → wpList P ops Q rest (a.put o.dst v') w') : wpList P ops Q (o :: rest) a w := by
  refine wpList_plain hgd fun K hK => ?_
  obtain ⟨v', w', hr, h2, h3, h4, h5⟩ := run_append_keep (P := P) w B t o.type e i z bytes ht hi hz hsize hby hzs v n xs hown ad m c news hsrc h1 h63 hbytes hB
  unfold Oper.wp
  simp [execOp, ho, resolve, invoke, builtin, hs, hx, hr, Result.andThen]
  exact hK _ _ (h v' w' h2 h3 h4 h5)
theorem chg_up {S T : Nat → Prop} {w w' : World} (h : Chg S w w') (hS : ∀ g, S g → T g) : Chg T w w' := (Chg.refl T w).trans h (fun z e => .inl (hS z e))
theorem fill_set {P : List Nat} {c i L : Nat} (hL : P.length = L) (hi : i < L) : (List.replicate i c ++ P.drop i).set i c = List.replicate (i + 1) c ++ P.drop (i + 1) := by
  rw [List.drop_eq_getElem_cons (by omega), List.set_append_right _ _ (by simp), List.length_replicate, Nat.sub_self, List.set_cons_zero, List.replicate_succ', List.append_assoc]
  rfl
theorem fill_len {P : List Nat} {c i L : Nat} (hL : P.length = L) (hi : i ≤ L) : (List.replicate i c ++ P.drop i).length = L := by
  rw [List.length_append, List.length_replicate, List.length_drop]; omega
set_option maxHeartbeats 32000000 in
set_option maxRecDepth 100000 in
theorem apart24_any (B : Nat) (xa ya : Option Addr) (L M xc yc : Nat) (P R : List Nat) (w0 : World) (hx : ByO w0 B (.slice xa L xc) P) (hy : ByO w0 B (.slice ya M yc) R) (hsep : ∀ g, (Value.slice xa L xc).ownBlock = some g → (Value.slice ya M yc).ownBlock ≠ some g) (hL : L ≤ 12) (hM : M ≤ 12) (hB : B ≤ w0.heap.size) : Calls Tryd.prog 17 #[.slice xa L xc, .slice ya M yc] w0 fun e w' => e = .returned (.bool true) ∧ ByO w' B (.slice xa L xc) (List.replicate L 1) ∧ ByO w' B (.slice ya M yc) (List.replicate M 2) ∧ Chg (fun k => (Value.slice xa L xc).ownBlock = some k ∨ (Value.slice ya M yc).ownBlock = some k) w0 w' := by
  obtain ⟨iu, hiu, hu0, hu1, hu2⟩ := info_parts info5u
  have HX0 : Hid (ByO w0 B (.slice xa L xc) P) := hx
  have HY0 : Hid (ByO w0 B (.slice ya M yc) R) := hy
  have HSP : Hid (∀ g, (Value.slice xa L xc).ownBlock = some g → (Value.slice ya M yc).ownBlock ≠ some g) := hsep
  have HPL : Hid (P.length = L) := (byO_row hx).2.1
  have HRL : Hid (R.length = M) := (byO_row hy).2.1
  have HSZ0 : Hid (B ≤ w0.heap.size) := hB
  have hLi : (L : Int) ≤ 12 := by omega
  have hMi : (M : Int) ≤ 12 := by omega
  clear hx hy hsep hB
  go_enter Tryd.func17, Tryd.ntmps17
  go_wp2_with fail
  go_loopw [5] (fun t wr => ∃ i : Nat, i ≤ L ∧ t = .int .i64 (i : Int) ∧ Hid (ByO wr B (.slice xa L xc) (List.replicate i 1 ++ P.drop i) ∧ Chg (fun k => (Value.slice xa L xc).ownBlock = some k) w0 wr)) (fun t _ => L - (intOf t).toNat)
  case atStart => exact ⟨0, Nat.zero_le _, rfl, by simpa using HX0.out, Chg.refl _ _⟩
  case round =>
    obtain ⟨i, hi, rfl, HJ⟩ := hrel
    have hii : (i : Int) ≤ 1024 := by omega
    by_cases hlt : i < L
    · have d1 : decide ((i : Int) < (L : Int)) = true := decide_eq_true (by omega)
      have d1' : decide (i < L) = true := decide_eq_true hlt
      have hby := HJ.out.1
      unfold ByO at hby
      rw [fill_len HPL.out hi] at hby
      obtain ⟨g, cap, e9, _, _, _, fr0, fr, hcells⟩ := own_some hby (by omega)
      simp only [Value.slice.injEq, true_and] at e9
      obtain ⟨hba, hcap⟩ := e9
      obtain ⟨u0, hu0⟩ : ∃ u0, (ins .u8 (nums (List.replicate i 1 ++ P.drop i)))[i]? = some u0 := ⟨_, List.getElem?_eq_getElem (by have h9 := hby.1; omega)⟩
      have kc := hcells i _ hu0
      have kf := fr i
      have hset := byO_set (q := i) (by rw [← hba]; exact HJ.out.1) hlt 1
      rw [fill_set HPL.out hlt, ← hba] at hset
      have HBE : Hid (xa = some ⟨g, 0, none⟩) := hba
      have HJ2 : Hid (ByO (wr.setCell ⟨g, i, none⟩ (.int .u8 1)) B (.slice xa L xc) (List.replicate (i + 1) 1 ++ P.drop (i + 1)) ∧ Chg (fun k => (Value.slice xa L xc).ownBlock = some k) w0 (wr.setCell ⟨g, i, none⟩ (.int .u8 1))) := ⟨hset, HJ.out.2.setCell (p := ⟨g, i, none⟩) (.inl (by rw [hba]; rfl)) _⟩
      clear hby hu0 fr0 fr hcells hset hcap
      rw [hba]
      clear hba
      go_wp2
      go_roundw
      case rel => exact ⟨i + 1, by omega, by go_num, by rw [← HBE.out]; exact HJ2.out⟩
      case measure => simp [intOf]; omega
    · have d1 : decide ((i : Int) < (L : Int)) = false := decide_eq_false (by omega)
      have d1' : decide (i < L) = false := decide_eq_false hlt
      have hones : List.replicate i 1 ++ P.drop i = List.replicate L 1 := by
        have hiL : i = L := by omega
        rw [hiL, ← HPL.out, List.drop_length, List.append_nil]
      have hby := HJ.out.1
      rw [hones] at hby
      have HX1 : Hid (ByO wr B (.slice xa L xc) (List.replicate L 1)) := hby
      have HC1 : Hid (Chg (fun k => (Value.slice xa L xc).ownBlock = some k) w0 wr) := HJ.out.2
      have HY1 : Hid (ByO wr B (.slice ya M yc) R) := ownsRow_keep HY0.out HJ.out.2 (fun g e f => HSP.out g f e)
      clear hones hby HJ hi hlt HX0 HY0 HPL
      generalize wr = w1 at *
      go_wp2_with fail
      clear d1 d1' hii
      go_loopw [6] (fun t wr => ∃ i : Nat, i ≤ M ∧ t = .int .i64 (i : Int) ∧ Hid (ByO wr B (.slice ya M yc) (List.replicate i 2 ++ R.drop i) ∧ Chg (fun k => (Value.slice ya M yc).ownBlock = some k) w1 wr)) (fun t _ => M - (intOf t).toNat)
      case atStart => exact ⟨0, Nat.zero_le _, rfl, by simpa using HY1.out, Chg.refl _ _⟩
      case round =>
        obtain ⟨i, hi, rfl, HJ⟩ := hrel
        have hii : (i : Int) ≤ 1024 := by omega
        by_cases hlt : i < M
        · have d1 : decide ((i : Int) < (M : Int)) = true := decide_eq_true (by omega)
          have d1' : decide (i < M) = true := decide_eq_true hlt
          have hby := HJ.out.1
          unfold ByO at hby
          rw [fill_len HRL.out hi] at hby
          obtain ⟨g, cap, e9, _, _, _, fr0, fr, hcells⟩ := own_some hby (by omega)
          simp only [Value.slice.injEq, true_and] at e9
          obtain ⟨hba, hcap⟩ := e9
          obtain ⟨u0, hu0⟩ : ∃ u0, (ins .u8 (nums (List.replicate i 2 ++ R.drop i)))[i]? = some u0 := ⟨_, List.getElem?_eq_getElem (by have h9 := hby.1; omega)⟩
          have kc := hcells i _ hu0
          have kf := fr i
          have hset := byO_set (q := i) (by rw [← hba]; exact HJ.out.1) hlt 2
          rw [fill_set HRL.out hlt, ← hba] at hset
          have HBE : Hid (ya = some ⟨g, 0, none⟩) := hba
          have HJ2 : Hid (ByO (wr.setCell ⟨g, i, none⟩ (.int .u8 2)) B (.slice ya M yc) (List.replicate (i + 1) 2 ++ R.drop (i + 1)) ∧ Chg (fun k => (Value.slice ya M yc).ownBlock = some k) w1 (wr.setCell ⟨g, i, none⟩ (.int .u8 2))) := ⟨hset, HJ.out.2.setCell (p := ⟨g, i, none⟩) (.inl (by rw [hba]; rfl)) _⟩
          clear hby hu0 fr0 fr hcells hset hcap
          rw [hba]
          clear hba
          go_wp2
          go_roundw
          case rel => exact ⟨i + 1, by omega, by go_num, by rw [← HBE.out]; exact HJ2.out⟩
          case measure => simp [intOf]; omega
        · have d1 : decide ((i : Int) < (M : Int)) = false := decide_eq_false (by omega)
          have d1' : decide (i < M) = false := decide_eq_false hlt
          have hones : List.replicate i 2 ++ R.drop i = List.replicate M 2 := by
            have hiL : i = M := by omega
            rw [hiL, ← HRL.out, List.drop_length, List.append_nil]
          have hby := HJ.out.1
          rw [hones] at hby
          have HY2 : Hid (ByO wr B (.slice ya M yc) (List.replicate M 2)) := hby
          have HC2 : Hid (Chg (fun k => (Value.slice xa L xc).ownBlock = some k ∨ (Value.slice ya M yc).ownBlock = some k) w0 wr) := (chg_up (HC1.out) (fun _ e => .inl e)).trans (chg_up (HJ.out.2) (fun _ e => .inr e)) (fun _ e => .inl e)
          have HX2 : Hid (ByO wr B (.slice xa L xc) (List.replicate L 1)) := ownsRow_keep HX1.out HJ.out.2 (fun g e f => HSP.out g e f)
          have HSZ7 : Hid (B ≤ wr.heap.size) := Nat.le_trans HSZ0.out HC2.out.size
          clear hones hby HJ hi hlt HX1 HY1 HC1 HRL
          generalize wr = w2 at *
          have cZ := chg_one w2 (.cells #[.int .u8 3] 5)
          have hown9 : (w2.alloc (.cells #[.int .u8 3] 5)).ownsRow B 5 1 (.slice xa L xc) L ((nums (List.replicate L 1)).map (Value.int .u8)) := by
            have h1 := ByO.new HX2.out cZ
            unfold ByO at h1
            rw [List.length_replicate] at h1
            exact h1
          have hsrc9 := (row8_lit24 w2 [3] 1 5 rfl #[.int .u8 3] rfl).src
          have HCZ7 : Hid (Chg (fun _ => False) w2 (w2.alloc (.cells #[.int .u8 3] 5))) := cZ
          have hB9 : B ≤ (w2.alloc (.cells #[.int .u8 3] 5)).heap.size := Nat.le_trans HSZ7.out cZ.size
          clear cZ
          go_wp2_with (at_builtin; refine wpList_append_keep rfl _ _ 22 rfl B 5 iu (.int .u8 0) 1 Tryd.underlying22 hiu hu0 hu1 hu2 rfl (.slice xa L xc) L ((nums (List.replicate L 1)).map (Value.int .u8)) rfl (some ⟨w2.heap.size, 0, none⟩) 1 1 rfl ((nums [3]).map (Value.int .u8)) ?h1 ?h2 ?h3 ?m1 ?m2 ?m3 ?_)
          case h1 => exact hown9
          case h2 => exact hsrc9
          case h3 => exact oneB [3]
          case m1 => unfold maxLen; omega
          case m2 => omega
          case m3 => exact hB9
          intro v7 w7 ho7 hg7 hm7 hk7
          have HG7 : Hid (Chg (fun k => (Value.slice xa L xc).ownBlock = some k) w2 w7) := ((chg_up (HCZ7.out) (fun _ f => f.elim)).trans ((Chg.refl _ _).grown hg7 (fun g e => .inl e)) (fun _ e => .inl e))
          have HV7 : Hid (ByO w7 B v7 (List.replicate L 1 ++ [3])) := byO_app ho7
          have HK7 : Hid (ByO w7 B (.slice xa L xc) (List.replicate L 1)) := by
            show World.ownsRow _ _ _ _ _ _ _
            rw [List.length_replicate]
            exact hk7
          have HM7 : Hid (∀ g, v7.ownBlock = some g → (Value.slice xa L xc).ownBlock = some g ∨ w2.heap.size ≤ g) := fun g e => by
            rcases hm7 g e with h | h
            · exact .inl h
            · exact .inr (Nat.le_trans HCZ7.out.size h)
          obtain ⟨va7, vc7, hv7⟩ := form1 ho7
          subst hv7
          clear ho7 hg7 hm7 hk7 hown9 hsrc9 hB9
          have HY7 : Hid (ByO w7 B (.slice ya M yc) (List.replicate M 2)) := ownsRow_keep HY2.out HG7.out (fun g e f => HSP.out g f e)
          have HYV : Hid (∀ g, (Value.slice ya M yc).ownBlock = some g → (Value.slice va7 (L + 1) vc7).ownBlock ≠ some g) := fun g e f => by
            rcases HM7.out g f with h | h
            · exact HSP.out g h e
            · have h2 := (HY2.out.lt g e).2
              omega
          have HC7 : Hid (Chg (fun k => (Value.slice xa L xc).ownBlock = some k ∨ (Value.slice ya M yc).ownBlock = some k) w0 w7) := HC2.out.trans (chg_up (HG7.out) (fun _ e => .inl e)) (fun _ e => .inl e)
          have HSZ8 : Hid (B ≤ w7.heap.size) := Nat.le_trans HSZ7.out HG7.out.size
          clear HX2 HY2 HC2
          clear d1 d1' hii
          have cZ := chg_one w7 (.cells #[.int .u8 4] 5)
          have hown9 : (w7.alloc (.cells #[.int .u8 4] 5)).ownsRow B 5 1 (.slice ya M yc) M ((nums (List.replicate M 2)).map (Value.int .u8)) := by
            have h1 := ByO.new HY7.out cZ
            unfold ByO at h1
            rw [List.length_replicate] at h1
            exact h1
          have hsrc9 := (row8_lit24 w7 [4] 1 5 rfl #[.int .u8 4] rfl).src
          have HCZ8 : Hid (Chg (fun _ => False) w7 (w7.alloc (.cells #[.int .u8 4] 5))) := cZ
          have hB9 : B ≤ (w7.alloc (.cells #[.int .u8 4] 5)).heap.size := Nat.le_trans HSZ8.out cZ.size
          clear cZ
          go_wp2_with (at_builtin; refine wpList_append_keep rfl _ _ 22 rfl B 5 iu (.int .u8 0) 1 Tryd.underlying22 hiu hu0 hu1 hu2 rfl (.slice ya M yc) M ((nums (List.replicate M 2)).map (Value.int .u8)) rfl (some ⟨w7.heap.size, 0, none⟩) 1 1 rfl ((nums [4]).map (Value.int .u8)) ?h1 ?h2 ?h3 ?m1 ?m2 ?m3 ?_)
          case h1 => exact hown9
          case h2 => exact hsrc9
          case h3 => exact oneB [4]
          case m1 => unfold maxLen; omega
          case m2 => omega
          case m3 => exact hB9
          intro v8 w8 ho8 hg8 hm8 hk8
          have HG8 : Hid (Chg (fun k => (Value.slice ya M yc).ownBlock = some k) w7 w8) := ((chg_up (HCZ8.out) (fun _ f => f.elim)).trans ((Chg.refl _ _).grown hg8 (fun g e => .inl e)) (fun _ e => .inl e))
          have HV8 : Hid (ByO w8 B v8 (List.replicate M 2 ++ [4])) := byO_app ho8
          have HK8 : Hid (ByO w8 B (.slice ya M yc) (List.replicate M 2)) := by
            show World.ownsRow _ _ _ _ _ _ _
            rw [List.length_replicate]
            exact hk8
          have HM8 : Hid (∀ g, v8.ownBlock = some g → (Value.slice ya M yc).ownBlock = some g ∨ w7.heap.size ≤ g) := fun g e => by
            rcases hm8 g e with h | h
            · exact .inl h
            · exact .inr (Nat.le_trans HCZ8.out.size h)
          obtain ⟨va8, vc8, hv8⟩ := form1 ho8
          subst hv8
          clear ho8 hg8 hm8 hk8 hown9 hsrc9 hB9
          have HX8 : Hid (ByO w8 B (.slice xa L xc) (List.replicate L 1)) := ownsRow_keep HK7.out HG8.out (fun g e f => HSP.out g e f)
          have HW8 : Hid (ByO w8 B (.slice va7 (L + 1) vc7) (List.replicate L 1 ++ [3])) := ownsRow_keep HV7.out HG8.out (fun g e f => HYV.out g f e)
          have HC8 : Hid (Chg (fun k => (Value.slice xa L xc).ownBlock = some k ∨ (Value.slice ya M yc).ownBlock = some k) w0 w8) := HC7.out.trans (chg_up (HG8.out) (fun _ e => .inr e)) (fun _ e => .inl e)
          obtain ⟨vb, vo, hva, hvcs⟩ := row8_at (byO_row HW8.out).1 (by omega)
          subst hva
          obtain ⟨ub, uo, hua, hucs⟩ := row8_at (byO_row HV8.out).1 (by omega)
          subst hua
          have HVC : Hid (∀ j, j < L + 1 → w8.cell? ⟨vb, vo + j, none⟩ = some (.int .u8 (((List.replicate L 1 ++ [3]).getD j 0 : Nat) : Int))) := hvcs
          have HUC : Hid (∀ j, j < M + 1 → w8.cell? ⟨ub, uo + j, none⟩ = some (.int .u8 (((List.replicate M 2 ++ [4]).getD j 0 : Nat) : Int))) := hucs
          have y3 := hvcs L (by omega)
          have e77 : (List.replicate L 1 ++ [3]).getD L 0 = 3 := by rw [List.getD_eq_getElem?_getD, List.getElem?_append_right (by simp)]; simp
          rw [e77] at y3
          have y4 := hucs M (by omega)
          have e78 : (List.replicate M 2 ++ [4]).getD M 0 = 4 := by rw [List.getD_eq_getElem?_getD, List.getElem?_append_right (by simp)]; simp
          rw [e78] at y4
          replace y3 : w8.cell? ⟨vb, vo + L, none⟩ = some (.int .u8 3) := y3
          replace y4 : w8.cell? ⟨ub, uo + M, none⟩ = some (.int .u8 4) := y4
          have HY3 : Hid _ := y3
          have HY4 : Hid _ := y4
          have HF : Hid _ := HK8.out
          clear hvcs hucs e77 e78 y3 y4 HV7 HV8 HK7 HG7 HG8 HM7 HM8 HY7 HC7 HYV HSZ7 HSZ8 HCZ7 HCZ8 HSP HSZ0 HW8
          go_wp2_with fail
          go_loopw [9] (fun t wq => ∃ j : Nat, j ≤ L ∧ t = .int .i64 (j : Int) ∧ w8 = wq) (fun t _ => L - (intOf t).toNat)
          case atStart => exact ⟨0, Nat.zero_le _, rfl, rfl⟩
          case round =>
            obtain ⟨j, hj, rfl, rfl⟩ := hrel
            have hji : (j : Int) ≤ 1024 := by omega
            by_cases hjl : j < L
            · have e1 : decide ((j : Int) < (L : Int)) = true := decide_eq_true (by omega)
              have e1' : decide (j < L) = true := decide_eq_true hjl
              have y1 := HVC.out j (by omega)
              have e77 : (List.replicate L 1 ++ [3]).getD j 0 = 1 := by rw [List.getD_eq_getElem?_getD, List.getElem?_append_left (by simpa using hjl), List.getElem?_replicate, if_pos hjl]; rfl
              rw [e77] at y1
              obtain ⟨kb, ko, hkb, hkc⟩ := row8_at (byO_row HX8.out).1 (by omega)
              have y2 := hkc j hjl
              have e78 : (List.replicate L 1).getD j 0 = 1 := by rw [List.getD_eq_getElem?_getD, List.getElem?_replicate, if_pos hjl]; rfl
              rw [e78] at y2
              rw [hkb]
              clear hkc hkb e77 e78
              replace y1 : w8.cell? ⟨vb, vo + j, none⟩ = some (.int .u8 1) := y1
              replace y2 : w8.cell? ⟨kb, ko + j, none⟩ = some (.int .u8 1) := y2
              have hLj : (j : Int) < (L : Int) + 1 := by omega
              go_wp2
              go_roundw
              case rel => exact ⟨j + 1, by omega, by go_num, by first | trivial | rfl⟩
              case measure => simp [intOf]; omega
            · have e1 : decide ((j : Int) < (L : Int)) = false := decide_eq_false (by omega)
              have e1' : decide (j < L) = false := decide_eq_false hjl
              go_wp2_with fail
              go_loopw [10] (fun t wq => ∃ j : Nat, j ≤ M ∧ t = .int .i64 (j : Int) ∧ w8 = wq) (fun t _ => M - (intOf t).toNat)
              case atStart => exact ⟨0, Nat.zero_le _, rfl, rfl⟩
              case round =>
                obtain ⟨j, hj, rfl, rfl⟩ := hrel
                have hji : (j : Int) ≤ 1024 := by omega
                by_cases hjl : j < M
                · have e1 : decide ((j : Int) < (M : Int)) = true := decide_eq_true (by omega)
                  have e1' : decide (j < M) = true := decide_eq_true hjl
                  have y1 := HUC.out j (by omega)
                  have e77 : (List.replicate M 2 ++ [4]).getD j 0 = 2 := by rw [List.getD_eq_getElem?_getD, List.getElem?_append_left (by simpa using hjl), List.getElem?_replicate, if_pos hjl]; rfl
                  rw [e77] at y1
                  obtain ⟨kb, ko, hkb, hkc⟩ := row8_at (byO_row HF.out).1 (by omega)
                  have y2 := hkc j hjl
                  have e78 : (List.replicate M 2).getD j 0 = 2 := by rw [List.getD_eq_getElem?_getD, List.getElem?_replicate, if_pos hjl]; rfl
                  rw [e78] at y2
                  rw [hkb]
                  clear hkc hkb e77 e78
                  replace y1 : w8.cell? ⟨ub, uo + j, none⟩ = some (.int .u8 2) := y1
                  replace y2 : w8.cell? ⟨kb, ko + j, none⟩ = some (.int .u8 2) := y2
                  have hLj : (j : Int) < (M : Int) + 1 := by omega
                  go_wp2
                  go_roundw
                  case rel => exact ⟨j + 1, by omega, by go_num, by first | trivial | rfl⟩
                  case measure => simp [intOf]; omega
                · have e1 : decide ((j : Int) < (M : Int)) = false := decide_eq_false (by omega)
                  have e1' : decide (j < M) = false := decide_eq_false hjl
                  have y3 := HY3.out
                  have y4 := HY4.out
                  have hLL : (L : Int) < (L : Int) + 1 := by omega
                  have hMM : (M : Int) < (M : Int) + 1 := by omega
                  go_wp2
                  go_ret
                  exact ⟨rfl, HX8.out, HF.out, HC8.out⟩
end Go.Proofs.YtikokgngkagieaaDoor
