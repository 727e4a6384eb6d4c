/- The program's filter: Next, New, Encode, Decode ('deltaSpec'); of no statement by itself. -/
import Derived.Test.YtefplppgkoanbaaEb
namespace Go.Proofs.Ytefplppgkoanbaa
open Go.RowKit
set_option linter.unusedVariables false
set_option linter.unusedSimpArgs false
theorem new_bad (d : Int) (back : Bool) (w : World) (h : ¬ goodD d) (hi : I64 d) : Calls Try.prog 12 #[.int .i64 d, .bool back] w fun e w' => e = .returned (.tuple #[.pointer none, .int .i64 6]) ∧ Chg (fun _ => False) w w' := by
  by_cases h1 : d < 1
  · have e1 : decide (d < 1) = true := decide_eq_true h1
    clear h h1
    go_enter Try.func12, Try.ntmps12
    go_wp2
    go_ret2
    exact ⟨rfl, Chg.refl _ _⟩
  · have e1 : decide (d < 1) = false := decide_eq_false h1
    have h2 : 256 < d := by unfold goodD at h; omega
    have e2 : decide (256 < d) = true := decide_eq_true h2
    clear h h1 h2
    go_enter Try.func12, Try.ntmps12
    go_wp2
    go_ret2
    exact ⟨rfl, Chg.refl _ _⟩
theorem built_f' (d : Int) (back : Bool) (Z : Array Value) (hz : Try.prog.built 60 [(0, .int .i64 d), (1, .bool back)] = some Z) (a : Act) (h : a.eval (.tmp 12) = .int .i64 d) (k : a.eval (.tmp 13) = .bool back) : Try.prog.built 60 ((#[((0 : Nat), Operand.tmp 12), (1, Operand.tmp 13)].map fun (i, x) => (i, a.eval x)).toList) = some Z := by
  have e : (#[((0 : Nat), Operand.tmp 12), (1, Operand.tmp 13)].map fun (i, x) => (i, a.eval x)).toList = [(0, .int .i64 d), (1, .bool back)] := by simp [h, k]
  rw [e]
  exact hz
set_option maxRecDepth 100000 in
set_option maxHeartbeats 4000000 in
theorem new_good (d : Nat) (back : Bool) (w : World) (h : goodD (d : Int)) : Calls Try.prog 12 #[.int .i64 (d : Int), .bool back] w fun e w' => ∃ a F, e = .returned (.tuple #[.pointer (some ⟨a, 0, none⟩), .int .i64 0]) ∧ FiL w' w.heap.size a F d back [] ∧ Chg (fun _ => False) w w' := by
  have e1 : decide ((d : Int) < 1) = false := decide_eq_false (by have := h.1; omega)
  have e2 : decide (256 < (d : Int)) = false := decide_eq_false (by have := h.2; omega)
  have HG : Hid (goodD (d : Int)) := h
  have hB := built_f (d : Int) back
  have HF : Hid (FiL (w.alloc (.cells (flD (d : Int) back (List.replicate 256 0) 0).toArray 60)) w.heap.size w.heap.size (fun z => z = w.heap.size) d back []) := by
    refine ⟨Nat.le_refl _, rfl, h, List.replicate 256 0, ?_, heap_alloc_last _ _⟩
    have e : plainD back d [] = [] := by unfold plainD; cases back <;> rfl
    rw [e]
    exact ringD_new
  generalize (flD (d : Int) back (List.replicate 256 0) 0).toArray = Z at *
  clear h
  go_enter Try.func12, Try.ntmps12
  go_wp2_with (refine wpList_buildTo rfl 60 #[(0, .tmp 12), (1, .tmp 13)] rfl (some 14) rfl Z (built_f' _ _ Z hB _ rfl rfl) ?_)
  go_wp2
  go_ret2
  exact ⟨_, _, rfl, HF.out, chg_one _ _⟩
theorem make8d (n : Nat) (hn : n ≤ 140737488355328) (w : World) : (Instr.makeSlice 22 (.int .i64 (n : Int)) (.int .i64 (n : Int))).run Try.prog w = .ok (.slice (some ⟨w.heap.size, 0, none⟩) n n) (w.alloc (.cells (Array.replicate n (Value.int .u8 0)) 5)) := by
  obtain ⟨iy, hiy, hy0, hy1, hy2⟩ := info_parts info5u
  have h := run_make (P := Try.prog) w 22 5 iy _ Try.underlying22 hiy hy0 .i64 .i64 n n (by omega) (Int.le_refl _) (by rw [hy2]; omega) (by omega)
  simp only [Int.toNat_natCast, hy1, Nat.mul_one] at h
  rw [h]
  have e : (madeCells (Value.int .u8 0).cells n) = (Array.replicate n (Value.int .u8 0)) := by
    apply Array.toList_inj.1
    rw [Array.toList_replicate]
    exact toList_madeCells_one _ n
  rw [e]
theorem own8d (n : Nat) (hn : n ≤ 140737488355328) (w : World) : (w.alloc (.cells (Array.replicate n (Value.int .u8 0)) 5)).ownsRow w.heap.size 5 1 (.slice (some ⟨w.heap.size, 0, none⟩) n n) n (ins .u8 (nums (List.replicate n 0))) := by
  have h := World.ownsRow_lit (base := w.heap.size) (e := 5) (size := 1) w (Array.replicate n (Value.int .u8 0)) n (Nat.le_refl _) (by unfold maxLen; omega) (by simp)
  rw [Array.toList_replicate] at h
  rw [show ins .u8 (nums (List.replicate n 0)) = List.replicate n (Value.int .u8 0) by simp [ins, nums]]
  exact h
theorem take_one' {n i : Nat} {bs : List Nat} (h : bs.length = n) (hi : i < n) : bs.take (i + 1) = bs.take i ++ [bs.getD i 0] := by
  rw [List.take_add_one, List.getD_eq_getElem?_getD, List.getElem?_eq_getElem (by omega)]
  rfl
/-- What is told so far, zeros behind it. -/
def soD (back : Bool) (d : Nat) (all bs : List Nat) (i n : Nat) : List Nat := De19.piece back d all (bs.take i) ++ List.replicate (n - i) 0
theorem soD_next {back : Bool} {d : Nat} {all bs : List Nat} {i n : Nat} (h : bs.length = n) (hi : i < n) : (ins .u8 (nums (soD back d all bs i n))).set i (.int .u8 ((De19.one back (bs.getD i 0) (De19.at_ (plainD back d (all ++ bs.take i)) (plainD back d (all ++ bs.take i)).length d) : Nat) : Int)) = ins .u8 (nums (soD back d all bs (i + 1) n)) := by
  have hl : (De19.piece back d all (bs.take i)).length = i := by rw [De19.piece_len, List.length_take]; omega
  unfold soD
  rw [take_one' h hi, piece_snoc', show n - i = (n - (i + 1)) + 1 by omega, List.replicate_succ]
  simp only [ins, nums, List.map_append, List.map_cons, List.map_nil, List.append_assoc]
  rw [List.set_append_right _ _ (by simp [hl]), List.length_map, List.length_map, hl, Nat.sub_self]
  rfl
set_option maxRecDepth 100000 in
set_option maxHeartbeats 4000000 in
theorem next_any (B a d : Nat) (F : Nat → Prop) (back : Bool) (all : List Nat) (ad : Option Addr) (n c : Nat) (bs : List Nat) (w : World) (h : FiL w B a F d back all) (hB : B ≤ w.heap.size) (hr : Row8 w ad n c (nums bs)) (hoff : ∀ x, 0 < n → ad = some x → ¬ F x.block) (hg : Rc.Dig bs) (hc : n ≤ c) (hn : n ≤ 140737488355328) : Calls Try.prog 13 #[.pointer (some ⟨a, 0, none⟩), .slice ad n c] w fun e w' => ∃ ov F', e = .returned ov ∧ FiL w' B a F' d back (all ++ bs) ∧ ByO w' w.heap.size ov (De19.piece back d all bs) ∧ (∀ g, ov.ownBlock = some g → ¬ F' g) ∧ Chg F w w' ∧ ∀ z, F' z → F z ∨ w.heap.size ≤ z := by
  have hbl : bs.length = n := by have h9 := hr.1; rw [nums_len] at h9; exact h9
  have HBL : Hid (bs.length = n) := hbl
  have HR : Hid (Row8 w ad n c (nums bs) ∧ Rc.Dig bs ∧ ∀ x, 0 < n → ad = some x → ¬ F x.block) := ⟨hr, hg, hoff⟩
  have HF : Hid (FiL w B a F d back all) := h
  have hni : (n : Int) ≤ 140737488355328 := by omega
  have hmk := make8d n hn w
  have HB0 : Hid (FiL (w.alloc (.cells (Array.replicate n (Value.int .u8 0)) 5)) B a F d back all) := h.keep (chg_one w _) (fun _ _ f => f)
  have HO0 : Hid _ := own8d n hn w
  have HC0 : Hid (Chg F w (w.alloc (.cells (Array.replicate n (Value.int .u8 0)) 5))) := (chg_one w _).mono (fun _ f => f.elim)
  have HLT : Hid (∀ z, F z → B ≤ z ∧ z < w.heap.size) := h.lt
  have HFa : Hid (F = fun z => z = a) := h.foot
  obtain ⟨G, hG⟩ : ∃ G, w.heap.size = G := ⟨_, rfl⟩
  have HGG : Hid (w.heap.size = G) := hG
  rw [hG] at hmk HO0 HLT
  generalize w.alloc (.cells (Array.replicate n (Value.int .u8 0)) 5) = W0 at *
  clear h hr hg hbl hG hn hoff
  go_enter Try.func13, Try.ntmps13
  go_wp2_with fail
  go_loopw [13] (fun v13 wr => ∃ i : Nat, i ≤ n ∧ v13 = .int .i64 (i : Int) ∧ Hid (FiL wr B a F d back (all ++ bs.take i) ∧ wr.ownsRow G 5 1 (.slice (some ⟨G, 0, none⟩) n n) n (ins .u8 (nums (soD back d all bs i n))) ∧ Chg F w wr)) (fun v13 _ => n - (intOf v13).toNat)
  case atStart =>
    refine ⟨0, by omega, rfl, ?_, ?_, HC0.out⟩
    · rw [List.take_zero, List.append_nil]; exact HB0.out
    · have e : soD back d all bs 0 n = List.replicate n 0 := by
        unfold soD De19.piece
        simp [De19.cd_len]
      rw [e]; exact HO0.out
  case round =>
    obtain ⟨i, hi, rfl, HI⟩ := hrel
    by_cases hin : i < n
    rotate_left
    · have d0 : decide (i < n) = false := decide_eq_false hin
      have HE : Hid (i = n) := by show _ = _; omega
      have e1 : bs.take i = bs := List.take_of_length_le (by rw [HBL.out]; omega)
      have hI := HI.out
      rw [e1] at hI
      have hso : soD back d all bs i n = De19.piece back d all bs := by
        unfold soD
        rw [e1, show n - i = 0 by have := HE.out; omega, List.replicate_zero, List.append_nil]
      rw [hso] at hI
      have HJ : Hid _ := hI
      have HPL : Hid ((De19.piece back d all bs).length = n) := by show _ = _; rw [De19.piece_len]; exact HBL.out
      clear hI hso e1 hin HI
      go_wp2
      go_ret
      refine ⟨.slice (some ⟨G, 0, none⟩) n n, F, rfl, HJ.out.1, ?_, fun g e f => ?_, HJ.out.2.2, fun z f => .inl f⟩
      · show World.ownsRow _ _ _ _ _ _ _
        rw [HPL.out, HGG.out]
        exact HJ.out.2.1
      · simp only [Value.ownBlock, Option.some.injEq] at e
        subst e
        have := (HLT.out _ f).2
        omega
    · have d0 : decide (i < n) = true := decide_eq_true hin
      obtain ⟨b, off, hab, hcs⟩ := row8_at HR.out.1 (by omega)
      have hnF : ¬ F b := HR.out.2.2 _ (by omega) hab
      have hbw : w.heap[b]? = wr.heap[b]? := by
        have h9 := World.block_lt_of_cell? w _ (hcs i hin)
        exact (HI.out.2.2.block b h9 hnF).symm
      have kx : wr.cell? ⟨b, off + i, none⟩ = some (.int .u8 ((bs.getD i 0 : Nat) : Int)) := by
        rw [← hcs i hin]
        simp only [World.cell?, hbw]
      subst hab
      have HX : Hid _ := step_q B a d F back (all ++ bs.take i) (bs.getD i 0) (De19.By.get HR.out.2.1 i) wr HI.out.1
      have HSO : Hid _ := soD_next (back := back) (d := d) (all := all) HBL.out hin
      have e1 : all ++ bs.take i ++ [bs.getD i 0] = all ++ bs.take (i + 1) := by rw [take_one' HBL.out hin, List.append_assoc]
      rw [e1] at HX
      obtain ⟨V, hV⟩ : ∃ V, De19.one back (bs.getD i 0) (De19.at_ (plainD back d (all ++ bs.take i)) (plainD back d (all ++ bs.take i)).length d) = V := ⟨_, rfl⟩
      rw [hV] at HX HSO
      obtain ⟨X, hX⟩ : ∃ X, bs.getD i 0 = X := ⟨_, rfl⟩
      rw [hX] at HX kx
      have HXX : Hid (bs.getD i 0 = X) := hX
      have HO : Hid (wr.ownsRow G 5 1 (.slice (some ⟨G, 0, none⟩) n n) n (ins .u8 (nums (soD back d all bs i n))) ∧ Chg F w wr) := HI.out.2
      clear hV hX e1 hbw hcs hnF HI
      go_wp2_with fail
      refine Calls.mono HX.out ?_
      rintro z w2 ⟨rfl, hf2, c2⟩
      have ho2 : w2.ownsRow G 5 1 (.slice (some ⟨G, 0, none⟩) n n) n (ins .u8 (nums (soD back d all bs i n))) := ownsRow_keep HO.out.1 c2 (fun g e f => by
        simp only [Value.ownBlock, Option.some.injEq] at e
        subst e
        have := (HLT.out _ f).2
        omega)
      have HC2 : Hid (Chg F w w2) := HO.out.2.trans c2 (fun _ f => .inl f)
      obtain ⟨g9, cap9, e9, _, _, _, fr0, fr, hcells⟩ := own_some ho2 (by omega)
      have hg9 : g9 = G := by
        simp only [Value.slice.injEq, Option.some.injEq, Addr.mk.injEq, true_and, and_true] at e9
        exact e9.1.symm
      rw [hg9] at fr0 fr hcells
      clear e9 hg9
      obtain ⟨u0, hu0⟩ : ∃ u0, (ins .u8 (nums (soD back d all bs i n)))[i]? = some u0 := ⟨_, List.getElem?_eq_getElem (by have h9 := ho2.1; omega)⟩
      have kc := hcells i _ hu0
      have kf := fr i
      have HI2 : Hid (FiL (w2.setCell ⟨G, i, none⟩ (.int .u8 (V : Int))) B a F d back (all ++ bs.take (i + 1)) ∧ (w2.setCell ⟨G, i, none⟩ (.int .u8 (V : Int))).ownsRow G 5 1 (.slice (some ⟨G, 0, none⟩) n n) n (ins .u8 (nums (soD back d all bs (i + 1) n))) ∧ Chg F w (w2.setCell ⟨G, i, none⟩ (.int .u8 (V : Int)))) := by
        refine ⟨hf2.keep ((Chg.refl (fun z => z = G) w2).setCell (p := ⟨G, i, none⟩) (.inl rfl) _) (fun z f e => ?_), ?_, HC2.out.setCell (p := ⟨G, i, none⟩) (.inr (by rw [HGG.out]; exact Nat.le_refl _)) _⟩
        · have := (HLT.out z f).2
          omega
        · rw [← HSO.out]
          exact own_set ho2 i _ hin
      clear hu0 hf2 c2 ho2 fr0 fr hcells HX HO HSO
      go_wp2
      go_roundw
      case rel => exact ⟨i + 1, by omega, by go_num, HI2.out⟩
      case measure => simp [intOf]; omega
theorem whole_any (ad : Option Addr) (n c : Nat) (bs : List Nat) (d : Int) (back : Bool) (w : World) (hr : Row8 w ad n c (nums bs)) (hg : Rc.Dig bs) (hc : n ≤ c) (hn : n ≤ 140737488355328) (hd : I64 d) : Calls Try.prog 23 #[.slice ad n c, .int .i64 d, .bool back] w fun e w' => ∃ ov, e = .returned (.tuple #[ov, .int .i64 (codeA back d bs).2]) ∧ ByO w' w.heap.size ov (codeA back d bs).1 ∧ Chg (fun _ => False) w w' := by
  by_cases hgd : goodD d
  · obtain ⟨D, rfl⟩ : ∃ D : Nat, d = (D : Int) := ⟨d.toNat, by have := hgd.1; omega⟩
    have HE : Hid (codeA back (D : Int) bs = (De19.cd back D bs, 0)) := codeA_good hgd
    rw [HE.out]
    have HN : Hid _ := new_good D back w hgd
    have HR : Hid (Row8 w ad n c (nums bs) ∧ Rc.Dig bs) := ⟨hr, hg⟩
    have HL : Hid (n ≤ c ∧ n ≤ 140737488355328) := ⟨hc, hn⟩
    clear hr hg hgd HE hc hn
    go_enter Try.func23, Try.ntmps23
    go_wp2_with fail
    refine Calls.mono HN.out ?_
    rintro zz w1 ⟨a, F, rfl, hf, c1⟩
    have HC1 : Hid (Chg (fun _ => False) w w1) := c1
    have hoff : ∀ x, 0 < n → ad = some x → ¬ F x.block := fun x h0 e f => by
      obtain ⟨b, off, hab, hcs⟩ := row8_at HR.out.1 h0
      rw [e] at hab
      cases hab
      have h1 := World.block_lt_of_cell? w _ (hcs 0 h0)
      have h2 := (hf.lt _ f).1
      simp only at h1 h2
      omega
    have HX : Hid _ := next_any w.heap.size a D F back [] ad n c bs w1 hf c1.size (Bk.row8_chg HR.out.1 c1) hoff HR.out.2 HL.out.1 HL.out.2
    have HFB : Hid (∀ z, F z → w.heap.size ≤ z) := fun z f => (hf.lt z f).1
    clear hf c1 hoff HN
    go_wp2_with fail
    refine Calls.mono HX.out ?_
    rintro zz w2 ⟨ov, F', rfl, _, ho, _, c2, _⟩
    have HO : Hid (ByO w2 w.heap.size ov (De19.cd back D bs) ∧ Chg (fun _ => False) w w2) := ⟨owns_base (by rw [De19.piece_nil] at ho; exact ho) HC1.out.size, HC1.out.trans c2 (fun z f => .inr (HFB.out z f))⟩
    clear ho c2 HX HFB HC1
    go_wp2
    go_ret2
    exact ⟨_, rfl, HO.out⟩
  · have HE : Hid (codeA back d bs = ([], 6)) := by show _ = _; unfold codeA; rw [if_neg hgd]
    rw [HE.out]
    have HN : Hid _ := new_bad d back w hgd hd
    clear hr hg hgd HE hc hn
    go_enter Try.func23, Try.ntmps23
    go_wp2_with fail
    refine Calls.mono HN.out ?_
    rintro zz w1 ⟨rfl, c1⟩
    have HC1 : Hid (Chg (fun _ => False) w w1) := c1
    clear HN c1
    go_wp2
    go_ret2
    exact ⟨_, rfl, byO_nil _ _, HC1.out⟩
theorem enc_any (back : Bool) (ad : Option Addr) (n c : Nat) (bs : List Nat) (d : Int) (w : World) (hr : Row8 w ad n c (nums bs)) (hg : Rc.Dig bs) (hc : n ≤ c) (hn : n ≤ 140737488355328) (hd : I64 d) : Calls Try.prog (if back then 20 else 11) #[.slice ad n c, .int .i64 d] w fun e w' => ∃ ov, e = .returned (.tuple #[ov, .int .i64 (codeA back d bs).2]) ∧ ByO w' w.heap.size ov (codeA back d bs).1 ∧ Chg (fun _ => False) w w' := by
  have HX : Hid _ := whole_any ad n c bs d back w hr hg hc hn hd
  clear hr hg hc hn hd
  generalize (codeA back d bs).2 = E2 at *
  generalize (codeA back d bs).1 = E1 at *
  cases back
  · rw [if_neg (by decide)]
    go_enter Try.func11, Try.ntmps11
    go_wp2_with fail
    refine Calls.mono HX.out ?_
    rintro zz w1 ⟨ov, rfl, ho, c1⟩
    have HO : Hid _ := And.intro ho c1
    clear ho c1 HX
    go_wp2
    go_ret2
    exact ⟨_, rfl, HO.out⟩
  · rw [if_pos rfl]
    go_enter Try.func20, Try.ntmps20
    go_wp2_with fail
    refine Calls.mono HX.out ?_
    rintro zz w1 ⟨ov, rfl, ho, c1⟩
    have HO : Hid _ := And.intro ho c1
    clear ho c1 HX
    go_wp2
    go_ret2
    exact ⟨_, rfl, HO.out⟩
theorem deltaSpec : DeltaSpec FiL where
  enc := fun ad n c bs d w hr hg hc hn hd => enc_any false ad n c bs d w hr hg hc hn hd
  dec := fun ad n c bs d w hr hg hc hn hd => enc_any true ad n c bs d w hr hg hc hn hd
  keep := fun h hc hS => h.keep hc hS
  lt := fun h => h.lt
  down := fun h hB => h.down hB
  newN := fun d back w h hi => new_bad d back w h hi
  new := fun d back w h => new_good d back w h
  next := next_any
end Go.Proofs.Ytefplppgkoanbaa
