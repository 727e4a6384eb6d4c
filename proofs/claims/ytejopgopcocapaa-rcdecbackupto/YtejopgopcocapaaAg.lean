/- The walk of RcdecAgain above what is asked of the decoder; of no statement by itself. -/
import Derived.Test.YtejopgopcocapaaKn
namespace Go.Proofs.Ytejopgopcocapaa
open Go.RowKit
set_option linter.unusedVariables false

theorem relay_len : ∀ (x : List Nat) (l : List Q), x.length ≤ l.length → (relay x l).length = x.length
  | [], l, _ => by cases l <;> rfl
  | v :: x, [], h => by simp at h
  | v :: x, q :: l, h => by simp [relay, relay_len x l (by simpa using h)]
theorem relay_at : ∀ (x : List Nat) (l : List Q) (k : Nat) (v : Nat) (q : Q), x[k]? = some v → l[k]? = some q → (relay x l)[k]? = some ⟨q.d, q.i, q.n, v⟩
  | [], _, k, _, _, h, _ => by simp at h
  | _ :: _, [], k, _, _, _, h => by simp at h
  | a :: x, b :: l, 0, v, q, h, h2 => by simp at h h2; subst h h2; simp [relay]
  | a :: x, b :: l, k + 1, v, q, h, h2 => by
    simp at h h2
    simp [relay, relay_at x l k v q h h2]
theorem relay_small : ∀ (x : List Nat) (l : List Q) (q : Q), q ∈ relay x l → q.v ∈ x
  | [], l, q, h => by cases l <;> exact (List.not_mem_nil h).elim
  | v :: x, [], q, h => (List.not_mem_nil h).elim
  | v :: x, r :: l, q, h => by
    rcases List.mem_cons.1 h with rfl | h
    · exact List.mem_cons_self ..
    · exact List.mem_cons_of_mem _ (relay_small x l q h)
theorem decL_len (b : List Nat) : ∀ (l : List Q) (d : Rc.D) (xs : List Int), (decL b l d xs).1.length ≤ l.length
  | [], d, xs => Nat.le_refl _
  | q :: l, d, xs => by
    unfold decL
    cases e : decA b q d xs with
    | error x => exact Nat.zero_le _
    | ok r =>
      obtain ⟨v, d', xs'⟩ := r
      have := decL_len b l d' xs'
      simp only [List.length_cons]
      omega
theorem may_all {n : Nat} {l : List Q} (h : ∀ q ∈ l, q.ok n) : may n l = l := List.filter_eq_self.2 (fun q hq => by simpa using h q hq)
theorem decL_small {bs : List Nat} (hdig : Rc.Dig bs) : ∀ (l : List Q) {d : Rc.D} {xs : List Int}, OkD bs d → In31 xs → ∀ x ∈ (decL bs l d xs).1, x ≤ 4294967295
  | [], d, xs, _, _ => fun x hx => (List.not_mem_nil hx).elim
  | q :: l, d, xs, hO, hI => by
    unfold decL
    cases e : decA bs q d xs with
    | error x => exact fun x hx => (List.not_mem_nil hx).elim
    | ok r =>
      obtain ⟨v, d', xs'⟩ := r
      obtain ⟨h1, h2, h3, h4, h5⟩ := decA_ok hdig hO hI e
      have hb : q.bits ≤ 32 := by
        unfold Q.bits
        split
        · rename_i hd
          unfold Q.ok at h1
          rw [if_pos hd] at h1
          omega
        · decide
      have hp : 2 ^ q.bits ≤ 2 ^ 32 := Nat.pow_le_pow_right (by omega) hb
      intro x hx
      rcases List.mem_cons.1 hx with rfl | hx
      · omega
      · exact decL_small hdig l h3 h4 x hx
/-- What is read is what was encoded, to the last byte. -/
theorem again_math {bs : List Nat} (hdig : Rc.Dig bs) (l : List Q) {d0 : Rc.D} {xs0 : List Int} (hO : OkD bs d0) (hI : In31 xs0) :
    let l' := relay (decL bs l d0 xs0).1 l
    let F := (encL l' Rc.start xs0).1
    let c := Rc.by_ F
    c.getD 0 0 = 0 ∧ Rc.code5 c < 4294967295 ∧ (decL c l' ⟨5, 4294967295, Rc.code5 c⟩ xs0).1 = (decL bs l d0 xs0).1 ∧ (decL c l' ⟨5, 4294967295, Rc.code5 c⟩ xs0).2.1.n = F.k + 5 ∧ (decL c l' ⟨5, 4294967295, Rc.code5 c⟩ xs0).2.1.C = 0 := by
  intro l' F c
  obtain ⟨hq, hm⟩ := relay_all hdig l hO hI
  obtain ⟨hw, hok, _⟩ := encL_within l' Rc.start_ok hI
  have hF : 0 < F.R := by have := hok.lo; show 0 < (encL l' Rc.start xs0).1.R; omega
  have hb : Rc.Begins F c := by
    have := Rc.begins_by F []
    rw [List.append_nil] at this
    exact this
  obtain ⟨s1, s2, s3⟩ := Rc.start_tracks hb hw hF
  obtain ⟨d', h1, h2⟩ := all_back hb hF l' Rc.start_ok hI hq s3 (Rc.Within.refl _)
  have h3 := h2.none
  refine ⟨s1, s2, ?_, ?_, ?_⟩
  · rw [h1]; exact hm
  · rw [h1]; exact h3.1
  · rw [h1]; exact h3.2
theorem add_add (x : Addr) (i j : Nat) : (x.add (i + 1)).add j = x.add (i + 1 + j) := by
  unfold Addr.add
  by_cases h : j = 0
  · subst h; simp
  · rw [if_neg h, if_neg (by omega), if_neg (by omega)]; simp [Nat.add_assoc]
/-- The list of the questions with their answers, under way. -/
structure Rl (w0 wr : World) (lv l2 : Value) (vals : List Nat) (l : List Q) (k : Nat) : Prop where
  chg : Chg (fun _ => False) w0 wr
  vrow : wr.ownsRow w0.heap.size 38 1 lv vals.length (ins .u32 (nums vals))
  row : wr.ownsRow w0.heap.size 40 4 l2 k (((relay vals l).take k).flatMap Q.cells)
theorem Rl.new {w0 wr w' : World} {lv l2 : Value} {vals : List Nat} {l : List Q} {k : Nat} (h : Rl w0 wr lv l2 vals l k) (hc : Chg (fun _ => False) wr w') : Rl w0 w' lv l2 vals l k := ⟨chg_then h.chg hc, ownsRow_keep h.vrow hc (fun _ _ f => f), own_keep4 h.row hc (fun _ _ f => f)⟩
theorem Rl.push {w0 wr w' : World} {lv l2 l3 : Value} {vals : List Nat} {l : List Q} {k x : Nat} {q : Q} (h : Rl w0 wr lv l2 vals l k) (hx : vals[k]? = some x) (hq : l[k]? = some q) (ho : w'.ownsRow w0.heap.size 40 4 l3 (k + 1) (((relay vals l).take k).flatMap Q.cells ++ Q.cells ⟨q.d, q.i, q.n, x⟩)) (hg : wr.grownBy w' l2.ownBlock) : Rl w0 w' lv l3 vals l (k + 1) := by
  have c2 : Chg (fun z => l2.ownBlock = some z) wr w' := (Chg.refl _ wr).grown hg (fun k e => .inl e)
  refine ⟨h.chg.grown hg (fun k e => .inr (h.row.lt k e).1), ownsRow_keep h.vrow c2 (fun g eg f => ?_), ?_⟩
  · obtain ⟨c1, h1⟩ := owns_blk h.vrow eg
    obtain ⟨c3, h3⟩ := owns_blk h.row f
    exact ty_ne h1 h3 (by decide)
  · rw [List.take_add_one, relay_at vals l k x q hx hq]
    simpa using ho
theorem box3 {w : World} {O : Nat} {x0 x1 x2 x3 y : Value} {t : TypeId} (h : w.heap[O]? = some (.cells #[x0, x1, x2, x3] t (0, 0))) : (w.setCell ⟨O, 3, none⟩ y).heap[O]? = some (.cells #[x0, x1, x2, y] t (0, 0)) := blk_setk (l := [x0, x1, x2, x3]) h 3 y
set_option maxHeartbeats 8000000 in
set_option maxRecDepth 100000 in
theorem again_any {Dec : World → Nat → Nat → Value → List Nat → Rc.D → Prop} (S : DecSpec Dec) (ab : Option Addr) (nb cb : Nat) (bs : List Nat) (n : Int) (av : Option Addr) (L cv : Nat) (l : List Q) (w0 : World) (hb : Row8 w0 ab nb cb (nums bs)) (hdig : Rc.Dig bs) (hnb : nb ≤ 140737488355328) (hcb : nb ≤ cb) (hA : Asks w0 av l) (hL : l.length = L) (hl : L ≤ 4398046510976) : Calls Try.prog 6 #[.slice ab nb cb, .int .i64 n, .slice av L cv] w0 fun x w' => x = .returned (.bool true) ∧ Chg (fun _ => False) w0 w' := by
  have HA0 : Hid (Asks w0 av l) := hA
  have HLL : Hid (l.length = L) := hL
  have HB0 : Hid (Row8 w0 ab nb cb (nums bs)) := hb
  have HBL : Hid (bs.length = nb) := by have := hb.1; rw [nums_len] at this; exact this
  clear hA hL hb
  by_cases hn0 : n < 0
  · go_enter Try.func6, Try.ntmps6
    go_wp2_with fail
    refine (known_any S _).mono ?_
    rintro z w1 ⟨rfl, c1⟩
    go_wp2
    go_ret
    exact ⟨rfl, c1⟩
  by_cases hn64 : 64 < n
  · have hd0 : decide (n < 0) = false := by simp; omega
    go_enter Try.func6, Try.ntmps6
    go_wp2_with fail
    refine (known_any S _).mono ?_
    rintro z w1 ⟨rfl, c1⟩
    go_wp2
    go_ret
    exact ⟨rfl, c1⟩
  obtain ⟨N, rfl⟩ := Int.eq_ofNat_of_zero_le (show 0 ≤ n by omega)
  have hd0 : decide ((N : Int) < 0) = false := by simp
  have hd1 : decide ((64 : Int) < (N : Int)) = false := by simp; omega
  clear hn0
  go_enter Try.func6, Try.ntmps6
  go_wp2_with fail
  refine (S.new ab nb cb bs _ HB0.out hdig hnb).mono ?_
  rintro z w1 (⟨h1, rfl, c1⟩ | ⟨h1, h2, rfl, c1⟩ | ⟨h1, h2, h3, a, v, rfl, hD1, c1⟩)
  · have h5 : (nb : Int) < 5 := by have := HBL.out; omega
    have HC1 : Hid (Chg (fun _ => False) w0 w1) := c1
    clear c1 h1
    go_wp2_with fail
    refine (new_in N _ (by omega)).mono ?_
    rintro z w2 ⟨s, u, rfl, hs, hS2, c2⟩
    have HC2 : Hid (Chg (fun _ => False) w0 w2) := chg_then HC1.out c2
    clear hS2 c2 hs
    go_wp2_with fail
    refine (num_any _ _).mono ?_
    rintro z w3 ⟨rfl, rfl⟩
    go_wp2_with fail
    refine (num_any _ _).mono ?_
    rintro z w3 ⟨rfl, rfl⟩
    go_wp2_with fail
    refine (num_any _ _).mono ?_
    rintro z w3 ⟨rfl, rfl⟩
    go_wp2
    go_ret
    exact ⟨rfl, HC2.out⟩
  · have HC1 : Hid (Chg (fun _ => False) w0 w1) := c1
    have hn5 : 5 ≤ nb := by have := HBL.out; omega
    obtain ⟨x, rfl, hcell⟩ := Bk.row8_cells HB0.out (by omega)
    have hat : ∀ k, (nums bs).getD k 0 = ((bs.getD k 0 : Nat) : Int) := fun k => by simp [nums, List.getD_eq_getElem?_getD]; cases bs[k]? <;> rfl
    have HCL : Hid (∀ k, k < nb → w0.cell? (x.add k) = some (.int .u8 ((bs.getD k 0 : Nat) : Int))) := fun k hk => by
      have h1 := hcell k hk
      rw [hat] at h1
      exact h1
    have HBAD : Hid (bs.getD 0 0 ≠ 0 ∨ Rc.code5 bs = 4294967295) := h2
    have h5 : ¬ ((nb : Int) < 5) := by omega
    have hd5 : decide ((nb : Int) < 5) = false := by simp; omega
    clear c1 h1 h2 hcell hat
    go_wp2_with fail
    refine (new_in N _ (by omega)).mono ?_
    rintro z w2 ⟨s, u, rfl, hs, hS2, c2⟩
    have HC2 : Hid (Chg (fun _ => False) w0 w2) := chg_then HC1.out c2
    clear hS2 c2 hs
    go_wp2_with fail
    refine (num_any _ _).mono ?_
    rintro z w3 ⟨rfl, rfl⟩
    go_wp2_with fail
    refine (num_any _ _).mono ?_
    rintro z w3 ⟨rfl, rfl⟩
    obtain ⟨b, hbb⟩ : ∃ b : Nat, bs.getD 0 0 = b := ⟨_, rfl⟩
    have hc0 : w2.cell? x = some (.int .u8 (b : Int)) := by have h9 := cell_chg (HCL.out 0 (by omega)) HC2.out; rw [hbb] at h9; exact h9
    have h0n : (0 : Int) < (nb : Int) := by omega
    have h0n2 : 0 < nb := by omega
    by_cases hbz : b = 0
    · have hcode : Rc.code5 bs = 4294967295 := by rcases HBAD.out with h9 | h9; exact absurd (hbb.trans hbz) h9; exact h9
      have d1 := dig_at hdig 1
      have d2 := dig_at hdig 2
      have d3 := dig_at hdig 3
      have d4 := dig_at hdig 4
      have hR4 : Row8 w2 (some (x.add 1)) 4 (cb - 1) [255, 255, 255, 255] := by
        unfold Rc.code5 at hcode
        refine ⟨rfl, .inr ⟨_, rfl, fun j u hu => ?_⟩⟩
        have key : ∀ j, j < 4 → w2.cell? ((x.add 1).add j) = some (.int .u8 ((bs.getD (1 + j) 0 : Nat) : Int)) := fun j hj => by
          rw [add_add x 0 j]
          exact cell_chg (HCL.out (1 + j) (by omega)) HC2.out
        match j, hu with
        | 0, hu => have := key 0 (by omega); rw [this]; simp at hu; subst hu; rw [show bs.getD (1 + 0) 0 = 255 by show bs.getD 1 0 = 255; omega]; rfl
        | 1, hu => have := key 1 (by omega); rw [this]; simp at hu; subst hu; rw [show bs.getD (1 + 1) 0 = 255 by show bs.getD 2 0 = 255; omega]; rfl
        | 2, hu => have := key 2 (by omega); rw [this]; simp at hu; subst hu; rw [show bs.getD (1 + 2) 0 = 255 by show bs.getD 3 0 = 255; omega]; rfl
        | 3, hu => have := key 3 (by omega); rw [this]; simp at hu; subst hu; rw [show bs.getD (1 + 3) 0 = 255 by show bs.getD 4 0 = 255; omega]; rfl
      have hcv : (convert 22 9 (.slice (some ⟨x.block, x.off + 1, none⟩) 4 (cb - 1))).run Try.prog w2 = .ok (.string ⟨#[255, 255, 255, 255]⟩) w2 := by rw [show (⟨x.block, x.off + 1, none⟩ : Addr) = x.add 1 from rfl, Bk.conv8_here hR4]; rfl
      clear hR4 hcode d1 d2 d3 d4
      subst hbz
      clear hbb
      have hcb5 : (5 : Int) ≤ (cb : Int) := by omega
      go_wp2_with fail
      refine (num_any _ _).mono ?_
      rintro z w3 ⟨rfl, rfl⟩
      go_wp2
      go_ret
      exact ⟨rfl, HC2.out⟩
    · have hdb : decide ((b : Int) = 0) = false := by simp; omega
      have hbe : ((b : Int) == 0) = false := beq_eq_false_iff_ne.2 (by omega)
      clear hbb
      go_wp2_with fail
      refine (num_any _ _).mono ?_
      rintro z w3 ⟨rfl, rfl⟩
      go_wp2
      go_ret
      exact ⟨rfl, HC2.out⟩
  have HD1 : Hid (Dec w1 w0.heap.size a v bs ⟨5, 4294967295, Rc.code5 bs⟩) := hD1
  have HC1 : Hid (Chg (fun _ => False) w0 w1) := c1
  have HO1 : Hid (OkD bs ⟨5, 4294967295, Rc.code5 bs⟩) := ⟨by show 16777216 ≤ 4294967295; omega, by show 4294967295 ≤ 4294967295; omega, h3, h1⟩
  clear hD1 c1 h1 h2 h3
  go_wp2_with fail
  refine (new_in N _ (by omega)).mono ?_
  rintro z w2 ⟨s, u, rfl, hs, hS2, c2⟩
  have HD2 : Hid (Dec w2 w0.heap.size a v bs ⟨5, 4294967295, Rc.code5 bs⟩) := S.keep HD1.out c2 (fun f => f) (fun _ _ f => f)
  have HS2 : Hid (St w2 w0.heap.size s u (List.replicate N 1024)) := ⟨Nat.le_trans HC1.out.size hs, hS2.blk, owns_base hS2.own HC1.out.size⟩
  have HC2 : Hid (Chg (fun _ => False) w0 w2) := chg_then HC1.out c2
  clear hS2 c2 HD1 HC1 hs
  go_wp2_with fail
  refine (num_any _ _).mono ?_
  rintro z w3 ⟨rfl, rfl⟩
  go_wp2_with fail
  refine (num_any _ _).mono ?_
  rintro z w3 ⟨rfl, rfl⟩
  go_wp2_with fail
  refine (answered_any S w0.heap.size w0.heap.size a s v u bs ⟨5, 4294967295, Rc.code5 bs⟩ (List.replicate N 1024) av L cv l _ HD2.out HO1.out hdig (by rw [HBL.out]; exact hnb) HS2.out (In31.half N) HC2.out.size (HA0.out.new HC2.out) HLL.out hl ?_).mono ?_
  · intro x ex hne f
    have h9 := HA0.out.old x ex hne
    rcases f with f | f
    · have := S.base HD2.out
      omega
    · have := (HS2.out.own.lt _ f).1
      omega
  rintro z w3 ⟨lv, rfl, hT⟩
  obtain ⟨vals, hvals⟩ : ∃ vals, (decL bs l ⟨5, 4294967295, Rc.code5 bs⟩ (List.replicate N 1024)).1 = vals := ⟨_, rfl⟩
  have HVS : Hid ((decL bs l ⟨5, 4294967295, Rc.code5 bs⟩ (List.replicate N 1024)).1 = vals) := hvals
  obtain ⟨V, hVV⟩ : ∃ V, vals.length = V := ⟨_, rfl⟩
  have HV : Hid (vals.length = V) := hVV
  have HVL : Hid (vals.length ≤ l.length) := by rw [← hvals]; exact decL_len _ _ _ _
  have hrow := hT.row
  rw [hvals] at hrow
  have HC3 : Hid (Chg (fun _ => False) w0 w3) := HC2.out.trans hT.chg (fun z f => .inr (by
    rcases f with f | f
    · rw [f]; exact S.base HD2.out
    · exact (HS2.out.own.lt z f).1))
  have hrow0 := owns_base hrow HC2.out.size
  obtain ⟨la, lc, hlv⟩ := form1 hrow0
  rw [hVV] at hlv
  subst hlv
  have HR0 : Hid (Rl w0 w3 (.slice la V lc) (.slice none 0 0) vals l 0) := ⟨HC3.out, hrow0, World.ownsRow_nil _ _ _ _⟩
  clear hT hrow hrow0 hvals hVV HC2 HS2 HD2 HC3
  generalize ((decL bs l ⟨5, 4294967295, Rc.code5 bs⟩ (List.replicate N 1024)).2.1.n : Int) = used at *
  go_wp2_with fail
  have hV := relay_len vals l HVL.out
  go_loopw [13, 87] (fun l2 iv wr => ∃ k : Nat, k ≤ V ∧ iv = .int .i64 (k : Int) ∧ Hid (Rl w0 wr (.slice la V lc) l2 vals l k)) (fun _ iv _ => V - (intOf iv).toNat)
  case atStart => exact ⟨0, Nat.zero_le _, rfl, HR0.out⟩
  case round =>
    clear HR0
    obtain ⟨k, hk, rfl, HR⟩ := hrel
    by_cases hlt : k < V
    · obtain ⟨x, hx⟩ : ∃ x, vals[k]? = some x := ⟨_, List.getElem?_eq_getElem (by rw [HV.out]; exact hlt)⟩
      obtain ⟨q, hq⟩ : ∃ q, l[k]? = some q := ⟨_, List.getElem?_eq_getElem (by have := HVL.out; have := HV.out; omega)⟩
      obtain ⟨b0, off, ea, h0, h1, h2, h3, hX⟩ := (HA0.out.new HR.out.chg) k q hq
      obtain ⟨dd, I, N_, X⟩ := q
      subst ea
      have hkL : k < L := by have := HVL.out; have := HV.out; have := HLL.out; omega
      have hvr := HR.out.vrow
      rw [HV.out] at hvr
      obtain ⟨g, cap, hvv, _, _, _, _, _, hcl⟩ := own_some hvr (by omega)
      cases hvv
      have hcx : wr.cell? ⟨g, k, none⟩ = some (.int .u32 (x : Int)) := hcl k _ (by simp [ins, nums, hx])
      have HX : Hid (vals[k]? = some x) := hx
      have HQ : Hid (l[k]? = some ⟨dd, I, N_, X⟩) := hq
      obtain ⟨ra, rc, hl2⟩ := form4 HR.out.row
      subst hl2
      have HC1 : Hid (Chg (fun _ => False) wr (wr.alloc (.cells #[.bool dd, .int .i64 I, .int .i64 N_, .int .u32 (x : Int)] 40))) := chg_one wr _
      have HBX : Hid ((wr.alloc (.cells #[.bool dd, .int .i64 I, .int .i64 N_, .int .u32 (x : Int)] 40)).heap[wr.heap.size]? = some (.cells #[.bool dd, .int .i64 I, .int .i64 N_, .int .u32 (x : Int)] 40 (0, 0))) := heap_alloc_last wr _
      clear hvr hcl hX hx hq
      go_upto_region 16 with fail
      clear h0 h1 h2 h3 hcx
      have HR1 : Hid (Rl w0 (wr.alloc (.cells #[.bool dd, .int .i64 I, .int .i64 N_, .int .u32 (x : Int)] 40)) (.slice (some ⟨g, 0, none⟩) V lc) (.slice ra k rc) vals l k) := HR.out.new HC1.out
      clear HR HC1
      generalize wr.alloc (.cells #[.bool dd, .int .i64 I, .int .i64 N_, .int .u32 (x : Int)] 40) = w2 at *
      generalize wr.heap.size = O at *
      obtain ⟨jA, hjA, hjz, hj4, hj32⟩ := info_parts infoA
      have c8 := chg_one w2 (.cells #[.bool dd, .int .i64 I, .int .i64 N_, .int .u32 (x : Int)] 40)
      have hown := (HR1.out.new c8).row
      have hsz := (HR1.out.new c8).chg.size
      have HR8 : Hid (Rl w0 (w2.alloc (.cells #[.bool dd, .int .i64 I, .int .i64 N_, .int .u32 (x : Int)] 40)) (.slice (some ⟨g, 0, none⟩) V lc) (.slice ra k rc) vals l k) := HR1.out.new c8
      have hsrc := from_a w2 (.bool dd) (.int .i64 I) (.int .i64 N_) (.int .u32 (x : Int)) 40
      obtain ⟨n0, n1, n2, n3, _⟩ := rcells4 HBX.out
      clear c8
      go_wp2_with (at_builtin; refine wpList_append_moved rfl _ _ 23 rfl w0.heap.size 40 jA (.agg #[.bool false, .int .i64 0, .int .i64 0, .int .u32 0]) 4 32 Try.underlying23 hjA hjz hj4 hj32 rfl (by decide) _ k (((relay vals l).take k).flatMap Q.cells) rfl (some ⟨w2.heap.size, 0, none⟩) 1 1 rfl [.bool dd, .int .i64 I, .int .i64 N_, .int .u32 (x : Int)] hown hsrc (fun u hu => by simp at hu; rcases hu with rfl | rfl | rfl | rfl <;> rfl) (by unfold maxLen; omega) (by omega) hsz ?_)
      intro v9 w9 ho9 hg9 _
      have HR9 : Hid (Rl w0 w9 (.slice (some ⟨g, 0, none⟩) V lc) v9 vals l (k + 1)) := HR8.out.push HX.out HQ.out ho9 hg9
      obtain ⟨ra9, rc9, hv9⟩ := form4 HR9.out.row
      clear ho9 hg9 hown hsrc n0 n1 n2 n3
      subst hv9
      go_wp2_with fail
      go_roundw
      case rel => exact ⟨k + 1, by omega, by go_num, HR9.out⟩
      case measure => simp [intOf]; omega
    · obtain rfl : k = V := by omega
      have hd : decide ((k : Int) < (k : Int)) = false := by simp
      obtain ⟨ra, rc, hl2⟩ := form4 HR.out.row
      subst hl2
      have hro := HR.out.row
      rw [List.take_of_length_le (by rw [hV, HV.out]; exact Nat.le_refl _)] at hro
      obtain ⟨l', hl'⟩ : ∃ l', relay vals l = l' := ⟨_, rfl⟩
      rw [hl'] at hro hV
      have HM := again_math hdig l HO1.out (In31.half N)
      have HAL := (relay_all hdig l HO1.out (In31.half N)).1
      have HSM := decL_small hdig l HO1.out (In31.half N)
      rw [HVS.out] at HM HAL HSM
      simp only [hl'] at HM HAL
      have HAS : Hid (Asks wr ra l') := asks_own hro (fun q hq => HSM _ (relay_small vals l q (by rw [hl']; exact hq)))
      have HOK : Hid (∀ q ∈ l', q.ok N) := fun q hq => by have := HAL q hq; rwa [List.length_replicate] at this
      have HL5 : Hid (l'.length = k) := by show l'.length = k; rw [hV]; exact HV.out
      have HVR : Hid (wr.ownsRow w0.heap.size 38 1 (.slice la k lc) k (ins .u32 (nums vals))) := by have h9 := HR.out.vrow; rw [HV.out] at h9; exact h9
      have HRO : Hid (wr.ownsRow w0.heap.size 40 4 (.slice ra k rc) k (l'.flatMap Q.cells)) := hro
      have HC4 : Hid (Chg (fun _ => False) w0 wr) := HR.out.chg
      obtain ⟨F, hF⟩ : ∃ F, (encL l' Rc.start (List.replicate N 1024)).1 = F := ⟨_, rfl⟩
      simp only [hF] at HM
      obtain ⟨m1, m2, m3, m4, m5⟩ := HM
      have HM1 : Hid ((Rc.by_ F).getD 0 0 = 0 ∧ Rc.code5 (Rc.by_ F) < 4294967295) := ⟨m1, m2⟩
      have HM3 : Hid _ := m3
      have HM4 : Hid _ := m4
      have HM5 : Hid _ := m5
      have HFF : Hid ((encL l' Rc.start (List.replicate N 1024)).1 = F) := hF
      have hkL : k ≤ 4398046510976 := by have := HVL.out; have := HV.out; have := HLL.out; omega
      clear hl' HAL HSM HR hro m1 m2 m3 m4 m5 hF hV HVS
      go_wp2_with fail
      refine (encoded_any N ra k rc l' _ HAS.out HL5.out (by omega) hkL).mono ?_
      rintro z w4 ⟨bv, l3, a3, s3, v3, u3, rfl, hob, hA8⟩
      rw [HFF.out] at hob
      have hmay : (may N (l'.take k)).length = k := by rw [List.take_of_length_le (by rw [HL5.out]; exact Nat.le_refl _), may_all HOK.out]; exact HL5.out
      obtain ⟨q3, r3, hl3⟩ := form4 hA8.ec.row
      rw [hmay] at hl3
      have HFK : Hid (F.k ≤ 32 * k) := by have h9 := hA8.le; rw [HFF.out] at h9; exact h9
      have c4 := hA8.ec.chg
      have HC5 : Hid (Chg (fun _ => False) w0 w4) := chg_then HC4.out c4
      have HAS5 : Hid (Asks w4 ra l') := HAS.out.new c4
      have HRO5 : Hid (w4.ownsRow w0.heap.size 40 4 (.slice ra k rc) k (l'.flatMap Q.cells)) := own_keep4 HRO.out c4 (fun _ _ f => f)
      have HVR5 : Hid (w4.ownsRow w0.heap.size 38 1 (.slice la k lc) k (ins .u32 (nums vals))) := ownsRow_keep HVR.out c4 (fun _ _ f => f)
      obtain ⟨K, hK5⟩ : ∃ K, F.k + 5 = K := ⟨_, rfl⟩
      have HK : Hid (F.k + 5 = K) := hK5
      rw [hK5] at hob
      obtain ⟨ba, bc, hbv⟩ := form1 hob
      subst hbv hl3
      have HRB : Hid (Row8 w4 ba K bc (nums (Rc.by_ F))) := row8_own hob
      have hK6 : K ≤ 140737488355328 := by have := HFK.out; omega
      have HBY : Hid ((Rc.by_ F).length = K) := by show (Rc.dg _ _).length = K; rw [Rc.dg_len]; exact hK5
      clear hA8 hob hmay c4 hK5 HAS HRO HVR HC4
      go_wp2_with fail
      refine (S.new ba K bc (Rc.by_ F) _ HRB.out (Rc.dg_dig _ _) hK6).mono ?_
      rintro z w5 (⟨h1, rfl, c1⟩ | ⟨h1, h2, rfl, c1⟩ | ⟨h1, h2, h3, a5, v5, rfl, hD5, c5⟩)
      · exfalso; have := HBY.out; have := HK.out; omega
      · exfalso; rcases h2 with h2 | h2; exact h2 HM1.out.1; have := HM1.out.2; omega
      have HD5 : Hid (Dec w5 w4.heap.size a5 v5 (Rc.by_ F) ⟨5, 4294967295, Rc.code5 (Rc.by_ F)⟩) := hD5
      have HO5 : Hid (OkD (Rc.by_ F) ⟨5, 4294967295, Rc.code5 (Rc.by_ F)⟩) := ⟨by show 16777216 ≤ 4294967295; omega, by show 4294967295 ≤ 4294967295; omega, h3, h1⟩
      have HC45 : Hid (Chg (fun _ => False) w4 w5) := c5
      clear hD5 c5 h1 h2 h3
      go_wp2_with fail
      refine (new_in N _ (by omega)).mono ?_
      rintro z w6 ⟨s6, u6, rfl, hs6, hS6, c6⟩
      have HD6 : Hid (Dec w6 w4.heap.size a5 v5 (Rc.by_ F) ⟨5, 4294967295, Rc.code5 (Rc.by_ F)⟩) := S.keep HD5.out c6 (fun f => f) (fun _ _ f => f)
      have HS6 : Hid (St w6 w4.heap.size s6 u6 (List.replicate N 1024)) := ⟨Nat.le_trans HC45.out.size hs6, hS6.blk, owns_base hS6.own HC45.out.size⟩
      have HC46 : Hid (Chg (fun _ => False) w4 w6) := chg_then HC45.out c6
      clear hS6 c6 HD5 HC45 hs6
      go_wp2_with fail
      refine (num_any _ _).mono ?_
      rintro z w7 ⟨rfl, rfl⟩
      go_wp2_with fail
      refine (num_any _ _).mono ?_
      rintro z w7 ⟨rfl, rfl⟩
      go_wp2_with fail
      refine (answered_any S w4.heap.size w4.heap.size a5 s6 v5 u6 (Rc.by_ F) ⟨5, 4294967295, Rc.code5 (Rc.by_ F)⟩ (List.replicate N 1024) ra k rc l' _ HD6.out HO5.out (Rc.dg_dig _ _) (by rw [HBY.out]; exact hK6) HS6.out (In31.half N) HC46.out.size (HAS5.out.new HC46.out) HL5.out hkL ?_).mono ?_
      · intro x ex hne f
        have h9 := HAS5.out.old x ex hne
        rcases f with f | f
        · have := S.base HD6.out
          omega
        · have := (HS6.out.own.lt _ f).1
          omega
      rintro z w7 ⟨y7, rfl, hT⟩
      rw [HM4.out, HK.out]
      have hrow := hT.row
      rw [HM3.out, HV.out] at hrow
      have HDE : Hid (Dec w7 w4.heap.size a5 v5 (Rc.by_ F) _) := hT.dec
      have HC47 : Hid (Chg (fun _ => False) w4 w7) := HC46.out.trans hT.chg (fun z f => .inr (by
        rcases f with f | f
        · rw [f]; exact S.base HD6.out
        · exact (HS6.out.own.lt z f).1))
      obtain ⟨ya, yc, hy⟩ := form1 hrow
      subst hy
      have HYR : Hid (w7.ownsRow w6.heap.size 38 1 (.slice ya k yc) k (ins .u32 (nums vals))) := hrow
      have HXR : Hid (w7.ownsRow w0.heap.size 38 1 (.slice la k lc) k (ins .u32 (nums vals))) := ownsRow_keep HVR5.out HC47.out (fun _ _ f => f)
      clear hT hrow
      go_wp2_with fail
      refine (S.done _ a5 v5 _ _ _ HDE.out).mono ?_
      rintro z w8 ⟨rfl, c8⟩
      have hdn : decide ((decL (Rc.by_ F) l' ⟨5, 4294967295, Rc.code5 (Rc.by_ F)⟩ (List.replicate N 1024)).2.1.n = (Rc.by_ F).length ∧ (decL (Rc.by_ F) l' ⟨5, 4294967295, Rc.code5 (Rc.by_ F)⟩ (List.replicate N 1024)).2.1.C = 0) = true := by
        rw [HM4.out, HM5.out, HBY.out, HK.out]
        simp
      rw [hdn]
      have HY8 : Hid (w8.ownsRow w6.heap.size 38 1 (.slice ya k yc) k (ins .u32 (nums vals))) := ownsRow_keep HYR.out c8 (fun _ _ f => f)
      have HX8 : Hid (w8.ownsRow w0.heap.size 38 1 (.slice la k lc) k (ins .u32 (nums vals))) := ownsRow_keep HXR.out c8 (fun _ _ f => f)
      have HC8 : Hid (Chg (fun _ => False) w0 w8) := chg_then HC5.out (chg_then HC47.out c8)
      clear hdn c8 HYR HXR HDE
      go_wp2_with fail
      go_loopw [162] (fun iv wr => ∃ j : Nat, j ≤ k ∧ iv = .int .i64 (j : Int) ∧ Hid (Chg (fun _ => False) w8 wr)) (fun iv _ => k - (intOf iv).toNat)
      case atStart => exact ⟨0, Nat.zero_le _, rfl, Chg.refl _ _⟩
      case round =>
        obtain ⟨j, hj, rfl, HCJ⟩ := hrel
        by_cases hjk : j < k
        · obtain ⟨x, hx⟩ : ∃ x, vals[j]? = some x := ⟨_, List.getElem?_eq_getElem (by rw [HV.out]; exact hjk)⟩
          obtain ⟨g1, c1, e1, _, _, _, _, _, k1⟩ := own_some (ownsRow_keep HX8.out HCJ.out (fun _ _ f => f)) (by omega)
          obtain ⟨g2, c2, e2, _, _, _, _, _, k2⟩ := own_some (ownsRow_keep HY8.out HCJ.out (fun _ _ f => f)) (by omega)
          cases e1
          cases e2
          have hx1 : wr.cell? ⟨g1, j, none⟩ = some (.int .u32 (x : Int)) := k1 j _ (by simp [ins, nums, hx])
          have hx2 : wr.cell? ⟨g2, j, none⟩ = some (.int .u32 (x : Int)) := k2 j _ (by simp [ins, nums, hx])
          clear k1 k2 hx
          go_wp2_with fail
          go_quiet (fail)
          go_wp2_with fail
          go_roundw
          case rel => exact ⟨j + 1, by omega, by go_num, chg_then HCJ.out (chg_drewN _ _)⟩
          case measure => simp [intOf]; omega
        · obtain rfl : j = k := by omega
          have hd9 : decide ((j : Int) < (j : Int)) = false := by simp
          have HCE : Hid (Chg (fun _ => False) w0 wr) := chg_then HC8.out HCJ.out
          go_wp2
          go_ret
          exact ⟨rfl, HCE.out⟩
end Go.Proofs.Ytejopgopcocapaa
