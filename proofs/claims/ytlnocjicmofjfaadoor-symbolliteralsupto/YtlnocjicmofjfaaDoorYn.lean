/- SymbolNames' walk; of no statement by itself. -/
import Derived.Test.YtlnocjicmofjfaaDoorYk
import Derived.Test.YtlnocjicmofjfaaDoorVh
namespace Go.Proofs.YtlnocjicmofjfaaDoor
open Go.RowKit
open St12 Sy13
set_option linter.unusedVariables false
set_option linter.unusedSimpArgs false

variable {Win : World → Nat → Nat → Value → Nat → List Nat → Prop} {Tab : World → Prop}
namespace Sy13
theorem run_at {n : Nat} {row : List Sym} {all : List Nat} {sf : Stt} {k : Nat} {y : Sym} {bs : List Nat} {s : Stt} (h : runA n [] st0 row = some (all, sf)) (hy : row[k]? = some y) (hk : runA n [] st0 (row.take k) = some (bs, s)) : (app n bs s y).2.2 = 0 ∧ ∃ tl, all = bs ++ (app n bs s y).1 ++ tl := by
  obtain ⟨b2, s2, h1, h2⟩ := run_split k h
  rw [hk] at h1
  simp only [Option.some.injEq, Prod.mk.injEq] at h1
  obtain ⟨rfl, rfl⟩ := h1
  have hlt := (List.getElem?_eq_some_iff.1 hy).1
  rw [show row.drop k = y :: row.drop (k + 1) by rw [← (List.getElem?_eq_some_iff.1 hy).2, List.getElem_cons_drop]] at h2
  simp only [runA] at h2
  split at h2
  · next h3 =>
    obtain ⟨_, tl, h4⟩ := run_len h2
    exact ⟨h3, tl, h4⟩
  · simp at h2
end Sy13
theorem run_dig {n : Nat} : ∀ {row : List Sym} {bs : List Nat} {s : Stt} {bs' : List Nat} {s' : Stt}, runA n bs s row = some (bs', s') → Rc.Dig bs → (∀ y ∈ row, y.I) → Rc.Dig bs'
  | [], bs, s, bs', s', h, hb, hI => by
    simp only [runA, Option.some.injEq, Prod.mk.injEq] at h
    rw [← h.1]
    exact hb
  | y :: row, bs, s, bs', s', h, hb, hI => by
    simp only [runA] at h
    split at h
    · refine run_dig h (fun x hx => ?_) (fun z hz => hI z (List.mem_cons_of_mem _ hz))
      rcases List.mem_append.1 hx with h1 | h1
      · exact hb x h1
      · exact app_dig (hI y (List.mem_cons_self ..)) hb x h1
    · simp at h
theorem symI (k y l d : Int) (hk : I64 k) (hl : I64 l) (hd : I64 d) (hy : 0 ≤ y ∧ y ≤ 255) : (⟨k, y, l, d⟩ : Sym).I := ⟨hk, hl, hd, hy⟩
theorem rep4_cell {w : World} {g : Nat} {s : Stt} {t : TypeId} (h : w.heap[g]? = some (.cells #[.int .i64 s.n, .int .i64 s.a, .int .i64 s.b, .int .i64 s.c, .int .i64 s.d] t (0, 0))) {j : Nat} (hj : j < 4) : w.cell? ⟨g, 1 + j, none⟩ = some (.int .i64 (rep4 s (j : Int))) := by
  obtain ⟨_, k1, k2, k3, k4⟩ := cells5 h
  rcases j with _ | _ | _ | _ | j
  · exact k1
  · exact k2
  · exact k3
  · exact k4
  · omega
set_option maxHeartbeats 16000000 in
set_option maxRecDepth 100000 in
theorem names_any (S : WinSpec Win) (T : StSpec Tab) (Y : SymSpec Win Tab) (dict : Int) (ad : Option Addr) (c len : Nat) (l : List Sym) (w0 : World) (hT : Tab w0) (hL : l.length = len) (hl : SymL w0 ad l) (hle : len ≤ 1048576) : Calls Tryd.prog 3 #[.int .i64 dict, .slice ad len c] w0 fun e w' => e = .returned (.bool true) ∧ Chg (fun _ => False) w0 w' := by
  obtain ⟨iu, hiu, hu0, hu1, hu2⟩ := info_parts infoU8
  obtain ⟨iy, hiy, hy0, hy1, hy2⟩ := info_parts infoSym
  obtain ⟨n, hn⟩ : ∃ n, dictN dict = n := ⟨_, rfl⟩
  have hn1 := dictN_in dict
  rw [hn] at hn1
  have HD : Hid (∀ w, Calls Tryd.prog 8 #[.int .i64 dict] w fun e w' => e = .returned (.int .i64 (n : Int)) ∧ w' = w) := fun w => by rw [← hn]; exact lsize_q dict w
  have HR : Hid _ := right_any S T Y n hn1.1 (by omega) ad c len l w0 hT hL hl hle
  have HT : Hid (Tab w0) := hT
  have HS0 : Hid (∀ w, Tab w → Calls Tryd.prog 11 #[] w fun e w' => e = .returned (.agg #[.int .i64 0, .int .i64 1, .int .i64 1, .int .i64 1, .int .i64 1]) ∧ Chg (fun _ => False) w w') := T.new
  obtain ⟨hna, hnb⟩ := hn1
  clear hl hL hT hn
  go_enter Tryd.func3, Tryd.ntmps3
  go_wp2_with fail
  refine (HD.out _).mono ?_
  rintro z w ⟨rfl, rfl⟩
  go_wp2_with fail
  refine Calls.mono HR.out ?_
  rintro z w1 ⟨rv, av, row, all, sf, rfl, hrun, hrow, hall, hlen, hok, c1⟩
  have HC1 : Hid (Chg (fun _ => False) w w1) := c1
  have HKN : Hid _ := known_any Y w1 (Y.new HT.out c1)
  have HRUN : Hid (runA n [] st0 row = some (all, sf)) := hrun
  have HOK : Hid (∀ y ∈ row, y.I) := hok
  have HROW : Hid (SymO w1 w.heap.size rv row) := hrow
  obtain ⟨rL, hrl⟩ : ∃ rL, row.length = rL := ⟨_, rfl⟩
  obtain ⟨aL, hal⟩ : ∃ aL, all.length = aL := ⟨_, rfl⟩
  have HRL : Hid (row.length = rL) := hrl
  have HAL : Hid (all.length = aL) := hal
  rw [hrl] at hlen
  have HBA : Hid (aL ≤ 273 * 1048576) := by have := run_bound hrun; rw [hal, hrl] at this; show _ ≤ _; omega
  obtain ⟨ra, rc, hrv, hsl, hrc⟩ := hrow.list hok
  rw [hrl] at hrv hrc
  have HSL : Hid (SymL w1 ra row) := hsl
  rw [hal] at hall
  have HALL : Hid (w1.ownsRow w.heap.size 5 1 av aL (ins .u8 (nums all))) := hall
  obtain ⟨aa, ac, hav⟩ := form1 hall
  subst hrv
  subst hav
  clear hrun hrow hall hok c1 HR HD hsl hrl hal
  go_wp2_with fail
  refine Calls.mono HKN.out ?_
  rintro z w2 ⟨rfl, c2⟩
  have HC2 : Hid (Chg (fun _ => False) w1 w2) := c2
  clear HKN c2
  go_wp2_with fail
  refine (HS0.out _ (Y.new HT.out (chg_then HC1.out HC2.out))).mono ?_
  rintro z w3 ⟨rfl, c3⟩
  have cN := chg_one w3 (.cells #[.int .i64 0, .int .i64 1, .int .i64 1, .int .i64 1, .int .i64 1] 30)
  have HC3 : Hid (Chg (fun _ => False) w1 (w3.alloc (.cells #[.int .i64 0, .int .i64 1, .int .i64 1, .int .i64 1, .int .i64 1] 30))) := chg_then (chg_then HC2.out c3) cN
  have HS3 : Hid ((w3.alloc (.cells #[.int .i64 0, .int .i64 1, .int .i64 1, .int .i64 1, .int .i64 1] 30)).heap[w3.heap.size]? = some (.cells #[.int .i64 0, .int .i64 1, .int .i64 1, .int .i64 1, .int .i64 1] 30 (0, 0))) := heap_alloc_last _ _
  have HG8 : Hid (w1.heap.size ≤ w3.heap.size) := (chg_then HC2.out c3).size
  have HT1 : Hid (Tab w1) := Y.new HT.out HC1.out
  clear c3 cN HC2 HS0
  go_wp2_with fail
  generalize w3.alloc (.cells #[.int .i64 0, .int .i64 1, .int .i64 1, .int .i64 1, .int .i64 1] 30) = W3 at *
  generalize w3.heap.size = g8 at *
  generalize hW1 : w1 = W1 at *
  clear hW1
  go_loopw [9, 10, 37] (fun v1 v2 v3 wr => ∃ (k at' pc : Nat) (pa : Option Addr) (bs : List Nat) (plain : List Sym) (s s2 : Stt), k ≤ rL ∧ v1 = .int .i64 (at' : Int) ∧ v2 = .slice pa k pc ∧ v3 = .int .i64 (k : Int) ∧ Hid ((runA n [] st0 (row.take k) = some (bs, s) ∧ bs.length = at') ∧ runA n [] st0 plain = some (bs, s2) ∧ plain.length = k ∧ (∀ y ∈ plain, y.I) ∧ SymO wr W1.heap.size (.slice pa k pc) plain ∧ wr.heap[g8]? = some (.cells #[.int .i64 s.n, .int .i64 s.a, .int .i64 s.b, .int .i64 s.c, .int .i64 s.d] 30 (0, 0)) ∧ Chg (fun _ => False) W1 wr)) (fun _ _ v3 _ => rL - (intOf v3).toNat)
  case atStart => exact ⟨0, 0, 0, none, [], [], st0, st0, by omega, rfl, rfl, rfl, ⟨rfl, rfl⟩, rfl, rfl, (fun y hy => by cases hy), SymO.nil _ _, HS3.out, HC3.out⟩
  case round =>
    clear HC3 HS3
    obtain ⟨k, at', pc, pa, bs, plain, s, s2, hk, rfl, rfl, rfl, HI⟩ := hrel
    have hki : (k : Int) ≤ (rL : Int) := by omega
    have hrli : (rL : Int) ≤ 1048576 := by omega
    by_cases hlt : k < rL
    · have hd1 : decide ((k : Int) < (rL : Int)) = true := by simp; omega
      have hd1' : decide (k < rL) = true := decide_eq_true hlt
      obtain ⟨y, hy⟩ : ∃ y, row[k]? = some y := ⟨row[k]'(by have := HRL.out; omega), List.getElem?_eq_getElem _⟩
      obtain ⟨hap0, tl, htl⟩ := run_at HRUN.out hy HI.out.1.1
      obtain ⟨xs, t, er, hap⟩ : ∃ xs t er, app n bs s y = (xs, t, er) := ⟨_, _, _, rfl⟩
      rw [hap] at hap0 htl
      simp only at hap0 htl
      subst hap0
      have hnx := app_next (n := n) (bs := bs) (s := s) (y := y) (by rw [hap])
      have hlen9 := app_len (n := n) (bs := bs) (s := s) (y := y) (by rw [hap])
      rw [hap] at hnx hlen9
      simp only at hnx hlen9
      obtain ⟨hsr, hfo⟩ := nxt_err hnx.1
      have HRK : Hid (runA n [] st0 (row.take (k + 1)) = some (bs ++ xs, t) ∧ (bs ++ xs).length = at' + (sizeA y).toNat) := by
        have h9 := run_next HI.out.1.1 hy (by rw [hap])
        rw [hap] at h9
        refine ⟨h9, ?_⟩
        rw [List.length_append, HI.out.1.2, hlen9.1]
      have HTL : Hid (all = bs ++ xs ++ tl) := htl
      obtain ⟨hyi, lb, lo, had, k0, k1, k2, k3⟩ := HSL.out.new HI.out.2.2.2.2.2.2 k y hy
      have HNX : Hid (∀ w_, Tab w_ → Calls Tryd.prog 12 #[.agg #[.int .i64 s.n, .int .i64 s.a, .int .i64 s.b, .int .i64 s.c, .int .i64 s.d], .agg #[.int .i64 y.k, .int .u8 y.y, .int .i64 y.l, .int .i64 y.d]] w_ fun e w' => e = .returned (.tuple #[.agg #[.int .i64 t.n, .int .i64 t.a, .int .i64 t.b, .int .i64 t.c, .int .i64 t.d], .int .i64 0]) ∧ Chg (fun _ => False) w_ w') := fun w_ h => by
        have h9 := T.next s y w_ h (right_I hsr) hyi
        rw [hnx.1, ← hnx.2] at h9
        exact h9
      obtain ⟨sz, hsz⟩ : ∃ sz : Nat, sizeA y = (sz : Int) := ⟨(sizeA y).toNat, by have := sizeA_le y; omega⟩
      have HSI : Hid (∀ w_, Tab w_ → Calls Tryd.prog 13 #[.agg #[.int .i64 y.k, .int .u8 y.y, .int .i64 y.l, .int .i64 y.d]] w_ fun e w' => e = .returned (.int .i64 (sz : Int)) ∧ Chg (fun _ => False) w_ w') := fun w_ h => by
        have h9 := Y.size y w_ h hyi
        rw [hsz] at h9
        exact h9
      have hsz1 : sz ≤ 273 ∧ 1 ≤ sz := by have := sizeA_in hfo; omega
      rw [hsz, Int.toNat_natCast] at HRK hlen9
      have hatl : at' + sz ≤ aL := by
        have h9 := congrArg List.length HTL.out
        rw [HAL.out, List.length_append, HRK.out.2] at h9
        omega
      have hba := HBA.out
      obtain ⟨b0, hb0⟩ : ∃ b0, xs[0]? = some b0 := ⟨xs[0]'(by omega), List.getElem?_eq_getElem _⟩
      have hallat : all[at']? = some b0 := by
        rw [HTL.out, List.append_assoc, List.getElem?_append_right (by have := HI.out.1.2; omega), HI.out.1.2, Nat.sub_self, List.getElem?_append_left (by omega)]
        exact hb0
      obtain ⟨s3', hs3⟩ : ∃ s3', s3' = (app n bs s2 (plainY s y b0)).2.1 := ⟨_, rfl⟩
      have hpl9 := app_plain (n := n) (bs := bs) (s := s) (y := y) (run_right HI.out.2.1 (by decide)) (by rw [hap]) (b := b0) (by rw [hap]; exact hb0)
      rw [hap] at hpl9
      simp only at hpl9
      have HRN2 : Hid (runA n [] st0 (plain ++ [plainY s y b0]) = some (bs ++ xs, s3') ∧ (plain ++ [plainY s y b0]).length = k + 1) := by
        have h9 := run_snoc HI.out.2.1 hpl9.2
        rw [hpl9.1, ← hs3] at h9
        exact ⟨h9, by rw [List.length_append, HI.out.2.2.1]; rfl⟩
      have HALT : Hid (all[at']? = some b0) := hallat
      have HPP : Hid ((∀ y ∈ plain, y.I) ∧ plain.length = k) := ⟨HI.out.2.2.2.1, HI.out.2.2.1⟩
      have HPL : Hid (plain.length = k) := HI.out.2.2.1
      have HPW : Hid (SymO wr W1.heap.size (.slice pa k pc) plain) := HI.out.2.2.2.2.1
      have HSW : Hid (wr.heap[g8]? = some (.cells #[.int .i64 s.n, .int .i64 s.a, .int .i64 s.b, .int .i64 s.c, .int .i64 s.d] 30 (0, 0))) := HI.out.2.2.2.2.2.1
      have HCW : Hid (Chg (fun _ => False) W1 wr) := HI.out.2.2.2.2.2.2
      have HB0 : Hid (b0 < 256) := run_dig HRUN.out (fun x hx => by cases hx) HOK.out b0 (List.mem_of_getElem? hallat)
      have HYI : Hid y.I := hyi
      have HSR : Hid (right s) := hsr
      have HGY : Hid (W1.heap.size ≤ wr.heap.size + 1) := by have := HCW.out.size; show _ ≤ _; omega
      have hkind := formed_kind hfo
      clear HI hap hnx hlen9 htl hb0 hallat hs3 hpl9 hsz hsr hfo hy
      obtain ⟨kk, yb, yl, yd⟩ := y
      simp only at hkind k0 k1 k2 k3 HNX HSI
      subst had
      rcases hkind with rfl | ⟨rfl, h1, h2, h3, h4⟩ | ⟨rfl, h1, h2, h3, h4⟩ | rfl
      · skip
        have cA : Chg (fun _ => False) wr ((wr.alloc (.cells #[.int .i64 1, .int .u8 yb, .int .i64 yl, .int .i64 yd] 33)).alloc (.cells #[.int .i64 1, .int .u8 yb, .int .i64 yl, .int .i64 yd] 33)) := chg_then (chg_one _ _) (chg_one _ _)
        have HCZ : Hid (Chg (fun _ => False) W1 ((wr.alloc (.cells #[.int .i64 1, .int .u8 yb, .int .i64 yl, .int .i64 yd] 33)).alloc (.cells #[.int .i64 1, .int .u8 yb, .int .i64 yl, .int .i64 yd] 33))) := chg_then HCW.out cA
        have HSZ : Hid (((wr.alloc (.cells #[.int .i64 1, .int .u8 yb, .int .i64 yl, .int .i64 yd] 33)).alloc (.cells #[.int .i64 1, .int .u8 yb, .int .i64 yl, .int .i64 yd] 33)).heap[g8]? = some (.cells #[.int .i64 s.n, .int .i64 s.a, .int .i64 s.b, .int .i64 s.c, .int .i64 s.d] 30 (0, 0))) := blk_keep HSW.out cA (fun f => f)
        have HPZ : Hid (SymO ((wr.alloc (.cells #[.int .i64 1, .int .u8 yb, .int .i64 yl, .int .i64 yd] 33)).alloc (.cells #[.int .i64 1, .int .u8 yb, .int .i64 yl, .int .i64 yd] 33)) W1.heap.size (.slice pa k pc) plain) := HPW.out.new cA
        have HYZ : Hid (((wr.alloc (.cells #[.int .i64 1, .int .u8 yb, .int .i64 yl, .int .i64 yd] 33)).alloc (.cells #[.int .i64 1, .int .u8 yb, .int .i64 yl, .int .i64 yd] 33)).heap[wr.heap.size]? = some (.cells #[.int .i64 1, .int .u8 yb, .int .i64 yl, .int .i64 yd] 33 (0, 0))) := (Below.heap_alloc _ _ _ (by simp)).trans (heap_alloc_last wr _)
        have HZB : Hid (((wr.alloc (.cells #[.int .i64 1, .int .u8 yb, .int .i64 yl, .int .i64 yd] 33)).alloc (.cells #[.int .i64 1, .int .u8 yb, .int .i64 yl, .int .i64 yd] 33)).heap[wr.heap.size + 1]? = some (.cells #[.int .i64 1, .int .u8 yb, .int .i64 yl, .int .i64 yd] 33 (0, 0))) := by
          have := heap_alloc_last (wr.alloc (.cells #[.int .i64 1, .int .u8 yb, .int .i64 yl, .int .i64 yd] 33)) (.cells #[.int .i64 1, .int .u8 yb, .int .i64 yl, .int .i64 yd] 33)
          rw [World.size_alloc] at this
          exact this
        have HPY : Hid (∀ z, (Value.slice pa k pc).ownBlock = some z → ¬ z = wr.heap.size) := fun z e => by have := (HPW.out.lt e).2; omega
        have HRZ : Hid (runA n [] st0 (plain ++ [⟨1, yb, yl, yd⟩]) = some (bs ++ xs, s3') ∧ (plain ++ [(⟨1, yb, yl, yd⟩ : Sym)]).length = k + 1) := HRN2.out
        have HPI : Hid (∀ z ∈ plain ++ [(⟨1, yb, yl, yd⟩ : Sym)], z.I) := fun z hz => by
          rcases List.mem_append.1 hz with h | h
          · exact HPP.out.1 z h
          · simp only [List.mem_singleton] at h
            rw [h]
            exact HYI.out
        clear cA HCW HSW HPW HRN2
        go_upto_region 18 with fail
        generalize (wr.alloc (.cells #[.int .i64 1, .int .u8 yb, .int .i64 yl, .int .i64 yd] 33)).alloc (.cells #[.int .i64 1, .int .u8 yb, .int .i64 yl, .int .i64 yd] 33) = Wz at *
        generalize wr.heap.size = gy at *
        clear k0 k1 k2 k3
        obtain ⟨z0, z1, z2, z3⟩ := cells4y HZB.out
        have c10 := chg_one Wz (.cells #[.int .i64 1, .int .u8 yb, .int .i64 yl, .int .i64 yd] 33)
        have hsrc := from_sym Wz ⟨1, yb, yl, yd⟩ 33
        have hone := symcs_cell [⟨1, yb, yl, yd⟩]
        have hown : (Wz.alloc (.cells #[.int .i64 1, .int .u8 yb, .int .i64 yl, .int .i64 yd] 33)).ownsRow W1.heap.size 33 4 (.slice pa k pc) k (symcs plain) := by have h9 := SymO.new (w := Wz) (B := W1.heap.size) (v := .slice pa k pc) (l := plain) HPZ.out c10; unfold SymO at h9; rw [HPL.out] at h9; exact h9
        have hB8 : W1.heap.size ≤ (Wz.alloc (.cells #[.int .i64 1, .int .u8 yb, .int .i64 yl, .int .i64 yd] 33)).heap.size := by have := HCZ.out.size; rw [World.size_alloc]; omega
        go_wp2_with (at_builtin; refine wpList_append_moved rfl _ _ 22 rfl W1.heap.size 33 iy (.agg #[.int .i64 0, .int .u8 0, .int .i64 0, .int .i64 0]) 4 32 Tryd.underlying22 hiy hy0 hy1 hy2 rfl (by decide) _ k (symcs plain) rfl (some ⟨Wz.heap.size, 0, none⟩) 1 1 rfl (symcs [⟨1, yb, yl, yd⟩]) hown hsrc hone (by unfold maxLen; omega) (by omega) hB8 ?_)
        intro v9 w9 ho9 hg9 hm9
        obtain ⟨a9, d9, hv9⟩ := formSym ho9
        subst hv9
        have c9 : Chg (fun z => (Value.slice pa k pc).ownBlock = some z) (Wz.alloc (.cells #[.int .i64 1, .int .u8 yb, .int .i64 yl, .int .i64 yd] 33)) w9 := (Chg.refl _ _).grown hg9 (fun z e => .inl e)
        have HP9 : Hid (SymO w9 W1.heap.size (.slice a9 (k + 1) d9) (plain ++ [⟨1, yb, yl, yd⟩])) := sym_app ho9 (by rw [List.length_append, HPL.out]; rfl)
        have HC9 : Hid (Chg (fun _ => False) W1 w9) := (chg_then HCZ.out c10).trans c9 (fun z e => .inr (World.ownsRow.lt hown z e).1)
        have HS9 : Hid (w9.heap[g8]? = some (.cells #[.int .i64 s.n, .int .i64 s.a, .int .i64 s.b, .int .i64 s.c, .int .i64 s.d] 30 (0, 0))) := blk_keep (blk_keep HSZ.out c10 (fun f => f)) c9 (fun e => by
          obtain ⟨cs, hcs⟩ := Bk.own_blk hown e
          exact ty_ne hcs (blk_keep HSZ.out c10 (fun f => f)) (by decide))
        have HY9 : Hid (w9.heap[gy]? = some (.cells #[.int .i64 1, .int .u8 yb, .int .i64 yl, .int .i64 yd] 33 (0, 0))) := blk_keep (blk_keep HYZ.out c10 (fun f => f)) c9 (fun e => HPY.out gy e rfl)
        clear ho9 hg9 hm9 c9 hown hsrc hone c10 hB8 z0 z1 z2 z3 HZB HPZ HCZ HSZ HYZ
        obtain ⟨s0, s1, s2, s3, s4⟩ := cells5 HS9.out
        obtain ⟨y0, y1, y2, y3⟩ := cells4y HY9.out
        go_wp2_with fail
        refine (HNX.out _ (Y.new HT1.out HC9.out)).mono ?_
        rintro z w10 ⟨rfl, c11⟩
        have cT := chg_one w10 (.cells #[.int .i64 t.n, .int .i64 t.a, .int .i64 t.b, .int .i64 t.c, .int .i64 t.d] 30)
        have hst : (w10.alloc (.cells #[.int .i64 t.n, .int .i64 t.a, .int .i64 t.b, .int .i64 t.c, .int .i64 t.d] 30)).heap[g8]? = some (.cells #[.int .i64 s.n, .int .i64 s.a, .int .i64 s.b, .int .i64 s.c, .int .i64 s.d] 30 (0, 0)) := blk_keep (blk_keep HS9.out c11 (fun f => f)) cT (fun f => f)
        have HT10 : Hid ((w10.alloc (.cells #[.int .i64 t.n, .int .i64 t.a, .int .i64 t.b, .int .i64 t.c, .int .i64 t.d] 30)).heap[w10.heap.size]? = some (.cells #[.int .i64 t.n, .int .i64 t.a, .int .i64 t.b, .int .i64 t.c, .int .i64 t.d] 30 (0, 0))) := heap_alloc_last _ _
        obtain ⟨x0, x1, x2, x3, x4⟩ := cells5 HT10.out
        obtain ⟨⟨p0, f0⟩, ⟨p1, f1⟩, ⟨p2, f2⟩, ⟨p3, f3⟩, ⟨p4, f4⟩, hblk, hchg⟩ := put5_of hst (.int .i64 t.n) (.int .i64 t.a) (.int .i64 t.b) (.int .i64 t.c) (.int .i64 t.d)
        have HS11 : Hid _ := hblk
        have HP11 : Hid (SymO _ W1.heap.size (.slice a9 (k + 1) d9) (plain ++ [⟨1, yb, yl, yd⟩])) := SymO.keep (SymO.new (SymO.new HP9.out c11) cT) hchg (fun z e h => by
          obtain ⟨cs, hcs⟩ := SymO.blk (SymO.new (SymO.new HP9.out c11) cT) e
          rw [h] at hcs
          exact ty_ne hcs hst (by decide))
        have HY11 : Hid _ := blk_keep (blk_keep (blk_keep HY9.out c11 (fun f => f)) cT (fun f => f)) hchg (fun h => by
          have h9 := blk_keep (blk_keep HY9.out c11 (fun f => f)) cT (fun f => f)
          rw [h] at h9
          exact ty_ne h9 hst (by decide))
        have HC11 : Hid (Chg (fun _ => False) W1 _) := (chg_then (chg_then HC9.out c11) cT).trans hchg (fun z e => .inr (by rw [e]; exact HG8.out))
        clear c11 cT hst hblk hchg HP9 HC9 HS9 HY9 HT10 s0 s1 s2 s3 s4 y0 y1 y2 y3
        go_upto_region 23 with fail
        generalize (((((w10.alloc (.cells #[.int .i64 t.n, .int .i64 t.a, .int .i64 t.b, .int .i64 t.c, .int .i64 t.d] 30)).setCell ⟨g8, 0, none⟩ (.int .i64 t.n)).setCell ⟨g8, 1, none⟩ (.int .i64 t.a)).setCell ⟨g8, 2, none⟩ (.int .i64 t.b)).setCell ⟨g8, 3, none⟩ (.int .i64 t.c)).setCell ⟨g8, 4, none⟩ (.int .i64 t.d) = W11 at *
        clear x0 x1 x2 x3 x4 p0 f0 p1 f1 p2 f2 p3 f3 p4 f4
        obtain ⟨y0, y1, y2, y3⟩ := cells4y HY11.out
        go_wp2_with fail
        refine (HSI.out _ (Y.new HT1.out HC11.out)).mono ?_
        rintro z w12 ⟨rfl, c12⟩
        have HC12 : Hid _ := chg_then HC11.out c12
        have HS12 : Hid _ := blk_keep HS11.out c12 (fun f => f)
        have HP12 : Hid (SymO w12 W1.heap.size (.slice a9 (k + 1) d9) (plain ++ [⟨1, yb, yl, yd⟩])) := SymO.new HP11.out c12
        have HY12 : Hid _ := blk_keep HY11.out c12 (fun f => f)
        clear c12 HC11 HS11 HP11 HY11 y0 y1 y2 y3
        obtain ⟨y0, y1, y2, y3⟩ := cells4y HY12.out
        go_wp2_with fail
        refine (HSI.out _ (Y.new HT1.out HC12.out)).mono ?_
        rintro z w13 ⟨rfl, c13⟩
        have HC13 : Hid _ := chg_then HC12.out c13
        have HS13 : Hid _ := blk_keep HS12.out c13 (fun f => f)
        have HP13 : Hid (SymO w13 W1.heap.size (.slice a9 (k + 1) d9) (plain ++ [⟨1, yb, yl, yd⟩])) := SymO.new HP12.out c13
        clear c13 HC12 HS12 HP12 HY12 y0 y1 y2 y3
        go_wp2_with fail
        exact ⟨⟨k + 1, at' + sz, d9, a9, bs ++ xs, plain ++ [⟨1, yb, yl, yd⟩], t, s3', by omega, by go_num, rfl, by go_num, HRK.out, HRZ.out.1, HRZ.out.2, HPI.out, HP13.out, HS13.out, HC13.out⟩, by simp [intOf]; omega⟩
      · skip
        have cA : Chg (fun _ => False) wr ((wr.alloc (.cells #[.int .i64 2, .int .u8 yb, .int .i64 yl, .int .i64 yd] 33)).alloc (.cells #[.int .i64 2, .int .u8 yb, .int .i64 yl, .int .i64 yd] 33)) := chg_then (chg_one _ _) (chg_one _ _)
        have HCZ : Hid (Chg (fun _ => False) W1 ((wr.alloc (.cells #[.int .i64 2, .int .u8 yb, .int .i64 yl, .int .i64 yd] 33)).alloc (.cells #[.int .i64 2, .int .u8 yb, .int .i64 yl, .int .i64 yd] 33))) := chg_then HCW.out cA
        have HSZ : Hid (((wr.alloc (.cells #[.int .i64 2, .int .u8 yb, .int .i64 yl, .int .i64 yd] 33)).alloc (.cells #[.int .i64 2, .int .u8 yb, .int .i64 yl, .int .i64 yd] 33)).heap[g8]? = some (.cells #[.int .i64 s.n, .int .i64 s.a, .int .i64 s.b, .int .i64 s.c, .int .i64 s.d] 30 (0, 0))) := blk_keep HSW.out cA (fun f => f)
        have HPZ : Hid (SymO ((wr.alloc (.cells #[.int .i64 2, .int .u8 yb, .int .i64 yl, .int .i64 yd] 33)).alloc (.cells #[.int .i64 2, .int .u8 yb, .int .i64 yl, .int .i64 yd] 33)) W1.heap.size (.slice pa k pc) plain) := HPW.out.new cA
        have HYZ : Hid (((wr.alloc (.cells #[.int .i64 2, .int .u8 yb, .int .i64 yl, .int .i64 yd] 33)).alloc (.cells #[.int .i64 2, .int .u8 yb, .int .i64 yl, .int .i64 yd] 33)).heap[wr.heap.size]? = some (.cells #[.int .i64 2, .int .u8 yb, .int .i64 yl, .int .i64 yd] 33 (0, 0))) := (Below.heap_alloc _ _ _ (by simp)).trans (heap_alloc_last wr _)
        have HZB : Hid (((wr.alloc (.cells #[.int .i64 2, .int .u8 yb, .int .i64 yl, .int .i64 yd] 33)).alloc (.cells #[.int .i64 2, .int .u8 yb, .int .i64 yl, .int .i64 yd] 33)).heap[wr.heap.size + 1]? = some (.cells #[.int .i64 2, .int .u8 yb, .int .i64 yl, .int .i64 yd] 33 (0, 0))) := by
          have := heap_alloc_last (wr.alloc (.cells #[.int .i64 2, .int .u8 yb, .int .i64 yl, .int .i64 yd] 33)) (.cells #[.int .i64 2, .int .u8 yb, .int .i64 yl, .int .i64 yd] 33)
          rw [World.size_alloc] at this
          exact this
        have HPY : Hid (∀ z, (Value.slice pa k pc).ownBlock = some z → ¬ z = wr.heap.size) := fun z e => by have := (HPW.out.lt e).2; omega
        have HRZ : Hid (runA n [] st0 (plain ++ [⟨2, yb, yl, yd⟩]) = some (bs ++ xs, s3') ∧ (plain ++ [(⟨2, yb, yl, yd⟩ : Sym)]).length = k + 1) := HRN2.out
        have HPI : Hid (∀ z ∈ plain ++ [(⟨2, yb, yl, yd⟩ : Sym)], z.I) := fun z hz => by
          rcases List.mem_append.1 hz with h | h
          · exact HPP.out.1 z h
          · simp only [List.mem_singleton] at h
            rw [h]
            exact HYI.out
        clear cA HCW HSW HPW HRN2
        go_upto_region 18 with fail
        generalize (wr.alloc (.cells #[.int .i64 2, .int .u8 yb, .int .i64 yl, .int .i64 yd] 33)).alloc (.cells #[.int .i64 2, .int .u8 yb, .int .i64 yl, .int .i64 yd] 33) = Wz at *
        generalize wr.heap.size = gy at *
        clear k0 k1 k2 k3
        obtain ⟨z0, z1, z2, z3⟩ := cells4y HZB.out
        have c10 := chg_one Wz (.cells #[.int .i64 2, .int .u8 yb, .int .i64 yl, .int .i64 yd] 33)
        have hsrc := from_sym Wz ⟨2, yb, yl, yd⟩ 33
        have hone := symcs_cell [⟨2, yb, yl, yd⟩]
        have hown : (Wz.alloc (.cells #[.int .i64 2, .int .u8 yb, .int .i64 yl, .int .i64 yd] 33)).ownsRow W1.heap.size 33 4 (.slice pa k pc) k (symcs plain) := by have h9 := SymO.new (w := Wz) (B := W1.heap.size) (v := .slice pa k pc) (l := plain) HPZ.out c10; unfold SymO at h9; rw [HPL.out] at h9; exact h9
        have hB8 : W1.heap.size ≤ (Wz.alloc (.cells #[.int .i64 2, .int .u8 yb, .int .i64 yl, .int .i64 yd] 33)).heap.size := by have := HCZ.out.size; rw [World.size_alloc]; omega
        go_wp2_with (at_builtin; refine wpList_append_moved rfl _ _ 22 rfl W1.heap.size 33 iy (.agg #[.int .i64 0, .int .u8 0, .int .i64 0, .int .i64 0]) 4 32 Tryd.underlying22 hiy hy0 hy1 hy2 rfl (by decide) _ k (symcs plain) rfl (some ⟨Wz.heap.size, 0, none⟩) 1 1 rfl (symcs [⟨2, yb, yl, yd⟩]) hown hsrc hone (by unfold maxLen; omega) (by omega) hB8 ?_)
        intro v9 w9 ho9 hg9 hm9
        obtain ⟨a9, d9, hv9⟩ := formSym ho9
        subst hv9
        have c9 : Chg (fun z => (Value.slice pa k pc).ownBlock = some z) (Wz.alloc (.cells #[.int .i64 2, .int .u8 yb, .int .i64 yl, .int .i64 yd] 33)) w9 := (Chg.refl _ _).grown hg9 (fun z e => .inl e)
        have HP9 : Hid (SymO w9 W1.heap.size (.slice a9 (k + 1) d9) (plain ++ [⟨2, yb, yl, yd⟩])) := sym_app ho9 (by rw [List.length_append, HPL.out]; rfl)
        have HC9 : Hid (Chg (fun _ => False) W1 w9) := (chg_then HCZ.out c10).trans c9 (fun z e => .inr (World.ownsRow.lt hown z e).1)
        have HS9 : Hid (w9.heap[g8]? = some (.cells #[.int .i64 s.n, .int .i64 s.a, .int .i64 s.b, .int .i64 s.c, .int .i64 s.d] 30 (0, 0))) := blk_keep (blk_keep HSZ.out c10 (fun f => f)) c9 (fun e => by
          obtain ⟨cs, hcs⟩ := Bk.own_blk hown e
          exact ty_ne hcs (blk_keep HSZ.out c10 (fun f => f)) (by decide))
        have HY9 : Hid (w9.heap[gy]? = some (.cells #[.int .i64 2, .int .u8 yb, .int .i64 yl, .int .i64 yd] 33 (0, 0))) := blk_keep (blk_keep HYZ.out c10 (fun f => f)) c9 (fun e => HPY.out gy e rfl)
        clear ho9 hg9 hm9 c9 hown hsrc hone c10 hB8 z0 z1 z2 z3 HZB HPZ HCZ HSZ HYZ
        obtain ⟨s0, s1, s2, s3, s4⟩ := cells5 HS9.out
        obtain ⟨y0, y1, y2, y3⟩ := cells4y HY9.out
        go_wp2_with fail
        refine (HNX.out _ (Y.new HT1.out HC9.out)).mono ?_
        rintro z w10 ⟨rfl, c11⟩
        have cT := chg_one w10 (.cells #[.int .i64 t.n, .int .i64 t.a, .int .i64 t.b, .int .i64 t.c, .int .i64 t.d] 30)
        have hst : (w10.alloc (.cells #[.int .i64 t.n, .int .i64 t.a, .int .i64 t.b, .int .i64 t.c, .int .i64 t.d] 30)).heap[g8]? = some (.cells #[.int .i64 s.n, .int .i64 s.a, .int .i64 s.b, .int .i64 s.c, .int .i64 s.d] 30 (0, 0)) := blk_keep (blk_keep HS9.out c11 (fun f => f)) cT (fun f => f)
        have HT10 : Hid ((w10.alloc (.cells #[.int .i64 t.n, .int .i64 t.a, .int .i64 t.b, .int .i64 t.c, .int .i64 t.d] 30)).heap[w10.heap.size]? = some (.cells #[.int .i64 t.n, .int .i64 t.a, .int .i64 t.b, .int .i64 t.c, .int .i64 t.d] 30 (0, 0))) := heap_alloc_last _ _
        obtain ⟨x0, x1, x2, x3, x4⟩ := cells5 HT10.out
        obtain ⟨⟨p0, f0⟩, ⟨p1, f1⟩, ⟨p2, f2⟩, ⟨p3, f3⟩, ⟨p4, f4⟩, hblk, hchg⟩ := put5_of hst (.int .i64 t.n) (.int .i64 t.a) (.int .i64 t.b) (.int .i64 t.c) (.int .i64 t.d)
        have HS11 : Hid _ := hblk
        have HP11 : Hid (SymO _ W1.heap.size (.slice a9 (k + 1) d9) (plain ++ [⟨2, yb, yl, yd⟩])) := SymO.keep (SymO.new (SymO.new HP9.out c11) cT) hchg (fun z e h => by
          obtain ⟨cs, hcs⟩ := SymO.blk (SymO.new (SymO.new HP9.out c11) cT) e
          rw [h] at hcs
          exact ty_ne hcs hst (by decide))
        have HY11 : Hid _ := blk_keep (blk_keep (blk_keep HY9.out c11 (fun f => f)) cT (fun f => f)) hchg (fun h => by
          have h9 := blk_keep (blk_keep HY9.out c11 (fun f => f)) cT (fun f => f)
          rw [h] at h9
          exact ty_ne h9 hst (by decide))
        have HC11 : Hid (Chg (fun _ => False) W1 _) := (chg_then (chg_then HC9.out c11) cT).trans hchg (fun z e => .inr (by rw [e]; exact HG8.out))
        clear c11 cT hst hblk hchg HP9 HC9 HS9 HY9 HT10 s0 s1 s2 s3 s4 y0 y1 y2 y3
        go_upto_region 23 with fail
        generalize (((((w10.alloc (.cells #[.int .i64 t.n, .int .i64 t.a, .int .i64 t.b, .int .i64 t.c, .int .i64 t.d] 30)).setCell ⟨g8, 0, none⟩ (.int .i64 t.n)).setCell ⟨g8, 1, none⟩ (.int .i64 t.a)).setCell ⟨g8, 2, none⟩ (.int .i64 t.b)).setCell ⟨g8, 3, none⟩ (.int .i64 t.c)).setCell ⟨g8, 4, none⟩ (.int .i64 t.d) = W11 at *
        clear x0 x1 x2 x3 x4 p0 f0 p1 f1 p2 f2 p3 f3 p4 f4
        obtain ⟨y0, y1, y2, y3⟩ := cells4y HY11.out
        go_wp2_with fail
        refine (HSI.out _ (Y.new HT1.out HC11.out)).mono ?_
        rintro z w12 ⟨rfl, c12⟩
        have HC12 : Hid _ := chg_then HC11.out c12
        have HS12 : Hid _ := blk_keep HS11.out c12 (fun f => f)
        have HP12 : Hid (SymO w12 W1.heap.size (.slice a9 (k + 1) d9) (plain ++ [⟨2, yb, yl, yd⟩])) := SymO.new HP11.out c12
        have HY12 : Hid _ := blk_keep HY11.out c12 (fun f => f)
        clear c12 HC11 HS11 HP11 HY11 y0 y1 y2 y3
        obtain ⟨y0, y1, y2, y3⟩ := cells4y HY12.out
        go_wp2_with fail
        refine (HSI.out _ (Y.new HT1.out HC12.out)).mono ?_
        rintro z w13 ⟨rfl, c13⟩
        have HC13 : Hid _ := chg_then HC12.out c13
        have HS13 : Hid _ := blk_keep HS12.out c13 (fun f => f)
        have HP13 : Hid (SymO w13 W1.heap.size (.slice a9 (k + 1) d9) (plain ++ [⟨2, yb, yl, yd⟩])) := SymO.new HP12.out c13
        clear c13 HC12 HS12 HP12 HY12 y0 y1 y2 y3
        go_wp2_with fail
        exact ⟨⟨k + 1, at' + sz, d9, a9, bs ++ xs, plain ++ [⟨2, yb, yl, yd⟩], t, s3', by omega, by go_num, rfl, by go_num, HRK.out, HRZ.out.1, HRZ.out.2, HPI.out, HP13.out, HS13.out, HC13.out⟩, by simp [intOf]; omega⟩
      · skip
        obtain ⟨j, hj⟩ : ∃ j : Nat, yd = (j : Int) := ⟨yd.toNat, by omega⟩
        subst hj
        obtain ⟨rj, hrj⟩ : ∃ rj, rep4 s (j : Int) = rj := ⟨_, rfl⟩
        have HJ : Hid (j < 4 ∧ rep4 s (j : Int) = rj) := ⟨by omega, hrj⟩
        have hj3 : (j : Int) ≤ 3 := by omega
        have hj4 : (j : Int) < 4 := by omega
        have hj4' : j < 4 := by omega
        have cA : Chg (fun _ => False) wr ((wr.alloc (.cells #[.int .i64 3, .int .u8 yb, .int .i64 yl, .int .i64 (j : Int)] 33)).alloc (.cells #[.int .i64 3, .int .u8 yb, .int .i64 yl, .int .i64 (j : Int)] 33)) := chg_then (chg_one _ _) (chg_one _ _)
        have HCZ0 : Hid (Chg (fun _ => False) W1 ((wr.alloc (.cells #[.int .i64 3, .int .u8 yb, .int .i64 yl, .int .i64 (j : Int)] 33)).alloc (.cells #[.int .i64 3, .int .u8 yb, .int .i64 yl, .int .i64 (j : Int)] 33))) := chg_then HCW.out cA
        have HSZ0 : Hid (((wr.alloc (.cells #[.int .i64 3, .int .u8 yb, .int .i64 yl, .int .i64 (j : Int)] 33)).alloc (.cells #[.int .i64 3, .int .u8 yb, .int .i64 yl, .int .i64 (j : Int)] 33)).heap[g8]? = some (.cells #[.int .i64 s.n, .int .i64 s.a, .int .i64 s.b, .int .i64 s.c, .int .i64 s.d] 30 (0, 0))) := blk_keep HSW.out cA (fun f => f)
        have HPZ0 : Hid (SymO ((wr.alloc (.cells #[.int .i64 3, .int .u8 yb, .int .i64 yl, .int .i64 (j : Int)] 33)).alloc (.cells #[.int .i64 3, .int .u8 yb, .int .i64 yl, .int .i64 (j : Int)] 33)) W1.heap.size (.slice pa k pc) plain) := HPW.out.new cA
        have HYZ0 : Hid (((wr.alloc (.cells #[.int .i64 3, .int .u8 yb, .int .i64 yl, .int .i64 (j : Int)] 33)).alloc (.cells #[.int .i64 3, .int .u8 yb, .int .i64 yl, .int .i64 (j : Int)] 33)).heap[wr.heap.size]? = some (.cells #[.int .i64 3, .int .u8 yb, .int .i64 yl, .int .i64 (j : Int)] 33 (0, 0))) := (Below.heap_alloc _ _ _ (by simp)).trans (heap_alloc_last wr _)
        have HZB0 : Hid (((wr.alloc (.cells #[.int .i64 3, .int .u8 yb, .int .i64 yl, .int .i64 (j : Int)] 33)).alloc (.cells #[.int .i64 3, .int .u8 yb, .int .i64 yl, .int .i64 (j : Int)] 33)).heap[wr.heap.size + 1]? = some (.cells #[.int .i64 3, .int .u8 yb, .int .i64 yl, .int .i64 (j : Int)] 33 (0, 0))) := by
          have := heap_alloc_last (wr.alloc (.cells #[.int .i64 3, .int .u8 yb, .int .i64 yl, .int .i64 (j : Int)] 33)) (.cells #[.int .i64 3, .int .u8 yb, .int .i64 yl, .int .i64 (j : Int)] 33)
          rw [World.size_alloc] at this
          exact this
        have HPY : Hid (∀ z, (Value.slice pa k pc).ownBlock = some z → ¬ z = wr.heap.size ∧ ¬ z = wr.heap.size + 1) := fun z e => by have := (HPW.out.lt e).2; exact ⟨by omega, by omega⟩
        have HRZ : Hid (runA n [] st0 (plain ++ [⟨2, 0, yl, rj⟩]) = some (bs ++ xs, s3') ∧ (plain ++ [(⟨2, 0, yl, rj⟩ : Sym)]).length = k + 1) := by
          have h9 := HRN2.out
          rw [← hrj]
          exact h9
        have HPI : Hid (∀ z ∈ plain ++ [(⟨2, 0, yl, rj⟩ : Sym)], z.I) := fun z hz => by
          rcases List.mem_append.1 hz with h | h
          · exact HPP.out.1 z h
          · simp only [List.mem_singleton] at h
            rw [h]
            have h7 := rep_right HSR.out (j : Int)
            rw [hrj] at h7
            exact symI 2 0 yl rj ⟨by decide, by decide⟩ HYI.out.l ⟨by omega, by omega⟩ ⟨by decide, by decide⟩
        clear cA HCW HSW HPW HRN2 hrj
        go_wp2_with fail
        generalize (wr.alloc (.cells #[.int .i64 3, .int .u8 yb, .int .i64 yl, .int .i64 (j : Int)] 33)).alloc (.cells #[.int .i64 3, .int .u8 yb, .int .i64 yl, .int .i64 (j : Int)] 33) = Wq at *
        generalize wr.heap.size = gy at *
        clear k0 k1 k2 k3
        refine wp_region_last (mk := fun u => #[_, _, _, _, _, _, _, _, _, _, _, _, _, _, _, _, _, _, _, _, _, _, _, _, _, _, _, _, _, _, _, _, _, _, _, _, _, _, _, _, _, _, _, _, _, _, _, _, _, _, _, _, _, _, _, _, _, _, u 58, u 59, u 60, u 61, u 62, u 63, u 64, u 65, _, _, _, _, _, _, _, _, _, _, _, _, _, _, _, _, _, _, _, _, _, _, _, _, _, _, _, _, _, _, _, _, _, _, _, _, _, _, _, _, _, _, _, _, _, _, _, _, _, _, _, _, _, _, _, _, _, _, _, _, _, _, _]) (F := fun slot vv ww => (look [(58, .val (.pointer (some ⟨gy, 2, none⟩))), (59, .val (.int .i64 yl)), (60, .val (.pointer (some ⟨gy, 3, none⟩))), (61, .val (.int .i64 (j : Int))), (62, .val (.pointer (some ⟨g8, 1, none⟩))), (63, .val (.pointer (some ⟨g8, 1 + j, none⟩))), (64, .val (.int .i64 rj)), (65, .val (.agg #[.int .i64 2, .int .u8 0, .int .i64 yl, .int .i64 rj]))] slot).holds vv ww) (fun q => match q with | 58 => u58 | 59 => u59 | 60 => u60 | 61 => u61 | 62 => u62 | 63 => u63 | 64 => u64 | 65 => u65 | _ => undef) rfl (by kernel_rfl) 8 _ rfl rfl (by kernel_rfl) ?_ (fun _ v w w' hc h => Fact.stays _ v w w' hc h) ?_ ?_
        · repeat (refine ⟨⟨_, rfl, fun _ _ => rfl⟩, ?_⟩)
          exact trivial
        · refine ⟨?_, ?_, ?_, ?_, ?_, ?_, ?_, ?_, trivial⟩
          · intro u w hc hd K hK -- 58
            clear hd
            go_simp
            exact hK.out (.pointer (some ⟨gy, 2, none⟩)) w (Chg.refl _ _) rfl
          · intro u w hc hd K hK -- 59
            have h58 : (Fact.val (.pointer (some ⟨gy, 2, none⟩))).holds (u 58) w := hd.get 0 (by kernel_rfl)
            simp only [Fact.holds] at h58
            clear hd
            simp only [h58] at hK
            obtain ⟨y0, y1, y2, y3⟩ := cells4y (blk_keep HYZ0.out hc (fun f => f))
            clear hc
            go_simp
            exact hK.out (.int .i64 yl) w (Chg.refl _ _) rfl
          · intro u w hc hd K hK -- 60
            clear hd
            go_simp
            exact hK.out (.pointer (some ⟨gy, 3, none⟩)) w (Chg.refl _ _) rfl
          · intro u w hc hd K hK -- 61
            have h60 : (Fact.val (.pointer (some ⟨gy, 3, none⟩))).holds (u 60) w := hd.get 2 (by kernel_rfl)
            simp only [Fact.holds] at h60
            clear hd
            simp only [h60] at hK
            obtain ⟨y0, y1, y2, y3⟩ := cells4y (blk_keep HYZ0.out hc (fun f => f))
            clear hc
            go_simp
            exact hK.out (.int .i64 (j : Int)) w (Chg.refl _ _) rfl
          · intro u w hc hd K hK -- 62
            clear hd
            go_simp
            exact hK.out (.pointer (some ⟨g8, 1, none⟩)) w (Chg.refl _ _) rfl
          · intro u w hc hd K hK -- 63
            have h62 : (Fact.val (.pointer (some ⟨g8, 1, none⟩))).holds (u 62) w := hd.get 4 (by kernel_rfl)
            simp only [Fact.holds] at h62
            have h61 : (Fact.val (.int .i64 (j : Int))).holds (u 61) w := hd.get 3 (by kernel_rfl)
            simp only [Fact.holds] at h61
            clear hd
            simp only [h61, h62] at hK
            go_simp
            exact hK.out (.pointer (some ⟨g8, 1 + j, none⟩)) w (Chg.refl _ _) rfl
          · intro u w hc hd K hK -- 64
            have h63 : (Fact.val (.pointer (some ⟨g8, 1 + j, none⟩))).holds (u 63) w := hd.get 5 (by kernel_rfl)
            simp only [Fact.holds] at h63
            clear hd
            simp only [h63] at hK
            have kr := rep4_cell (blk_keep HSZ0.out hc (fun f => f)) HJ.out.1
            rw [HJ.out.2] at kr
            clear hc
            go_simp
            exact hK.out (.int .i64 rj) w (Chg.refl _ _) rfl
          · intro u w hc hd K hK -- 65
            have h59 : (Fact.val (.int .i64 yl)).holds (u 59) w := hd.get 1 (by kernel_rfl)
            simp only [Fact.holds] at h59
            have h64 : (Fact.val (.int .i64 rj)).holds (u 64) w := hd.get 6 (by kernel_rfl)
            simp only [Fact.holds] at h64
            clear hd
            simp only [h59, h64] at hK
            go_simp
            exact hK.out (.agg #[.int .i64 2, .int .u8 0, .int .i64 yl, .int .i64 rj]) w (Chg.refl _ _) rfl
        · intro u w7 hc hA K hK
          have e65 : u 65 = .agg #[.int .i64 2, .int .u8 0, .int .i64 yl, .int .i64 rj] := hA.at 65 (by kernel_rfl)
          obtain ⟨⟨p0, f0⟩, ⟨p1, f1⟩, ⟨p2, f2⟩, ⟨p3, f3⟩, hblk, hchg⟩ := put4_of (blk_keep HZB0.out hc (fun f => f)) (.int .i64 2) (.int .u8 0) (.int .i64 yl) (.int .i64 rj)
          have HZB : Hid _ := hblk
          have hg8 : ¬ g8 = gy + 1 := fun h => by
            have h9 := HZB0.out
            rw [← h] at h9
            exact ty_ne h9 HSZ0.out (by decide)
          have HCZ : Hid (Chg (fun _ => False) W1 _) := (chg_then HCZ0.out hc).trans hchg (fun z e => .inr (by rw [e]; exact HGY.out))
          have HSZ : Hid _ := blk_keep (blk_keep HSZ0.out hc (fun f => f)) hchg hg8
          have HYZ : Hid _ := blk_keep (blk_keep HYZ0.out hc (fun f => f)) hchg (by omega)
          have HPZ : Hid (SymO _ W1.heap.size (.slice pa k pc) plain) := SymO.keep (HPZ0.out.new hc) hchg (fun z e h => (HPY.out z e).2 h)
          clear hA hc hblk hchg hg8 HCZ0 HSZ0 HYZ0 HZB0 HPZ0
          go_simp
          refine hK.out _ _ ?_
          clear hK e65 p0 f0 p1 f1 p2 f2 p3 f3
          generalize (((w7.setCell ⟨gy + 1, 0, none⟩ (.int .i64 2)).setCell ⟨gy + 1, 1, none⟩ (.int .u8 0)).setCell ⟨gy + 1, 2, none⟩ (.int .i64 yl)).setCell ⟨gy + 1, 3, none⟩ (.int .i64 rj) = Wz at *
          have HPY' : Hid (∀ z, (Value.slice pa k pc).ownBlock = some z → ¬ z = gy) := fun z e => (HPY.out z e).1
          clear HPY
          obtain ⟨yy0, yy1, yy2, yy3⟩ := cells4y HYZ.out
          go_upto_region 18 with fail
          clear yy0 yy1 yy2 yy3
          obtain ⟨z0, z1, z2, z3⟩ := cells4y HZB.out
          have c10 := chg_one Wz (.cells #[.int .i64 2, .int .u8 0, .int .i64 yl, .int .i64 rj] 33)
          have hsrc := from_sym Wz ⟨2, 0, yl, rj⟩ 33
          have hone := symcs_cell [⟨2, 0, yl, rj⟩]
          have hown : (Wz.alloc (.cells #[.int .i64 2, .int .u8 0, .int .i64 yl, .int .i64 rj] 33)).ownsRow W1.heap.size 33 4 (.slice pa k pc) k (symcs plain) := by have h9 := SymO.new (w := Wz) (B := W1.heap.size) (v := .slice pa k pc) (l := plain) HPZ.out c10; unfold SymO at h9; rw [HPL.out] at h9; exact h9
          have hB8 : W1.heap.size ≤ (Wz.alloc (.cells #[.int .i64 2, .int .u8 0, .int .i64 yl, .int .i64 rj] 33)).heap.size := by have := HCZ.out.size; rw [World.size_alloc]; omega
          go_wp2_with (at_builtin; refine wpList_append_moved rfl _ _ 22 rfl W1.heap.size 33 iy (.agg #[.int .i64 0, .int .u8 0, .int .i64 0, .int .i64 0]) 4 32 Tryd.underlying22 hiy hy0 hy1 hy2 rfl (by decide) _ k (symcs plain) rfl (some ⟨Wz.heap.size, 0, none⟩) 1 1 rfl (symcs [⟨2, 0, yl, rj⟩]) hown hsrc hone (by unfold maxLen; omega) (by omega) hB8 ?_)
          intro v9 w9 ho9 hg9 hm9
          obtain ⟨a9, d9, hv9⟩ := formSym ho9
          subst hv9
          have c9 : Chg (fun z => (Value.slice pa k pc).ownBlock = some z) (Wz.alloc (.cells #[.int .i64 2, .int .u8 0, .int .i64 yl, .int .i64 rj] 33)) w9 := (Chg.refl _ _).grown hg9 (fun z e => .inl e)
          have HP9 : Hid (SymO w9 W1.heap.size (.slice a9 (k + 1) d9) (plain ++ [⟨2, 0, yl, rj⟩])) := sym_app ho9 (by rw [List.length_append, HPL.out]; rfl)
          have HC9 : Hid (Chg (fun _ => False) W1 w9) := (chg_then HCZ.out c10).trans c9 (fun z e => .inr (World.ownsRow.lt hown z e).1)
          have HS9 : Hid (w9.heap[g8]? = some (.cells #[.int .i64 s.n, .int .i64 s.a, .int .i64 s.b, .int .i64 s.c, .int .i64 s.d] 30 (0, 0))) := blk_keep (blk_keep HSZ.out c10 (fun f => f)) c9 (fun e => by
            obtain ⟨cs, hcs⟩ := Bk.own_blk hown e
            exact ty_ne hcs (blk_keep HSZ.out c10 (fun f => f)) (by decide))
          have HY9 : Hid (w9.heap[gy]? = some (.cells #[.int .i64 3, .int .u8 yb, .int .i64 yl, .int .i64 (j : Int)] 33 (0, 0))) := blk_keep (blk_keep HYZ.out c10 (fun f => f)) c9 (fun e => HPY'.out gy e rfl)
          clear ho9 hg9 hm9 c9 hown hsrc hone c10 hB8 z0 z1 z2 z3 HZB HPZ HCZ HSZ HYZ
          obtain ⟨s0, s1, s2, s3, s4⟩ := cells5 HS9.out
          obtain ⟨y0, y1, y2, y3⟩ := cells4y HY9.out
          go_wp2_with fail
          refine (HNX.out _ (Y.new HT1.out HC9.out)).mono ?_
          rintro z w10 ⟨rfl, c11⟩
          have cT := chg_one w10 (.cells #[.int .i64 t.n, .int .i64 t.a, .int .i64 t.b, .int .i64 t.c, .int .i64 t.d] 30)
          have hst : (w10.alloc (.cells #[.int .i64 t.n, .int .i64 t.a, .int .i64 t.b, .int .i64 t.c, .int .i64 t.d] 30)).heap[g8]? = some (.cells #[.int .i64 s.n, .int .i64 s.a, .int .i64 s.b, .int .i64 s.c, .int .i64 s.d] 30 (0, 0)) := blk_keep (blk_keep HS9.out c11 (fun f => f)) cT (fun f => f)
          have HT10 : Hid ((w10.alloc (.cells #[.int .i64 t.n, .int .i64 t.a, .int .i64 t.b, .int .i64 t.c, .int .i64 t.d] 30)).heap[w10.heap.size]? = some (.cells #[.int .i64 t.n, .int .i64 t.a, .int .i64 t.b, .int .i64 t.c, .int .i64 t.d] 30 (0, 0))) := heap_alloc_last _ _
          obtain ⟨x0, x1, x2, x3, x4⟩ := cells5 HT10.out
          obtain ⟨⟨p0, f0⟩, ⟨p1, f1⟩, ⟨p2, f2⟩, ⟨p3, f3⟩, ⟨p4, f4⟩, hblk, hchg⟩ := put5_of hst (.int .i64 t.n) (.int .i64 t.a) (.int .i64 t.b) (.int .i64 t.c) (.int .i64 t.d)
          have HS11 : Hid _ := hblk
          have HP11 : Hid (SymO _ W1.heap.size (.slice a9 (k + 1) d9) (plain ++ [⟨2, 0, yl, rj⟩])) := SymO.keep (SymO.new (SymO.new HP9.out c11) cT) hchg (fun z e h => by
            obtain ⟨cs, hcs⟩ := SymO.blk (SymO.new (SymO.new HP9.out c11) cT) e
            rw [h] at hcs
            exact ty_ne hcs hst (by decide))
          have HY11 : Hid _ := blk_keep (blk_keep (blk_keep HY9.out c11 (fun f => f)) cT (fun f => f)) hchg (fun h => by
            have h9 := blk_keep (blk_keep HY9.out c11 (fun f => f)) cT (fun f => f)
            rw [h] at h9
            exact ty_ne h9 hst (by decide))
          have HC11 : Hid (Chg (fun _ => False) W1 _) := (chg_then (chg_then HC9.out c11) cT).trans hchg (fun z e => .inr (by rw [e]; exact HG8.out))
          clear c11 cT hst hblk hchg HP9 HC9 HS9 HY9 HT10 s0 s1 s2 s3 s4 y0 y1 y2 y3
          go_upto_region 23 with fail
          generalize (((((w10.alloc (.cells #[.int .i64 t.n, .int .i64 t.a, .int .i64 t.b, .int .i64 t.c, .int .i64 t.d] 30)).setCell ⟨g8, 0, none⟩ (.int .i64 t.n)).setCell ⟨g8, 1, none⟩ (.int .i64 t.a)).setCell ⟨g8, 2, none⟩ (.int .i64 t.b)).setCell ⟨g8, 3, none⟩ (.int .i64 t.c)).setCell ⟨g8, 4, none⟩ (.int .i64 t.d) = W11 at *
          clear x0 x1 x2 x3 x4 p0 f0 p1 f1 p2 f2 p3 f3 p4 f4
          obtain ⟨y0, y1, y2, y3⟩ := cells4y HY11.out
          go_wp2_with fail
          refine (HSI.out _ (Y.new HT1.out HC11.out)).mono ?_
          rintro z w12 ⟨rfl, c12⟩
          have HC12 : Hid _ := chg_then HC11.out c12
          have HS12 : Hid _ := blk_keep HS11.out c12 (fun f => f)
          have HP12 : Hid (SymO w12 W1.heap.size (.slice a9 (k + 1) d9) (plain ++ [⟨2, 0, yl, rj⟩])) := SymO.new HP11.out c12
          have HY12 : Hid _ := blk_keep HY11.out c12 (fun f => f)
          clear c12 HC11 HS11 HP11 HY11 y0 y1 y2 y3
          obtain ⟨y0, y1, y2, y3⟩ := cells4y HY12.out
          go_wp2_with fail
          refine (HSI.out _ (Y.new HT1.out HC12.out)).mono ?_
          rintro z w13 ⟨rfl, c13⟩
          have HC13 : Hid _ := chg_then HC12.out c13
          have HS13 : Hid _ := blk_keep HS12.out c13 (fun f => f)
          have HP13 : Hid (SymO w13 W1.heap.size (.slice a9 (k + 1) d9) (plain ++ [⟨2, 0, yl, rj⟩])) := SymO.new HP12.out c13
          clear c13 HC12 HS12 HP12 HY12 y0 y1 y2 y3
          go_wp2_with fail
          exact ⟨⟨k + 1, at' + sz, d9, a9, bs ++ xs, plain ++ [⟨2, 0, yl, rj⟩], t, s3', by omega, by go_num, rfl, by go_num, HRK.out, HRZ.out.1, HRZ.out.2, HPI.out, HP13.out, HS13.out, HC13.out⟩, by simp [intOf]; omega⟩
      · skip
        have cA : Chg (fun _ => False) wr ((wr.alloc (.cells #[.int .i64 4, .int .u8 yb, .int .i64 yl, .int .i64 yd] 33)).alloc (.cells #[.int .i64 4, .int .u8 yb, .int .i64 yl, .int .i64 yd] 33)) := chg_then (chg_one _ _) (chg_one _ _)
        have cZ : Chg (fun _ => False) wr ((wr.alloc (.cells #[.int .i64 4, .int .u8 yb, .int .i64 yl, .int .i64 yd] 33)).alloc (.cells #[.int .i64 1, .int .u8 (b0 : Int), .int .i64 0, .int .i64 0] 33)) := chg_then (chg_one _ _) (chg_one _ _)
        have hal4 : ((wr.alloc (.cells #[.int .i64 4, .int .u8 yb, .int .i64 yl, .int .i64 yd] 33)).alloc (.cells #[.int .i64 4, .int .u8 yb, .int .i64 yl, .int .i64 yd] 33)).ownsRow w.heap.size 5 1 (.slice aa aL ac) aL (ins .u8 (nums all)) := ownsRow_keep HALL.out (chg_then HCW.out cA) (fun _ _ f => f)
        obtain ⟨ga, hga⟩ : ∃ ga, aa = some ⟨ga, 0, none⟩ := by
          rcases hal4.2 with ⟨h9, h8⟩ | ⟨g, cap, cur, h9, _⟩
          · omega
          · simp only [Value.slice.injEq] at h9
            exact ⟨g, h9.1⟩
        subst hga
        have kb : ((wr.alloc (.cells #[.int .i64 4, .int .u8 yb, .int .i64 yl, .int .i64 yd] 33)).alloc (.cells #[.int .i64 4, .int .u8 yb, .int .i64 yl, .int .i64 yd] 33)).cell? ⟨ga, at', none⟩ = some (.int .u8 (b0 : Int)) := by
          rw [World.ownsRow.cellAt hal4 at' (by omega)]
          simp only [ins, nums, List.getElem?_map, HALT.out, Option.map_some]
        have HCZ : Hid (Chg (fun _ => False) W1 ((wr.alloc (.cells #[.int .i64 4, .int .u8 yb, .int .i64 yl, .int .i64 yd] 33)).alloc (.cells #[.int .i64 1, .int .u8 (b0 : Int), .int .i64 0, .int .i64 0] 33))) := chg_then HCW.out cZ
        have HSZ : Hid (((wr.alloc (.cells #[.int .i64 4, .int .u8 yb, .int .i64 yl, .int .i64 yd] 33)).alloc (.cells #[.int .i64 1, .int .u8 (b0 : Int), .int .i64 0, .int .i64 0] 33)).heap[g8]? = some (.cells #[.int .i64 s.n, .int .i64 s.a, .int .i64 s.b, .int .i64 s.c, .int .i64 s.d] 30 (0, 0))) := blk_keep HSW.out cZ (fun f => f)
        have HPZ : Hid (SymO ((wr.alloc (.cells #[.int .i64 4, .int .u8 yb, .int .i64 yl, .int .i64 yd] 33)).alloc (.cells #[.int .i64 1, .int .u8 (b0 : Int), .int .i64 0, .int .i64 0] 33)) W1.heap.size (.slice pa k pc) plain) := HPW.out.new cZ
        have HYZ : Hid (((wr.alloc (.cells #[.int .i64 4, .int .u8 yb, .int .i64 yl, .int .i64 yd] 33)).alloc (.cells #[.int .i64 1, .int .u8 (b0 : Int), .int .i64 0, .int .i64 0] 33)).heap[wr.heap.size]? = some (.cells #[.int .i64 4, .int .u8 yb, .int .i64 yl, .int .i64 yd] 33 (0, 0))) := (Below.heap_alloc _ _ _ (by simp)).trans (heap_alloc_last wr _)
        have HZB : Hid (((wr.alloc (.cells #[.int .i64 4, .int .u8 yb, .int .i64 yl, .int .i64 yd] 33)).alloc (.cells #[.int .i64 1, .int .u8 (b0 : Int), .int .i64 0, .int .i64 0] 33)).heap[wr.heap.size + 1]? = some (.cells #[.int .i64 1, .int .u8 (b0 : Int), .int .i64 0, .int .i64 0] 33 (0, 0))) := by
          have := heap_alloc_last (wr.alloc (.cells #[.int .i64 4, .int .u8 yb, .int .i64 yl, .int .i64 yd] 33)) (.cells #[.int .i64 1, .int .u8 (b0 : Int), .int .i64 0, .int .i64 0] 33)
          rw [World.size_alloc] at this
          exact this
        have HPY : Hid (∀ z, (Value.slice pa k pc).ownBlock = some z → ¬ z = wr.heap.size) := fun z e => by have := (HPW.out.lt e).2; omega
        have HRZ : Hid (runA n [] st0 (plain ++ [⟨1, (b0 : Int), 0, 0⟩]) = some (bs ++ xs, s3') ∧ (plain ++ [(⟨1, (b0 : Int), 0, 0⟩ : Sym)]).length = k + 1) := HRN2.out
        have HPI : Hid (∀ z ∈ plain ++ [(⟨1, (b0 : Int), 0, 0⟩ : Sym)], z.I) := fun z hz => by
          rcases List.mem_append.1 hz with h | h
          · exact HPP.out.1 z h
          · simp only [List.mem_singleton] at h
            rw [h]
            exact symI 1 (b0 : Int) 0 0 ⟨by decide, by decide⟩ ⟨by decide, by decide⟩ ⟨by decide, by decide⟩ ⟨by omega, by have := HB0.out; omega⟩
        clear cA cZ hal4 HCW HSW HPW HRN2
        go_upto_region 18 with fail
        generalize (wr.alloc (.cells #[.int .i64 4, .int .u8 yb, .int .i64 yl, .int .i64 yd] 33)).alloc (.cells #[.int .i64 1, .int .u8 (b0 : Int), .int .i64 0, .int .i64 0] 33) = Wz at *
        generalize wr.heap.size = gy at *
        clear k0 k1 k2 k3 kb
        obtain ⟨z0, z1, z2, z3⟩ := cells4y HZB.out
        have c10 := chg_one Wz (.cells #[.int .i64 1, .int .u8 (b0 : Int), .int .i64 0, .int .i64 0] 33)
        have hsrc := from_sym Wz ⟨1, (b0 : Int), 0, 0⟩ 33
        have hone := symcs_cell [⟨1, (b0 : Int), 0, 0⟩]
        have hown : (Wz.alloc (.cells #[.int .i64 1, .int .u8 (b0 : Int), .int .i64 0, .int .i64 0] 33)).ownsRow W1.heap.size 33 4 (.slice pa k pc) k (symcs plain) := by have h9 := SymO.new (w := Wz) (B := W1.heap.size) (v := .slice pa k pc) (l := plain) HPZ.out c10; unfold SymO at h9; rw [HPL.out] at h9; exact h9
        have hB8 : W1.heap.size ≤ (Wz.alloc (.cells #[.int .i64 1, .int .u8 (b0 : Int), .int .i64 0, .int .i64 0] 33)).heap.size := by have := HCZ.out.size; rw [World.size_alloc]; omega
        go_wp2_with (at_builtin; refine wpList_append_moved rfl _ _ 22 rfl W1.heap.size 33 iy (.agg #[.int .i64 0, .int .u8 0, .int .i64 0, .int .i64 0]) 4 32 Tryd.underlying22 hiy hy0 hy1 hy2 rfl (by decide) _ k (symcs plain) rfl (some ⟨Wz.heap.size, 0, none⟩) 1 1 rfl (symcs [⟨1, (b0 : Int), 0, 0⟩]) hown hsrc hone (by unfold maxLen; omega) (by omega) hB8 ?_)
        intro v9 w9 ho9 hg9 hm9
        obtain ⟨a9, d9, hv9⟩ := formSym ho9
        subst hv9
        have c9 : Chg (fun z => (Value.slice pa k pc).ownBlock = some z) (Wz.alloc (.cells #[.int .i64 1, .int .u8 (b0 : Int), .int .i64 0, .int .i64 0] 33)) w9 := (Chg.refl _ _).grown hg9 (fun z e => .inl e)
        have HP9 : Hid (SymO w9 W1.heap.size (.slice a9 (k + 1) d9) (plain ++ [⟨1, (b0 : Int), 0, 0⟩])) := sym_app ho9 (by rw [List.length_append, HPL.out]; rfl)
        have HC9 : Hid (Chg (fun _ => False) W1 w9) := (chg_then HCZ.out c10).trans c9 (fun z e => .inr (World.ownsRow.lt hown z e).1)
        have HS9 : Hid (w9.heap[g8]? = some (.cells #[.int .i64 s.n, .int .i64 s.a, .int .i64 s.b, .int .i64 s.c, .int .i64 s.d] 30 (0, 0))) := blk_keep (blk_keep HSZ.out c10 (fun f => f)) c9 (fun e => by
          obtain ⟨cs, hcs⟩ := Bk.own_blk hown e
          exact ty_ne hcs (blk_keep HSZ.out c10 (fun f => f)) (by decide))
        have HY9 : Hid (w9.heap[gy]? = some (.cells #[.int .i64 4, .int .u8 yb, .int .i64 yl, .int .i64 yd] 33 (0, 0))) := blk_keep (blk_keep HYZ.out c10 (fun f => f)) c9 (fun e => HPY.out gy e rfl)
        clear ho9 hg9 hm9 c9 hown hsrc hone c10 hB8 z0 z1 z2 z3 HZB HPZ HCZ HSZ HYZ
        obtain ⟨s0, s1, s2, s3, s4⟩ := cells5 HS9.out
        obtain ⟨y0, y1, y2, y3⟩ := cells4y HY9.out
        go_wp2_with fail
        refine (HNX.out _ (Y.new HT1.out HC9.out)).mono ?_
        rintro z w10 ⟨rfl, c11⟩
        have cT := chg_one w10 (.cells #[.int .i64 t.n, .int .i64 t.a, .int .i64 t.b, .int .i64 t.c, .int .i64 t.d] 30)
        have hst : (w10.alloc (.cells #[.int .i64 t.n, .int .i64 t.a, .int .i64 t.b, .int .i64 t.c, .int .i64 t.d] 30)).heap[g8]? = some (.cells #[.int .i64 s.n, .int .i64 s.a, .int .i64 s.b, .int .i64 s.c, .int .i64 s.d] 30 (0, 0)) := blk_keep (blk_keep HS9.out c11 (fun f => f)) cT (fun f => f)
        have HT10 : Hid ((w10.alloc (.cells #[.int .i64 t.n, .int .i64 t.a, .int .i64 t.b, .int .i64 t.c, .int .i64 t.d] 30)).heap[w10.heap.size]? = some (.cells #[.int .i64 t.n, .int .i64 t.a, .int .i64 t.b, .int .i64 t.c, .int .i64 t.d] 30 (0, 0))) := heap_alloc_last _ _
        obtain ⟨x0, x1, x2, x3, x4⟩ := cells5 HT10.out
        obtain ⟨⟨p0, f0⟩, ⟨p1, f1⟩, ⟨p2, f2⟩, ⟨p3, f3⟩, ⟨p4, f4⟩, hblk, hchg⟩ := put5_of hst (.int .i64 t.n) (.int .i64 t.a) (.int .i64 t.b) (.int .i64 t.c) (.int .i64 t.d)
        have HS11 : Hid _ := hblk
        have HP11 : Hid (SymO _ W1.heap.size (.slice a9 (k + 1) d9) (plain ++ [⟨1, (b0 : Int), 0, 0⟩])) := SymO.keep (SymO.new (SymO.new HP9.out c11) cT) hchg (fun z e h => by
          obtain ⟨cs, hcs⟩ := SymO.blk (SymO.new (SymO.new HP9.out c11) cT) e
          rw [h] at hcs
          exact ty_ne hcs hst (by decide))
        have HY11 : Hid _ := blk_keep (blk_keep (blk_keep HY9.out c11 (fun f => f)) cT (fun f => f)) hchg (fun h => by
          have h9 := blk_keep (blk_keep HY9.out c11 (fun f => f)) cT (fun f => f)
          rw [h] at h9
          exact ty_ne h9 hst (by decide))
        have HC11 : Hid (Chg (fun _ => False) W1 _) := (chg_then (chg_then HC9.out c11) cT).trans hchg (fun z e => .inr (by rw [e]; exact HG8.out))
        clear c11 cT hst hblk hchg HP9 HC9 HS9 HY9 HT10 s0 s1 s2 s3 s4 y0 y1 y2 y3
        go_upto_region 23 with fail
        generalize (((((w10.alloc (.cells #[.int .i64 t.n, .int .i64 t.a, .int .i64 t.b, .int .i64 t.c, .int .i64 t.d] 30)).setCell ⟨g8, 0, none⟩ (.int .i64 t.n)).setCell ⟨g8, 1, none⟩ (.int .i64 t.a)).setCell ⟨g8, 2, none⟩ (.int .i64 t.b)).setCell ⟨g8, 3, none⟩ (.int .i64 t.c)).setCell ⟨g8, 4, none⟩ (.int .i64 t.d) = W11 at *
        clear x0 x1 x2 x3 x4 p0 f0 p1 f1 p2 f2 p3 f3 p4 f4
        obtain ⟨y0, y1, y2, y3⟩ := cells4y HY11.out
        go_wp2_with fail
        refine (HSI.out _ (Y.new HT1.out HC11.out)).mono ?_
        rintro z w12 ⟨rfl, c12⟩
        have HC12 : Hid _ := chg_then HC11.out c12
        have HS12 : Hid _ := blk_keep HS11.out c12 (fun f => f)
        have HP12 : Hid (SymO w12 W1.heap.size (.slice a9 (k + 1) d9) (plain ++ [⟨1, (b0 : Int), 0, 0⟩])) := SymO.new HP11.out c12
        have HY12 : Hid _ := blk_keep HY11.out c12 (fun f => f)
        clear c12 HC11 HS11 HP11 HY11 y0 y1 y2 y3
        obtain ⟨y0, y1, y2, y3⟩ := cells4y HY12.out
        go_wp2_with fail
        refine (HSI.out _ (Y.new HT1.out HC12.out)).mono ?_
        rintro z w13 ⟨rfl, c13⟩
        have HC13 : Hid _ := chg_then HC12.out c13
        have HS13 : Hid _ := blk_keep HS12.out c13 (fun f => f)
        have HP13 : Hid (SymO w13 W1.heap.size (.slice a9 (k + 1) d9) (plain ++ [⟨1, (b0 : Int), 0, 0⟩])) := SymO.new HP12.out c13
        clear c13 HC12 HS12 HP12 HY12 y0 y1 y2 y3
        go_wp2_with fail
        exact ⟨⟨k + 1, at' + sz, d9, a9, bs ++ xs, plain ++ [⟨1, (b0 : Int), 0, 0⟩], t, s3', by omega, by go_num, rfl, by go_num, HRK.out, HRZ.out.1, HRZ.out.2, HPI.out, HP13.out, HS13.out, HC13.out⟩, by simp [intOf]; omega⟩
    · have hd1 : decide ((k : Int) < (rL : Int)) = false := by simp; omega
      have hd1' : decide (k < rL) = false := decide_eq_false hlt
      have hke : k = rL := by omega
      have HFI : Hid (bs = all ∧ plain.length = rL) := by
        have h9 := HI.out.1.1
        rw [List.take_of_length_le (by have := HRL.out; omega), HRUN.out] at h9
        simp only [Option.some.injEq, Prod.mk.injEq] at h9
        exact ⟨h9.1.symm, HI.out.2.2.1.trans hke⟩
      have HAT : Hid (at' = aL) := by
        have h9 := HI.out.1.2
        rw [HFI.out.1, HAL.out] at h9
        exact h9.symm
      have HPO : Hid (∀ y ∈ plain, y.I) := HI.out.2.2.2.1
      have HPW : Hid (SymO wr W1.heap.size (.slice pa k pc) plain) := HI.out.2.2.2.2.1
      have HCW : Hid (Chg (fun _ => False) W1 wr) := HI.out.2.2.2.2.2.2
      have HRP : Hid (runA n [] st0 plain = some (all, s2)) := by
        have h9 := HI.out.2.1
        rw [HFI.out.1] at h9
        exact h9
      obtain ⟨pa2, pc2, hpv, hpl, hpc⟩ := SymO.list HPW.out HPO.out
      simp only [Value.slice.injEq] at hpv
      obtain ⟨hp1, hp2, hp3⟩ := hpv
      rw [← hp1] at hpl
      rw [← hp3] at hpc
      have HEX : Hid (Calls Tryd.prog 14 #[.int .i64 (n : Int), .slice pa rL pc] wr fun e w' => ∃ ov, e = .returned (.tuple #[ov, .int .i64 (rL : Int), .int .i64 0]) ∧ w'.ownsRow wr.heap.size 5 1 ov aL (ins .u8 (nums all)) ∧ Chg (fun _ => False) wr w') := by
        have h9 := Y.expand (n : Int) pa pc plain wr (Y.new HT1.out HCW.out) ⟨by omega, by omega⟩ hpl hpc (by have := HFI.out.2; omega)
        have h8 : expandA (n : Int) plain = (all, rL, 0) := by
          unfold expandA
          rw [if_neg (by omega), Int.toNat_natCast, exp_run 0 HRP.out, HFI.out.2, Nat.zero_add]
        rw [h8, HFI.out.2, HAL.out] at h9
        exact h9
      have HATE : Hid (at' = aL ∧ k = rL) := ⟨HAT.out, hke⟩
      clear hp1 hp2 hp3 hpl hpc HAT HI hd1' hlt
      obtain ⟨rfl, rfl⟩ := HATE.out
      go_wp2_with fail
      refine Calls.mono HEX.out ?_
      rintro z w8 ⟨ov, rfl, ho, c8⟩
      have HC8 : Hid (Chg (fun _ => False) w w8) := chg_then HC1.out (chg_then HCW.out c8)
      obtain ⟨oa, oc, hov⟩ := form1 ho
      subst hov
      have hcv := conv_own ho
      have hcv2 := conv_own (ownsRow_keep HALL.out (chg_then HCW.out c8) (fun _ _ f => f))
      clear ho c8 HEX
      go_wp2
      go_ret
      exact ⟨rfl, HC8.out⟩
end Go.Proofs.YtlnocjicmofjfaaDoor
