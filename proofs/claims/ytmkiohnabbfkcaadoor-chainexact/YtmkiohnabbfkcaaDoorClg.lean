/- The program's filters that are known, and what takes one; of no statement by itself. -/
import Derived.Test.YtmkiohnabbfkcaaDoorClf
import Derived.Test.YtmkiohnabbfkcaaDoorLastQ
import Derived.Deep.RegionLaw
namespace Go.Proofs.YtmkiohnabbfkcaaDoor
open Go.RowKit
open St12
set_option linter.unusedVariables false
set_option linter.unusedSimpArgs false
theorem known20_q (w : World) : Calls Tryd.prog 23 #[] w fun e w' => e = .returned (.slice (some ⟨w.heap.size, 0, none⟩) 2 2) ∧ w' = w.alloc (.cells #[.int .u64 3, .func (.func 37) #[] #[], .int .u64 33, .func (.func 38) #[] #[]] 71) := by
  go_enter Tryd.func23, Tryd.ntmps23
  go_wp2
  go_ret
  exact ⟨rfl, rfl⟩
theorem setB0 {w : World} {B : Nat} {x y u : Value} {t : TypeId} (h : w.heap[B]? = some (.cells #[x, y] t (0, 0))) : (w.setCell ⟨B, 0, none⟩ u).heap[B]? = some (.cells #[u, y] t (0, 0)) := blk_set0 h
theorem readDist20 (x : Nat) (hx : x ≤ 255) (B : Nat) (u v : Value) (w : World) (hb : w.heap[B]? = some (.cells #[u, v] 68 (0, 0))) : Calls Tryd.prog 37 #[.int .u8 (x : Int), .pointer (some ⟨B, 0, none⟩)] w fun e w' => e = .returned (.int .i64 0) ∧ w'.heap[B]? = some (.cells #[.int .i64 ((x : Int) + 1), v] 68 (0, 0)) ∧ Chg (fun g => g = B) w w' := by
  have HB : Hid (w.heap[B]? = some (.cells #[u, v] 68 (0, 0))) := hb
  have t0 := cell0 hb
  have f0 := free0 hb
  have hi : (x : Int) ≤ 255 := by omega
  clear hb
  go_enter Tryd.func37, Tryd.ntmps37
  go_wp2
  go_ret
  exact ⟨rfl, blk_set0 HB.out, Chg.setCell (S := fun g => g = B) (Chg.refl _ w) (p := ⟨B, 0, none⟩) (.inl rfl) _⟩
theorem readDict20 (x : Nat) (hx : x ≤ 255) (B : Nat) (u v : Value) (w : World) (hb : w.heap[B]? = some (.cells #[u, v] 68 (0, 0))) : Calls Tryd.prog 38 #[.int .u8 (x : Int), .pointer (some ⟨B, 0, none⟩)] w fun e w' => e = .returned (.int .i64 (Ck17.byteD (x : Int)).2) ∧ w'.heap[B]? = some (.cells #[u, .int .i64 (Ck17.byteD (x : Int)).1] 68 (0, 0)) ∧ Chg (fun g => g = B) w w' := by
  have HB : Hid (w.heap[B]? = some (.cells #[u, v] 68 (0, 0))) := hb
  have t1 := cell1 hb
  have f1 := free1 hb
  have hi : (x : Int) ≤ 255 := by omega
  have HD : Hid _ := bd17_any (x : Int) (by unfold I64; omega) w
  generalize (Ck17.byteD (x : Int)).1 = D at *
  generalize (Ck17.byteD (x : Int)).2 = E at *
  clear hb
  go_enter Tryd.func38, Tryd.ntmps38
  go_wp2_with fail
  refine Calls.mono HD.out ?_
  rintro z w2 ⟨rfl, rfl⟩
  go_wp2
  go_ret
  exact ⟨rfl, blk_set1 HB.out, Chg.setCell (S := fun g => g = B) (Chg.refl _ _) (p := ⟨B, 1, none⟩) (.inl rfl) _⟩
/-- What is told so far, by states of the region that takes one. -/
def TkJ (W0 : World) (B : Nat) (C0 C1 : Array Value) (q : Nat) (ww : World) : Prop := Chg (fun g => g = B) W0 ww ∧ ww.heap[B]? = some (.cells (if q = 0 then C0 else C1) 68 (0, 0))
theorem take20_no (kid fid : Int) (F : Nat) (a : Option Addr) (n c : Nat) (p : Value) (w : World) (h : fid ≠ kid ∨ n ≠ 1) : Calls Tryd.prog 24 #[.agg #[.int .u64 kid, .func (.func F) #[] #[]], .agg #[.int .u64 fid, .slice a n c], p] w fun e w' => e = .returned (.int .i64 4) ∧ Chg (fun _ => False) w w' := by
  have HC : Hid (Chg (fun _ => False) w ((w.alloc (.cells #[.int .u64 kid, .func (.func F) #[] #[]] 71)).alloc (.cells #[.int .u64 fid, .slice a n c] 36))) := chg_then (chg_one _ _) (chg_one _ _)
  have cB := chg_one (w.alloc (.cells #[.int .u64 kid, .func (.func F) #[] #[]] 71)) (.cells #[.int .u64 fid, .slice a n c] 36)
  have bA := blk_keep (heap_alloc_last w (.cells #[.int .u64 kid, .func (.func F) #[] #[]] 71)) cB (fun f => f)
  have bB := heap_alloc_last (w.alloc (.cells #[.int .u64 kid, .func (.func F) #[] #[]] 71)) (.cells #[.int .u64 fid, .slice a n c] 36)
  rw [World.size_alloc] at bB
  have a0 := cell0 bA
  have b0 := cell0 bB
  have b1 := cell1 bB
  clear cB bA bB
  by_cases h1 : fid = kid
  · subst h1
    have hn : n ≠ 1 := by rcases h with h | h; exact absurd rfl h; exact h
    have d1 : (fid != fid) = false := by simp
    have d2 : ((n : Int) != 1) = true := by simp; omega
    clear h hn
    go_enter Tryd.func24, Tryd.ntmps24
    go_wp2
    go_ret
    exact ⟨rfl, HC.out⟩
  · have d1 : (fid != kid) = true := by simp [h1]
    clear h h1
    go_enter Tryd.func24, Tryd.ntmps24
    go_wp2
    go_ret
    exact ⟨rfl, HC.out⟩
set_option maxHeartbeats 4000000 in
set_option maxRecDepth 100000 in
theorem take20_yes (kid : Int) (F : Nat) (a : Option Addr) (c x : Nat) (hx : x ≤ 255) (B : Nat) (C0 C1 : Array Value) (E : Int) (w : World) (hr : Row8 w a 1 c (nums [x])) (hb : w.heap[B]? = some (.cells C0 68 (0, 0))) (hne : ∀ y : Addr, a = some y → y.block ≠ B)
    (hcf : ∀ args w, (callFunc F args).run Tryd.prog w = .ok (.enter F args) w)
    (hcl : ∀ ww : World, ww.heap[B]? = some (.cells C0 68 (0, 0)) → Calls Tryd.prog F #[.int .u8 (x : Int), .pointer (some ⟨B, 0, none⟩)] ww fun e w' => e = .returned (.int .i64 E) ∧ w'.heap[B]? = some (.cells C1 68 (0, 0)) ∧ Chg (fun g => g = B) ww w') :
    Calls Tryd.prog 24 #[.agg #[.int .u64 kid, .func (.func F) #[] #[]], .agg #[.int .u64 kid, .slice a 1 c], .pointer (some ⟨B, 0, none⟩)] w fun e w' => e = .returned (.int .i64 E) ∧ w'.heap[B]? = some (.cells C1 68 (0, 0)) ∧ Chg (fun g => g = B) w w' := by
  have HCL : Hid (∀ ww : World, ww.heap[B]? = some (.cells C0 68 (0, 0)) → Calls Tryd.prog F #[.int .u8 (x : Int), .pointer (some ⟨B, 0, none⟩)] ww fun e w' => e = .returned (.int .i64 E) ∧ w'.heap[B]? = some (.cells C1 68 (0, 0)) ∧ Chg (fun g => g = B) ww w') := hcl
  obtain ⟨b, off, rfl, kx⟩ := row8_at hr (by omega)
  have kx0 : w.cell? ⟨b, off, none⟩ = some (.int .u8 (x : Int)) := by simpa using kx 0 (by omega)
  have hbB : b ≠ B := hne _ rfl
  have cA := chg_one w (.cells #[.int .u64 kid, .func (.func F) #[] #[]] 71)
  have cB := chg_one (w.alloc (.cells #[.int .u64 kid, .func (.func F) #[] #[]] 71)) (.cells #[.int .u64 kid, .slice (some ⟨b, off, none⟩) 1 c] 36)
  have bA := blk_keep (heap_alloc_last w (.cells #[.int .u64 kid, .func (.func F) #[] #[]] 71)) cB (fun f => f)
  have bB := heap_alloc_last (w.alloc (.cells #[.int .u64 kid, .func (.func F) #[] #[]] 71)) (.cells #[.int .u64 kid, .slice (some ⟨b, off, none⟩) 1 c] 36)
  rw [World.size_alloc] at bB
  have a0 := cell0 bA
  have b0 := cell0 bB
  have b1 := cell1 bB
  have HC0 : Hid (Chg (fun _ => False) w ((w.alloc (.cells #[.int .u64 kid, .func (.func F) #[] #[]] 71)).alloc (.cells #[.int .u64 kid, .slice (some ⟨b, off, none⟩) 1 c] 36))) := chg_then cA cB
  have HB0 : Hid (((w.alloc (.cells #[.int .u64 kid, .func (.func F) #[] #[]] 71)).alloc (.cells #[.int .u64 kid, .slice (some ⟨b, off, none⟩) 1 c] 36)).heap[B]? = some (.cells C0 68 (0, 0))) := blk_keep hb HC0.out (fun f => f)
  have hBG : B < w.heap.size := lt_of_blk hb
  have HBK : Hid (∀ ww, Chg (fun g => g = B) ((w.alloc (.cells #[.int .u64 kid, .func (.func F) #[] #[]] 71)).alloc (.cells #[.int .u64 kid, .slice (some ⟨b, off, none⟩) 1 c] 36)) ww → ww.heap[w.heap.size]? = some (.cells #[.int .u64 kid, .func (.func F) #[] #[]] 71 (0, 0)) ∧ ww.heap[w.heap.size + 1]? = some (.cells #[.int .u64 kid, .slice (some ⟨b, off, none⟩) 1 c] 36 (0, 0)) ∧ ww.cell? ⟨b, off, none⟩ = some (.int .u8 (x : Int))) := fun ww hc => by
    refine ⟨blk_keep bA hc (fun e => by omega), blk_keep bB hc (fun e => by omega), ?_⟩
    have h8 := cell_chg kx0 HC0.out
    have h9 := World.block_lt_of_cell? _ _ h8
    have h7 := hc.block b h9 hbB
    rw [← h8]
    simp only [World.cell?, h7]
  have hi : (x : Int) ≤ 255 := by omega
  clear cA cB bA bB hr hb hcl kx kx0
  go_enter Tryd.func24, Tryd.ntmps24
  go_upto_region 3 with fail
  generalize hWW : (w.alloc (.cells #[.int .u64 kid, .func (.func F) #[] #[]] 71)).alloc (.cells #[.int .u64 kid, .slice (some ⟨b, off, none⟩) 1 c] 36) = W0 at *
  have HW : Hid (Chg (fun _ => False) w W0) := HC0.out
  clear a0 b0 b1 HC0 hne hBG hWW
  refine wp_region_phaseQ (mk := fun u => #[_, _, _, _, _, _, _, _, _, _, _, _, _, _, _, _, _, _, u 18, u 19, u 20, u 21, u 22, u 23, u 24, u 25]) (G := lookG [(18, .pointer (some ⟨w.heap.size, 1, none⟩)), (19, .func (.func F) #[] #[]), (20, .pointer (some ⟨w.heap.size + 1, 1, none⟩)), (21, .slice (some ⟨b, off, none⟩) 1 c), (22, .pointer (some ⟨b, off, none⟩)), (23, .int .u8 (x : Int)), (24, .pointer (some ⟨B, 0, none⟩)), (25, .int .i64 E)]) (J := fun q u ww => TkJ W0 B C0 C1 q ww) [7] (fun i =>  1) ([]) (fun _ => undef) rfl (by kernel_rfl) 8 _ rfl rfl (by kernel_rfl) (by kernel_rfl) (by kernel_rfl) (by decide) ?_ ?_ ?_ (by kernel_rfl) ?_ ?_
  · repeat (refine ⟨fun _ _ => rfl, ?_⟩)
    exact trivial
  · exact fun q u u2 ww _ h => h
  · exact ⟨(Chg.refl _ _).drew, HB0.out⟩
  · refine ⟨?_, ?_, ?_, ?_, ?_, ?_, ?_, ?_, trivial⟩
    · show StepRQ _ _ _ _ _ _ _ _ _ -- 18
      unfold StepRQ
      intro qn hq u w_ hj hd K hK
      clear hd
      clear hj
      go_simp
      exact hK.out _ rfl
    · show StepRQ _ _ _ _ _ _ _ _ _ -- 19
      unfold StepRQ
      intro qn hq u w_ hj hd K hK
      have h18 : u 18 = .pointer (some ⟨w.heap.size, 1, none⟩) := hd.get 0 (by kernel_rfl)
      clear hd
      simp only [h18] at hK
      have k1 := cell1 (HBK.out w_ hj.1).1
      clear hj
      go_simp
      exact hK.out _ rfl
    · show StepRQ _ _ _ _ _ _ _ _ _ -- 20
      unfold StepRQ
      intro qn hq u w_ hj hd K hK
      clear hd
      clear hj
      go_simp
      exact hK.out _ rfl
    · show StepRQ _ _ _ _ _ _ _ _ _ -- 21
      unfold StepRQ
      intro qn hq u w_ hj hd K hK
      have h20 : u 20 = .pointer (some ⟨w.heap.size + 1, 1, none⟩) := hd.get 2 (by kernel_rfl)
      clear hd
      simp only [h20] at hK
      have k1 := cell1 (HBK.out w_ hj.1).2.1
      clear hj
      go_simp
      exact hK.out _ rfl
    · show StepRQ _ _ _ _ _ _ _ _ _ -- 22
      unfold StepRQ
      intro qn hq u w_ hj hd K hK
      have h21 : u 21 = .slice (some ⟨b, off, none⟩) 1 c := hd.get 3 (by kernel_rfl)
      clear hd
      simp only [h21] at hK
      clear hj
      go_simp
      exact hK.out _ rfl
    · show StepRQ _ _ _ _ _ _ _ _ _ -- 23
      unfold StepRQ
      intro qn hq u w_ hj hd K hK
      have h22 : u 22 = .pointer (some ⟨b, off, none⟩) := hd.get 4 (by kernel_rfl)
      clear hd
      simp only [h22] at hK
      have k1 := (HBK.out w_ hj.1).2.2
      clear hj
      go_simp
      exact hK.out _ rfl
    · show StepRQ _ _ _ _ _ _ _ _ _ -- 24
      unfold StepRQ
      intro qn hq u w_ hj hd K hK
      clear hd
      clear hj
      go_simp
      exact hK.out _ rfl
    · show StepWQ _ _ _ _ _ _ _ _ _ -- 25
      unfold StepWQ
      intro u w_ hj hd K hK
      have h19 : u 19 = .func (.func F) #[] #[] := hd.get 1 (by kernel_rfl)
      have h23 : u 23 = .int .u8 (x : Int) := hd.get 5 (by kernel_rfl)
      have h24 : u 24 = .pointer (some ⟨B, 0, none⟩) := hd.get 6 (by kernel_rfl)
      clear hd
      simp only [h19, h23, h24] at hK
      have HJ : Hid _ := hj
      clear hj
      go_simp
      refine Calls.mono (HCL.out w_ HJ.out.2) ?_
      rintro z w2 ⟨rfl, hb2, c2⟩
      exact hK.out _ w2 ⟨HJ.out.1.trans c2 (fun _ e => .inl e), hb2⟩ rfl
  · intro u w7 hj hA K hK
    have HJ : Hid _ := hj
    have he : u 25 = .int .i64 E := hA.at 25 (by kernel_rfl)
    clear hj hA
    simp only [he] at hK ⊢
    go_simp
    refine hK.out _ _ ?_
    go_wp2
    go_ret
    exact ⟨rfl, HJ.out.2, (HW.out.mono (fun _ f => f.elim)).trans HJ.out.1 (fun _ e => .inl e)⟩
/-- What a filter of this number tells: the error, what is told then. -/
def tkE (id : Nat) (f : Flt) : Int := match Cn20.one f id with | none => 4 | some x => if id = 3 then 0 else (Ck17.byteD (x : Int)).2
def tkS (id : Nat) (f : Flt) (s : Int × Int) : Int × Int := match Cn20.one f id with | none => s | some x => if id = 3 then ((x : Int) + 1, s.2) else (s.1, (Ck17.byteD (x : Int)).1)
theorem one_some {f : Flt} {id x : Nat} (h : Cn20.one f id = some x) : f.id = id ∧ f.ps = [x] := by
  unfold Cn20.one at h
  split at h
  · rename_i h1
    refine ⟨h1, ?_⟩
    split at h
    · rename_i x' h2
      simp only [Option.some.injEq] at h
      rw [h2, h]
    · cases h
  · cases h
theorem one_none {f : Flt} {id : Nat} (h : Cn20.one f id = none) : f.id ≠ id ∨ f.ps.length ≠ 1 := by
  unfold Cn20.one at h
  split at h
  · rename_i h1
    refine .inr (fun hl => ?_)
    match hp : f.ps, hl with
    | [x], _ => rw [hp] at h; simp at h
  · rename_i h1; exact .inl h1
theorem take20_any (id : Nat) (F : Nat) (hF : id = 3 ∧ F = 37 ∨ id = 33 ∧ F = 38) (q : FlV) (B : Nat) (s : Int × Int) (w : World) (hq : q.ok w) (hb : w.heap[B]? = some (.cells #[.int .i64 s.1, .int .i64 s.2] 68 (0, 0))) (hne : ∀ y : Addr, 0 < q.n → q.a = some y → y.block ≠ B) :
    Calls Tryd.prog 24 #[.agg #[.int .u64 (id : Int), .func (.func F) #[] #[]], .agg #[.int .u64 (q.id : Int), .slice q.a q.n q.c], .pointer (some ⟨B, 0, none⟩)] w fun e w' => e = .returned (.int .i64 (tkE id q.f)) ∧ w'.heap[B]? = some (.cells #[.int .i64 (tkS id q.f s).1, .int .i64 (tkS id q.f s).2] 68 (0, 0)) ∧ Chg (fun g => g = B) w w' := by
  have hlen := hq.len
  cases ho : Cn20.one q.f id with
  | none =>
    have h1 : tkE id q.f = 4 := by unfold tkE; rw [ho]
    have h2 : tkS id q.f s = s := by unfold tkS; rw [ho]
    rw [h1, h2]
    refine (take20_no (id : Int) (q.id : Int) F q.a q.n q.c _ w ?_).mono fun e w' ⟨he, hc⟩ => ⟨he, blk_keep hb hc (fun f => f), hc.mono (fun _ f => f.elim)⟩
    rcases one_none ho with h | h
    · exact .inl (fun e => h (by have : q.id = id := by omega
                                 exact this))
    · refine .inr (fun e => h ?_)
      show q.bs.length = 1
      omega
  | some x =>
    obtain ⟨h1, h2⟩ := one_some ho
    have h1' : q.id = id := h1
    have h2' : q.bs = [x] := h2
    have hx : x ≤ 255 := by have := hq.dig x (by rw [h2']; simp); omega
    have hn : q.n = 1 := by rw [← hlen, h2']; rfl
    have hr := hq.row
    obtain ⟨qi, qa, qn, qc, qb⟩ := q
    simp only at h1' h2' hn hr hne
    subst h1' h2' hn
    rcases hF with ⟨rfl, rfl⟩ | ⟨rfl, rfl⟩
    · have e1 : tkE 3 (FlV.f ⟨3, qa, 1, qc, [x]⟩) = 0 := by unfold tkE; rw [ho]; rfl
      have e2 : tkS 3 (FlV.f ⟨3, qa, 1, qc, [x]⟩) s = ((x : Int) + 1, s.2) := by unfold tkS; rw [ho]; rfl
      rw [e1, e2]
      exact take20_yes 3 37 qa qc x hx B _ _ 0 w hr hb (fun y e => hne y (by decide) e) (fun _ _ => rfl) (fun ww hw => readDist20 x hx B _ _ ww hw)
    · have e1 : tkE 33 (FlV.f ⟨33, qa, 1, qc, [x]⟩) = (Ck17.byteD (x : Int)).2 := by unfold tkE; rw [ho]; rfl
      have e2 : tkS 33 (FlV.f ⟨33, qa, 1, qc, [x]⟩) s = (s.1, (Ck17.byteD (x : Int)).1) := by unfold tkS; rw [ho]; rfl
      rw [e1, e2]
      exact take20_yes 33 38 qa qc x hx B _ _ _ w hr hb (fun y e => hne y (by decide) e) (fun _ _ => rfl) (fun ww hw => readDict20 x hx B _ _ ww hw)
end Go.Proofs.YtmkiohnabbfkcaaDoor
