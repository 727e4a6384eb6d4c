/- The contracts of sets and alike; of no statement by themselves. -/
import Derived.Test.YthhjllhcgdkjnaaPl
import Derived.Deep.DeepCutAuto
import Derived.Laws.ResultCell
namespace Go.Proofs.Ythhjllhcgdkjnaa
open Go.RowKit
set_option linter.unusedVariables false

/-- A set and the document's, alike. -/
structure One (w : World) (B s q : Nat) (u t : Value) (x : List Int) : Prop where
  st : St w B s u x
  rt : Rt w B q (x.length : Int) t x
  inn : In31 x
  len : x.length ≤ 40
theorem One.far {w w' : World} {T : Nat → Prop} {B s q : Nat} {u t : Value} {x : List Int} (h : One w B s q u t x) (hc : Chg T w w') (h1 : ¬ T s) (h2 : ¬ T q) (h3 : ∀ g, u.ownBlock = some g → ¬ T g) (h4 : ∀ g, t.ownBlock = some g → ¬ T g) : One w' B s q u t x :=
  ⟨h.st.keep hc h1 h3, h.rt.keep hc h2 h4, h.inn, h.len⟩
theorem One.new {w w' : World} {B s q : Nat} {u t : Value} {x : List Int} (h : One w B s q u t x) (hc : Chg (fun _ => False) w w') : One w' B s q u t x := h.far hc (fun f => f) (fun f => f) (fun _ _ f => f) (fun _ _ f => f)
theorem One.base {w : World} {B B' s q : Nat} {u t : Value} {x : List Int} (h : One w B s q u t x) (hB : B' ≤ B) : One w B' s q u t x :=
  ⟨⟨Nat.le_trans hB h.st.ha, h.st.blk, owns_base h.st.own hB⟩, ⟨Nat.le_trans hB h.rt.hr, h.rt.blk, owns_base h.rt.own hB⟩, h.inn, h.len⟩
/-- The box of the sets is written. -/
theorem One.box {w w' : World} {B s q G : Nat} {u t : Value} {x : List Int} {cs : Array Value} (h : One w B s q u t x) (hb : w.heap[G]? = some (.cells cs 55 (0, 0))) (hc : Chg (fun z => z = G) w w') : One w' B s q u t x := by
  refine h.far hc (fun e => ?_) (fun e => ?_) (fun g e f => ?_) (fun g e f => ?_)
  · have h1 := h.st.blk
    rw [e] at h1
    exact ty_ne h1 hb (by decide)
  · have h1 := h.rt.blk
    rw [e] at h1
    exact ty_ne h1 hb (by decide)
  · obtain ⟨cur, hcur⟩ := owns_blk h.st.own e
    rw [f] at hcur
    exact ty_ne hcur hb (by decide)
  · obtain ⟨cur, hcur⟩ := owns_blk h.rt.own e
    rw [f] at hcur
    exact ty_ne hcur hb (by decide)
theorem size_of (x : Int) : ∃ N : Nat, N ≤ 40 ∧ ((x < 0 ∧ N = 3) ∨ (0 ≤ x ∧ 40 < x ∧ N = 3) ∨ (0 ≤ x ∧ x ≤ 40 ∧ x = (N : Int))) := by
  by_cases h0 : x < 0
  · exact ⟨3, by omega, .inl ⟨h0, rfl⟩⟩
  · by_cases h1 : 40 < x
    · exact ⟨3, by omega, .inr (.inl ⟨by omega, h1, rfl⟩)⟩
    · exact ⟨x.toNat, by omega, .inr (.inr ⟨by omega, by omega, by omega⟩)⟩
theorem results_cell_tmp_row {P : Program} {fn : Func} {p u : Tmp} {ty : TypeId} (h : fn.results = #[.cell p ty, .tmp u]) (tmps : Array Value) (w : World) (g : Nat) (t : TypeId) (cs : Array Value) (fr : Nat × Nat) (d : TypeDesc)
    (hp : tmps.getD p undef = .pointer (some ⟨g, 0, none⟩)) (hg : w.heap[g]? = some (.cells cs t fr))
    (hu : P.underlying ty = some d) (hd : (match d with | .struct _ | .array _ _ => true | _ => false) = true) (hi : (P.info? ty).map (·.size) = some cs.size) :
    (results fn tmps).run P w = .ok (.tuple #[.agg cs, tmps.getD u undef]) w := by
  rw [results_cell_tmp h, hp]
  simp only [asAddr, Sem.run_pure, Result.andThen_ok]
  rw [run_loadVar_row w g t ty cs fr d hg hu hd hi]
  rfl

set_option maxHeartbeats 4000000 in
set_option maxRecDepth 100000 in
theorem sets_any (f g : Int) (w0 : World) : Calls Try.prog 21 #[.int .i64 f, .int .i64 g] w0 fun e w' => ∃ S : Sv, e = .returned (.tuple #[.agg #[.pointer (some ⟨S.s 0, 0, none⟩), .pointer (some ⟨S.s 1, 0, none⟩), .pointer (some ⟨S.q 0, 0, none⟩), .pointer (some ⟨S.q 1, 0, none⟩)], .bool true]) ∧ SetOk w' w0.heap.size S 0 ∧ SetOk w' w0.heap.size S 1 ∧ (∀ z, (S.u 0).ownBlock = some z → (S.u 1).ownBlock ≠ some z) ∧ (∀ z, (S.t 0).ownBlock = some z → (S.t 1).ownBlock ≠ some z) ∧ Chg (fun _ => False) w0 w' := by
  have c1 := chg_one w0 (.cells #[.pointer none, .pointer none, .pointer none, .pointer none] 55)
  have c2 := chg_then c1 (chg_one (w0.alloc (.cells #[.pointer none, .pointer none, .pointer none, .pointer none] 55)) (.cells #[.pointer none, .pointer none, .pointer none, .pointer none] 55))
  have c3 := chg_then c2 (chg_one ((w0.alloc (.cells #[.pointer none, .pointer none, .pointer none, .pointer none] 55)).alloc (.cells #[.pointer none, .pointer none, .pointer none, .pointer none] 55)) (.cells #[.int .i64 f, .int .i64 g] 3))
  have s1_ : (w0.alloc (.cells #[.pointer none, .pointer none, .pointer none, .pointer none] 55)).heap.size = w0.heap.size + 1 := World.size_alloc _ _
  have s2_ : ((w0.alloc (.cells #[.pointer none, .pointer none, .pointer none, .pointer none] 55)).alloc (.cells #[.pointer none, .pointer none, .pointer none, .pointer none] 55)).heap.size = w0.heap.size + 2 := by rw [World.size_alloc, World.size_alloc]
  have HI0 : Hid ((((w0.alloc (.cells #[.pointer none, .pointer none, .pointer none, .pointer none] 55)).alloc (.cells #[.pointer none, .pointer none, .pointer none, .pointer none] 55)).alloc (.cells #[.int .i64 f, .int .i64 g] 3)).heap[w0.heap.size]? = some (.cells #[.pointer none, .pointer none, .pointer none, .pointer none] 55 (0, 0))) := blk_keep (blk_keep (heap_alloc_last w0 (.cells #[.pointer none, .pointer none, .pointer none, .pointer none] 55)) (chg_one (w0.alloc (.cells #[.pointer none, .pointer none, .pointer none, .pointer none] 55)) (.cells #[.pointer none, .pointer none, .pointer none, .pointer none] 55)) (fun f => f)) (chg_one ((w0.alloc (.cells #[.pointer none, .pointer none, .pointer none, .pointer none] 55)).alloc (.cells #[.pointer none, .pointer none, .pointer none, .pointer none] 55)) (.cells #[.int .i64 f, .int .i64 g] 3)) (fun f => f)
  have HI1 : Hid ((((w0.alloc (.cells #[.pointer none, .pointer none, .pointer none, .pointer none] 55)).alloc (.cells #[.pointer none, .pointer none, .pointer none, .pointer none] 55)).alloc (.cells #[.int .i64 f, .int .i64 g] 3)).heap[w0.heap.size + 1]? = some (.cells #[.pointer none, .pointer none, .pointer none, .pointer none] 55 (0, 0))) := by
    have h5 := heap_alloc_last (w0.alloc (.cells #[.pointer none, .pointer none, .pointer none, .pointer none] 55)) (.cells #[.pointer none, .pointer none, .pointer none, .pointer none] 55)
    rw [s1_] at h5
    exact blk_keep h5 (chg_one ((w0.alloc (.cells #[.pointer none, .pointer none, .pointer none, .pointer none] 55)).alloc (.cells #[.pointer none, .pointer none, .pointer none, .pointer none] 55)) (.cells #[.int .i64 f, .int .i64 g] 3)) (fun f => f)
  have HI2 : Hid ((((w0.alloc (.cells #[.pointer none, .pointer none, .pointer none, .pointer none] 55)).alloc (.cells #[.pointer none, .pointer none, .pointer none, .pointer none] 55)).alloc (.cells #[.int .i64 f, .int .i64 g] 3)).heap[w0.heap.size + 2]? = some (.cells #[.int .i64 f, .int .i64 g] 3 (0, 0))) := by
    have h5 := heap_alloc_last ((w0.alloc (.cells #[.pointer none, .pointer none, .pointer none, .pointer none] 55)).alloc (.cells #[.pointer none, .pointer none, .pointer none, .pointer none] 55)) (.cells #[.int .i64 f, .int .i64 g] 3)
    rw [s2_] at h5
    exact h5
  have HC : Hid (Chg (fun _ => False) w0 (((w0.alloc (.cells #[.pointer none, .pointer none, .pointer none, .pointer none] 55)).alloc (.cells #[.pointer none, .pointer none, .pointer none, .pointer none] 55)).alloc (.cells #[.int .i64 f, .int .i64 g] 3))) := c3
  clear c1 c2 c3 s1_ s2_
  go_enter Try.func21, Try.ntmps21
  go_wp2_with fail
  generalize ((w0.alloc (.cells #[.pointer none, .pointer none, .pointer none, .pointer none] 55)).alloc (.cells #[.pointer none, .pointer none, .pointer none, .pointer none] 55)).alloc (.cells #[.int .i64 f, .int .i64 g] 3) = W3 at *
  obtain ⟨F, hF⟩ : ∃ F, F = w0.heap.size := ⟨_, rfl⟩
  have HF : Hid (F = w0.heap.size) := hF
  rw [← hF] at HI0 HI1 HI2 ⊢
  clear hF
  go_loopw [17] (fun iv wr => ∃ k : Nat, k ≤ 2 ∧ iv = .int .i64 (k : Int) ∧ Hid (wr.heap[F]? = some (.cells #[.pointer none, .pointer none, .pointer none, .pointer none] 55 (0, 0))) ∧ Hid (wr.heap[F + 2]? = some (.cells #[.int .i64 f, .int .i64 g] 3 (0, 0))) ∧ Hid (Chg (fun _ => False) w0 wr) ∧ ((k = 0 ∧ Hid (wr.heap[F + 1]? = some (.cells #[.pointer none, .pointer none, .pointer none, .pointer none] 55 (0, 0)))) ∨ (k = 1 ∧ ∃ s0 q0 u0 t0 x0, Hid (wr.heap[F + 1]? = some (.cells #[.pointer (some ⟨s0, 0, none⟩), .pointer none, .pointer (some ⟨q0, 0, none⟩), .pointer none] 55 (0, 0))) ∧ Hid (One wr w0.heap.size s0 q0 u0 t0 x0)) ∨ (k = 2 ∧ ∃ s0 q0 u0 t0 x0 s1 q1 u1 t1 x1, Hid (wr.heap[F + 1]? = some (.cells #[.pointer (some ⟨s0, 0, none⟩), .pointer (some ⟨s1, 0, none⟩), .pointer (some ⟨q0, 0, none⟩), .pointer (some ⟨q1, 0, none⟩)] 55 (0, 0))) ∧ Hid (One wr w0.heap.size s0 q0 u0 t0 x0) ∧ Hid (One wr w0.heap.size s1 q1 u1 t1 x1) ∧ Hid ((∀ z, u0.ownBlock = some z → u1.ownBlock ≠ some z) ∧ (∀ z, t0.ownBlock = some z → t1.ownBlock ≠ some z))))) (fun iv _ => 2 - (intOf iv).toNat)
  case atStart => exact ⟨0, by omega, rfl, HI0.out, HI2.out, HC.out, .inl ⟨rfl, HI1.out⟩⟩
  case round =>
    clear HI0 HI1 HI2 HC
    obtain ⟨k, hk, rfl, HI0, HI2, HC, hst⟩ := hrel
    rcases hst with ⟨rfl, HI1⟩ | ⟨rfl, s0, q0, u0, t0, x0, HI1, HONE0⟩ | ⟨rfl, s0, q0, u0, t0, x0, s1, q1, u1, t1, x1, HI1, HA, HB, HD⟩
    · skip
      have hx0 : wr.cell? ⟨F + 2, 0, none⟩ = some (.int .i64 f) := cell0 HI2.out
      obtain ⟨N, hN, hcase⟩ := size_of f
      go_upto_region 5 with fail
      go_cut [27] (fun s27 wx => ((s27 = .bool true ∧ N = 3) ∨ (s27 = .bool false ∧ f = (N : Int))) ∧ wr = wx)
      case first =>
        rcases hcase with ⟨h0, h1⟩ | ⟨h0, h1, h2⟩ | ⟨h0, h1, h2⟩
        · go_wp2_with fail
          go_meet
          case rel => exact ⟨.inl ⟨rfl, h1⟩, rfl⟩
        · have hd : decide (f < 0) = false := by simp; omega
          have HX : Hid (N = 3) := h2
          clear h2
          go_wp2_with fail
          go_meet
          case rel => exact ⟨.inl ⟨by first | rfl | (simp; omega), HX.out⟩, rfl⟩
        · have hd : decide (f < 0) = false := by simp; omega
          have hd2 : decide (40 < f) = false := by simp; omega
          have HX : Hid (f = (N : Int)) := h2
          clear h2
          go_wp2_with fail
          go_meet
          case rel => exact ⟨.inr ⟨by first | rfl | (simp; omega), HX.out⟩, rfl⟩
      case rest =>
        clear hcase hx0
        obtain ⟨hcase, rfl⟩ := hcut
        go_upto_if 27 with fail
        go_cut [8] (fun s8 wx => s8 = .int .i64 (N : Int) ∧ wr = wx)
        case first =>
          rcases hcase with ⟨rfl, h1⟩ | ⟨rfl, h1⟩
          · subst h1
            go_wp2_with fail
            go_meet
            case rel => exact ⟨rfl, rfl⟩
          · have HX : Hid (f = (N : Int)) := h1
            clear h1
            go_wp2_with fail
            go_meet
            case rel => exact ⟨by rw [HX.out], rfl⟩
        case rest =>
          clear hcase
          obtain ⟨rfl, rfl⟩ := hcut
          go_wp2_with fail
          refine (new_in N _ (by omega)).mono ?_
          rintro x w2 ⟨s0, u0, rfl, hs2, hS2, c2⟩
          have HS2 : Hid (St w2 wr.heap.size s0 u0 (List.replicate N 1024)) := hS2
          have HC2 : Hid (Chg (fun _ => False) wr w2) := c2
          clear hS2 c2
          go_wp2_with fail
          refine (rnew_in N _ (by omega)).mono ?_
          rintro x w3 ⟨q0, t0, rfl, hq3, hR3, c3⟩
          have HC3 : Hid (Chg (fun _ => False) wr w3) := chg_then HC2.out c3
          have HONE : Hid (One w3 wr.heap.size s0 q0 u0 t0 (List.replicate N 1024)) := ⟨HS2.out.new c3, ⟨Nat.le_trans HC2.out.size hR3.hr, by simpa using hR3.blk, owns_base hR3.own HC2.out.size⟩, In31.half N, by simpa using hN⟩
          have b1 := blk_keep HI1.out HC3.out (fun f => f)
          have HB1 : Hid (w3.heap[F + 1]? = some (.cells #[.pointer none, .pointer none, .pointer none, .pointer none] 55 (0, 0))) := b1
          have HB0 : Hid (w3.heap[F]? = some (.cells #[.pointer none, .pointer none, .pointer none, .pointer none] 55 (0, 0))) := blk_keep HI0.out HC3.out (fun f => f)
          have HB2 : Hid (w3.heap[F + 2]? = some (.cells #[.int .i64 f, .int .i64 g] 3 (0, 0))) := blk_keep HI2.out HC3.out (fun f => f)

          obtain ⟨z0, z1, z2, z3⟩ := cells4 b1
          have zf : ∀ j, w3.frozen? ⟨F + 1, j, none⟩ = false := fun j => by simp [World.frozen?, b1]
          have zfa := zf 0
          have zfb := zf 2
          have hds : decide (s0 = s0) = true := by simp
          clear hR3 c3 HS2 b1 zf HI0 HI1 HI2 HC2
          go_wp2_with fail
          have cs : Chg (fun z => z = F + 1) w3 ((w3.setCell ⟨F + 1, 0, none⟩ (.pointer (some ⟨s0, 0, none⟩))).setCell ⟨F + 1, 2, none⟩ (.pointer (some ⟨q0, 0, none⟩))) := ((Chg.refl (fun z => z = F + 1) w3).setCell (p := ⟨F + 1, 0, none⟩) (.inl rfl) _).setCell (p := ⟨F + 1, 2, none⟩) (.inl rfl) _
          have n1 := blk_setk (l := [.pointer none, .pointer none, .pointer none, .pointer none]) HB1.out 0 (.pointer (some ⟨s0, 0, none⟩))
          have n2 := blk_setk (l := [.pointer (some ⟨s0, 0, none⟩), .pointer none, .pointer none, .pointer none]) n1 2 (.pointer (some ⟨q0, 0, none⟩))
          have HN1 : Hid (((w3.setCell ⟨F + 1, 0, none⟩ (.pointer (some ⟨s0, 0, none⟩))).setCell ⟨F + 1, 2, none⟩ (.pointer (some ⟨q0, 0, none⟩))).heap[F + 1]? = some (.cells #[.pointer (some ⟨s0, 0, none⟩), .pointer none, .pointer (some ⟨q0, 0, none⟩), .pointer none] 55 (0, 0))) := n2
          have HCS : Hid (Chg (fun z => z = F + 1) w3 ((w3.setCell ⟨F + 1, 0, none⟩ (.pointer (some ⟨s0, 0, none⟩))).setCell ⟨F + 1, 2, none⟩ (.pointer (some ⟨q0, 0, none⟩)))) := cs
          clear n1 n2 cs
          go_wp2
          go_roundw
          case rel =>
            have cs := HCS.out
            have hF := HF.out
            refine ⟨1, by omega, by go_num, blk_keep HB0.out cs (by omega), blk_keep HB2.out cs (by omega), (chg_then HC.out HC3.out).trans cs (fun z e => .inr (by omega)), ?_⟩
            exact .inr (.inl ⟨rfl, s0, q0, u0, t0, _, HN1.out, (HONE.out.base HC.out.size).box HB1.out cs⟩)
          case measure => simp [intOf]
    · skip
      have hx0 : wr.cell? ⟨F + 2, 1, none⟩ = some (.int .i64 g) := cell1 HI2.out
      obtain ⟨N, hN, hcase⟩ := size_of g
      go_upto_region 5 with fail
      go_cut [27] (fun s27 wx => ((s27 = .bool true ∧ N = 3) ∨ (s27 = .bool false ∧ g = (N : Int))) ∧ wr = wx)
      case first =>
        rcases hcase with ⟨h0, h1⟩ | ⟨h0, h1, h2⟩ | ⟨h0, h1, h2⟩
        · go_wp2_with fail
          go_meet
          case rel => exact ⟨.inl ⟨rfl, h1⟩, rfl⟩
        · have hd : decide (g < 0) = false := by simp; omega
          have HX : Hid (N = 3) := h2
          clear h2
          go_wp2_with fail
          go_meet
          case rel => exact ⟨.inl ⟨by first | rfl | (simp; omega), HX.out⟩, rfl⟩
        · have hd : decide (g < 0) = false := by simp; omega
          have hd2 : decide (40 < g) = false := by simp; omega
          have HX : Hid (g = (N : Int)) := h2
          clear h2
          go_wp2_with fail
          go_meet
          case rel => exact ⟨.inr ⟨by first | rfl | (simp; omega), HX.out⟩, rfl⟩
      case rest =>
        clear hcase hx0
        obtain ⟨hcase, rfl⟩ := hcut
        go_upto_if 27 with fail
        go_cut [8] (fun s8 wx => s8 = .int .i64 (N : Int) ∧ wr = wx)
        case first =>
          rcases hcase with ⟨rfl, h1⟩ | ⟨rfl, h1⟩
          · subst h1
            go_wp2_with fail
            go_meet
            case rel => exact ⟨rfl, rfl⟩
          · have HX : Hid (g = (N : Int)) := h1
            clear h1
            go_wp2_with fail
            go_meet
            case rel => exact ⟨by rw [HX.out], rfl⟩
        case rest =>
          clear hcase
          obtain ⟨rfl, rfl⟩ := hcut
          go_wp2_with fail
          refine (new_in N _ (by omega)).mono ?_
          rintro x w2 ⟨s1, u1, rfl, hs2, hS2, c2⟩
          have HS2 : Hid (St w2 wr.heap.size s1 u1 (List.replicate N 1024)) := hS2
          have HC2 : Hid (Chg (fun _ => False) wr w2) := c2
          clear hS2 c2
          go_wp2_with fail
          refine (rnew_in N _ (by omega)).mono ?_
          rintro x w3 ⟨q1, t1, rfl, hq3, hR3, c3⟩
          have HC3 : Hid (Chg (fun _ => False) wr w3) := chg_then HC2.out c3
          have HONE : Hid (One w3 wr.heap.size s1 q1 u1 t1 (List.replicate N 1024)) := ⟨HS2.out.new c3, ⟨Nat.le_trans HC2.out.size hR3.hr, by simpa using hR3.blk, owns_base hR3.own HC2.out.size⟩, In31.half N, by simpa using hN⟩
          have b1 := blk_keep HI1.out HC3.out (fun f => f)
          have HB1 : Hid (w3.heap[F + 1]? = some (.cells #[.pointer (some ⟨s0, 0, none⟩), .pointer none, .pointer (some ⟨q0, 0, none⟩), .pointer none] 55 (0, 0))) := b1
          have HB0 : Hid (w3.heap[F]? = some (.cells #[.pointer none, .pointer none, .pointer none, .pointer none] 55 (0, 0))) := blk_keep HI0.out HC3.out (fun f => f)
          have HB2 : Hid (w3.heap[F + 2]? = some (.cells #[.int .i64 f, .int .i64 g] 3 (0, 0))) := blk_keep HI2.out HC3.out (fun f => f)
          have HZ0 : Hid (One w3 w0.heap.size s0 q0 u0 t0 x0) := HONE0.out.new HC3.out
          have HDD : Hid ((∀ z, u0.ownBlock = some z → u1.ownBlock ≠ some z) ∧ (∀ z, t0.ownBlock = some z → t1.ownBlock ≠ some z)) := ⟨fun z e e2 => by
            have a1 := (HONE0.out.st.own.lt z e).2
            have a2 := (HONE.out.st.own.lt z e2).1
            omega, fun z e e2 => by
            have a1 := (HONE0.out.rt.own.lt z e).2
            have a2 := (HONE.out.rt.own.lt z e2).1
            omega⟩
          obtain ⟨z0, z1, z2, z3⟩ := cells4 b1
          have zf : ∀ j, w3.frozen? ⟨F + 1, j, none⟩ = false := fun j => by simp [World.frozen?, b1]
          have zfa := zf 1
          have zfb := zf 3
          have hds : decide (s1 = s1) = true := by simp
          clear hR3 c3 HS2 b1 zf HI0 HI1 HI2 HC2
          go_wp2_with fail
          have cs : Chg (fun z => z = F + 1) w3 ((w3.setCell ⟨F + 1, 1, none⟩ (.pointer (some ⟨s1, 0, none⟩))).setCell ⟨F + 1, 3, none⟩ (.pointer (some ⟨q1, 0, none⟩))) := ((Chg.refl (fun z => z = F + 1) w3).setCell (p := ⟨F + 1, 1, none⟩) (.inl rfl) _).setCell (p := ⟨F + 1, 3, none⟩) (.inl rfl) _
          have n1 := blk_setk (l := [.pointer (some ⟨s0, 0, none⟩), .pointer none, .pointer (some ⟨q0, 0, none⟩), .pointer none]) HB1.out 1 (.pointer (some ⟨s1, 0, none⟩))
          have n2 := blk_setk (l := [.pointer (some ⟨s0, 0, none⟩), .pointer (some ⟨s1, 0, none⟩), .pointer (some ⟨q0, 0, none⟩), .pointer none]) n1 3 (.pointer (some ⟨q1, 0, none⟩))
          have HN1 : Hid (((w3.setCell ⟨F + 1, 1, none⟩ (.pointer (some ⟨s1, 0, none⟩))).setCell ⟨F + 1, 3, none⟩ (.pointer (some ⟨q1, 0, none⟩))).heap[F + 1]? = some (.cells #[.pointer (some ⟨s0, 0, none⟩), .pointer (some ⟨s1, 0, none⟩), .pointer (some ⟨q0, 0, none⟩), .pointer (some ⟨q1, 0, none⟩)] 55 (0, 0))) := n2
          have HCS : Hid (Chg (fun z => z = F + 1) w3 ((w3.setCell ⟨F + 1, 1, none⟩ (.pointer (some ⟨s1, 0, none⟩))).setCell ⟨F + 1, 3, none⟩ (.pointer (some ⟨q1, 0, none⟩)))) := cs
          clear n1 n2 cs
          go_wp2
          go_roundw
          case rel =>
            have cs := HCS.out
            have hF := HF.out
            refine ⟨2, by omega, by go_num, blk_keep HB0.out cs (by omega), blk_keep HB2.out cs (by omega), (chg_then HC.out HC3.out).trans cs (fun z e => .inr (by omega)), ?_⟩
            exact .inr (.inr ⟨rfl, s0, q0, u0, t0, x0, s1, q1, u1, t1, _, HN1.out, HZ0.out.box HB1.out cs, (HONE.out.base HC.out.size).box HB1.out cs, HDD.out⟩)
          case measure => simp [intOf]
    · obtain ⟨z0, z1, z2, z3⟩ := cells4 HI1.out
      obtain ⟨y0, y1, y2, y3⟩ := cells4 HI0.out
      have yf : ∀ j, wr.frozen? ⟨F, j, none⟩ = false := fun j => by simp [World.frozen?, HI0.out]
      have yf0 := yf 0
      have yf1 := yf 1
      have yf2 := yf 2
      have yf3 := yf 3
      clear yf
      go_wp2
      obtain ⟨W, hW⟩ : ∃ W, W = ((((wr.setCell ⟨F, 0, none⟩ (.pointer (some ⟨s0, 0, none⟩))).setCell ⟨F, 1, none⟩ (.pointer (some ⟨s1, 0, none⟩))).setCell ⟨F, 2, none⟩ (.pointer (some ⟨q0, 0, none⟩))).setCell ⟨F, 3, none⟩ (.pointer (some ⟨q1, 0, none⟩))) := ⟨_, rfl⟩
      have HW : Hid (W.heap[F]? = some (.cells #[.pointer (some ⟨s0, 0, none⟩), .pointer (some ⟨s1, 0, none⟩), .pointer (some ⟨q0, 0, none⟩), .pointer (some ⟨q1, 0, none⟩)] 55 (0, 0)) ∧ Chg (fun z => z = F) wr W) := by
        have d1 := blk_setk (l := [.pointer none, .pointer none, .pointer none, .pointer none]) HI0.out 0 (.pointer (some ⟨s0, 0, none⟩))
        have d2 := blk_setk (l := [.pointer (some ⟨s0, 0, none⟩), .pointer none, .pointer none, .pointer none]) d1 1 (.pointer (some ⟨s1, 0, none⟩))
        have d3 := blk_setk (l := [.pointer (some ⟨s0, 0, none⟩), .pointer (some ⟨s1, 0, none⟩), .pointer none, .pointer none]) d2 2 (.pointer (some ⟨q0, 0, none⟩))
        have d4 := blk_setk (l := [.pointer (some ⟨s0, 0, none⟩), .pointer (some ⟨s1, 0, none⟩), .pointer (some ⟨q0, 0, none⟩), .pointer none]) d3 3 (.pointer (some ⟨q1, 0, none⟩))
        rw [hW]
        exact ⟨d4, ((((Chg.refl (fun z => z = F) wr).setCell (p := ⟨F, 0, none⟩) (.inl rfl) _).setCell (p := ⟨F, 1, none⟩) (.inl rfl) _).setCell (p := ⟨F, 2, none⟩) (.inl rfl) _).setCell (p := ⟨F, 3, none⟩) (.inl rfl) _⟩
      rw [← hW]
      clear hW
      (try simp only [Exit.inBlock, Exit.then])
      refine bodyPost_ret (results_cell_tmp_row rfl _ _ F 55 _ (0, 0) _ rfl HW.out.1 Try.underlying55 rfl (by kernel_rfl)) rfl ?_
      have hF := HF.out
      have hA := HA.out.box HI0.out HW.out.2
      have hB := HB.out.box HI0.out HW.out.2
      exact ⟨⟨fun i => if i = 0 then s0 else s1, fun i => if i = 0 then q0 else q1, fun i => if i = 0 then u0 else u1, fun i => if i = 0 then t0 else t1, fun i => if i = 0 then x0 else x1⟩, rfl, ⟨hA.st, hA.rt, hA.inn, hA.len⟩, ⟨hB.st, hB.rt, hB.inn, hB.len⟩, HD.out.1, HD.out.2, HC.out.trans HW.out.2 (fun z e => .inr (by omega))⟩

set_option maxHeartbeats 4000000 in
set_option maxRecDepth 100000 in
theorem alike_any (B : Nat) (S : Sv) (w0 : World) (h0 : SetOk w0 B S 0) (h1 : SetOk w0 B S 1) (hu : ∀ z, (S.u 0).ownBlock = some z → (S.u 1).ownBlock ≠ some z) (ht : ∀ z, (S.t 0).ownBlock = some z → (S.t 1).ownBlock ≠ some z) : Calls Try.prog 29 #[.agg #[.pointer (some ⟨S.s 0, 0, none⟩), .pointer (some ⟨S.s 1, 0, none⟩), .pointer (some ⟨S.q 0, 0, none⟩), .pointer (some ⟨S.q 1, 0, none⟩)]] w0 fun e w' => e = .returned (.bool true) ∧ Chg (fun _ => False) w0 w' := by
  have c1 := chg_one w0 (.cells #[.pointer (some ⟨S.s 0, 0, none⟩), .pointer (some ⟨S.s 1, 0, none⟩), .pointer (some ⟨S.q 0, 0, none⟩), .pointer (some ⟨S.q 1, 0, none⟩)] 55)
  have HS : Hid (SetsOk (w0.alloc (.cells #[.pointer (some ⟨S.s 0, 0, none⟩), .pointer (some ⟨S.s 1, 0, none⟩), .pointer (some ⟨S.q 0, 0, none⟩), .pointer (some ⟨S.q 1, 0, none⟩)] 55)) B w0.heap.size S) := ⟨heap_alloc_last w0 _, h0.far c1 (fun _ f => f.elim), h1.far c1 (fun _ f => f.elim), hu, ht⟩
  have HC : Hid (Chg (fun _ => False) w0 (w0.alloc (.cells #[.pointer (some ⟨S.s 0, 0, none⟩), .pointer (some ⟨S.s 1, 0, none⟩), .pointer (some ⟨S.q 0, 0, none⟩), .pointer (some ⟨S.q 1, 0, none⟩)] 55))) := c1
  clear c1 h0 h1 hu ht
  go_enter Try.func29, Try.ntmps29
  go_wp2_with fail
  generalize w0.alloc (.cells #[.pointer (some ⟨S.s 0, 0, none⟩), .pointer (some ⟨S.s 1, 0, none⟩), .pointer (some ⟨S.q 0, 0, none⟩), .pointer (some ⟨S.q 1, 0, none⟩)] 55) = W at *
  generalize w0.heap.size = X at *
  go_loopw [3] (fun iv wr => ∃ k : Nat, k ≤ 2 ∧ iv = .int .i64 (k : Int) ∧ W = wr) (fun iv _ => 2 - (intOf iv).toNat)
  case atStart => exact ⟨0, by omega, rfl, rfl⟩
  case round =>
    obtain ⟨k, hk, rfl, rfl⟩ := hrel
    by_cases hlt : k < 2
    · obtain ⟨hO, hcs, hcq⟩ := HS.out.at k hlt
      have HO : Hid (SetOk W B S k) := hO
      have hN := cell0 hO.rt.blk
      have hki : (k : Int) < 2 := by omega
      have hlen40 := hO.len
      obtain ⟨n, hn⟩ : ∃ n, (S.x k).length = n := ⟨_, rfl⟩
      have HN : Hid ((S.x k).length = n) := hn
      rw [hn] at hN hlen40
      have HL := len_any B (S.s k) (S.u k) (S.x k) W hO.st
      rw [hn] at HL
      have HL2 : Hid (∀ w2, w2 = W → Calls Try.prog 51 #[.pointer (some ⟨S.s k, 0, none⟩)] w2 fun e w' => e = .returned (.int .i64 (n : Int)) ∧ W = w') := fun w2 e2 => by subst e2; exact HL
      clear hO HL hn
      go_wp2_with fail
      refine (HL2.out _ rfl).mono ?_
      rintro x w2 ⟨rfl, rfl⟩
      go_wp2_with fail
      go_loopw [5] (fun iv wr => ∃ i : Nat, i ≤ n ∧ iv = .int .i64 (i : Int) ∧ W = wr) (fun iv _ => n - (intOf iv).toNat)
      case atStart => exact ⟨0, Nat.zero_le _, rfl, rfl⟩
      case round =>
        obtain ⟨i, hi, rfl, rfl⟩ := hrel
        by_cases hin : i < n
        · have hix : i < (S.x k).length := by rw [HN.out]; exact hin
          have A1 := at_in B (S.s k) (S.u k) (S.x k) i W HO.out.st HO.out.inn.inn hix
          have A2 := rat_in B (S.q k) ((S.x k).length : Int) (S.t k) (S.x k) i W HO.out.rt hix
          have HA1 : Hid (∀ w2, w2 = W → Calls Try.prog 18 #[.pointer (some ⟨S.s k, 0, none⟩), .int .i64 (i : Int)] w2 fun e w' => e = .returned (.tuple #[.int .i64 (S.x k)[i], .int .i64 0]) ∧ W = w') := fun w2 e2 => by subst e2; exact A1
          have HA2 : Hid (∀ w2, w2 = W → Calls Try.prog 43 #[.pointer (some ⟨S.q k, 0, none⟩), .int .i64 (i : Int)] w2 fun e w' => e = .returned (.tuple #[.int .i64 (S.x k)[i], .int .i64 0]) ∧ W = w') := fun w2 e2 => by subst e2; exact A2
          clear A1 A2
          generalize (S.x k)[i] = p at *
          go_wp2_with fail
          refine (HA1.out _ rfl).mono ?_
          rintro x w2 ⟨rfl, rfl⟩
          go_wp2_with fail
          refine (HA2.out _ rfl).mono ?_
          rintro x w2 ⟨rfl, rfl⟩
          go_wp2
          go_roundw
          case rel => exact ⟨i + 1, by omega, by go_num, by first | rfl | trivial⟩
          case measure => simp [intOf]; omega
        · obtain rfl : i = n := by omega
          have hdi : decide ((i : Int) < (i : Int)) = false := by simp
          go_wp2
          go_roundw
          case rel => exact ⟨k + 1, by omega, by go_num, by first | rfl | trivial⟩
          case measure => simp [intOf]; omega
    · obtain rfl : k = 2 := by omega
      go_wp2
      go_ret
      exact ⟨rfl, HC.out⟩
end Go.Proofs.Ythhjllhcgdkjnaa
