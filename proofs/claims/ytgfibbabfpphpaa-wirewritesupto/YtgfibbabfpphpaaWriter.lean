/- The contracts of the writer's own functions: what each call answers and what it leaves of the writer, of no statement by themselves. -/
import Derived.Test.YtgfibbabfpphpaaBase
namespace Go.Proofs.Ytgfibbabfpphpaa
open Go.RowKit

theorem info5 : (Try.prog.info? 5).map (fun i => (i.zero, i.size, i.bytes)) = some (some (.int .u8 0), 1, 1) := by kernel_rfl

set_option maxHeartbeats 400000 in
theorem newWriter_any (w : World) : Calls Try.prog 14 #[] w fun e w' => e = .returned (.pointer (some ⟨w.heap.size, 0, none⟩)) ∧ w' = w.alloc (.cells #[.int .i64 0, .slice none 0 0] 75) := by
  go_enter Try.func14, Try.ntmps14
  go_wp2
  go_ret
  exact ⟨rfl, rfl⟩

set_option maxHeartbeats 400000 in
theorem pass_any (a : Nat) (g n : Int) (w : World) (hc : w.cell? ⟨a, 0, none⟩ = some (.int .i64 g)) (hf : w.frozen? ⟨a, 0, none⟩ = false) (h0 : 0 ≤ g) (h1 : 0 ≤ n) (h2 : g + n ≤ 9223372036854775807) :
    Calls Try.prog 34 #[.pointer (some ⟨a, 0, none⟩), .int .i64 n] w fun e w' => e = .returned (.tuple #[]) ∧ w' = w.setCell ⟨a, 0, none⟩ (.int .i64 (g + n)) := by
  go_enter Try.func34, Try.ntmps34
  go_wp2
  go_end0
  exact ⟨rfl, rfl⟩

theorem oneCells (l : List Int) : ∀ u ∈ l.map (Value.int .u8), u.oneCell' = true := by
  intro u hu
  obtain ⟨x, _, rfl⟩ := List.mem_map.1 hu
  rfl

/-- What is left of the writer behind an append of 'news', the counter raised. -/
theorem wr_put {B : Nat} {w w1 : World} {a : Nat} {v v' : Value} {bs news : List Int} (h : Wr B w a v bs) (hown : w1.ownsRow B 5 1 v' (bs.length + news.length) (bs.map (Value.int .u8) ++ news.map (Value.int .u8))) (hg : w.grownBy w1 v.ownBlock) :
    Wr B ((w1.setCell ⟨a, 1, none⟩ v').setCell ⟨a, 0, none⟩ (.int .i64 ((bs.length : Int) + (news.length : Int)))) a v' (bs ++ news) := by
  have hb : w1.heap[a]? = some (.cells #[.int .i64 bs.length, v] 75 (0, 0)) := (hg.block a h.lt (fun e => h.ne e.symm)).trans h.blk
  have hne : v'.ownBlock ≠ some a := row_ne hown hb (by decide)
  refine ⟨h.lo, ?_, ?_⟩
  · rw [blk_set0 (blk_set1 hb)]; simp
  · have := ownsRow_setCell_other (ownsRow_setCell_other hown (a := ⟨a, 1, none⟩) hne v') (a := ⟨a, 0, none⟩) hne (.int .i64 ((bs.length : Int) + (news.length : Int)))
    simpa using this



set_option maxHeartbeats 800000 in
theorem put_any (B a : Nat) (v : Value) (bs news : List Int) (ad : Option Addr) (c : Nat) (w : World) (h : Wr B w a v bs) (hB : B ≤ w.heap.size) (hsrc : Row8 w ad news.length c news) (hlen : bs.length + news.length ≤ 140737488355328) :
    Calls Try.prog 36 #[.pointer (some ⟨a, 0, none⟩), .slice ad news.length c] w fun e w' => e = .returned (.tuple #[]) ∧ ∃ v', Wr B w' a v' (bs ++ news) ∧ Chg (Foot a v) w w' ∧ Moved w v v' := by
  obtain ⟨i0, hi, hz0, hz1, hz2⟩ := info_parts info5
  obtain ⟨va, vc, rfl, _⟩ := own_row8 h.row
  have hc0 := cell0 h.blk
  have hc1 := cell1 h.blk
  have hf0 := free0 h.blk
  have hf1 := free1 h.blk
  go_enter Try.func36, Try.ntmps36
  go_wp2_with (at_builtin; refine wpList_append_moved rfl (.tmp 8) (.tmp 9) 22 rfl B 5 i0 (.int .u8 0) 1 1 Try.underlying22 hi hz0 hz1 hz2 rfl (by decide) _ bs.length (bs.map (Value.int .u8)) rfl ad news.length c rfl (news.map (Value.int .u8)) h.row hsrc.src (oneCells _) (by unfold maxLen; omega) (by omega) hB ?_)
  intro v' w1 hown hg hm
  have hb1 : w1.heap[a]? = some (.cells #[.int .i64 bs.length, .slice va bs.length vc] 75 (0, 0)) := (hg.block a h.lt (fun e => h.ne e.symm)).trans h.blk
  have R := wr_put h hown hg
  have C : Chg (Foot a (.slice va bs.length vc)) w ((w1.setCell ⟨a, 1, none⟩ v').setCell ⟨a, 0, none⟩ (.int .i64 ((bs.length : Int) + (news.length : Int)))) :=
    (((Chg.refl _ w).grown hg (fun k e => .inl (.inr e))).setCell (p := ⟨a, 1, none⟩) (.inl (.inl rfl)) _).setCell (p := ⟨a, 0, none⟩) (.inl (.inl rfl)) _
  have HF : Hid (Wr B ((w1.setCell ⟨a, 1, none⟩ v').setCell ⟨a, 0, none⟩ (.int .i64 ((bs.length : Int) + (news.length : Int)))) a v' (bs ++ news) ∧ Chg (Foot a (.slice va bs.length vc)) w ((w1.setCell ⟨a, 1, none⟩ v').setCell ⟨a, 0, none⟩ (.int .i64 ((bs.length : Int) + (news.length : Int)))) ∧ Moved w (.slice va bs.length vc) v') := ⟨R, C, hm⟩
  obtain ⟨va', vc', rfl⟩ : ∃ va' vc', v' = .slice va' (bs.length + news.length) vc' := by
    rcases own_shape hown with ⟨rfl, e⟩ | ⟨g, cap, rfl⟩
    · exact ⟨none, 0, by rw [e]⟩
    · exact ⟨_, cap, rfl⟩
  have k0 := cell0 hb1
  have k1 := cell1 hb1
  have e0 := free0 hb1
  have e1 := free1 hb1
  clear R C hm hown hg hb1 hc0 hc1 hf0 hf1 hsrc h
  have q0 : ∀ u, (w1.setCell ⟨a, 1, none⟩ u).cell? ⟨a, 0, none⟩ = some (.int .i64 bs.length) := fun u => (World.cell?_setCell_other _ _ _ _ (by simp)).trans k0
  have q1 : ∀ u, (w1.setCell ⟨a, 1, none⟩ u).frozen? ⟨a, 0, none⟩ = false := fun u => by simp [e0]
  go_wp2_with fail
  refine (pass_any a bs.length news.length _ (q0 _) (q1 _) (by omega) (by omega) (by omega)).mono ?_
  rintro e w2 ⟨rfl, rfl⟩
  go_wp2
  go_end0
  exact ⟨rfl, _, HF.out⟩

theorem put_m (B a : Nat) (v : Value) (bs news : List Int) (ad : Option Addr) (m c : Nat) (w : World) (h : Wr B w a v bs) (hB : B ≤ w.heap.size) (hsrc : Row8 w ad m c news) (hlen : bs.length + m ≤ 140737488355328) :
    Calls Try.prog 36 #[.pointer (some ⟨a, 0, none⟩), .slice ad m c] w fun e w' => e = .returned (.tuple #[]) ∧ ∃ v', Wr B w' a v' (bs ++ news) ∧ Chg (Foot a v) w w' ∧ Moved w v v' := by
  obtain rfl := hsrc.1
  exact put_any B a v bs news ad c w h hB hsrc hlen

end Go.Proofs.Ytgfibbabfpphpaa
