/- The contracts of crc's sums of 32 bits and of the document's own answer for them; bursts; of no statement by themselves. -/
import Derived.Test.YtikokgngkagieaaDoorBase
import Derived.Test.YtikokgngkagieaaDoorMem
import Derived.Test.YtikokgngkagieaaDoorCqm
import Derived.Laws.BitsAllLaws
import Derived.BigQuiet
namespace Go.Proofs.YtikokgngkagieaaDoor.Cq
open Go.RowKit
set_option linter.unusedVariables false
set_option linter.unusedSimpArgs false
set_option maxRecDepth 20000
/-- The table's block, as the program lays it. -/
def Tab (w : World) : Prop := ∀ k, k < 16 → w.cell? ⟨2, k, none⟩ = some (.int .u32 (Crc.itr Crc.P32 4 k : Nat))
theorem Tab.new {w w' : World} (h : Tab w) (hc : Chg (fun _ => False) w w') : Tab w' := fun k hk => by
  have e := h k hk
  rw [World.cell?_of_block (w := w) (hc.block _ (World.block_lt_of_cell? w _ e) (fun f => f))]
  exact e
/-- The table's sixteen numbers. -/
def nums16 : List Int := [0, 498536548, 997073096, 651767980, 1994146192, 1802195444, 1303535960, 1342533948, 3988292384, 4027552580, 3604390888, 3412177804, 2607071920, 2262029012, 2685067896, 3183342108]
theorem half_nums : ∀ k : Fin 16, nums16[k.val]? = some ((Crc.itr Crc.P32 4 k.val : Nat) : Int) := by decide +kernel
theorem xor32 (a b : Nat) (ha : a < 4294967296) (hb : b < 4294967296) : bits .xor .u32 (a : Int) (b : Int) = ((a ^^^ b : Nat) : Int) := u32_xor_nat a b ha hb
theorem half32 (a : Nat) (ha : a < 4294967296) : bits .xor .u32 ((a : Int) / 16) ((Crc.itr Crc.P32 4 (a % 16) : Nat) : Int) = ((Crc.itr Crc.P32 4 a : Nat) : Int) := by
  have h1 : ((a : Int) / 16) = ((a / 16 : Nat) : Int) := by omega
  have hb : Crc.itr Crc.P32 4 (a % 16) < 4294967296 := Crc.itr_lt Crc.p32_lt 4 (by omega)
  rw [h1, xor32 _ _ (by omega) hb, Crc.itr_low Crc.P32 4 a]
theorem put32_any (s x : Nat) (w : World) (hT : Tab w) (hs : s < 4294967296) (hx : x < 256) :
    Calls Tryd.prog 53 #[.int .u32 s, .int .u8 x] w fun e w' => e = .returned (.int .u32 (Crc.put Crc.P32 s x : Nat)) ∧ w = w' := by
  have hxx : x < 4294967296 := by omega
  have h1 := xor32 s x hs hxx
  have ha : s ^^^ x < 4294967296 := Nat.xor_lt_two_pow (n := 32) hs hxx
  have HR : Hid (Crc.put Crc.P32 s x = Crc.itr Crc.P32 4 (Crc.itr Crc.P32 4 (s ^^^ x))) := Crc.itr_add Crc.P32 4 4 _
  generalize s ^^^ x = a at *
  have h2 := half32 a ha
  have c1 := hT (a % 16) (by omega)
  have hb : Crc.itr Crc.P32 4 a < 4294967296 := Crc.itr_lt Crc.p32_lt 4 ha
  generalize Crc.itr Crc.P32 4 a = b at *
  have h3 := half32 b hb
  have c2 := hT (b % 16) (by omega)
  clear hT
  go_enter Tryd.func53, Tryd.ntmps53
  go_wp2
  go_ret
  exact ⟨by rw [HR.out]; rfl, rfl⟩
theorem xor64 (a b : Nat) (ha : a < 18446744073709551616) (hb : b < 18446744073709551616) : bits .xor .u64 (a : Int) (b : Int) = ((a ^^^ b : Nat) : Int) := u64_xor_nat a b ha hb
/-- Natural numbers as the model's. -/
def up (ns : List Nat) : List Int := ns.map fun (n : Nat) => (n : Int)
/-- Each is a byte. -/
def Byt (ns : List Nat) : Prop := ∀ x ∈ ns, x < 256
theorem Byt.nil : Byt [] := fun x h => by cases h
theorem Byt.append {a b : List Nat} (ha : Byt a) (hb : Byt b) : Byt (a ++ b) := fun x h => by
  rcases List.mem_append.1 h with h | h
  · exact ha x h
  · exact hb x h
theorem Byt.take {a : List Nat} (h : Byt a) (k : Nat) : Byt (a.take k) := fun x hx => h x (List.mem_of_mem_take hx)
theorem Byt.at {a : List Nat} (h : Byt a) (k : Nat) (hk : k < a.length) : a[k] < 256 := h _ (List.getElem_mem _)
theorem Byt.zeros (n : Nat) : Byt (List.replicate n 0) := fun x h => by obtain ⟨_, rfl⟩ := List.mem_replicate.1 h; omega
theorem up_length (ns : List Nat) : (up ns).length = ns.length := by simp [up]
theorem up_append (a b : List Nat) : up (a ++ b) = up a ++ up b := by simp [up]
theorem up_take (a : List Nat) (k : Nat) : up (a.take k) = (up a).take k := by simp [up, List.map_take]
theorem cellN {w : World} {x : Addr} {ns : List Nat} (h : ∀ j u, ((up ns).map (Value.int .u8))[j]? = some u → w.cell? (x.add j) = some u) (k : Nat) (hk : k < ns.length) : w.cell? (x.add k) = some (.int .u8 (ns[k] : Nat)) :=
  h k _ (by simp [up, hk])
theorem not32 (a : Nat) (ha : a < 4294967296) : bits .xor .u32 IntKind.u32.max (a : Int) = ((4294967295 ^^^ a : Nat) : Int) := xor32 4294967295 a (by decide) ha
theorem raw32_lt {ns : List Nat} (h : Byt ns) {s : Nat} (hs : s < 4294967296) : Crc.raw Crc.P32 s ns < 4294967296 :=
  Crc.raw_lt (w := 32) Crc.p32_lt ns (fun x hx => Nat.lt_of_lt_of_le (h x hx) (by decide)) hs
theorem more32_lt {ns : List Nat} (h : Byt ns) {s : Nat} (hs : s < 4294967296) : Crc.more Crc.P32 32 s ns < 4294967296 :=
  Crc.more_lt (w := 32) Crc.p32_lt ns (fun x hx => Nat.lt_of_lt_of_le (h x hx) (by decide)) hs
theorem nxor32_lt {a : Nat} (ha : a < 4294967296) : 4294967295 ^^^ a < 4294967296 := Nat.xor_lt_two_pow (n := 32) (by decide) ha
theorem raw32_take (s : Nat) (ns : List Nat) (k : Nat) (hk : k < ns.length) : Crc.put Crc.P32 (Crc.raw Crc.P32 s (ns.take k)) ns[k] = Crc.raw Crc.P32 s (ns.take (k + 1)) := by
  rw [List.take_succ_eq_append_getElem hk, Crc.raw_snoc]
theorem more32_some (s : Nat) (x : Addr) (n c : Nat) (ns : List Nat) (w : World) (HT : Hid (Tab w)) (hs : s < 4294967296) (HX : Hid (∀ j u, ((up ns).map (Value.int .u8))[j]? = some u → w.cell? (x.add j) = some u)) (HM : Hid (ns.length = n)) (HB : Hid (Byt ns)) (hl : n ≤ 140737488355328) :
    Calls Tryd.prog 44 #[.int .u32 s, .slice (some x) n c] w fun e w' => e = .returned (.int .u32 (Crc.more Crc.P32 32 s ns : Nat)) ∧ w = w' := by
  have h1 := not32 s hs
  have ha := nxor32_lt hs
  have HE : Hid (Crc.more Crc.P32 32 s ns = 4294967295 ^^^ Crc.raw Crc.P32 (4294967295 ^^^ s) ns) := rfl
  generalize 4294967295 ^^^ s = a at *
  go_enter Tryd.func44, Tryd.ntmps44
  go_wp2
  go_loop [0, 11] (fun z i => ∃ k : Nat, k ≤ n ∧ i = .int .i64 k ∧ z = .int .u32 (Crc.raw Crc.P32 a (ns.take k) : Nat)) (fun _ i => n - (intOf i).toNat)
  case atStart => exact ⟨0, by omega, rfl, rfl⟩
  case round =>
    obtain ⟨k, hk, rfl, rfl⟩ := hrel
    have hq : Crc.raw Crc.P32 a (ns.take k) < 4294967296 := raw32_lt (HB.out.take k) ha
    by_cases hlt : k < n
    · have hkl : k < ns.length := by rw [HM.out]; exact hlt
      have hc := cellN HX.out k hkl
      have hy := HB.out.at k hkl
      have HP : Hid (Crc.put Crc.P32 (Crc.raw Crc.P32 a (ns.take k)) ns[k] = Crc.raw Crc.P32 a (ns.take (k + 1))) := raw32_take a ns k hkl
      generalize ns[k] = y at *
      generalize Crc.raw Crc.P32 a (ns.take k) = q at *
      clear h1 ha
      go_wp2_with fail
      refine (put32_any q y w HT.out hq hy).mono ?_
      rintro e w1 ⟨rfl, rfl⟩
      go_wp2
      go_round
      case rel => exact ⟨k + 1, by omega, by go_num, by rw [HP.out]⟩
      case measure => simp [intOf]; omega
    · obtain rfl : k = n := by omega
      have HF : Hid (ns.take k = ns) := List.take_of_length_le (by rw [HM.out]; exact Nat.le_refl _)
      rw [HF.out] at hq ⊢
      have h2 := not32 _ hq
      go_wp2
      go_ret
      exact ⟨by rw [HE.out]; rfl, rfl⟩
theorem more32_any (s : Nat) (ad : Option Addr) (n c : Nat) (ns : List Nat) (w : World) (hT : Tab w) (hs : s < 4294967296) (h : Row8 w ad n c (up ns)) (hb : Byt ns) (hl : n ≤ 140737488355328) :
    Calls Tryd.prog 44 #[.int .u32 s, .slice ad n c] w fun e w' => e = .returned (.int .u32 (Crc.more Crc.P32 32 s ns : Nat)) ∧ w = w' := by
  have hm : ns.length = n := by rw [← up_length]; exact h.1
  rcases h.2 with ⟨rfl, rfl, rfl⟩ | ⟨x, rfl, hx⟩
  · have e : ns = [] := List.eq_nil_of_length_eq_zero hm
    subst e
    rw [Crc.more_nil]
    have h1 := not32 s hs
    have h2 := not32 _ (nxor32_lt hs)
    rw [Crc.xor_cancel] at h2
    clear h hb hm hT hl
    generalize 4294967295 ^^^ s = a at *
    go_enter Tryd.func44, Tryd.ntmps44
    go_wp2
    go_loop [0, 11] (fun z i => z = .int .u32 a ∧ i = .int .i64 0) (fun _ _ => 0)
    case atStart => exact ⟨rfl, rfl⟩
    case round =>
      obtain ⟨rfl, rfl⟩ := hrel
      go_wp2
      go_ret
      exact ⟨rfl, rfl⟩
  · exact more32_some s x n c ns w hT hs hx hm hb hl
/-- A piece: a slice value and the bytes that it tells. -/
def Piece (w : World) (v : Value) (ns : List Nat) : Prop := ∃ a m c, v = .slice a m c ∧ Row8 w a m c (up ns) ∧ Byt ns ∧ m ≤ 140737488355328
/-- Pieces in a row. -/
def Pieces (w : World) (x : Addr) (nss : List (List Nat)) : Prop := ∀ k (hk : k < nss.length), ∃ v, w.cell? (x.add k) = some v ∧ Piece w v nss[k]
theorem flat_take (nss : List (List Nat)) (k : Nat) (hk : k < nss.length) : (nss.take (k + 1)).flatten = (nss.take k).flatten ++ nss[k] := by
  rw [List.take_succ_eq_append_getElem hk, List.flatten_append, List.flatten_singleton]
theorem Pieces.byt {w : World} {x : Addr} {nss : List (List Nat)} (h : Pieces w x nss) (k : Nat) : Byt (nss.take k).flatten := fun y hy => by
  obtain ⟨l, hl, hy⟩ := List.mem_flatten.1 hy
  obtain ⟨j, hj, rfl⟩ := List.mem_iff_getElem.1 (List.mem_of_mem_take hl)
  obtain ⟨v, _, a, m, c, _, _, hb, _⟩ := h j hj
  exact hb y hy
theorem sum32_any (x : Addr) (n c : Nat) (nss : List (List Nat)) (w : World) (HT : Hid (Tab w)) (HX : Hid (Pieces w x nss)) (HM : Hid (nss.length = n)) (hl : n ≤ 140737488355328) :
    Calls Tryd.prog 35 #[.slice (some x) n c] w fun e w' => e = .returned (.int .u32 (Crc.more Crc.P32 32 0 nss.flatten : Nat)) ∧ w = w' := by
  go_enter Tryd.func35, Tryd.ntmps35
  go_wp2
  go_loop [3, 8] (fun z i => ∃ k : Nat, k ≤ n ∧ i = .int .i64 k ∧ z = .int .u32 (Crc.more Crc.P32 32 0 (nss.take k).flatten : Nat)) (fun _ i => n - (intOf i).toNat)
  case atStart => exact ⟨0, by omega, rfl, by rw [List.take_zero, List.flatten_nil, Crc.more_nil]; rfl⟩
  case round =>
    obtain ⟨k, hk, rfl, rfl⟩ := hrel
    have hq : Crc.more Crc.P32 32 0 (nss.take k).flatten < 4294967296 := more32_lt (HX.out.byt k) (by decide)
    by_cases hlt : k < n
    · have hkl : k < nss.length := by rw [HM.out]; exact hlt
      obtain ⟨v, hc, a, m, d, rfl, hr, hb, hm⟩ := HX.out k hkl
      have HP : Hid (Crc.more Crc.P32 32 (Crc.more Crc.P32 32 0 (nss.take k).flatten) nss[k] = Crc.more Crc.P32 32 0 (nss.take (k + 1)).flatten) := by
        show _ = _
        rw [flat_take nss k hkl, Crc.more_append]
      have HR : Hid (Row8 w a m d (up nss[k])) := hr
      have HB : Hid (Byt nss[k]) := hb
      clear hr hb
      generalize nss[k] = y at *
      generalize Crc.more Crc.P32 32 0 (nss.take k).flatten = q at *
      go_wp2_with fail
      refine (more32_any q a m d y w HT.out hq HR.out HB.out hm).mono ?_
      rintro e w1 ⟨rfl, rfl⟩
      go_wp2
      go_round
      case rel => exact ⟨k + 1, by omega, by go_num, by rw [HP.out]⟩
      case measure => simp [intOf]; omega
    · obtain rfl : k = n := by omega
      have HF : Hid (nss.take k = nss) := List.take_of_length_le (by rw [HM.out]; exact Nat.le_refl _)
      rw [HF.out] at hq ⊢
      go_wp2
      go_ret
      exact ⟨rfl, rfl⟩
/-- One piece alone, as a call with one argument lays it. -/
theorem pieces_one {w : World} {v : Value} {ns : List Nat} (t : TypeId) (h : Piece w v ns) : Pieces (w.alloc (.cells #[v] t)) ⟨w.heap.size, 0, none⟩ [ns] := by
  intro k hk
  obtain rfl : k = 0 := by simpa using hk
  obtain ⟨a, m, c, rfl, hr, hb, hm⟩ := h
  refine ⟨.slice a m c, by simp [Addr.add], a, m, c, rfl, ?_, hb, hm⟩
  exact row8_keep hr ((Chg.refl (fun _ => False) w).alloc _) (fun _ _ f => f)
theorem stp_odd (P q : Nat) (h : q % 2 = 1) : q / 2 ^^^ P = Crc.stp P q := by rw [Crc.stp, if_pos h]
theorem stp_flat (P q : Nat) (h : ¬ q % 2 = 1) : q / 2 = Crc.stp P q := by rw [Crc.stp, if_neg h, Nat.xor_zero]
theorem le32 {a : Nat} (h : a < 4294967296) : a < 18446744073709551616 := Nat.lt_of_lt_of_le h (by decide)
theorem poly32 (w : World) : Calls Tryd.prog 55 #[.int .i64 32] w fun e w' => e = .returned (.int .u64 (Crc.P32 : Nat)) ∧ w = w' := by
  go_enter Tryd.func55, Tryd.ntmps55
  go_wp2
  go_ret
  exact ⟨rfl, rfl⟩
theorem ones32 (w : World) : Calls Tryd.prog 46 #[.int .i64 32] w fun e w' => e = .returned (.int .u64 4294967295) ∧ w = w' := by
  go_enter Tryd.func46, Tryd.ntmps46
  go_wp2
  go_loop [3, 4] (fun z i => ∃ k p : Nat, k ≤ 32 ∧ Hid (p + 1 = 2 ^ k) ∧ i = .int .i64 k ∧ z = .int .u64 p) (fun _ i => 32 - (intOf i).toNat)
  case atStart => exact ⟨0, 0, by omega, rfl, rfl, rfl⟩
  case round =>
    obtain ⟨k, p, hk, HP, rfl, rfl⟩ := hrel
    by_cases hlt : k < 32
    · have h1 : 2 ^ k ≤ 2 ^ 31 := Nat.pow_le_pow_right (by decide) (by omega)
      have hp : p + 1 ≤ 2147483648 := by have := HP.out; omega
      have HP2 : Hid (2 * p + 1 + 1 = 2 ^ (k + 1)) := by
        show _ = _
        rw [Nat.pow_succ, ← HP.out]
        omega
      clear h1
      go_wp2
      go_round
      case rel => exact ⟨k + 1, 2 * p + 1, by omega, HP2, by go_num, by go_num⟩
      case measure => simp [intOf]; omega
    · obtain rfl : k = 32 := by omega
      have hp : p = 4294967295 := by have := HP.out; omega
      subst hp
      go_wp2
      go_ret
      exact ⟨rfl, rfl⟩
theorem refput32 (s x : Nat) (w : World) (hs : s < 4294967296) (hx : x < 256) :
    Calls Tryd.prog 47 #[.int .u64 s, .int .u8 x, .int .i64 32] w fun e w' => e = .returned (.int .u64 (Crc.put Crc.P32 s x : Nat)) ∧ w = w' := by
  have hxx : x < 4294967296 := by omega
  have h1 := xor64 s x (le32 hs) (by omega)
  have ha : s ^^^ x < 4294967296 := Nat.xor_lt_two_pow (n := 32) hs hxx
  have HR : Hid (Crc.put Crc.P32 s x = Crc.itr Crc.P32 8 (s ^^^ x)) := rfl
  generalize s ^^^ x = a at *
  go_enter Tryd.func47, Tryd.ntmps47
  go_wp2
  go_loop [0, 7] (fun z i => ∃ k : Nat, k ≤ 8 ∧ i = .int .i64 k ∧ z = .int .u64 (Crc.itr Crc.P32 k a : Nat)) (fun _ i => 8 - (intOf i).toNat)
  case atStart => exact ⟨0, by omega, rfl, rfl⟩
  case round =>
    clear h1
    obtain ⟨k, hk, rfl, rfl⟩ := hrel
    have hq : Crc.itr Crc.P32 k a < 4294967296 := Crc.itr_lt (w := 32) Crc.p32_lt k ha
    by_cases hlt : k < 8
    · have HS : Hid (Crc.stp Crc.P32 (Crc.itr Crc.P32 k a) = Crc.itr Crc.P32 (k + 1) a) := (Crc.itr_succ _ _ _).symm
      generalize Crc.itr Crc.P32 k a = q at *
      by_cases ho : q % 2 = 1
      · have hx2 : bits .xor .u64 ((q : Int) / 2) ((Crc.P32 : Nat) : Int) = ((Crc.stp Crc.P32 q : Nat) : Int) := by
          have e : (q : Int) / 2 = ((q / 2 : Nat) : Int) := by omega
          rw [e, xor64 _ _ (le32 (by omega)) (le32 Crc.p32_lt), stp_odd _ _ ho]
        generalize Crc.stp Crc.P32 q = t at *
        go_wp2_with fail
        refine (poly32 w).mono ?_
        rintro e w1 ⟨rfl, rfl⟩
        go_wp2
        go_round
        case rel => exact ⟨k + 1, by omega, by go_num, by rw [← HS.out]⟩
        case measure => simp [intOf]; omega
      · have HF : Hid (q / 2 = Crc.stp Crc.P32 q) := stp_flat _ _ ho
        go_wp2
        go_round
        case rel => exact ⟨k + 1, by omega, by go_num, by rw [← HS.out, ← HF.out]; go_num⟩
        case measure => simp [intOf]; omega
    · obtain rfl : k = 8 := by omega
      go_wp2
      go_ret
      exact ⟨by rw [HR.out]; rfl, rfl⟩
theorem refmore32_some (s : Nat) (x : Addr) (n c : Nat) (ns : List Nat) (w : World) (hs : s < 4294967296) (HX : Hid (∀ j u, ((up ns).map (Value.int .u8))[j]? = some u → w.cell? (x.add j) = some u)) (HM : Hid (ns.length = n)) (HB : Hid (Byt ns)) (hl : n ≤ 140737488355328) :
    Calls Tryd.prog 40 #[.int .u64 s, .slice (some x) n c, .int .i64 32] w fun e w' => e = .returned (.int .u64 (Crc.more Crc.P32 32 s ns : Nat)) ∧ w = w' := by
  have h1 : bits .xor .u64 (s : Int) 4294967295 = ((4294967295 ^^^ s : Nat) : Int) := by
    have := xor64 s 4294967295 (le32 hs) (by decide)
    rw [Nat.xor_comm] at this
    exact this
  have ha := nxor32_lt hs
  have HE : Hid (Crc.more Crc.P32 32 s ns = 4294967295 ^^^ Crc.raw Crc.P32 (4294967295 ^^^ s) ns) := rfl
  generalize 4294967295 ^^^ s = a at *
  go_enter Tryd.func40, Tryd.ntmps40
  go_wp2_with fail
  refine (ones32 w).mono ?_
  rintro e w1 ⟨rfl, rfl⟩
  go_wp2_with fail
  go_loop [7, 8] (fun z i => ∃ k : Nat, k ≤ n ∧ i = .int .i64 k ∧ z = .int .u64 (Crc.raw Crc.P32 a (ns.take k) : Nat)) (fun _ i => n - (intOf i).toNat)
  case atStart => exact ⟨0, by omega, rfl, rfl⟩
  case round =>
    clear h1
    obtain ⟨k, hk, rfl, rfl⟩ := hrel
    have hq : Crc.raw Crc.P32 a (ns.take k) < 4294967296 := raw32_lt (HB.out.take k) ha
    by_cases hlt : k < n
    · have hkl : k < ns.length := by rw [HM.out]; exact hlt
      have hc := cellN HX.out k hkl
      have hy := HB.out.at k hkl
      have HP : Hid (Crc.put Crc.P32 (Crc.raw Crc.P32 a (ns.take k)) ns[k] = Crc.raw Crc.P32 a (ns.take (k + 1))) := raw32_take a ns k hkl
      generalize ns[k] = y at *
      generalize Crc.raw Crc.P32 a (ns.take k) = q at *
      go_wp2_with fail
      refine (refput32 q y w hq hy).mono ?_
      rintro e w1 ⟨rfl, rfl⟩
      go_wp2
      go_round
      case rel => exact ⟨k + 1, by omega, by go_num, by rw [HP.out]⟩
      case measure => simp [intOf]; omega
    · obtain rfl : k = n := by omega
      have HF : Hid (ns.take k = ns) := List.take_of_length_le (by rw [HM.out]; exact Nat.le_refl _)
      rw [HF.out] at hq ⊢
      have h2 : bits .xor .u64 ((Crc.raw Crc.P32 a ns : Nat) : Int) 4294967295 = ((4294967295 ^^^ Crc.raw Crc.P32 a ns : Nat) : Int) := by
        have := xor64 _ 4294967295 (le32 hq) (by decide)
        rw [Nat.xor_comm] at this
        exact this
      go_wp2_with fail
      refine (ones32 w).mono ?_
      rintro e w1 ⟨rfl, rfl⟩
      go_wp2
      go_ret
      exact ⟨by rw [HE.out]; rfl, rfl⟩
theorem refmore32_any (s : Nat) (ad : Option Addr) (n c : Nat) (ns : List Nat) (w : World) (hs : s < 4294967296) (h : Row8 w ad n c (up ns)) (hb : Byt ns) (hl : n ≤ 140737488355328) :
    Calls Tryd.prog 40 #[.int .u64 s, .slice ad n c, .int .i64 32] w fun e w' => e = .returned (.int .u64 (Crc.more Crc.P32 32 s ns : Nat)) ∧ w = w' := by
  have hm : ns.length = n := by rw [← up_length]; exact h.1
  rcases h.2 with ⟨rfl, rfl, rfl⟩ | ⟨x, rfl, hx⟩
  · have e : ns = [] := List.eq_nil_of_length_eq_zero hm
    subst e
    rw [Crc.more_nil]
    have h1 : bits .xor .u64 (s : Int) 4294967295 = ((4294967295 ^^^ s : Nat) : Int) := by
      have := xor64 s 4294967295 (le32 hs) (by decide)
      rw [Nat.xor_comm] at this
      exact this
    have h2 : bits .xor .u64 ((4294967295 ^^^ s : Nat) : Int) 4294967295 = (s : Int) := by
      have := xor64 (4294967295 ^^^ s) 4294967295 (le32 (nxor32_lt hs)) (by decide)
      rw [Nat.xor_comm (4294967295 ^^^ s) 4294967295, Crc.xor_cancel] at this
      exact this
    clear h hb hm hl
    generalize 4294967295 ^^^ s = a at *
    go_enter Tryd.func40, Tryd.ntmps40
    go_wp2_with fail
    refine (ones32 w).mono ?_
    rintro e w1 ⟨rfl, rfl⟩
    go_wp2_with fail
    go_loop [7, 8] (fun z i => z = .int .u64 a ∧ i = .int .i64 0) (fun _ _ => 0)
    case atStart => exact ⟨rfl, rfl⟩
    case round =>
      obtain ⟨rfl, rfl⟩ := hrel
      go_wp2_with fail
      refine (ones32 w).mono ?_
      rintro e w1 ⟨rfl, rfl⟩
      go_wp2
      go_ret
      exact ⟨rfl, rfl⟩
  · exact refmore32_some s x n c ns w hs hx hm hb hl
theorem flip_byt {l : List Nat} (h : Byt l) (k : Nat) : Byt (Crc.flip l k) := fun x hx => by
  rcases List.mem_or_eq_of_mem_set hx with e | e
  · exact h x e
  · rw [e]
    refine Nat.xor_lt_two_pow (n := 8) ?_ (Nat.pow_lt_pow_right (by decide) (Nat.mod_lt _ (by decide)))
    by_cases hk : k / 8 < l.length
    · rw [List.getD_eq_getElem?_getD, List.getElem?_eq_getElem hk]
      exact h _ (List.getElem_mem _)
    · rw [List.getD_eq_getElem?_getD, List.getElem?_eq_none (by omega)]
      decide
/-- What bursts do to sums: the bits that were turned, as a number, from the place on. -/
structure Turned (xs l : List Nat) (at_ i M : Nat) : Prop where
  len : l.length = xs.length
  byt : Byt l
  small : M < 2 ^ i
  raw : ∀ P s, Crc.raw P s l = Crc.raw P s xs ^^^ Crc.itr P (8 * xs.length - at_) M
theorem Turned.zero (xs : List Nat) (h : Byt xs) (at_ : Nat) : Turned xs xs at_ 0 0 := ⟨rfl, h, by decide, fun P s => by rw [Crc.itr_zero, Nat.xor_zero]⟩
theorem Turned.skip {xs l : List Nat} {at_ i M : Nat} (h : Turned xs l at_ i M) : Turned xs l at_ (i + 1) M := ⟨h.len, h.byt, Nat.lt_of_lt_of_le h.small (Nat.pow_le_pow_right (by decide) (by omega)), h.raw⟩
theorem Turned.turn {xs l : List Nat} {at_ i M : Nat} (h : Turned xs l at_ i M) (hk : at_ + i < 8 * xs.length) : Turned xs (Crc.flip l (at_ + i)) at_ (i + 1) (M ^^^ 2 ^ i) :=
  ⟨by rw [Crc.flip_length, h.len], flip_byt h.byt _, Nat.xor_lt_two_pow (Nat.lt_of_lt_of_le h.small (Nat.pow_le_pow_right (by decide) (by omega))) (Nat.pow_lt_pow_right (by decide) (by omega)), fun P s => by
    rw [Crc.raw_flip_from P s l at_ i (by rw [h.len]; exact hk), h.raw, h.len, Crc.itr_xor, Nat.xor_assoc]⟩
theorem xor_pow_ne {M i : Nat} (h : M < 2 ^ i) : M ^^^ 2 ^ i ≠ 0 := fun e => by
  have := Crc.xor_eq_zero e
  omega
theorem flip_is (l : List Nat) (k : Nat) (hk : k / 8 < l.length) : Crc.flip l k = l.set (k / 8) (l[k / 8] ^^^ 2 ^ (k % 8)) := by
  unfold Crc.flip
  rw [List.getD_eq_getElem?_getD, List.getElem?_eq_getElem hk]
  rfl
theorem up_set (l : List Nat) (k y : Nat) : (up l).set k (y : Int) = up (l.set k y) := by simp [up, List.map_set]
theorem wpow8 {r : Nat} (hr : r < 8) : IntKind.u8.wrap ((2 : Int) ^ r) = ((2 ^ r : Nat) : Int) := by
  have h : 2 ^ r < 256 := Nat.pow_lt_pow_right (a := 2) (n := 8) (by decide) hr
  have e : (2 : Int) ^ r = ((2 ^ r : Nat) : Int) := by simp
  have e2 : IntKind.u8.wrap ((2 : Int) ^ r) = (2 : Int) ^ r % 256 := by simp [IntKind.wrap, IntKind.signed, IntKind.bits]
  rw [e2, e]
  generalize 2 ^ r = x at *
  omega
/-- Bits that are turned among 32 in a row are told. -/
theorem told32 {xs l : List Nat} {at_ M q : Nat} (h : Turned xs l at_ 32 M) (hq : q = 0 ↔ M = 0) : (Crc.more Crc.P32 32 0 l = Crc.more Crc.P32 32 0 xs) ↔ q = 0 := by
  rw [hq]
  unfold Crc.more
  rw [h.raw, ← Nat.xor_assoc]
  constructor
  · intro e
    have e2 : Crc.itr Crc.P32 (8 * xs.length - at_) M = 0 := by
      generalize Crc.itr Crc.P32 (8 * xs.length - at_) M = z at *
      have := Crc.xor_left_inj (e.trans (Nat.xor_zero _).symm)
      exact this
    exact Crc.itr_inj0 (P := Crc.P32) (w := 31) (by decide) (by decide) _ h.small e2
  · intro e
    rw [e, Crc.itr_zero, Nat.xor_zero]
end Go.Proofs.YtikokgngkagieaaDoor.Cq
