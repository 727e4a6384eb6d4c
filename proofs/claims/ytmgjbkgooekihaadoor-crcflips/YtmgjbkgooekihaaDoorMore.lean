/- Lists of bytes as lists of natural numbers ('up'), and the contracts of More32, More64; of no statement by themselves. -/
import Derived.Test.YtmgjbkgooekihaaDoorTab
namespace Go.Proofs.YtmgjbkgooekihaaDoor
open Go.RowKit

/-- Natural numbers as the model's. -/
def up (ns : List Nat) : List Int := ns.map fun (n : Nat) => (n : Int)

/-- Each is a byte. -/
def Byt (ns : List Nat) : Prop := ∀ x ∈ ns, x < 256

theorem Byt.nil : Byt [] := fun x h => by cases h
theorem Byt.append {a b : List Nat} (ha : Byt a) (hb : Byt b) : Byt (a ++ b) := fun x h => by
  rcases List.mem_append.1 h with h | h
  · exact ha x h
  · exact hb x h
theorem Byt.take {a : List Nat} (h : Byt a) (k : Nat) : Byt (a.take k) := fun x hx => h x (List.mem_of_mem_take hx)
theorem Byt.at {a : List Nat} (h : Byt a) (k : Nat) (hk : k < a.length) : a[k] < 256 := h _ (List.getElem_mem _)
theorem Byt.zeros (n : Nat) : Byt (List.replicate n 0) := fun x h => by obtain ⟨_, rfl⟩ := List.mem_replicate.1 h; omega

theorem up_length (ns : List Nat) : (up ns).length = ns.length := by simp [up]
theorem up_append (a b : List Nat) : up (a ++ b) = up a ++ up b := by simp [up]
theorem up_take (a : List Nat) (k : Nat) : up (a.take k) = (up a).take k := by simp [up, List.map_take]

theorem cellN {w : World} {x : Addr} {ns : List Nat} (h : ∀ j u, ((up ns).map (Value.int .u8))[j]? = some u → w.cell? (x.add j) = some u) (k : Nat) (hk : k < ns.length) : w.cell? (x.add k) = some (.int .u8 (ns[k] : Nat)) :=
  h k _ (by simp [up, hk])

theorem not32 (a : Nat) (ha : a < 4294967296) : bits .xor .u32 IntKind.u32.max (a : Int) = ((4294967295 ^^^ a : Nat) : Int) := xor32 4294967295 a (by decide) ha

theorem raw32_lt {ns : List Nat} (h : Byt ns) {s : Nat} (hs : s < 4294967296) : Crc.raw Crc.P32 s ns < 4294967296 :=
  Crc.raw_lt (w := 32) Crc.p32_lt ns (fun x hx => Nat.lt_of_lt_of_le (h x hx) (by decide)) hs

theorem more32_lt {ns : List Nat} (h : Byt ns) {s : Nat} (hs : s < 4294967296) : Crc.more Crc.P32 32 s ns < 4294967296 :=
  Crc.more_lt (w := 32) Crc.p32_lt ns (fun x hx => Nat.lt_of_lt_of_le (h x hx) (by decide)) hs

theorem nxor32_lt {a : Nat} (ha : a < 4294967296) : 4294967295 ^^^ a < 4294967296 := Nat.xor_lt_two_pow (n := 32) (by decide) ha

theorem raw32_take (s : Nat) (ns : List Nat) (k : Nat) (hk : k < ns.length) : Crc.put Crc.P32 (Crc.raw Crc.P32 s (ns.take k)) ns[k] = Crc.raw Crc.P32 s (ns.take (k + 1)) := by
  rw [List.take_succ_eq_append_getElem hk, Crc.raw_snoc]

theorem more32_some (s : Nat) (x : Addr) (n c : Nat) (ns : List Nat) (w : World) (HT : Hid (Tab w)) (hs : s < 4294967296) (HX : Hid (∀ j u, ((up ns).map (Value.int .u8))[j]? = some u → w.cell? (x.add j) = some u)) (HM : Hid (ns.length = n)) (HB : Hid (Byt ns)) (hl : n ≤ 140737488355328) :
    Calls Tryd.prog 23 #[.int .u32 s, .slice (some x) n c] w fun e w' => e = .returned (.int .u32 (Crc.more Crc.P32 32 s ns : Nat)) ∧ w = w' := by
  have h1 := not32 s hs
  have ha := nxor32_lt hs
  have HE : Hid (Crc.more Crc.P32 32 s ns = 4294967295 ^^^ Crc.raw Crc.P32 (4294967295 ^^^ s) ns) := rfl
  generalize 4294967295 ^^^ s = a at *
  go_enter Tryd.func23, Tryd.ntmps23
  go_wp2
  go_loop [0, 11] (fun z i => ∃ k : Nat, k ≤ n ∧ i = .int .i64 k ∧ z = .int .u32 (Crc.raw Crc.P32 a (ns.take k) : Nat)) (fun _ i => n - (intOf i).toNat)
  case atStart => exact ⟨0, by omega, rfl, rfl⟩
  case round =>
    obtain ⟨k, hk, rfl, rfl⟩ := hrel
    have hq : Crc.raw Crc.P32 a (ns.take k) < 4294967296 := raw32_lt (HB.out.take k) ha
    by_cases hlt : k < n
    · have hkl : k < ns.length := by rw [HM.out]; exact hlt
      have hc := cellN HX.out k hkl
      have hy := HB.out.at k hkl
      have HP : Hid (Crc.put Crc.P32 (Crc.raw Crc.P32 a (ns.take k)) ns[k] = Crc.raw Crc.P32 a (ns.take (k + 1))) := raw32_take a ns k hkl
      generalize ns[k] = y at *
      generalize Crc.raw Crc.P32 a (ns.take k) = q at *
      clear h1 ha
      go_wp2_with fail
      refine (put32_any q y w HT.out hq hy).mono ?_
      rintro e w1 ⟨rfl, rfl⟩
      go_wp2
      go_round
      case rel => exact ⟨k + 1, by omega, by go_num, by rw [HP.out]⟩
      case measure => simp [intOf]; omega
    · obtain rfl : k = n := by omega
      have HF : Hid (ns.take k = ns) := List.take_of_length_le (by rw [HM.out]; exact Nat.le_refl _)
      rw [HF.out] at hq ⊢
      have h2 := not32 _ hq
      go_wp2
      go_ret
      exact ⟨by rw [HE.out]; rfl, rfl⟩

theorem more32_any (s : Nat) (ad : Option Addr) (n c : Nat) (ns : List Nat) (w : World) (hT : Tab w) (hs : s < 4294967296) (h : Row8 w ad n c (up ns)) (hb : Byt ns) (hl : n ≤ 140737488355328) :
    Calls Tryd.prog 23 #[.int .u32 s, .slice ad n c] w fun e w' => e = .returned (.int .u32 (Crc.more Crc.P32 32 s ns : Nat)) ∧ w = w' := by
  have hm : ns.length = n := by rw [← up_length]; exact h.1
  rcases h.2 with ⟨rfl, rfl, rfl⟩ | ⟨x, rfl, hx⟩
  · have e : ns = [] := List.eq_nil_of_length_eq_zero hm
    subst e
    rw [Crc.more_nil]
    have h1 := not32 s hs
    have h2 := not32 _ (nxor32_lt hs)
    rw [Crc.xor_cancel] at h2
    clear h hb hm hT hl
    generalize 4294967295 ^^^ s = a at *
    go_enter Tryd.func23, Tryd.ntmps23
    go_wp2
    go_loop [0, 11] (fun z i => z = .int .u32 a ∧ i = .int .i64 0) (fun _ _ => 0)
    case atStart => exact ⟨rfl, rfl⟩
    case round =>
      obtain ⟨rfl, rfl⟩ := hrel
      go_wp2
      go_ret
      exact ⟨rfl, rfl⟩
  · exact more32_some s x n c ns w hT hs hx hm hb hl
theorem not64 (a : Nat) (ha : a < 18446744073709551616) : bits .xor .u64 IntKind.u64.max (a : Int) = ((18446744073709551615 ^^^ a : Nat) : Int) := xor64 18446744073709551615 a (by decide) ha

theorem raw64_lt {ns : List Nat} (h : Byt ns) {s : Nat} (hs : s < 18446744073709551616) : Crc.raw Crc.P64 s ns < 18446744073709551616 :=
  Crc.raw_lt (w := 64) Crc.p64_lt ns (fun x hx => Nat.lt_of_lt_of_le (h x hx) (by decide)) hs

theorem more64_lt {ns : List Nat} (h : Byt ns) {s : Nat} (hs : s < 18446744073709551616) : Crc.more Crc.P64 64 s ns < 18446744073709551616 :=
  Crc.more_lt (w := 64) Crc.p64_lt ns (fun x hx => Nat.lt_of_lt_of_le (h x hx) (by decide)) hs

theorem nxor64_lt {a : Nat} (ha : a < 18446744073709551616) : 18446744073709551615 ^^^ a < 18446744073709551616 := Nat.xor_lt_two_pow (n := 64) (by decide) ha

theorem raw64_take (s : Nat) (ns : List Nat) (k : Nat) (hk : k < ns.length) : Crc.put Crc.P64 (Crc.raw Crc.P64 s (ns.take k)) ns[k] = Crc.raw Crc.P64 s (ns.take (k + 1)) := by
  rw [List.take_succ_eq_append_getElem hk, Crc.raw_snoc]

theorem more64_some (s : Nat) (x : Addr) (n c : Nat) (ns : List Nat) (w : World) (HT : Hid (Tab w)) (hs : s < 18446744073709551616) (HX : Hid (∀ j u, ((up ns).map (Value.int .u8))[j]? = some u → w.cell? (x.add j) = some u)) (HM : Hid (ns.length = n)) (HB : Hid (Byt ns)) (hl : n ≤ 140737488355328) :
    Calls Tryd.prog 24 #[.int .u64 s, .slice (some x) n c] w fun e w' => e = .returned (.int .u64 (Crc.more Crc.P64 64 s ns : Nat)) ∧ w = w' := by
  have h1 := not64 s hs
  have ha := nxor64_lt hs
  have HE : Hid (Crc.more Crc.P64 64 s ns = 18446744073709551615 ^^^ Crc.raw Crc.P64 (18446744073709551615 ^^^ s) ns) := rfl
  generalize 18446744073709551615 ^^^ s = a at *
  go_enter Tryd.func24, Tryd.ntmps24
  go_wp2
  go_loop [0, 11] (fun z i => ∃ k : Nat, k ≤ n ∧ i = .int .i64 k ∧ z = .int .u64 (Crc.raw Crc.P64 a (ns.take k) : Nat)) (fun _ i => n - (intOf i).toNat)
  case atStart => exact ⟨0, by omega, rfl, rfl⟩
  case round =>
    obtain ⟨k, hk, rfl, rfl⟩ := hrel
    have hq : Crc.raw Crc.P64 a (ns.take k) < 18446744073709551616 := raw64_lt (HB.out.take k) ha
    by_cases hlt : k < n
    · have hkl : k < ns.length := by rw [HM.out]; exact hlt
      have hc := cellN HX.out k hkl
      have hy := HB.out.at k hkl
      have HP : Hid (Crc.put Crc.P64 (Crc.raw Crc.P64 a (ns.take k)) ns[k] = Crc.raw Crc.P64 a (ns.take (k + 1))) := raw64_take a ns k hkl
      generalize ns[k] = y at *
      generalize Crc.raw Crc.P64 a (ns.take k) = q at *
      clear h1 ha
      go_wp2_with fail
      refine (put64_any q y w HT.out hq hy).mono ?_
      rintro e w1 ⟨rfl, rfl⟩
      go_wp2
      go_round
      case rel => exact ⟨k + 1, by omega, by go_num, by rw [HP.out]⟩
      case measure => simp [intOf]; omega
    · obtain rfl : k = n := by omega
      have HF : Hid (ns.take k = ns) := List.take_of_length_le (by rw [HM.out]; exact Nat.le_refl _)
      rw [HF.out] at hq ⊢
      have h2 := not64 _ hq
      go_wp2
      go_ret
      exact ⟨by rw [HE.out]; rfl, rfl⟩

theorem more64_any (s : Nat) (ad : Option Addr) (n c : Nat) (ns : List Nat) (w : World) (hT : Tab w) (hs : s < 18446744073709551616) (h : Row8 w ad n c (up ns)) (hb : Byt ns) (hl : n ≤ 140737488355328) :
    Calls Tryd.prog 24 #[.int .u64 s, .slice ad n c] w fun e w' => e = .returned (.int .u64 (Crc.more Crc.P64 64 s ns : Nat)) ∧ w = w' := by
  have hm : ns.length = n := by rw [← up_length]; exact h.1
  rcases h.2 with ⟨rfl, rfl, rfl⟩ | ⟨x, rfl, hx⟩
  · have e : ns = [] := List.eq_nil_of_length_eq_zero hm
    subst e
    rw [Crc.more_nil]
    have h1 := not64 s hs
    have h2 := not64 _ (nxor64_lt hs)
    rw [Crc.xor_cancel] at h2
    clear h hb hm hT hl
    generalize 18446744073709551615 ^^^ s = a at *
    go_enter Tryd.func24, Tryd.ntmps24
    go_wp2
    go_loop [0, 11] (fun z i => z = .int .u64 a ∧ i = .int .i64 0) (fun _ _ => 0)
    case atStart => exact ⟨rfl, rfl⟩
    case round =>
      obtain ⟨rfl, rfl⟩ := hrel
      go_wp2
      go_ret
      exact ⟨rfl, rfl⟩
  · exact more64_some s x n c ns w hT hs hx hm hb hl
end Go.Proofs.YtmgjbkgooekihaaDoor
