/- The walk through DeltaWhole; of no statement by itself. -/
import Derived.Test.YtefplppgkoanbaaDz
namespace Go.Proofs.Ytefplppgkoanbaa
open Go.RowKit
set_option linter.unusedVariables false
set_option linter.unusedSimpArgs false
variable {Fi : World → Nat → Nat → (Nat → Prop) → Nat → Bool → List Nat → Prop}
theorem code_len (back : Bool) (d : Int) (bs : List Nat) : (codeA back d bs).1.length ≤ bs.length := by
  unfold codeA
  split
  · rw [De19.cd_len]; exact Nat.le_refl _
  · exact Nat.zero_le _
theorem book_four (w : World) (B : Nat) (hB : B ≤ w.heap.size) (h1 h2 h3 h4 : Bk.Hd) (vs : Array Value) (hv : vs.toList = Bk.hcells [h1, h2, h3, h4]) : (w.alloc (.cells vs 49)).ownsRow B 49 5 (.slice (some ⟨w.heap.size, 0, none⟩) 4 4) 4 (Bk.hcells [h1, h2, h3, h4]) := by
  have h := World.ownsRow_lit (base := B) (e := 49) (size := 5) w vs 4 hB (by unfold maxLen; omega) (by rw [← Array.length_toList, hv, Bk.hcells_length]; rfl)
  rw [hv] at h
  exact h
set_option maxHeartbeats 16000000 in
set_option maxRecDepth 100000 in
theorem whole19_any (S : DeltaSpec Fi) (ad : Option Addr) (n c : Nat) (bs : List Nat) (d : Int) (hd : I64 d) (w0 : World) (hr : Row8 w0 ad n c (nums bs)) (hg : Rc.Dig bs) (hn : n ≤ 140737488351232) : Calls Try.prog 8 #[.slice ad n c, .int .i64 d] w0 fun e w' => e = .returned (.bool true) ∧ Chg (fun _ => False) w0 w' := by
  have hbl : bs.length = n := by have h9 := hr.1; rw [nums_len] at h9; exact h9
  have HRB : Hid (Row8 w0 ad n c (nums bs)) := hr
  have HDG : Hid (Rc.Dig bs) := hg
  have HBL : Hid (bs.length = n) := hbl
  have hni : (n : Int) ≤ 140737488351232 := by omega
  have HEL : Hid ((codeA false d bs).1.length ≤ n ∧ (codeA true d bs).1.length ≤ n) := ⟨by rw [← hbl]; exact code_len _ _ _, by rw [← hbl]; exact code_len _ _ _⟩
  have HD2 : Hid (Rc.Dig (bs ++ [165])) := fun x hx => by
    rcases List.mem_append.1 hx with e | e
    · exact hg x e
    · simp at e; omega
  have HLE : Hid _ := lent_any ad n c bs w0 hr hn
  clear hr hg hbl
  go_enter Try.func8, Try.ntmps8
  go_wp2_with fail
  refine Calls.mono HLE.out ?_
  rintro z w1 ⟨fa, fc, rfl, hfu, hfc, c01⟩
  obtain ⟨gf, hgf⟩ : ∃ gf, fa = some ⟨gf, 0, none⟩ := by
    have h9 := hfu
    unfold ByO at h9
    have hle1 : (bs ++ [165] : List Nat).length = n + 1 := by simp [HBL.out]
    rw [hle1] at h9
    obtain ⟨g, c', e, _⟩ := own_some h9 (by omega)
    simp only [Value.slice.injEq] at e
    exact ⟨g, e.1⟩
  subst hgf
  have HFU : Hid (ByO w1 w0.heap.size (.slice (some ⟨gf, 0, none⟩) (n + 1) fc) (bs ++ [165])) := hfu
  have HC01 : Hid (Chg (fun _ => False) w0 w1) := c01
  have hgi := hfu.lt gf rfl
  obtain ⟨EN, hEN⟩ : ∃ l, (codeA false d bs).1 = l := ⟨_, rfl⟩
  obtain ⟨eE, heE⟩ : ∃ l, (codeA false d bs).2 = l := ⟨_, rfl⟩
  obtain ⟨DE, hDE⟩ : ∃ l, (codeA true d bs).1 = l := ⟨_, rfl⟩
  obtain ⟨eD, heD⟩ : ∃ l, (codeA true d bs).2 = l := ⟨_, rfl⟩
  rw [hEN, hDE] at HEL
  obtain ⟨le, hle⟩ : ∃ l, EN.length = l := ⟨_, rfl⟩
  obtain ⟨ld, hld⟩ : ∃ l, DE.length = l := ⟨_, rfl⟩
  rw [hle, hld] at HEL
  have HEN : Hid (EN.length = le ∧ DE.length = ld) := ⟨hle, hld⟩
  have HXR : Hid (∀ ww, Chg (fun _ => False) w1 ww → Row8 ww (some ⟨gf, 0, none⟩) n fc (nums bs)) := fun ww hw => row8_front (hfu.new hw)
  have HENC : Hid (∀ ww, Row8 ww (some ⟨gf, 0, none⟩) n fc (nums bs) → Calls Try.prog 11 #[(.slice (some ⟨gf, 0, none⟩) n fc), .int .i64 d] ww fun e w' => ∃ oa oc, e = .returned (.tuple #[.slice oa le oc, .int .i64 eE]) ∧ ByO w' ww.heap.size (.slice oa le oc) EN ∧ Chg (fun _ => False) ww w') := fun ww hw => (S.enc (some ⟨gf, 0, none⟩) n fc bs d ww hw HDG.out (by omega) (by omega) hd).mono (fun e w' ⟨ov, h1, h2, h3⟩ => by
    obtain ⟨oa, oc, e9⟩ := byO_form h2
    rw [hEN] at e9 h2
    rw [hle] at e9
    subst e9
    rw [heE] at h1
    exact ⟨oa, oc, h1, h2, h3⟩)
  have HDEC : Hid (∀ ww, Row8 ww (some ⟨gf, 0, none⟩) n fc (nums bs) → Calls Try.prog 20 #[(.slice (some ⟨gf, 0, none⟩) n fc), .int .i64 d] ww fun e w' => ∃ oa oc, e = .returned (.tuple #[.slice oa ld oc, .int .i64 eD]) ∧ ByO w' ww.heap.size (.slice oa ld oc) DE ∧ Chg (fun _ => False) ww w') := fun ww hw => (S.dec (some ⟨gf, 0, none⟩) n fc bs d ww hw HDG.out (by omega) (by omega) hd).mono (fun e w' ⟨ov, h1, h2, h3⟩ => by
    obtain ⟨oa, oc, e9⟩ := byO_form h2
    rw [hDE] at e9 h2
    rw [hld] at e9
    subst e9
    rw [heD] at h1
    exact ⟨oa, oc, h1, h2, h3⟩)
  have HCOD : Hid (∀ ww, Chg (fun _ => False) w0 ww → Calls Try.prog 21 #[.slice ad n c, .int .i64 d, .bool false] ww fun e w' => ∃ oa oc, e = .returned (.tuple #[.slice oa le oc, .int .i64 eE]) ∧ ByO w' ww.heap.size (.slice oa le oc) EN ∧ Chg (fun _ => False) ww w') := fun ww hw => (rcode_any ad n c bs d false hd ww (Bk.row8_chg HRB.out hw) HDG.out (by omega)).mono (fun e w' ⟨ov, h1, h2, h3⟩ => by
    obtain ⟨oa, oc, e9⟩ := byO_form h2
    rw [hEN] at e9 h2
    rw [hle] at e9
    subst e9
    rw [heE] at h1
    exact ⟨oa, oc, h1, h2, h3⟩)
  have HCOT : Hid (∀ ww, Chg (fun _ => False) w0 ww → Calls Try.prog 21 #[.slice ad n c, .int .i64 d, .bool true] ww fun e w' => ∃ oa oc, e = .returned (.tuple #[.slice oa ld oc, .int .i64 eD]) ∧ ByO w' ww.heap.size (.slice oa ld oc) DE ∧ Chg (fun _ => False) ww w') := fun ww hw => (rcode_any ad n c bs d true hd ww (Bk.row8_chg HRB.out hw) HDG.out (by omega)).mono (fun e w' ⟨ov, h1, h2, h3⟩ => by
    obtain ⟨oa, oc, e9⟩ := byO_form h2
    rw [hDE] at e9 h2
    rw [hld] at e9
    subst e9
    rw [heD] at h1
    exact ⟨oa, oc, h1, h2, h3⟩)
  clear hEN heE hDE heD hle hld hfu c01 HLE
  go_wp2_with fail
  refine Calls.mono (HENC.out _ (HXR.out w1 (Chg.refl _ _))) ?_
  rintro z w2 ⟨ya, yc, rfl, hy, c12⟩
  have Hy : Hid (ByO w2 w1.heap.size (.slice ya le yc) EN) := hy
  have iy : Hid (∀ g, (Value.slice ya le yc).ownBlock = some g → w1.heap.size ≤ g ∧ g < w2.heap.size) := fun g e => hy.lt g e
  have C12 : Hid (Chg (fun _ => False) w1 w2) := c12
  have s1 : w1.heap.size ≤ w2.heap.size := c12.size
  have HC12 : Hid (Chg (fun _ => False) w1 w2) := c12
  clear hy c12
  go_wp2_with fail
  refine Calls.mono (HDEC.out _ (HXR.out w2 HC12.out)) ?_
  rintro z w3 ⟨za, zc, rfl, hz, c23⟩
  have Hz : Hid (ByO w3 w2.heap.size (.slice za ld zc) DE) := hz
  have iz : Hid (∀ g, (Value.slice za ld zc).ownBlock = some g → w2.heap.size ≤ g ∧ g < w3.heap.size) := fun g e => hz.lt g e
  have C23 : Hid (Chg (fun _ => False) w2 w3) := c23
  have s2 : w2.heap.size ≤ w3.heap.size := c23.size
  have HC13 : Hid (Chg (fun _ => False) w1 w3) := chg_then HC12.out c23
  clear hz c23
  go_wp2_with fail
  refine Calls.mono (HCOD.out _ (chg_then HC01.out HC13.out)) ?_
  rintro z w4 ⟨va, vc, rfl, hv, c34⟩
  have Hv : Hid (ByO w4 w3.heap.size (.slice va le vc) EN) := hv
  have iv : Hid (∀ g, (Value.slice va le vc).ownBlock = some g → w3.heap.size ≤ g ∧ g < w4.heap.size) := fun g e => hv.lt g e
  have C34 : Hid (Chg (fun _ => False) w3 w4) := c34
  have s3 : w3.heap.size ≤ w4.heap.size := c34.size
  have HC14 : Hid (Chg (fun _ => False) w1 w4) := chg_then HC13.out c34
  clear hv c34
  go_wp2_with fail
  refine Calls.mono (HCOT.out _ (chg_then HC01.out HC14.out)) ?_
  rintro z w5 ⟨ua, uc, rfl, hu, c45⟩
  have Hu : Hid (ByO w5 w4.heap.size (.slice ua ld uc) DE) := hu
  have iu : Hid (∀ g, (Value.slice ua ld uc).ownBlock = some g → w4.heap.size ≤ g ∧ g < w5.heap.size) := fun g e => hu.lt g e
  have C45 : Hid (Chg (fun _ => False) w4 w5) := c45
  have s4 : w4.heap.size ≤ w5.heap.size := c45.size
  have HC15 : Hid (Chg (fun _ => False) w1 w5) := chg_then HC14.out c45
  clear hu c45
  obtain ⟨sE, hsE⟩ : ∃ s, strOfNums (nums EN) = s := ⟨_, rfl⟩
  obtain ⟨sD, hsD⟩ : ∃ s, strOfNums (nums DE) = s := ⟨_, rfl⟩
  have HSE : Hid (strOfNums (nums EN) = sE ∧ strOfNums (nums DE) = sD) := ⟨hsE, hsD⟩
  have cvE : ∀ {ww : World} {B : Nat} {a : Option Addr} {cc : Nat}, ByO ww B (.slice a le cc) EN → (convert 22 9 (.slice a le cc)).run Try.prog ww = .ok (.string sE) ww := fun h => by rw [← hsE]; exact Bk.conv8_here (byO_row h).1
  have cvD : ∀ {ww : World} {B : Nat} {a : Option Addr} {cc : Nat}, ByO ww B (.slice a ld cc) DE → (convert 22 9 (.slice a ld cc)).run Try.prog ww = .ok (.string sD) ww := fun h => by rw [← hsD]; exact Bk.conv8_here (byO_row h).1
  have CVE : Hid (∀ {ww : World} {B : Nat} {a : Option Addr} {cc : Nat}, ByO ww B (.slice a le cc) EN → (convert 22 9 (.slice a le cc)).run Try.prog ww = .ok (.string sE) ww) := @cvE
  have CVD : Hid (∀ {ww : World} {B : Nat} {a : Option Addr} {cc : Nat}, ByO ww B (.slice a ld cc) DE → (convert 22 9 (.slice a ld cc)).run Try.prog ww = .ok (.string sD) ww) := @cvD
  clear cvE cvD hsE hsD
  have q1 := CVE.out (Hy.out.new (chg_then C23.out (chg_then C34.out C45.out)))
  have q2 := CVE.out (Hv.out.new C45.out)
  have q3 := CVD.out (Hz.out.new (chg_then C34.out C45.out))
  have q4 := CVD.out Hu.out
  have HKP : Hid (∀ ww, Chg (fun _ => False) w1 ww → Calls Try.prog 17 #[(.slice (some ⟨gf, 0, none⟩) (n + 1) fc), .slice ad n c] ww fun e w' => e = .returned (.bool true) ∧ Chg (fun _ => False) ww w') := fun ww hw => kept_q w0.heap.size (some ⟨gf, 0, none⟩) n fc bs ad c ww (HFU.out.new hw) (Bk.row8_chg HRB.out (chg_then HC01.out hw)) hn
  go_wp2_with fail
  refine Calls.mono (HKP.out _ HC15.out) ?_
  rintro z w6 ⟨rfl, c56⟩
  have C56 : Hid (Chg (fun _ => False) w5 w6) := c56
  have s5 : w5.heap.size ≤ w6.heap.size := c56.size
  have HC16 : Hid (Chg (fun _ => False) w1 w6) := chg_then HC15.out c56
  clear c56 q1 q2 q3 q4
  go_wp2_with fail
  refine Calls.mono (HENC.out _ (HXR.out w6 HC16.out)) ?_
  rintro z w7 ⟨ta, tc, rfl, ht, c67⟩
  have Ht : Hid (ByO w7 w6.heap.size (.slice ta le tc) EN) := ht
  have it : Hid (∀ g, (Value.slice ta le tc).ownBlock = some g → w6.heap.size ≤ g ∧ g < w7.heap.size) := fun g e => ht.lt g e
  have C67 : Hid (Chg (fun _ => False) w6 w7) := c67
  have s6 : w6.heap.size ≤ w7.heap.size := c67.size
  have HC17 : Hid (Chg (fun _ => False) w1 w7) := chg_then HC16.out c67
  clear ht c67
  go_wp2_with fail
  refine Calls.mono (HDEC.out _ (HXR.out w7 HC17.out)) ?_
  rintro z w8 ⟨oa, oc, rfl, ho, c78⟩
  have Ho : Hid (ByO w8 w7.heap.size (.slice oa ld oc) DE) := ho
  have io : Hid (∀ g, (Value.slice oa ld oc).ownBlock = some g → w7.heap.size ≤ g ∧ g < w8.heap.size) := fun g e => ho.lt g e
  have C78 : Hid (Chg (fun _ => False) w7 w8) := c78
  have s7 : w7.heap.size ≤ w8.heap.size := c78.size
  have HC18 : Hid (Chg (fun _ => False) w1 w8) := chg_then HC17.out c78
  clear ho c78
  have C58 : Hid (Chg (fun _ => False) w5 w8) := chg_then C56.out (chg_then C67.out C78.out)
  have q1 := CVE.out (Ht.out.new C78.out)
  have q2 := CVE.out (Hv.out.new (chg_then C45.out C58.out))
  have q3 := CVD.out Ho.out
  have q4 := CVD.out (Hu.out.new C58.out)
  have HY8 : Hid (ByO w8 w1.heap.size (.slice ya le yc) EN) := Hy.out.new (chg_then C23.out (chg_then C34.out (chg_then C45.out C58.out)))
  have HZ8 : Hid (ByO w8 w2.heap.size (.slice za ld zc) DE) := Hz.out.new (chg_then C34.out (chg_then C45.out C58.out))
  have HV8 : Hid (ByO w8 w3.heap.size (.slice va le vc) EN) := Hv.out.new (chg_then C45.out C58.out)
  have HT8 : Hid (ByO w8 w6.heap.size (.slice ta le tc) EN) := Ht.out.new C78.out
  have HFU8 : Hid (ByO w8 w0.heap.size (.slice (some ⟨gf, 0, none⟩) (n + 1) fc) (bs ++ [165])) := HFU.out.new HC18.out
  have HC08 : Hid (Chg (fun _ => False) w0 w8) := chg_then HC01.out HC18.out
  have s0 : w0.heap.size ≤ w1.heap.size := HC01.out.size
  have hHO : Hid (∀ (ww : World) (vv : Value) (l : List Nat) (m k : Nat), w0.heap.size ≤ ww.heap.size → ByO ww w0.heap.size vv l → l.length = m → m ≤ n → k ≤ 4 → Calls Try.prog 18 #[vv, .int .i64 (k : Int)] ww fun e w' => ∃ (h' : Bk.Hd) (va : Option Addr) (vc yl : Nat), e = .returned (.agg #[.slice va yl vc, .int .i64 h'.n, .int .u8 h'.mark, .string h'.want, .bool h'.kept]) ∧ h'.cells = [.slice va yl vc, .int .i64 h'.n, .int .u8 h'.mark, .string h'.want, .bool h'.kept] ∧ h'.ok ∧ h'.n ≤ 140737488351232 ∧ Bk.Row w0.heap.size w' h' ∧ Chg (fun b => vv.ownBlock = some b) ww w' ∧ Moved ww vv h'.v) := fun ww vv l m k h1 h2 h3 h4 h5 => by
    have h9 : ww.ownsRow w0.heap.size 5 1 vv m (Bk.cells8 (nums l)) := by unfold ByO at h2; rw [h3] at h2; exact h2
    refine (Bk.hold_any w0.heap.size vv (nums l) m k ww (by omega) h9 h1 (by omega)).mono (fun e w' ⟨h', va, vc, a1, a2, a3, a4, a5, a6, a7⟩ => ⟨h', va, vc, h'.ys.length, a1, ?_, a3, by omega, a5, a6, a7⟩)
    unfold Bk.Hd.cells
    rw [a2]
  clear Hy Hz Hv Hu Ht HFU C23 C34 C45 C56 C67 C58
  have HO8 : Hid (ByO w8 w7.heap.size (.slice oa ld oc) DE) := Ho.out
  clear Ho
  go_wp2_with fail
  refine Calls.mono (hHO.out w8 (.slice ya le yc) EN le 1 (by have := HC08.out.size; omega) (owns_base (B' := w0.heap.size) HY8.out (by omega)) HEN.out.1 HEL.out.1 (by decide)) ?_
  rintro z w9 ⟨h1, p1a, p1c, p1l, rfl, e1, ok1, n1, r1, c9, m1⟩
  have c89 : Hid (Chg (fun b => (Value.slice ya le yc).ownBlock = some b) w8 w9) := c9
  have s8 : w8.heap.size ≤ w9.heap.size := c9.size
  have j1 : Hid (∀ g, h1.v.ownBlock = some g → (w1.heap.size ≤ g ∧ g < w2.heap.size) ∨ (w8.heap.size ≤ g ∧ g < w9.heap.size)) := fun g e => by
    rcases m1 g e with f | f
    · exact .inl (iy.out g f)
    · exact .inr ⟨f, (r1.lt e).2⟩
  have R1 : Hid (h1.cells = [.slice p1a p1l p1c, .int .i64 h1.n, .int .u8 h1.mark, .string h1.want, .bool h1.kept] ∧ h1.ok ∧ h1.n ≤ 140737488351232 ∧ Bk.Row w0.heap.size w9 h1) := ⟨e1, ok1, n1, r1⟩
  clear e1 ok1 n1 r1 c9 m1
  go_wp2_with fail
  refine Calls.mono (hHO.out w9 (.slice ta le tc) EN le 2 (by have := HC08.out.size; omega) (owns_base (B' := w0.heap.size) (ownsRow_keep HT8.out c89.out (fun g e f => by have h1 := it.out g e; have h2 := iy.out g f; omega)) (by omega)) HEN.out.1 HEL.out.1 (by decide)) ?_
  rintro z w10 ⟨h2, p2a, p2c, p2l, rfl, e2, ok2, n2, r2, c9, m2⟩
  have c910 : Hid (Chg (fun b => (Value.slice ta le tc).ownBlock = some b) w9 w10) := c9
  have s9 : w9.heap.size ≤ w10.heap.size := c9.size
  have j2 : Hid (∀ g, h2.v.ownBlock = some g → (w6.heap.size ≤ g ∧ g < w7.heap.size) ∨ (w9.heap.size ≤ g ∧ g < w10.heap.size)) := fun g e => by
    rcases m2 g e with f | f
    · exact .inl (it.out g f)
    · exact .inr ⟨f, (r2.lt e).2⟩
  have R2 : Hid (h2.cells = [.slice p2a p2l p2c, .int .i64 h2.n, .int .u8 h2.mark, .string h2.want, .bool h2.kept] ∧ h2.ok ∧ h2.n ≤ 140737488351232 ∧ Bk.Row w0.heap.size w10 h2) := ⟨e2, ok2, n2, r2⟩
  clear e2 ok2 n2 r2 c9 m2
  go_wp2_with fail
  refine Calls.mono (hHO.out w10 (.slice za ld zc) DE ld 3 (by have := HC08.out.size; omega) (owns_base (B' := w0.heap.size) (ownsRow_keep (ownsRow_keep HZ8.out c89.out (fun g e f => by have h1 := iz.out g e; have h2 := iy.out g f; omega)) c910.out (fun g e f => by have h1 := iz.out g e; have h2 := it.out g f; omega)) (by omega)) HEN.out.2 HEL.out.2 (by decide)) ?_
  rintro z w11 ⟨h3, p3a, p3c, p3l, rfl, e3, ok3, n3, r3, c9, m3⟩
  have c1011 : Hid (Chg (fun b => (Value.slice za ld zc).ownBlock = some b) w10 w11) := c9
  have s10 : w10.heap.size ≤ w11.heap.size := c9.size
  have j3 : Hid (∀ g, h3.v.ownBlock = some g → (w2.heap.size ≤ g ∧ g < w3.heap.size) ∨ (w10.heap.size ≤ g ∧ g < w11.heap.size)) := fun g e => by
    rcases m3 g e with f | f
    · exact .inl (iz.out g f)
    · exact .inr ⟨f, (r3.lt e).2⟩
  have R3 : Hid (h3.cells = [.slice p3a p3l p3c, .int .i64 h3.n, .int .u8 h3.mark, .string h3.want, .bool h3.kept] ∧ h3.ok ∧ h3.n ≤ 140737488351232 ∧ Bk.Row w0.heap.size w11 h3) := ⟨e3, ok3, n3, r3⟩
  clear e3 ok3 n3 r3 c9 m3
  go_wp2_with fail
  refine Calls.mono (hHO.out w11 (.slice oa ld oc) DE ld 4 (by have := HC08.out.size; omega) (owns_base (B' := w0.heap.size) (ownsRow_keep (ownsRow_keep (ownsRow_keep HO8.out c89.out (fun g e f => by have h1 := io.out g e; have h2 := iy.out g f; omega)) c910.out (fun g e f => by have h1 := io.out g e; have h2 := it.out g f; omega)) c1011.out (fun g e f => by have h1 := io.out g e; have h2 := iz.out g f; omega)) (by omega)) HEN.out.2 HEL.out.2 (by decide)) ?_
  rintro z w12 ⟨h4, p4a, p4c, p4l, rfl, e4, ok4, n4, r4, c9, m4⟩
  have c1112 : Hid (Chg (fun b => (Value.slice oa ld oc).ownBlock = some b) w11 w12) := c9
  have s11 : w11.heap.size ≤ w12.heap.size := c9.size
  have j4 : Hid (∀ g, h4.v.ownBlock = some g → (w7.heap.size ≤ g ∧ g < w8.heap.size) ∨ (w11.heap.size ≤ g ∧ g < w12.heap.size)) := fun g e => by
    rcases m4 g e with f | f
    · exact .inl (io.out g f)
    · exact .inr ⟨f, (r4.lt e).2⟩
  have R4 : Hid (h4.cells = [.slice p4a p4l p4c, .int .i64 h4.n, .int .u8 h4.mark, .string h4.want, .bool h4.kept] ∧ h4.ok ∧ h4.n ≤ 140737488351232 ∧ Bk.Row w0.heap.size w12 h4) := ⟨e4, ok4, n4, r4⟩
  clear e4 ok4 n4 r4 c9 m4
  have Q1 : Hid (Bk.Row w0.heap.size w12 h1) := (ownsRow_keep (ownsRow_keep (ownsRow_keep R1.out.2.2.2 c910.out (fun g e f => by have h1 := j1.out g e; have h2 := it.out g f; omega)) c1011.out (fun g e f => by have h1 := j1.out g e; have h2 := iz.out g f; omega)) c1112.out (fun g e f => by have h1 := j1.out g e; have h2 := io.out g f; omega))
  have Q2 : Hid (Bk.Row w0.heap.size w12 h2) := (ownsRow_keep (ownsRow_keep R2.out.2.2.2 c1011.out (fun g e f => by have h1 := j2.out g e; have h2 := iz.out g f; omega)) c1112.out (fun g e f => by have h1 := j2.out g e; have h2 := io.out g f; omega))
  have Q3 : Hid (Bk.Row w0.heap.size w12 h3) := (ownsRow_keep R3.out.2.2.2 c1112.out (fun g e f => by have h1 := j3.out g e; have h2 := io.out g f; omega))
  have Q4 : Hid (Bk.Row w0.heap.size w12 h4) := R4.out.2.2.2
  have HC0c : Hid (Chg (fun _ => False) w0 w12) := (((HC08.out.trans c89.out (fun g e => .inr (by have := iy.out g e; omega))).trans c910.out (fun g e => .inr (by have := it.out g e; omega))).trans c1011.out (fun g e => .inr (by have := iz.out g e; omega))).trans c1112.out (fun g e => .inr (by have := io.out g e; omega))
  have HVc : Hid (ByO w12 w3.heap.size (.slice va le vc) EN) := (ownsRow_keep (ownsRow_keep (ownsRow_keep (ownsRow_keep HV8.out c89.out (fun g e f => by have h1 := iv.out g e; have h2 := iy.out g f; omega)) c910.out (fun g e f => by have h1 := iv.out g e; have h2 := it.out g f; omega)) c1011.out (fun g e f => by have h1 := iv.out g e; have h2 := iz.out g f; omega)) c1112.out (fun g e f => by have h1 := iv.out g e; have h2 := io.out g f; omega))
  have HFc : Hid (ByO w12 w0.heap.size (.slice (some ⟨gf, 0, none⟩) (n + 1) fc) (bs ++ [165])) := (ownsRow_keep (ownsRow_keep (ownsRow_keep (ownsRow_keep HFU8.out c89.out (fun g e f => by have h1 := (fun g (e : (Value.slice (some ⟨gf, 0, none⟩) (n + 1) fc).ownBlock = some g) => (show w0.heap.size ≤ g ∧ g < w1.heap.size by simp [Value.ownBlock] at e; subst e; exact hgi)) g e; have h2 := iy.out g f; omega)) c910.out (fun g e f => by have h1 := (fun g (e : (Value.slice (some ⟨gf, 0, none⟩) (n + 1) fc).ownBlock = some g) => (show w0.heap.size ≤ g ∧ g < w1.heap.size by simp [Value.ownBlock] at e; subst e; exact hgi)) g e; have h2 := it.out g f; omega)) c1011.out (fun g e f => by have h1 := (fun g (e : (Value.slice (some ⟨gf, 0, none⟩) (n + 1) fc).ownBlock = some g) => (show w0.heap.size ≤ g ∧ g < w1.heap.size by simp [Value.ownBlock] at e; subst e; exact hgi)) g e; have h2 := iz.out g f; omega)) c1112.out (fun g e f => by have h1 := (fun g (e : (Value.slice (some ⟨gf, 0, none⟩) (n + 1) fc).ownBlock = some g) => (show w0.heap.size ≤ g ∧ g < w1.heap.size by simp [Value.ownBlock] at e; subst e; exact hgi)) g e; have h2 := io.out g f; omega))
  have cB := chg_one w12 (.cells #[.slice p1a p1l p1c, .int .i64 h1.n, .int .u8 h1.mark, .string h1.want, .bool h1.kept, .slice p2a p2l p2c, .int .i64 h2.n, .int .u8 h2.mark, .string h2.want, .bool h2.kept, .slice p3a p3l p3c, .int .i64 h3.n, .int .u8 h3.mark, .string h3.want, .bool h3.kept, .slice p4a p4l p4c, .int .i64 h4.n, .int .u8 h4.mark, .string h4.want, .bool h4.kept] 49)
  have hbk := book_four w12 w0.heap.size HC0c.out.size h1 h2 h3 h4 #[.slice p1a p1l p1c, .int .i64 h1.n, .int .u8 h1.mark, .string h1.want, .bool h1.kept, .slice p2a p2l p2c, .int .i64 h2.n, .int .u8 h2.mark, .string h2.want, .bool h2.kept, .slice p3a p3l p3c, .int .i64 h3.n, .int .u8 h3.mark, .string h3.want, .bool h3.kept, .slice p4a p4l p4c, .int .i64 h4.n, .int .u8 h4.mark, .string h4.want, .bool h4.kept] (by unfold Bk.hcells; simp only [List.map_cons, List.map_nil, List.flatten_cons, List.flatten_nil, R1.out.1, R2.out.1, R3.out.1, R4.out.1]; rfl)
  have HIN : Hid (∀ (i : Nat) (a : Bk.Hd), [h1, h2, h3, h4][i]? = some a → (i = 0 ∧ a = h1) ∨ (i = 1 ∧ a = h2) ∨ (i = 2 ∧ a = h3) ∨ (i = 3 ∧ a = h4)) := fun i a e => by
    match i, e with
    | 0, e => simp at e; exact .inl ⟨rfl, e.symm⟩
    | 1, e => simp at e; exact .inr (.inl ⟨rfl, e.symm⟩)
    | 2, e => simp at e; exact .inr (.inr (.inl ⟨rfl, e.symm⟩))
    | 3, e => simp at e; exact .inr (.inr (.inr ⟨rfl, e.symm⟩))
    | i + 4, e => simp at e
  have HHE : Hid _ := Bk.held_fine w0.heap.size (.slice (some ⟨w12.heap.size, 0, none⟩) 4 4) [h1, h2, h3, h4] (w12.alloc (.cells #[.slice p1a p1l p1c, .int .i64 h1.n, .int .u8 h1.mark, .string h1.want, .bool h1.kept, .slice p2a p2l p2c, .int .i64 h2.n, .int .u8 h2.mark, .string h2.want, .bool h2.kept, .slice p3a p3l p3c, .int .i64 h3.n, .int .u8 h3.mark, .string h3.want, .bool h3.kept, .slice p4a p4l p4c, .int .i64 h4.n, .int .u8 h4.mark, .string h4.want, .bool h4.kept] 49)) (Nat.le_trans HC0c.out.size cB.size) hbk (Bk.rows_new (fun i a e => by
    rcases HIN.out i a e with ⟨_, rfl⟩ | ⟨_, rfl⟩ | ⟨_, rfl⟩ | ⟨_, rfl⟩
    · exact Q1.out
    · exact Q2.out
    · exact Q3.out
    · exact Q4.out) cB) (fun i j a b ei ej hij g ga gb => by
    rcases HIN.out i a ei with ⟨hi, rfl⟩ | ⟨hi, rfl⟩ | ⟨hi, rfl⟩ | ⟨hi, rfl⟩ <;> rcases HIN.out j b ej with ⟨hj, rfl⟩ | ⟨hj, rfl⟩ | ⟨hj, rfl⟩ | ⟨hj, rfl⟩ <;> first | omega | skip
    · have x1 := j1.out g ga; have x2 := j2.out g gb; omega
    · have x1 := j1.out g ga; have x2 := j3.out g gb; omega
    · have x1 := j1.out g ga; have x2 := j4.out g gb; omega
    · have x1 := j2.out g ga; have x2 := j1.out g gb; omega
    · have x1 := j2.out g ga; have x2 := j3.out g gb; omega
    · have x1 := j2.out g ga; have x2 := j4.out g gb; omega
    · have x1 := j3.out g ga; have x2 := j1.out g gb; omega
    · have x1 := j3.out g ga; have x2 := j2.out g gb; omega
    · have x1 := j3.out g ga; have x2 := j4.out g gb; omega
    · have x1 := j4.out g ga; have x2 := j1.out g gb; omega
    · have x1 := j4.out g ga; have x2 := j2.out g gb; omega
    · have x1 := j4.out g ga; have x2 := j3.out g gb; omega) (fun h hh => by
    simp at hh
    rcases hh with rfl | rfl | rfl | rfl
    · exact R1.out.2.1
    · exact R2.out.2.1
    · exact R3.out.2.1
    · exact R4.out.2.1) (by simp) (fun h hh => by
    simp at hh
    rcases hh with rfl | rfl | rfl | rfl
    · exact R1.out.2.2.1
    · exact R2.out.2.2.1
    · exact R3.out.2.2.1
    · exact R4.out.2.2.1)
  have HJ : Hid (∀ (h : Bk.Hd), h ∈ [h1, h2, h3, h4] → ∀ g, h.v.ownBlock = some g → (w1.heap.size ≤ g ∧ g < w3.heap.size) ∨ w6.heap.size ≤ g) := fun h hh g e => by
    simp at hh
    rcases hh with rfl | rfl | rfl | rfl
    · have := j1.out g e; omega
    · have := j2.out g e; omega
    · have := j3.out g e; omega
    · have := j4.out g e; omega
  have HCA : Hid (Chg (fun _ => False) w12 (w12.alloc (.cells #[.slice p1a p1l p1c, .int .i64 h1.n, .int .u8 h1.mark, .string h1.want, .bool h1.kept, .slice p2a p2l p2c, .int .i64 h2.n, .int .u8 h2.mark, .string h2.want, .bool h2.kept, .slice p3a p3l p3c, .int .i64 h3.n, .int .u8 h3.mark, .string h3.want, .bool h3.kept, .slice p4a p4l p4c, .int .i64 h4.n, .int .u8 h4.mark, .string h4.want, .bool h4.kept] 49))) := cB
  clear hbk cB q1 q2 q3 q4
  go_wp2_with fail
  refine Calls.mono HHE.out ?_
  rintro z w14 ⟨rfl, c14⟩
  have HC0e : Hid (Chg (fun _ => False) w0 w14) := (chg_then HC0c.out HCA.out).trans c14 (fun g f => by
    obtain ⟨h, hm, e⟩ := f
    have := HJ.out h hm g e
    exact .inr (by omega))
  have HVe : Hid (ByO w14 w3.heap.size (.slice va le vc) EN) := ownsRow_keep (HVc.out.new HCA.out) c14 (fun g e f => by
    obtain ⟨h, hm, e2⟩ := f
    have := HJ.out h hm g e2
    have := iv.out g e
    omega)
  have HFe : Hid (ByO w14 w0.heap.size (.slice (some ⟨gf, 0, none⟩) (n + 1) fc) (bs ++ [165])) := ownsRow_keep (HFc.out.new HCA.out) c14 (fun g e f => by
    obtain ⟨h, hm, e2⟩ := f
    have := HJ.out h hm g e2
    simp [Value.ownBlock] at e
    subst e
    omega)
  clear c14 HHE
  go_wp2_with fail
  refine Calls.mono (HENC.out _ (row8_front HFe.out)) ?_
  rintro z w15 ⟨xa, xc, rfl, hx, c15⟩
  have q5 := CVE.out hx
  have q6 := CVE.out (HVe.out.new c15)
  have HFf : Hid (ByO w15 w0.heap.size (.slice (some ⟨gf, 0, none⟩) (n + 1) fc) (bs ++ [165])) := HFe.out.new c15
  have HC0f : Hid (Chg (fun _ => False) w0 w15) := chg_then HC0e.out c15
  have HKf : Hid _ := kept_q w0.heap.size (some ⟨gf, 0, none⟩) n fc bs ad c w15 HFf.out (Bk.row8_chg HRB.out HC0f.out) hn
  clear hx c15
  go_wp2_with fail
  refine Calls.mono HKf.out ?_
  rintro z w16 ⟨rfl, c16⟩
  have HC0g : Hid (Chg (fun _ => False) w0 w16) := chg_then HC0f.out c16
  have HAN : Hid _ := anew_any S w0.heap.size gf n fc (bs ++ [165]) d hd w16 (HFf.out.new c16) HD2.out hn
  clear c16 HKf q5 q6
  go_wp2_with fail
  refine Calls.mono HAN.out ?_
  rintro z w17 ⟨rfl, c17⟩
  have HCE : Hid (Chg (fun _ => False) w0 w17) := HC0g.out.trans c17 (fun g e => .inr (by omega))
  clear c17 HAN
  go_wp2
  go_ret
  exact ⟨rfl, HCE.out⟩
end Go.Proofs.Ytefplppgkoanbaa
