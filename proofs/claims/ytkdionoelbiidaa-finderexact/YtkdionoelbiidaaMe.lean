/- 'm[k] = append(m[k], x)' at a map as a function: the entry is found or made, its value is stored later; of no statement by itself. -/
import Derived.Test.YtkdionoelbiidaaMl
import Derived.WideKeyEntry
namespace Go.Proofs.Ytkdionoelbiidaa
open Go.RowKit Go.MapKept Go.ChangeMaps Go.ChangeShapes Go.WideShapes
open Go.Maps (Keyed)
set_option linter.unusedVariables false
section
variable {P : Program} {k t e : TypeId} {w w' : World} {b n : Nat} {F : Lit → Option Value}
theorem MapF.of_block (h : MapF w P k b n F) (hb : w'.heap[b]? = w.heap[b]?) : MapF w' P k b n F := by
  obtain ⟨D, ⟨es, clock, h1, h2⟩, h3⟩ := h
  exact ⟨D, ⟨es, clock, hb.trans h1, h2⟩, h3⟩
theorem chg_block {es : Array MapEntry} {clock : Nat} (hb : w.heap[b]? = some (.map es clock)) (o : Obj) : Chg (fun z => z = b) w (setBlock w b o) := ⟨rfl, rfl, rfl, by simp [setBlock], fun i _ hi => heap_setBlock_other hb _ hi⟩
/-- What stands ready behind the entry: the block o, the stamp st. -/
def Ready (P : Program) (t k : TypeId) (b n : Nat) (F : Lit → Option Value) (kl : Lit) (o : Obj) (st : Nat) : Prop :=
  o.isCells = false ∧ ∀ (w2 : World) (val : Value), w2.heap[b]? = some o → ∃ w3, (Instr.entryStore t (.map (some b)) (goInt st) val).run P w2 = .ok () w3 ∧ MapF w3 P k b (n + 1) (putF F kl val) ∧ Chg (fun x => x = b) w2 w3
theorem MapF.entry (h : MapF w P k b n F) (K : Keyed P k) (ht : P.underlying t = some (.map k e)) {z : Value} (hz : ∀ u : World, (zeroValue e).run P u = .ok z u) (hn : n < maxLen) {key : Value} {kl : Lit} (hkey : keyOf P k key = some kl) :
    ∃ (st : Nat) (o : Obj) (w1 : World), (Instr.mapEntry t (.map (some b)) key).run P w = .ok (.tuple #[(F kl).getD z, goInt st]) w1 ∧ w1.heap[b]? = some o ∧ Chg (fun x => x = b) w w1 ∧ Ready P t k b n F kl o st := by
  have hl := h.look K ht (hz w) hkey
  have hput := fun val => h.put K ht hn hkey val
  obtain ⟨D, ⟨es, clock, hb, Ft, hs, hD⟩, h2⟩ := h
  obtain ⟨s1, s2, _⟩ := Ft.stamped
  -- the store, out of what a plain store would have done
  have back : ∀ (o : Obj) (st : Nat), o.isCells = false → (∀ w2 : World, w2.heap[b]? = some o → ∃ (es2 : Array MapEntry) (c2 : Nat), o = .map es2 c2) → (∀ val, ∃ es' c', (Instr.mapUpdate t (.map (some b)) key val).run P w = .ok () (setBlock w b (.map es' c')) ∧ ∀ w2 : World, w2.heap[b]? = some o → (Instr.entryStore t (.map (some b)) (goInt st) val).run P w2 = .ok () (setBlock w2 b (.map es' c'))) → Ready P t k b n F kl o st := by
    intro o st ho hm hall
    refine ⟨ho, fun w2 val hw2 => ?_⟩
    obtain ⟨es', c', hu, hst⟩ := hall val
    obtain ⟨w', hr, hM, _⟩ := hput val
    rw [hu] at hr
    simp only [Result.ok.injEq, true_and] at hr
    subst hr
    obtain ⟨es2, c2, rfl⟩ := hm w2 hw2
    exact ⟨_, hst w2 hw2, hM.of_block (by rw [heap_setBlock_same hw2, heap_setBlock_same hb]), chg_block hw2 _⟩
  rcases K.find w hkey es.toList Ft.keys with ⟨h1, hno⟩ | ⟨j, e0, h1, hj, hk0⟩
  · have hv : (F kl).getD z = z := by
      simp [Instr.lookup, run_underlying ht, MapKept.run_getObj_map hb, K.check w _ hkey, h1, hz, Result.andThen] at hl
      exact hl.symm
    refine ⟨clock, .map (es.push ⟨key, z, clock⟩) (clock + 1), setBlock w b (.map (es.push ⟨key, z, clock⟩) (clock + 1)), ?_, heap_setBlock_same hb _, chg_block hb _, back _ _ rfl (fun _ _ => ⟨_, _, rfl⟩) (fun val => ⟨es.push ⟨key, val, clock⟩, clock + 1, ?_, fun w2 hw2 => ?_⟩)⟩
    · rw [hv]
      simp [Instr.mapEntry, run_underlying ht, MapKept.run_getObj_map hb, K.check w false hkey, h1, hz, MapKept.run_setObj_map _ hb, Result.andThen, setBlock]
    · simp [Instr.mapUpdate, run_underlying ht, MapKept.run_getObj_map hb, K.check w false hkey, h1, MapKept.run_setObj_map _ hb, Result.andThen, setBlock]
    · have hidx : (es.push ⟨key, z, clock⟩).findIdx? (fun e => ((e.born : Nat) : Int) == ((clock : Nat) : Int)) = some es.size := by
        rw [WideElems.findIdx_arr]
        refine WideElems.findIdx_born (l := (es.push ⟨key, z, clock⟩).toList) (j := es.size) (e0 := ⟨key, z, clock⟩) ?_ (by simp)
        simp only [Array.toList_push, List.map_append, List.map_cons, List.map_nil]
        rw [List.nodup_append]
        refine ⟨s2, by simp, fun a ha c hc e1 => ?_⟩
        obtain ⟨x, hx, rfl⟩ := List.mem_map.1 ha
        have h5 := s1 x hx
        simp at hc
        omega
      have hmod : (es.push ⟨key, z, clock⟩).modify es.size (fun e => { e with val := val }) = es.push ⟨key, val, clock⟩ := by
        apply Array.ext'
        rw [Array.toList_modify, Array.toList_push, Array.toList_push, ← Array.length_toList, WideElems.modify_last]
      simp [Instr.entryStore, MapKept.run_getObj_map hw2, asInt, asIntOf, goInt, hidx, hmod, MapKept.run_setObj_map _ hw2, Result.andThen, setBlock]
  · have hj' : es[j]? = some e0 := by simpa using hj
    have hv : (F kl).getD z = e0.val := by
      simp [Instr.lookup, run_underlying ht, MapKept.run_getObj_map hb, K.check w _ hkey, h1, Result.andThen] at hl
      exact hl.symm
    have hsame : es.modify j (fun e => { e with key := key }) = es := by
      apply Array.ext'
      rw [Array.toList_modify, modify_eq_set _ _ _ _ hj, show ({ e0 with key := key } : MapEntry) = e0 by rw [← hk0]]
      exact WideElems.set_self _ _ _ hj
    refine ⟨e0.born, .map es clock, setBlock w b (.map es clock), ?_, heap_setBlock_same hb _, chg_block hb _, back _ _ rfl (fun _ _ => ⟨_, _, rfl⟩) (fun val => ⟨es.modify j (fun e' => { e' with key := key, val := val }), clock, ?_, fun w2 hw2 => ?_⟩)⟩
    · rw [hv]
      simp [Instr.mapEntry, run_underlying ht, MapKept.run_getObj_map hb, K.check w false hkey, h1, hj', hk0, K.stays w hkey, hsame, MapKept.run_setObj_map _ hb, Result.andThen, setBlock]
    · simp [Instr.mapUpdate, run_underlying ht, MapKept.run_getObj_map hb, K.check w false hkey, h1, hj', hk0, K.stays w hkey, MapKept.run_setObj_map _ hb, Result.andThen, setBlock]
    · have hidx : es.findIdx? (fun e => ((e.born : Nat) : Int) == ((e0.born : Nat) : Int)) = some j := by
        rw [WideElems.findIdx_arr]
        exact WideElems.findIdx_born s2 hj
      have hmod : es.modify j (fun e => { e with val := val }) = es.modify j (fun e' => { e' with key := key, val := val }) := by
        apply Array.ext'
        rw [Array.toList_modify, Array.toList_modify, modify_eq_set _ _ _ _ hj, modify_eq_set _ _ _ _ hj, ← hk0]
      simp [Instr.entryStore, MapKept.run_getObj_map hw2, asInt, asIntOf, goInt, hidx, hmod, MapKept.run_setObj_map _ hw2, Result.andThen, setBlock]
theorem nodup_inj {α β : Type} {f : α → β} : ∀ {l : List α}, (l.map f).Nodup → ∀ {x y : α}, x ∈ l → y ∈ l → f x = f y → x = y
  | [], _, x, y, hx, _, _ => by cases hx
  | a :: l, hn, x, y, hx, hy, he => by
    rw [List.map_cons, List.nodup_cons] at hn
    rcases List.mem_cons.1 hx with e1 | e1 <;> rcases List.mem_cons.1 hy with e2 | e2
    · rw [e1, e2]
    · exact absurd (List.mem_map.2 ⟨y, e2, by rw [← he, e1]⟩) hn.1
    · exact absurd (List.mem_map.2 ⟨x, e1, by rw [he, e2]⟩) hn.1
    · exact nodup_inj hn.2 e1 e2 he
/-- The entry is one and the same in every world that has this map. -/
theorem entry_fix {es : Array MapEntry} {clock : Nat} (K : Keyed P k) (ht : P.underlying t = some (.map k e)) {z : Value} (hz : ∀ u : World, (zeroValue e).run P u = .ok z u) (Ft : WideElems.Fit P k RV es clock) {key : Value} {kl : Lit} (hkey : keyOf P k key = some kl) :
    ∃ (v : Value) (st : Nat) (o : Obj), ∀ ww : World, ww.heap[b]? = some (.map es clock) → (Instr.mapEntry t (.map (some b)) key).run P ww = .ok (.tuple #[v, goInt st]) (setBlock ww b o) := by
  obtain ⟨_, _, s3⟩ := Ft.stamped
  by_cases hex : ∃ e0 ∈ es.toList, e0.key = key
  · obtain ⟨e0, he0, hk0⟩ := hex
    refine ⟨e0.val, e0.born, .map es clock, fun ww hb => ?_⟩
    rcases K.find ww hkey es.toList Ft.keys with ⟨_, hno⟩ | ⟨j, e1, h1, hj, hk1⟩
    · exact absurd hk0 (hno e0 he0)
    · obtain rfl : e1 = e0 := nodup_inj (f := fun x : MapEntry => x.key) s3 (List.mem_of_getElem? hj) he0 (by rw [hk1, hk0])
      have hj' : es[j]? = some e1 := by simpa using hj
      have hsame : es.modify j (fun e => { e with key := key }) = es := by
        apply Array.ext'
        rw [Array.toList_modify, modify_eq_set _ _ _ _ hj, show ({ e1 with key := key } : MapEntry) = e1 by rw [← hk0]]
        exact WideElems.set_self _ _ _ hj
      simp [Instr.mapEntry, run_underlying ht, MapKept.run_getObj_map hb, K.check ww false hkey, h1, hj', hk0, K.stays ww hkey, hsame, MapKept.run_setObj_map _ hb, Result.andThen, setBlock]
  · refine ⟨z, clock, .map (es.push ⟨key, z, clock⟩) (clock + 1), fun ww hb => ?_⟩
    rcases K.find ww hkey es.toList Ft.keys with ⟨h1, _⟩ | ⟨j, e1, _, hj, hk1⟩
    · simp [Instr.mapEntry, run_underlying ht, MapKept.run_getObj_map hb, K.check ww false hkey, h1, hz, MapKept.run_setObj_map _ hb, Result.andThen, setBlock]
    · exact absurd ⟨e1, List.mem_of_getElem? hj, hk1⟩ hex
theorem MapF.entryAll (h : MapF w P k b n F) (K : Keyed P k) (ht : P.underlying t = some (.map k e)) {z : Value} (hz : ∀ u : World, (zeroValue e).run P u = .ok z u) (hn : n < maxLen) {key : Value} {kl : Lit} (hkey : keyOf P k key = some kl) :
    ∃ (st : Nat) (o : Obj), Ready P t k b n F kl o st ∧ ∀ ww : World, ww.heap[b]? = w.heap[b]? → ∃ w1, (Instr.mapEntry t (.map (some b)) key).run P ww = .ok (.tuple #[(F kl).getD z, goInt st]) w1 ∧ w1.heap[b]? = some o ∧ Chg (fun x => x = b) ww w1 := by
  obtain ⟨st, o, w1, hr, ho, hc, hR⟩ := h.entry K ht hz hn hkey
  obtain ⟨D, ⟨es, clock, hb, Ft, hs, hD⟩, h2⟩ := h
  obtain ⟨v, st', o', hall⟩ := entry_fix (b := b) K ht hz Ft hkey
  have h1 := hall w hb
  rw [hr] at h1
  simp only [Result.ok.injEq, Value.tuple.injEq] at h1
  obtain ⟨e1, e2⟩ := h1
  have e3 := congrArg Array.toList e1
  simp only [List.cons.injEq, and_true] at e3
  have ho' : o = o' := by
    rw [e2, heap_setBlock_same hb] at ho
    exact (Option.some.inj ho).symm
  refine ⟨st, o, hR, fun ww hw => ⟨_, ?_, ?_, chg_block (hw.trans hb) o'⟩⟩
  · rw [hall ww (hw.trans hb), e3.1, e3.2]
  · rw [heap_setBlock_same (hw.trans hb), ho']
end
end Go.Proofs.Ytkdionoelbiidaa
