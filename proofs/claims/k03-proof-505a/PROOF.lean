import PyProof.Rows.All
import Wide.All
import OpenK.AllK
import Wide.FinOn
import HandS.ForMost
import HandS.ForExc
import HandS.Wide
import HandS.Flow
import HandS.Deep
import HandS.IsInst
import HandS.Style
import PySem.Challenge.RW_hourring_k03_flows_and_sums
set_option Elab.async false
set_option linter.all false
set_option maxRecDepth 100000
namespace PL
open PySem PySem.Spec PyProof.Rows L2

/-! ### data, items, cells -/
inductive Itm where
  | fz (d : PyData)
  | cl (c : Nat)
  | tp (xs : List Itm)
inductive Cell where
  | lst (xs : List Itm)
  | dic (kvs : List (Key × Itm))
  | dit (kvs : List (List Key × Itm))
  | ins (C : Addr) (fs : List (Str × Itm))
  | dead
abbrev Slots := List (Option Itm)
abbrev Cells := List Cell
abbrev EPost := Itm → Cells → Prop

section
variable {K : PySem.W.Frag}
theorem same_rd {F F' : Hp} {a : Addr} {u : HO} (e : Same F F') (h : Rd F a u) : Rd F' a u := by
  rcases h with h | ⟨o, h⟩
  · exact .inl (e a _ h)
  · exact .inr ⟨o, e a _ h⟩
theorem same_l {F F' : Hp} {a : Addr} {xs : List V} (e : Same F F') (h : SqL K F a xs) : SqL K F' a xs := h.imp (same_rd e) id
theorem same_t {F F' : Hp} {a : Addr} {xs : List V} (e : Same F F') (h : SqT K F a xs) : SqT K F' a xs := h.imp (same_rd e) id
mutual
theorem dp_mono {F F' : Hp} (e : Same F F') : ∀ {v : V} {d : PyData}, Dp K F v d → Dp K F' v d
  | _, _, .non => .non
  | _, _, .bl b => .bl b
  | _, _, .int i => .int i
  | _, _, .str x => .str x
  | _, _, .lst h r => .lst (same_l e h) (dpAll_mono e r)
  | _, _, .tup h r => .tup (same_t e h) (dpAll_mono e r)
theorem dpAll_mono {F F' : Hp} (e : Same F F') : ∀ {vs : List V} {ds : List PyData}, DpAll K F vs ds → DpAll K F' vs ds
  | _, _, .nil => .nil
  | _, _, .cons h r => .cons (dp_mono e h) (dpAll_mono e r)
end
end

mutual
inductive ItmR (K : PySem.W.Frag) (F : Hp) (as : List Addr) : Itm → V → Prop
  | fz {d : PyData} {v : V} : Dp K F v d → ItmR K F as (.fz d) v
  | cl {c : Nat} {a : Addr} : as[c]? = some a → ItmR K F as (.cl c) (.ref a)
  | tp {a : Addr} {vs : List V} {xs : List Itm} : SqT K F a vs → ItmsR K F as xs vs → ItmR K F as (.tp xs) (.ref a)
inductive ItmsR (K : PySem.W.Frag) (F : Hp) (as : List Addr) : List Itm → List V → Prop
  | nil : ItmsR K F as [] []
  | cons {x : Itm} {v : V} {xs : List Itm} {vs : List V} : ItmR K F as x v → ItmsR K F as xs vs → ItmsR K F as (x :: xs) (v :: vs)
end
def Ext (F : Hp) (as : List Addr) (F' : Hp) (as' : List Addr) : Prop := Same F F' ∧ ∃ t, as' = as ++ t
theorem Ext.refl (F : Hp) (as : List Addr) : Ext F as F as := ⟨Same.refl F, [], by simp⟩
theorem Ext.trans {F as F1 as1 F2 as2} (a : Ext F as F1 as1) (b : Ext F1 as1 F2 as2) : Ext F as F2 as2 := by
  obtain ⟨s1, t1, rfl⟩ := a
  obtain ⟨s2, t2, rfl⟩ := b
  exact ⟨s1.trans s2, t1 ++ t2, by simp⟩
theorem Ext.get {F as F' as'} (e : Ext F as F' as') {c : Nat} {a : Addr} (h : as[c]? = some a) : as'[c]? = some a := by
  obtain ⟨_, t, rfl⟩ := e
  have := (List.getElem?_eq_some_iff.mp h).1
  rw [List.getElem?_append_left this]
  exact h
section
variable {K : PySem.W.Frag} {F F' : Hp} {as as' : List Addr}
mutual
theorem itm_mono (e : Ext F as F' as') : ∀ {x : Itm} {v : V}, ItmR K F as x v → ItmR K F' as' x v
  | _, _, .fz h => .fz (dp_mono e.1 h)
  | _, _, .cl h => .cl (e.get h)
  | _, _, .tp h r => .tp (same_t e.1 h) (itms_mono e r)
theorem itms_mono (e : Ext F as F' as') : ∀ {xs : List Itm} {vs : List V}, ItmsR K F as xs vs → ItmsR K F' as' xs vs
  | _, _, .nil => .nil
  | _, _, .cons h r => .cons (itm_mono e h) (itms_mono e r)
end
def SlotR (K : PySem.W.Frag) (F : Hp) (as : List Addr) : Option Itm → Option V → Prop
  | none, _ => True
  | some i, o => ∃ v, o = some v ∧ ItmR K F as i v
theorem slot_mono (e : Ext F as F' as') {x : Option Itm} {o : Option V} (h : SlotR K F as x o) : SlotR K F' as' x o := by
  cases x with
  | none => trivial
  | some i => obtain ⟨v, h1, h2⟩ := h; exact ⟨v, h1, itm_mono e h2⟩
def CellR (K : PySem.W.Frag) (F : Hp) (as : List Addr) (H : Hp) (a : Addr) : Cell → Prop
  | .lst xs => ∃ vs, H a = some (.lst vs) ∧ ItmsR K F as xs vs
  | .dic kvs => ∃ ks, H a = some (.dK ks) ∧ Paired (fun (p : Key × Itm) (q : Key × V) => p.1 = q.1 ∧ ItmR K F as p.2 q.2) kvs ks
  | .dit kvs => ∃ ks, H a = some (.dT ks) ∧ Paired (fun (p : List Key × Itm) (q : List Key × V) => p.1 = q.1 ∧ ItmR K F as p.2 q.2) kvs ks
  | .ins C fs => ∃ dx gs, H a = some (.ins C dx gs) ∧ Paired (fun (p : Str × Itm) (q : Str × V) => p.1 = q.1 ∧ ItmR K F as p.2 q.2) fs gs
  | .dead => True
theorem paired_mono {α : Type} (e : Ext F as F' as') : ∀ {xs : List (α × Itm)} {ys : List (α × V)}, Paired (fun (p : α × Itm) (q : α × V) => p.1 = q.1 ∧ ItmR K F as p.2 q.2) xs ys → Paired (fun (p : α × Itm) (q : α × V) => p.1 = q.1 ∧ ItmR K F' as' p.2 q.2) xs ys
  | _, _, .nil => .nil
  | _, _, .cons h r => .cons ⟨h.1, itm_mono e h.2⟩ (paired_mono e r)
theorem cell_mono (e : Ext F as F' as') {H H' : Hp} {a : Addr} {o : Cell} (hH : o ≠ .dead → H' a = H a) (h : CellR K F as H a o) : CellR K F' as' H' a o := by
  cases o with
  | lst xs => obtain ⟨vs, h1, h2⟩ := h; exact ⟨vs, by rw [hH (by simp)]; exact h1, itms_mono e h2⟩
  | dic xs => obtain ⟨vs, h1, h2⟩ := h; exact ⟨vs, by rw [hH (by simp)]; exact h1, paired_mono e h2⟩
  | dit xs => obtain ⟨vs, h1, h2⟩ := h; exact ⟨vs, by rw [hH (by simp)]; exact h1, paired_mono e h2⟩
  | ins C xs => obtain ⟨dx, vs, h1, h2⟩ := h; exact ⟨dx, vs, by rw [hH (by simp)]; exact h1, paired_mono e h2⟩
  | dead => trivial
end

/-- the abstract heap H: F frozen, the cells γ at the addresses as -/
structure Rep (K : PySem.W.Frag) (F : Hp) (as : List Addr) (γ : Cells) (H : Hp) : Prop where
  fr : Same F H
  nd : as.Nodup
  len : as.length = γ.length
  th : ∀ a ∈ as, ∃ o, H a = some o
  at_ : ∀ (c : Nat) (o : Cell), γ[c]? = some o → ∃ a, as[c]? = some a ∧ (o ≠ .dead → F a = none) ∧ CellR K F as H a o
def EnvR (K : PySem.W.Frag) (F : Hp) (as : List Addr) (Γ : Slots) (σ : L2.St) : Prop := Γ.length = σ.length ∧ ∀ (i : Nat) (x : Itm), Γ[i]? = some (some x) → ∃ v, σ[i]? = some (some v) ∧ ItmR K F as x v
section
variable {K : PySem.W.Frag} {F F' : Hp} {as as' : List Addr} {γ γ' : Cells} {H H' : Hp} {Γ : Slots} {σ : L2.St}
theorem EnvR.mono (h : EnvR K F as Γ σ) (e : Ext F as F' as') : EnvR K F' as' Γ σ := ⟨h.1, fun i x q => let ⟨v, a, b⟩ := h.2 i x q; ⟨v, a, itm_mono e b⟩⟩
theorem EnvR.set (h : EnvR K F as Γ σ) {i : Nat} {x : Itm} {v : V} (r : ItmR K F as x v) : EnvR K F as (Γ.set i (some x)) (σ.set i (some v)) := by
  refine ⟨by simpa using h.1, fun j y q => ?_⟩
  by_cases hj : i = j
  · subst hj
    by_cases hl : i < Γ.length
    · rw [List.getElem?_set_self hl] at q
      obtain rfl : x = y := by simpa using q
      exact ⟨v, by rw [List.getElem?_set_self (h.1 ▸ hl)], r⟩
    · rw [List.getElem?_eq_none (by simpa using hl)] at q
      cases q
  · rw [List.getElem?_set_ne hj] at q
    obtain ⟨w, a, b⟩ := h.2 j y q
    exact ⟨w, by rw [List.getElem?_set_ne hj]; exact a, b⟩
theorem EnvR.unset (h : EnvR K F as Γ σ) {i : Nat} : EnvR K F as (Γ.set i none) (σ.set i none) := by
  refine ⟨by simpa using h.1, fun j y q => ?_⟩
  by_cases hj : i = j
  · subst hj
    by_cases hl : i < Γ.length
    · rw [List.getElem?_set_self hl] at q; cases q
    · rw [List.getElem?_eq_none (by simpa using hl)] at q; cases q
  · rw [List.getElem?_set_ne hj] at q
    obtain ⟨w, a, b⟩ := h.2 j y q
    exact ⟨w, by rw [List.getElem?_set_ne hj]; exact a, b⟩
/-- forgetting what a slot holds -/
theorem EnvR.weak (h : EnvR K F as Γ σ) {Γ' : Slots} (hl : Γ'.length = Γ.length) (w : ∀ (i : Nat) (x : Itm), Γ'[i]? = some (some x) → Γ[i]? = some (some x)) : EnvR K F as Γ' σ := ⟨hl.trans h.1, fun i x q => h.2 i x (w i x q)⟩
theorem ne_none_of {a : Addr} {o : HO} (h : F a = some o) (h' : F a = none) : False := by rw [h] at h'; cases h'
/-- a frozen object more -/
theorem Rep.new (R : Rep K F as γ H) {p : Addr} (o : HO) (hp : H p = none) : Rep K (upd F p o) as γ (upd H p o) := by
  have hF : F p = none := by
    cases q : F p with
    | none => rfl
    | some u => rw [R.fr p u q] at hp; cases hp
  have sm : Same F (upd F p o) := fun b u e => by rw [upd_ne (ne_of_none e hF)]; exact e
  refine ⟨fun b u e => ?_, R.nd, R.len, fun a ha => ?_, fun c cell q => ?_⟩
  · by_cases hb : b = p
    · subst hb; rw [upd_same] at e ⊢; exact e
    · rw [upd_ne hb] at e ⊢; exact R.fr b u e
  · obtain ⟨o', h'⟩ := R.th a ha
    exact ⟨o', by rw [upd_ne (ne_of_none h' hp)]; exact h'⟩
  · obtain ⟨a, h1, h2, h3⟩ := R.at_ c cell q
    have hne : cell ≠ .dead → a ≠ p := fun hd e => by
      subst e
      cases cell with
      | dead => exact hd rfl
      | lst xs => obtain ⟨vs, h4, _⟩ := h3; exact ne_none_of h4 hp
      | dic xs => obtain ⟨vs, h4, _⟩ := h3; exact ne_none_of h4 hp
      | dit xs => obtain ⟨vs, h4, _⟩ := h3; exact ne_none_of h4 hp
      | ins C xs => obtain ⟨dx, vs, h4, _⟩ := h3; exact ne_none_of h4 hp
    exact ⟨a, h1, fun hd => by rw [upd_ne (hne hd)]; exact h2 hd, cell_mono ⟨sm, [], by simp⟩ (fun hd => upd_ne (hne hd)) h3⟩
theorem Rep.sameNew (R : Rep K F as γ H) {p : Addr} (o : HO) (hp : H p = none) : Same F (upd F p o) := fun b u e => by
  have hF : F p = none := by
    cases q : F p with
    | none => rfl
    | some u => rw [R.fr p u q] at hp; cases hp
  rw [upd_ne (ne_of_none e hF)]; exact e
/-- a cell more -/
theorem Rep.newCell (R : Rep K F as γ H) {p : Addr} {o : HO} {cell : Cell} (hp : H p = none) (hc : CellR K F (as ++ [p]) (upd H p o) p cell) : Rep K F (as ++ [p]) (γ ++ [cell]) (upd H p o) := by
  have hF : F p = none := by
    cases q : F p with
    | none => rfl
    | some u => rw [R.fr p u q] at hp; cases hp
  have hnd : p ∉ as := fun hm => by
    obtain ⟨o', h'⟩ := R.th p hm
    exact ne_none_of h' hp
  refine ⟨fun b u e => by rw [upd_ne (ne_of_none e hF)]; exact R.fr b u e, List.nodup_append.mpr ⟨R.nd, by simp, fun a ha b hb e => hnd (by simp at hb; rw [← hb, ← e]; exact ha)⟩, by simp [R.len], fun a ha => ?_, fun c cl q => ?_⟩
  · rcases List.mem_append.mp ha with ha | ha
    · obtain ⟨o', h'⟩ := R.th a ha
      exact ⟨o', by rw [upd_ne (ne_of_none h' hp)]; exact h'⟩
    · obtain rfl : a = p := by simpa using ha
      exact ⟨o, upd_same⟩
  by_cases hl : c < γ.length
  · rw [List.getElem?_append_left hl] at q
    obtain ⟨a, h1, h2, h3⟩ := R.at_ c cl q
    have hap : a ≠ p := fun e => hnd (e ▸ List.mem_of_getElem? h1)
    exact ⟨a, Ext.get (F := F) (F' := F) ⟨Same.refl F, [p], rfl⟩ h1, h2, cell_mono ⟨Same.refl F, [p], rfl⟩ (fun _ => upd_ne hap) h3⟩
  · have hc' : c = γ.length := by
      have h := (List.getElem?_eq_some_iff.mp q).1
      simp at h
      omega
    subst hc'
    rw [List.getElem?_append_right (Nat.le_refl _)] at q
    simp at q
    subst q
    refine ⟨p, by rw [← R.len, List.getElem?_append_right (Nat.le_refl _)]; simp, fun _ => hF, hc⟩
/-- a cell's object is changed -/
theorem Rep.write (R : Rep K F as γ H) {c : Nat} {a : Addr} {old cell : Cell} {o : HO} (hg : γ[c]? = some old) (hd : old ≠ .dead) (ha : as[c]? = some a) (hc : CellR K F as (upd H a o) a cell) : Rep K F as (γ.set c cell) (upd H a o) := by
  obtain ⟨a', h1, h2, _⟩ := R.at_ c old hg
  rw [ha] at h1
  cases h1
  have hF := h2 hd
  refine ⟨fun b u e => by rw [upd_ne (ne_of_none e hF)]; exact R.fr b u e, R.nd, by simpa using R.len, fun b hb => ?_, fun c' cl q => ?_⟩
  · by_cases hba : b = a
    · exact ⟨o, by rw [hba]; exact upd_same⟩
    · rw [upd_ne hba]; exact R.th b hb
  by_cases hcc : c = c'
  · subst hcc
    rw [List.getElem?_set_self (List.getElem?_eq_some_iff.mp hg).1] at q
    cases q
    exact ⟨a, ha, fun _ => hF, hc⟩
  · rw [List.getElem?_set_ne hcc] at q
    obtain ⟨b, h1, h2, h3⟩ := R.at_ c' cl q
    have hne : b ≠ a := fun e => by
      subst e
      obtain ⟨p1, e1⟩ := List.getElem?_eq_some_iff.mp ha
      obtain ⟨p2, e2⟩ := List.getElem?_eq_some_iff.mp h1
      exact hcc ((List.getElem_inj R.nd).mp (e1.trans e2.symm))
    exact ⟨b, h1, h2, cell_mono (Ext.refl F as) (fun _ => upd_ne hne) h3⟩
/-- a cell is frozen: it is never written again -/
theorem Rep.freeze (R : Rep K F as γ H) {c : Nat} {a : Addr} {old : Cell} {o : HO} (hg : γ[c]? = some old) (hd : old ≠ .dead) (ha : as[c]? = some a) (ho : H a = some o) : Rep K (upd F a o) as (γ.set c .dead) H ∧ Same F (upd F a o) := by
  obtain ⟨a', h1, h2, _⟩ := R.at_ c old hg
  rw [ha] at h1
  cases h1
  have hF := h2 hd
  have sm : Same F (upd F a o) := fun b u e => by rw [upd_ne (ne_of_none e hF)]; exact e
  refine ⟨⟨fun b u e => ?_, R.nd, by simpa using R.len, R.th, fun c' cl q => ?_⟩, sm⟩
  · by_cases hb : b = a
    · subst hb; rw [upd_same] at e; rw [← e]; exact ho
    · rw [upd_ne hb] at e; exact R.fr b u e
  · by_cases hcc : c = c'
    · subst hcc
      rw [List.getElem?_set_self (List.getElem?_eq_some_iff.mp hg).1] at q
      cases q
      exact ⟨a, ha, fun z => (z rfl).elim, trivial⟩
    · rw [List.getElem?_set_ne hcc] at q
      obtain ⟨b, h1, h2, h3⟩ := R.at_ c' cl q
      have hne : b ≠ a := fun e => by
        subst e
        obtain ⟨p1, e1⟩ := List.getElem?_eq_some_iff.mp ha
        obtain ⟨p2, e2⟩ := List.getElem?_eq_some_iff.mp h1
        exact hcc ((List.getElem_inj R.nd).mp (e1.trans e2.symm))
      exact ⟨b, h1, fun z => by rw [upd_ne hne]; exact h2 z, cell_mono ⟨sm, [], by simp⟩ (fun _ => rfl) h3⟩
theorem Rep.cellAt (R : Rep K F as γ H) {c : Nat} {o : Cell} (hg : γ[c]? = some o) : ∃ a, as[c]? = some a ∧ CellR K F as H a o := let ⟨a, h1, _, h3⟩ := R.at_ c o hg; ⟨a, h1, h3⟩
end
/-! ### values of frozen data -/
section
variable {K : PySem.W.Frag} {F : Hp} {as : List Addr} {v : V}
theorem itm_int {i : Int} : ItmR K F as (.fz (.int i)) v ↔ v = .int i := ⟨fun h => by cases h with | fz h => cases h; rfl, fun h => h ▸ .fz (.int i)⟩
theorem itm_bl {b : Bool} : ItmR K F as (.fz (.bool b)) v ↔ v = .bl b := ⟨fun h => by cases h with | fz h => cases h; rfl, fun h => h ▸ .fz (.bl b)⟩
theorem itm_str {x : Str} : ItmR K F as (.fz (.str x)) v ↔ v = .str x := ⟨fun h => by cases h with | fz h => cases h; rfl, fun h => h ▸ .fz (.str x)⟩
theorem itm_non : ItmR K F as (.fz .none) v ↔ v = .non := ⟨fun h => by cases h with | fz h => cases h; rfl, fun h => h ▸ .fz .non⟩
theorem itm_lst {ds : List PyData} : ItmR K F as (.fz (.list ds)) v ↔ ∃ a vs, v = .ref a ∧ SqL K F a vs ∧ DpAll K F vs ds :=
  ⟨fun h => by cases h with | fz h => cases h with | lst h r => exact ⟨_, _, rfl, h, r⟩, fun ⟨a, vs, e, h, r⟩ => e ▸ .fz (.lst h r)⟩
theorem itm_tup {ds : List PyData} : ItmR K F as (.fz (.tuple ds)) v ↔ ∃ a vs, v = .ref a ∧ SqT K F a vs ∧ DpAll K F vs ds :=
  ⟨fun h => by cases h with | fz h => cases h with | tup h r => exact ⟨_, _, rfl, h, r⟩, fun ⟨a, vs, e, h, r⟩ => e ▸ .fz (.tup h r)⟩
theorem itm_cl {c : Nat} : ItmR K F as (.cl c) v ↔ ∃ a, as[c]? = some a ∧ v = .ref a := ⟨fun h => by cases h with | cl h => exact ⟨_, h, rfl⟩, fun ⟨a, h, e⟩ => e ▸ .cl h⟩
theorem itm_fz {d : PyData} : ItmR K F as (.fz d) v ↔ Dp K F v d := ⟨fun h => by cases h with | fz h => exact h, .fz⟩
theorem dpAll_length : ∀ {vs : List V} {ds : List PyData}, DpAll K F vs ds → vs.length = ds.length
  | _, _, .nil => rfl
  | _, _, .cons _ r => by simp [dpAll_length r]
theorem dpAll_get : ∀ {vs : List V} {ds : List PyData} {i : Nat} {d : PyData}, DpAll K F vs ds → ds[i]? = some d → ∃ v, vs[i]? = some v ∧ Dp K F v d
  | _, _, _, _, .nil, e => by simp at e
  | _, _, 0, _, .cons h _, e => by simp at e; subst e; exact ⟨_, rfl, h⟩
  | _, _, i + 1, d, .cons _ r, e => by
    obtain ⟨v, h1, h2⟩ := dpAll_get (i := i) (d := d) r (by simpa using e)
    exact ⟨v, by simpa using h1, h2⟩
theorem dpAll_get' : ∀ {vs : List V} {ds : List PyData} {i : Nat} {v : V}, DpAll K F vs ds → vs[i]? = some v → ∃ d, ds[i]? = some d ∧ Dp K F v d
  | _, _, _, _, .nil, e => by simp at e
  | _, _, 0, _, .cons h _, e => by simp at e; subst e; exact ⟨_, rfl, h⟩
  | _, _, i + 1, v, .cons _ r, e => by
    obtain ⟨d, h1, h2⟩ := dpAll_get' (i := i) (v := v) r (by simpa using e)
    exact ⟨d, by simpa using h1, h2⟩
theorem dpAll_append : ∀ {vs ws : List V} {ds es : List PyData}, DpAll K F vs ds → DpAll K F ws es → DpAll K F (vs ++ ws) (ds ++ es)
  | _, _, _, _, .nil, s => s
  | _, _, _, _, .cons h r, s => .cons h (dpAll_append r s)
theorem dpAll_ints : ∀ ns : List Int, DpAll K F (ns.map V.int) (ns.map PyData.int)
  | [] => .nil
  | n :: ns => .cons (.int n) (dpAll_ints ns)
theorem dpAll_ints_inv : ∀ {ns : List Int} {vs : List V}, DpAll K F vs (ns.map PyData.int) → vs = ns.map V.int
  | [], _, h => by cases h; rfl
  | n :: ns, _, h => by
    cases h with
    | cons h r => cases h; rw [dpAll_ints_inv r]; rfl
theorem itms_fz : ∀ {vs : List V} {ds : List PyData}, ItmsR K F as (ds.map Itm.fz) vs → DpAll K F vs ds
  | vs, [], h => by cases h; exact .nil
  | vs, d :: ds, h => by
    cases h with
    | cons h r => exact .cons (itm_fz.mp h) (itms_fz r)
theorem itms_of_dp : ∀ {vs : List V} {ds : List PyData}, DpAll K F vs ds → ItmsR K F as (ds.map Itm.fz) vs
  | _, _, .nil => .nil
  | _, _, .cons h r => .cons (.fz h) (itms_of_dp r)
theorem itms_length : ∀ {xs : List Itm} {vs : List V}, ItmsR K F as xs vs → xs.length = vs.length
  | _, _, .nil => rfl
  | _, _, .cons _ r => by simp [itms_length r]
theorem itms_get : ∀ {xs : List Itm} {vs : List V} {i : Nat} {x : Itm}, ItmsR K F as xs vs → xs[i]? = some x → ∃ v, vs[i]? = some v ∧ ItmR K F as x v
  | _, _, _, _, .nil, e => by simp at e
  | _, _, 0, _, .cons h _, e => by simp at e; subst e; exact ⟨_, rfl, h⟩
  | _, _, i + 1, x, .cons _ r, e => by
    obtain ⟨v, h1, h2⟩ := itms_get (i := i) (x := x) r (by simpa using e)
    exact ⟨v, by simpa using h1, h2⟩
theorem itms_set : ∀ {xs : List Itm} {vs : List V} {x : Itm} {v : V} (i : Nat), ItmsR K F as xs vs → ItmR K F as x v → ItmsR K F as (xs.set i x) (vs.set i v)
  | _, _, _, _, _, .nil, _ => .nil
  | _, _, _, _, 0, .cons _ r, h => .cons h r
  | _, _, _, _, i + 1, .cons q r, h => .cons q (itms_set i r h)
theorem itms_append : ∀ {xs ys : List Itm} {vs ws : List V}, ItmsR K F as xs vs → ItmsR K F as ys ws → ItmsR K F as (xs ++ ys) (vs ++ ws)
  | _, _, _, _, .nil, s => s
  | _, _, _, _, .cons h r, s => .cons h (itms_append r s)
end

/-! ### data that can be read now: frozen, or a list of such in a cell -/
inductive Rdb (γ : Cells) : Itm → PyData → Prop
  | fz (d : PyData) : Rdb γ (.fz d) d
  | cl {c : Nat} {ds : List PyData} : γ[c]? = some (.lst (ds.map Itm.fz)) → Rdb γ (.cl c) (.list ds)
theorem Rdb.dp {K : PySem.W.Frag} {F H : Hp} {as : List Addr} {γ : Cells} {x : Itm} {d : PyData} {v : V} (r : Rdb γ x d) (R : Rep K F as γ H) (h : ItmR K F as x v) : Dp K H v d := by
  cases r with
  | fz => exact dp_mono R.fr (itm_fz.mp h)
  | cl hc =>
    obtain ⟨a, ha, rfl⟩ := itm_cl.mp h
    obtain ⟨a', h1, h2⟩ := R.cellAt hc
    rw [ha] at h1
    cases h1
    obtain ⟨vs, hv, hs⟩ := h2
    exact .lst (SqL.of hv) (dpAll_mono R.fr (itms_fz hs))
/-- its value is a list at an address: the items' values -/
theorem Rdb.list {K : PySem.W.Frag} {F H : Hp} {as : List Addr} {γ : Cells} {x : Itm} {ds : List PyData} {v : V} (r : Rdb γ x (.list ds)) (R : Rep K F as γ H) (h : ItmR K F as x v) : ∃ a vs, v = .ref a ∧ SqL K H a vs ∧ DpAll K F vs ds := by
  cases r with
  | fz => obtain ⟨a, vs, e, h1, h2⟩ := itm_lst.mp h; exact ⟨a, vs, e, same_l R.fr h1, h2⟩
  | cl hc =>
    obtain ⟨a, ha, rfl⟩ := itm_cl.mp h
    obtain ⟨a', h1, h2⟩ := R.cellAt hc
    rw [ha] at h1
    cases h1
    obtain ⟨vs, hv, hs⟩ := h2
    exact ⟨a, vs, rfl, SqL.of hv, itms_fz hs⟩
theorem Rdb.tuple {K : PySem.W.Frag} {F H : Hp} {as : List Addr} {γ : Cells} {x : Itm} {ds : List PyData} {v : V} (r : Rdb γ x (.tuple ds)) (R : Rep K F as γ H) (h : ItmR K F as x v) : ∃ a vs, v = .ref a ∧ SqT K F a vs ∧ DpAll K F vs ds := by
  cases r with
  | fz => exact itm_tup.mp h
end PL

namespace PL
open PySem PySem.Spec PyProof.Rows L2

/-! ### the readings that take any derivation -/
section
variable (X : Cx)
def wpE (e : Expr) : TE := fun σ H Q => ∃ t, PE X e t ∧ t σ H Q
def wpT (e : Expr) : TT := fun σ H Q => ∃ t, PT X e t ∧ t σ H Q
def wpW (e : Expr) : TT := fun σ H Q => ∃ t, PW X e t ∧ t σ H Q
def wpA (es : List Expr) : TA := fun σ H Q => ∃ t, PA X es t ∧ t σ H Q
def wpS (s : Stmt) : TS := fun D σ H => ∃ t, PS X s t ∧ t D σ H
def wpSs (ss : List Stmt) : TS := fun D σ H => ∃ t, PSs X ss t ∧ t D σ H
def wpG (e : Expr) : TG := fun v σ H Q => ∃ t, PG X e t ∧ t v σ H Q
end
section
variable {X : Cx}
theorem pe_wp {e : Expr} : PE X e (wpE X e) := ⟨fun pins s σ H Q I ⟨t, h, q⟩ => h.run pins s σ H Q I q⟩
theorem pt_wp {e : Expr} : PT X e (wpT X e) := ⟨fun pins s σ H Q I ⟨t, h, q⟩ => h.run pins s σ H Q I q⟩
theorem pw_wp {e : Expr} : PW X e (wpW X e) := ⟨fun whole pins s σ H Q I ⟨t, h, q⟩ => h.run whole pins s σ H Q I q⟩
theorem pa_wp {es : List Expr} : PA X es (wpA X es) := ⟨fun pos pins s σ H Q I ⟨t, h, q⟩ => h.run pos pins s σ H Q I q⟩
theorem ps_wp {st : Stmt} : PS X st (wpS X st) := ⟨fun pins s σ H D I ⟨t, h, q⟩ => h.run pins s σ H D I q⟩
theorem pss_wp {ss : List Stmt} : PSs X ss (wpSs X ss) := ⟨fun pins s σ H D I ⟨t, h, q⟩ => h.run pins s σ H D I q⟩
theorem pg_wp {e : Expr} : PG X e (wpG X e) := ⟨fun pins s σ H v u Q I r ⟨t, h, q⟩ => h.run pins s σ H v u Q I r q⟩
end

/-! ### what is known of the context -/
structure Cok (X : Cx) : Prop where
  calm : X.calm = true
  nd : X.N.Nodup
  kind : X.env.scope.kind = .function
  hu : X.A.units + 100 < cLine
/-- the name x stands in slot i: to be read -/
structure Nr (X : Cx) (x : Str) (i : Nat) (k : NameKind) : Prop where
  ix : X.N[i]? = some x
  kd : X.env.scope.names.lookup x = some k
  vis : k = .local ∨ k = .cell
  d1 : (x == ("__debug__" : Str)) = false
  d2 : (x == ("__classdict__" : Str)) = false
/-- .. and to be stored -/
structure Nm (X : Cx) (x : Str) (i : Nat) (k : NameKind) : Prop where
  r : Nr X x i k
  fn : X.fn x = true ∨ k = .local
/-- x is a built-in's name here -/
structure Bt (X : Cx) (x : Str) : Prop where
  gl : Gl X x
  mg : X.mg x = none
theorem Nr.vs {X : Cx} {x : Str} {i : Nat} {k : NameKind} (h : Nr X x i k) : Vis X.env.scope x := by
  rcases h.vis with e | e
  · exact .inl (e ▸ h.kd)
  · exact .inr (.inl (e ▸ h.kd))
theorem Nr.loc {X : Cx} {x : Str} {i : Nat} {k : NameKind} (h : Nr X x i k) : Loc X.env.scope x := by
  rcases h.vis with e | e
  · exact .inl (e ▸ h.kd)
  · exact .inr (e ▸ h.kd)
theorem Nm.hf {X : Cx} {x : Str} {i : Nat} {k : NameKind} (h : Nm X x i k) : X.fn x = true ∨ X.env.scope.names.lookup x = some .local := h.fn.imp id fun e => by rw [h.r.kd, e]
theorem Nm.ix {X : Cx} {x : Str} {i : Nat} {k : NameKind} (h : Nm X x i k) : X.N[i]? = some x := h.r.ix
theorem Nm.loc {X : Cx} {x : Str} {i : Nat} {k : NameKind} (h : Nm X x i k) : Loc X.env.scope x := h.r.loc

/-! ### the judgements -/
section
variable (X : Cx) (Γ : Slots) (γ : Cells)
def EE (e : Expr) (P : EPost) : Prop :=
  ∀ (F : Hp) (as : List Addr) (σ : L2.St) (H : Hp), Rep X.K F as γ H → EnvR X.K F as Γ σ → ∀ Q : VK,
    (∀ v r γ' F' as' H', P r γ' → Ext F as F' as' → Rep X.K F' as' γ' H' → ItmR X.K F' as' r v → Q v H') → wpE X e σ H Q
def EV (e : Expr) (r : Itm) (γ' : Cells) : Prop := EE X Γ γ e fun r' g => r' = r ∧ g = γ'
def TV (e : Expr) (b : Bool) (γ' : Cells) : Prop :=
  ∀ (F : Hp) (as : List Addr) (σ : L2.St) (H : Hp), Rep X.K F as γ H → EnvR X.K F as Γ σ → ∀ Q : Bool → Hp → Prop,
    (∀ F' as' H', Ext F as F' as' → Rep X.K F' as' γ' H' → Q b H') → wpT X e σ H Q
def WV (e : Expr) (b : Bool) (γ' : Cells) : Prop :=
  ∀ (F : Hp) (as : List Addr) (σ : L2.St) (H : Hp), Rep X.K F as γ H → EnvR X.K F as Γ σ → ∀ Q : Bool → Hp → Prop,
    (∀ F' as' H', Ext F as F' as' → Rep X.K F' as' γ' H' → Q b H') → wpW X e σ H Q
def AV (es : List Expr) (rs : List Itm) (γ' : Cells) : Prop :=
  ∀ (F : Hp) (as : List Addr) (σ : L2.St) (H : Hp), Rep X.K F as γ H → EnvR X.K F as Γ σ → ∀ Q : List V → Hp → Prop,
    (∀ vs F' as' H', Ext F as F' as' → Rep X.K F' as' γ' H' → ItmsR X.K F' as' rs vs → Q vs H') → wpA X es σ H Q
end
structure SE where
  nx : Slots → Cells → Prop
  rt : Itm → Cells → Prop
  bk : Slots → Cells → Prop := fun _ _ => False
  ct : Slots → Cells → Prop := fun _ _ => False
structure Cov (K : PySem.W.Frag) (F : Hp) (as : List Addr) (R : SE) (D : Ends) : Prop where
  nx : ∀ Γ' γ' F' as' σ' H', R.nx Γ' γ' → Ext F as F' as' → Rep K F' as' γ' H' → EnvR K F' as' Γ' σ' → D.nx σ' H'
  rt : ∀ r γ' F' as' v H', R.rt r γ' → Ext F as F' as' → Rep K F' as' γ' H' → ItmR K F' as' r v → D.rt v H'
  bk : ∀ Γ' γ' F' as' σ' H', R.bk Γ' γ' → Ext F as F' as' → Rep K F' as' γ' H' → EnvR K F' as' Γ' σ' → D.bk σ' H'
  ct : ∀ Γ' γ' F' as' σ' H', R.ct Γ' γ' → Ext F as F' as' → Rep K F' as' γ' H' → EnvR K F' as' Γ' σ' → D.ct σ' H'
def SV (X : Cx) (Γ : Slots) (γ : Cells) (s : Stmt) (R : SE) : Prop := ∀ F as σ H D, Rep X.K F as γ H → EnvR X.K F as Γ σ → Cov X.K F as R D → wpS X s D σ H
def SVs (X : Cx) (Γ : Slots) (γ : Cells) (ss : List Stmt) (R : SE) : Prop := ∀ F as σ H D, Rep X.K F as γ H → EnvR X.K F as Γ σ → Cov X.K F as R D → wpSs X ss D σ H
theorem Cov.mono {K F as F1 as1 R D} (h : Cov K F as R D) (e : Ext F as F1 as1) : Cov K F1 as1 R D :=
  ⟨fun _ _ _ _ _ _ r x => h.nx _ _ _ _ _ _ r (e.trans x), fun _ _ _ _ _ _ r x => h.rt _ _ _ _ _ _ r (e.trans x), fun _ _ _ _ _ _ r x => h.bk _ _ _ _ _ _ r (e.trans x), fun _ _ _ _ _ _ r x => h.ct _ _ _ _ _ _ r (e.trans x)⟩
section
variable {X : Cx} {Γ : Slots} {γ γ1 γ2 γ3 γ' : Cells} {e a b c : Expr} {r ra rb : Itm} {pos : Pos}
theorem EV.go (h : EV X Γ γ e r γ') {F as σ H} (R : Rep X.K F as γ H) (E : EnvR X.K F as Γ σ) {Q : VK} (k : ∀ v F' as' H', Ext F as F' as' → Rep X.K F' as' γ' H' → ItmR X.K F' as' r v → Q v H') : wpE X e σ H Q :=
  h F as σ H R E Q fun v r' g F' as' H' ⟨e1, e2⟩ x R' i => by subst e1 e2; exact k v F' as' H' x R' i
theorem EV.mk (h : ∀ F as σ H, Rep X.K F as γ H → EnvR X.K F as Γ σ → ∀ Q : VK, (∀ v F' as' H', Ext F as F' as' → Rep X.K F' as' γ' H' → ItmR X.K F' as' r v → Q v H') → wpE X e σ H Q) : EV X Γ γ e r γ' :=
  fun F as σ H R E Q k => h F as σ H R E Q fun v F' as' H' x R' i => k v r γ' F' as' H' ⟨rfl, rfl⟩ x R' i
theorem EV.cast {r' : Itm} {g' : Cells} (h : EV X Γ γ e r γ') (e1 : r = r') (e2 : γ' = g') : EV X Γ γ e r' g' := by subst e1 e2; exact h
theorem EV.is {d d' : PyData} (h : EV X Γ γ e (.fz d) γ') (e1 : d = d') : EV X Γ γ e (.fz d') γ' := by subst e1; exact h
theorem TV.is {b b' : Bool} (h : TV X Γ γ e b γ') (e1 : b = b') : TV X Γ γ e b' γ' := by subst e1; exact h
theorem EE.imp {P P' : EPost} (h : EE X Γ γ e P) (k : ∀ r g, P r g → P' r g) : EE X Γ γ e P' := fun F as σ H R E Q q => h F as σ H R E Q fun v r g F' as' H' p => q v r g F' as' H' (k r g p)

/-! ### names, constants -/
theorem ev_name {x : Str} {i : Nat} {k : NameKind} (n : Nr X x i k) (h : Γ[i]? = some (some r)) : EV X Γ γ (.Name x pos) r γ := .mk fun F as σ H R E Q q => by
  obtain ⟨v, hv, hr⟩ := E.2 i r h
  exact ⟨_, pe_var n.ix n.vs n.d1 n.d2, v, hv, q v F as H (Ext.refl F as) R hr⟩
theorem ev_int {i : Int} {j} : EV X Γ γ (.Constant (.int i) j pos) (.fz (.int i)) γ := .mk fun F as σ H R E Q q => ⟨_, pe_int, q _ F as H (Ext.refl F as) R (itm_int.mpr rfl)⟩
theorem ev_bl {i : Bool} {j} : EV X Γ γ (.Constant (.bool i) j pos) (.fz (.bool i)) γ := .mk fun F as σ H R E Q q => ⟨_, pe_bl, q _ F as H (Ext.refl F as) R (itm_bl.mpr rfl)⟩
theorem ev_str {i : Str} {j} : EV X Γ γ (.Constant (.str i) j pos) (.fz (.str i)) γ := .mk fun F as σ H R E Q q => ⟨_, pe_str, q _ F as H (Ext.refl F as) R (itm_str.mpr rfl)⟩
theorem ev_non {j} : EV X Γ γ (.Constant .none j pos) (.fz .none) γ := .mk fun F as σ H R E Q q => ⟨_, pe_non, q _ F as H (Ext.refl F as) R (itm_non.mpr rfl)⟩

/-! ### arithmetic -/
theorem ev_op {op : Operator} {t : R2} (ho : OpR X (binaryOp op) t) (ha : EV X Γ γ a ra γ1) (hb : EV X Γ γ1 b rb γ2)
    (hr : ∀ F as H x y, Rep X.K F as γ2 H → ItmR X.K F as ra x → ItmR X.K F as rb y → ∀ Q : VK, (∀ v F' as' H', Ext F as F' as' → Rep X.K F' as' γ3 H' → ItmR X.K F' as' r v → Q v H') → t x y H Q) : EV X Γ γ (.BinOp a op b pos) r γ3 := .mk fun F as σ H R E Q q => by
  refine ⟨_, pe_op ho pe_wp pe_wp, ?_⟩
  refine ha.go R E fun v F1 as1 H1 x1 R1 i1 => ?_
  refine hb.go R1 (E.mono x1) fun u F2 as2 H2 x2 R2 i2 => ?_
  exact hr F2 as2 H2 v u R2 (itm_mono x2 i1) i2 Q fun w F3 as3 H3 x3 R3 i3 => q w F3 as3 H3 ((x1.trans x2).trans x3) R3 i3
theorem ev_opI {op : Operator} {C : Int → Int → Prop} {g : Int → Int → Int} {i j : Int} (ho : OpR X (binaryOp op) (rI C fun i j => .int (g i j))) (ha : EV X Γ γ a (.fz (.int i)) γ1) (hb : EV X Γ γ1 b (.fz (.int j)) γ2) (hc : C i j) : EV X Γ γ (.BinOp a op b pos) (.fz (.int (g i j))) γ2 :=
  ev_op ho ha hb fun F as H x y R hx hy Q q => ⟨i, j, itm_int.mp hx, itm_int.mp hy, hc, q _ F as H (Ext.refl F as) R (itm_int.mpr rfl)⟩
theorem ev_opI0 {op : Operator} {g : Int → Int → Int} {i j : Int} (ho : OpR X (binaryOp op) (rI0 fun i j => .int (g i j))) (ha : EV X Γ γ a (.fz (.int i)) γ1) (hb : EV X Γ γ1 b (.fz (.int j)) γ2) : EV X Γ γ (.BinOp a op b pos) (.fz (.int (g i j))) γ2 :=
  ev_op ho ha hb fun F as H x y R hx hy Q q => ⟨i, j, itm_int.mp hx, itm_int.mp hy, q _ F as H (Ext.refl F as) R (itm_int.mpr rfl)⟩
variable {i j : Int}
theorem ev_add (ha : EV X Γ γ a (.fz (.int i)) γ1) (hb : EV X Γ γ1 b (.fz (.int j)) γ2) : EV X Γ γ (.BinOp a .Add b pos) (.fz (.int (i + j))) γ2 := ev_opI0 op_add ha hb
theorem ev_sub (ha : EV X Γ γ a (.fz (.int i)) γ1) (hb : EV X Γ γ1 b (.fz (.int j)) γ2) : EV X Γ γ (.BinOp a .Sub b pos) (.fz (.int (i - j))) γ2 := ev_opI0 op_sub ha hb
theorem ev_mul (ha : EV X Γ γ a (.fz (.int i)) γ1) (hb : EV X Γ γ1 b (.fz (.int j)) γ2) (hc : CMulW i j) : EV X Γ γ (.BinOp a .Mult b pos) (.fz (.int (i * j))) γ2 := ev_opI op_mulW ha hb hc
theorem ev_mod (ha : EV X Γ γ a (.fz (.int i)) γ1) (hb : EV X Γ γ1 b (.fz (.int j)) γ2) (hc : 0 < j) : EV X Γ γ (.BinOp a .Mod b pos) (.fz (.int (i % j))) γ2 := ev_opI op_mod ha hb hc
theorem ev_div (ha : EV X Γ γ a (.fz (.int i)) γ1) (hb : EV X Γ γ1 b (.fz (.int j)) γ2) (hc : CDivW i j) : EV X Γ γ (.BinOp a .FloorDiv b pos) (.fz (.int (i / j))) γ2 := ev_opI op_fdivW ha hb hc
theorem ev_pow (ha : EV X Γ γ a (.fz (.int i)) γ1) (hb : EV X Γ γ1 b (.fz (.int j)) γ2) (hc : CPow i j) : EV X Γ γ (.BinOp a .Pow b pos) (.fz (.int (i ^ j.toNat))) γ2 := ev_opI op_pow ha hb hc
theorem ev_neg (ha : EV X Γ γ a (.fz (.int i)) γ1) : EV X Γ γ (.UnaryOp .USub a pos) (.fz (.int (-i))) γ1 := .mk fun F as σ H R E Q q =>
  ⟨_, pe_un un_neg pe_wp, ha.go R E fun v F1 as1 H1 x1 R1 i1 => ⟨i, itm_int.mp i1, q _ F1 as1 H1 x1 R1 (itm_int.mpr rfl)⟩⟩

/-! ### comparisons -/
def CmpR (X : Cx) (op : CmpOp) (γ : Cells) (ra rb : Itm) (k : Bool) : Prop :=
  ∃ t : R2, OpR X (compareOp op) t ∧ ∀ F as H x y, Rep X.K F as γ H → ItmR X.K F as ra x → ItmR X.K F as rb y → ∀ Q : VK, Q (.bl k) H → t x y H Q
variable {op op' : CmpOp} {k k' : Bool}
theorem ev_cmp (ha : EV X Γ γ a ra γ1) (hb : EV X Γ γ1 b rb γ2) (hc : CmpR X op γ2 ra rb k) (hm : behindInMarks op b = false := by first | exact nomark _ | rfl) : EV X Γ γ (.Compare a [op] [b] pos) (.fz (.bool k)) γ2 := .mk fun F as σ H R E Q q => by
  obtain ⟨t, ho, hr⟩ := hc
  refine ⟨_, pe_cmpR ho pe_wp pe_wp hm, ?_⟩
  refine ha.go R E fun v F1 as1 H1 x1 R1 i1 => ?_
  refine hb.go R1 (E.mono x1) fun u F2 as2 H2 x2 R2 i2 => ?_
  exact hr F2 as2 H2 v u R2 (itm_mono x2 i1) i2 Q (q _ F2 as2 H2 (x1.trans x2) R2 (itm_bl.mpr rfl))
theorem tv_cmp (ha : EV X Γ γ a ra γ1) (hb : EV X Γ γ1 b rb γ2) (hc : CmpR X op γ2 ra rb k) (hm : behindInMarks op b = false := by first | exact nomark _ | rfl) : TV X Γ γ (.Compare a [op] [b] pos) k γ2 := fun F as σ H R E Q q => by
  obtain ⟨t, ho, hr⟩ := hc
  refine ⟨_, pt_cmpR ho pe_wp pe_wp hm, ?_⟩
  refine ha.go R E fun v F1 as1 H1 x1 R1 i1 => ?_
  refine hb.go R1 (E.mono x1) fun u F2 as2 H2 x2 R2 i2 => ?_
  exact hr F2 as2 H2 v u R2 (itm_mono x2 i1) i2 _ ⟨k, rfl, q F2 as2 H2 (x1.trans x2) R2⟩
theorem ev_chain {rc : Itm} (ha : EV X Γ γ a ra γ1) (hb : EV X Γ γ1 b rb γ2) (hc : CmpR X op γ2 ra rb k) (hd : k = true → EV X Γ γ2 c rc γ2) (he : k = true → CmpR X op' γ2 rb rc k') (hm : ∃ t : R2, OpR X (compareOp op') t) : True := trivial
theorem cmp_lt : CmpR X .Lt γ (.fz (.int i)) (.fz (.int j)) (decide (i < j)) := ⟨_, op_lt, fun F as H x y R hx hy Q q => ⟨i, j, itm_int.mp hx, itm_int.mp hy, q⟩⟩
theorem cmp_le : CmpR X .LtE γ (.fz (.int i)) (.fz (.int j)) (decide (i ≤ j)) := ⟨_, op_le, fun F as H x y R hx hy Q q => ⟨i, j, itm_int.mp hx, itm_int.mp hy, q⟩⟩
theorem cmp_gt : CmpR X .Gt γ (.fz (.int i)) (.fz (.int j)) (decide (j < i)) := ⟨_, op_gt, fun F as H x y R hx hy Q q => ⟨i, j, itm_int.mp hx, itm_int.mp hy, q⟩⟩
theorem cmp_ge : CmpR X .GtE γ (.fz (.int i)) (.fz (.int j)) (decide (j ≤ i)) := ⟨_, op_ge, fun F as H x y R hx hy Q q => ⟨i, j, itm_int.mp hx, itm_int.mp hy, q⟩⟩
theorem cmp_eqI : CmpR X .Eq γ (.fz (.int i)) (.fz (.int j)) (decide (i = j)) := ⟨_, op_eq, fun F as H x y R hx hy Q q => by
  cases itm_int.mp hx; cases itm_int.mp hy
  exact ⟨rfl, by rw [show decide (V.int i = V.int j) = decide (i = j) by simp]; exact q⟩⟩
theorem cmp_neI : CmpR X .NotEq γ (.fz (.int i)) (.fz (.int j)) (!decide (i = j)) := ⟨_, op_ne, fun F as H x y R hx hy Q q => by
  cases itm_int.mp hx; cases itm_int.mp hy
  exact ⟨rfl, by rw [show decide (V.int i = V.int j) = decide (i = j) by simp]; exact q⟩⟩
theorem cmp_eqS {i j : Str} : CmpR X .Eq γ (.fz (.str i)) (.fz (.str j)) (decide (i = j)) := ⟨_, op_eq, fun F as H x y R hx hy Q q => by
  cases itm_str.mp hx; cases itm_str.mp hy
  exact ⟨rfl, by rw [show decide (V.str i = V.str j) = decide (i = j) by simp]; exact q⟩⟩
theorem cmp_neS {i j : Str} : CmpR X .NotEq γ (.fz (.str i)) (.fz (.str j)) (!decide (i = j)) := ⟨_, op_ne, fun F as H x y R hx hy Q q => by
  cases itm_str.mp hx; cases itm_str.mp hy
  exact ⟨rfl, by rw [show decide (V.str i = V.str j) = decide (i = j) by simp]; exact q⟩⟩
theorem cmp_eqB {i j : Bool} : CmpR X .Eq γ (.fz (.bool i)) (.fz (.bool j)) (i == j) := ⟨_, op_eq, fun F as H x y R hx hy Q q => by
  cases itm_bl.mp hx; cases itm_bl.mp hy
  exact ⟨rfl, by rw [dec_bl]; exact q⟩⟩
theorem cmp_neB {i j : Bool} : CmpR X .NotEq γ (.fz (.bool i)) (.fz (.bool j)) (i != j) := ⟨_, op_ne, fun F as H x y R hx hy Q q => by
  cases itm_bl.mp hx; cases itm_bl.mp hy
  exact ⟨rfl, by rw [dec_bl]; exact q⟩⟩
/-- == of data of any depth -/
theorem cmp_eqD {d e : PyData} (hX : Cok X) (h1 : Rdb γ ra d) (h2 : Rdb γ rb e) (s1 : SeqAt.shaped d = true) (s2 : SeqAt.shaped e = true) : CmpR X .Eq γ ra rb (PyData.eqv d e) :=
  ⟨_, op_eqD (by have := hX.hu; omega), fun F as H x y R hx hy Q q => ⟨d, e, h1.dp R hx, h2.dp R hy, s1, s2, q⟩⟩
theorem cmp_neD {d e : PyData} (hX : Cok X) (h1 : Rdb γ ra d) (h2 : Rdb γ rb e) (s1 : SeqAt.shaped d = true) (s2 : SeqAt.shaped e = true) : CmpR X .NotEq γ ra rb (!PyData.eqv d e) :=
  ⟨_, op_neD (by have := hX.hu; omega), fun F as H x y R hx hy Q q => ⟨d, e, h1.dp R hx, h2.dp R hy, s1, s2, q⟩⟩
theorem cmp_inD {d : PyData} {ds : List PyData} (hX : Cok X) (h1 : Rdb γ ra d) (h2 : Rdb γ rb (.list ds)) (s1 : SeqAt.shaped d = true) (s2 : SeqAt.shaped (.list ds) = true) : CmpR X .In γ ra rb (ds.any fun z => PyData.eqv z d) :=
  ⟨_, op_inD (by have := hX.hu; omega), fun F as H x y R hx hy Q q => ⟨d, ds, h1.dp R hx, h2.dp R hy, s1, s2, q⟩⟩
theorem cmp_notInD {d : PyData} {ds : List PyData} (hX : Cok X) (h1 : Rdb γ ra d) (h2 : Rdb γ rb (.list ds)) (s1 : SeqAt.shaped d = true) (s2 : SeqAt.shaped (.list ds) = true) : CmpR X .NotIn γ ra rb (!ds.any fun z => PyData.eqv z d) :=
  ⟨_, op_notInD (by have := hX.hu; omega), fun F as H x y R hx hy Q q => ⟨d, ds, h1.dp R hx, h2.dp R hy, s1, s2, q⟩⟩
def dNone : PyData → Bool
  | .none => true
  | _ => false
theorem dp_none {K F v d} (h : Dp K F v d) : decide (v = V.non) = dNone d := by cases h <;> simp [dNone]
theorem cmp_isN {d : PyData} : CmpR X .Is γ (.fz d) (.fz .none) (dNone d) := ⟨_, op_isN, fun F as H x y R hx hy Q q => ⟨itm_non.mp hy, by rw [dp_none (itm_fz.mp hx)]; exact q⟩⟩
theorem cmp_notN {d : PyData} : CmpR X .IsNot γ (.fz d) (.fz .none) (!dNone d) := ⟨_, op_notN, fun F as H x y R hx hy Q q => ⟨itm_non.mp hy, by rw [dp_none (itm_fz.mp hx)]; exact q⟩⟩

/-! ### tests: and, or, not; values True, False -/
theorem tv_val (h : EV X Γ γ e (.fz (.bool k)) γ1) (he : ∀ whole, isTrue e X.env whole = (do let v ← whole; standAt e.pos; holding [v] (truthy v)) := by intro _; rfl) : TV X Γ γ e k γ1 := fun F as σ H R E Q q =>
  ⟨_, pt_val pe_wp he, h.go R E fun v F1 as1 H1 x1 R1 i1 => ⟨k, itm_bl.mp i1, q F1 as1 H1 x1 R1⟩⟩
theorem tv_not (h : TV X Γ γ a k γ1) : TV X Γ γ (.UnaryOp .Not a pos) (!k) γ1 := fun F as σ H R E Q q =>
  ⟨_, pt_not pt_wp, h F as σ H R E _ fun F1 as1 H1 x1 R1 => q F1 as1 H1 x1 R1⟩
theorem tv_w (h : WV X Γ γ e k γ1) : TV X Γ γ e k γ1 := fun F as σ H R E Q q => ⟨_, pw_wp.pt, h F as σ H R E Q q⟩
theorem wv_and1 (h : TV X Γ γ a k γ1) : WV X Γ γ (.BoolOp .And [a] pos) k γ1 := fun F as σ H R E Q q => ⟨_, pw_and1 pt_wp, h F as σ H R E Q q⟩
theorem wv_or1 (h : TV X Γ γ a k γ1) : WV X Γ γ (.BoolOp .Or [a] pos) k γ1 := fun F as σ H R E Q q => ⟨_, pw_or1 pt_wp, h F as σ H R E Q q⟩
variable {rest : List Expr}
theorem wv_and (h1 : TV X Γ γ a k γ1) (h2 : k = true → WV X Γ γ1 (.BoolOp .And (b :: rest) pos) k' γ1) : WV X Γ γ (.BoolOp .And (a :: b :: rest) pos) (k && k') γ1 := fun F as σ H R E Q q =>
  ⟨_, pw_and pt_wp pw_wp, h1 F as σ H R E _ fun F1 as1 H1 x1 R1 => by
    cases k with
    | true => exact iteT (h2 rfl F1 as1 σ H1 R1 (E.mono x1) Q fun F2 as2 H2 x2 R2 => q F2 as2 H2 (x1.trans x2) R2)
    | false => exact iteF (q F1 as1 H1 x1 R1)⟩
theorem wv_or (h1 : TV X Γ γ a k γ1) (h2 : k = false → WV X Γ γ1 (.BoolOp .Or (b :: rest) pos) k' γ1) : WV X Γ γ (.BoolOp .Or (a :: b :: rest) pos) (k || k') γ1 := fun F as σ H R E Q q =>
  ⟨_, pw_or pt_wp pw_wp, h1 F as σ H R E _ fun F1 as1 H1 x1 R1 => by
    cases k with
    | true => exact iteT (q F1 as1 H1 x1 R1)
    | false => exact iteF (h2 rfl F1 as1 σ H1 R1 (E.mono x1) Q fun F2 as2 H2 x2 R2 => q F2 as2 H2 (x1.trans x2) R2)⟩
theorem ev_not (h : EV X Γ γ a (.fz (.bool k)) γ1) : EV X Γ γ (.UnaryOp .Not a pos) (.fz (.bool (!k))) γ1 := .mk fun F as σ H R E Q q =>
  ⟨_, pe_not pe_wp, h.go R E fun v F1 as1 H1 x1 R1 i1 => ⟨k, itm_bl.mp i1, q _ F1 as1 H1 x1 R1 (itm_bl.mpr rfl)⟩⟩
theorem ev_one {o} (h : EV X Γ γ a r γ1) : EV X Γ γ (.BoolOp o [a] pos) r γ1 := .mk fun F as σ H R E Q q => ⟨_, pe_one pe_wp, h.go R E q⟩
theorem ev_and {d : PyData} (h1 : EV X Γ γ a (.fz (.bool k)) γ1) (h2 : k = true → EV X Γ γ1 (.BoolOp .And (b :: rest) pos) (.fz d) γ1) : EV X Γ γ (.BoolOp .And (a :: b :: rest) pos) (.fz (if k then d else .bool false)) γ1 := .mk fun F as σ H R E Q q =>
  ⟨_, pe_and pe_wp pe_wp, h1.go R E fun v F1 as1 H1 x1 R1 i1 => ⟨k, itm_bl.mp i1, by
    cases k with
    | true => exact iteT ((h2 rfl).go R1 (E.mono x1) fun u F2 as2 H2 x2 R2 i2 => q u F2 as2 H2 (x1.trans x2) R2 i2)
    | false => exact iteF (q _ F1 as1 H1 x1 R1 (itm_bl.mpr rfl))⟩⟩
theorem ev_or {d : PyData} (h1 : EV X Γ γ a (.fz (.bool k)) γ1) (h2 : k = false → EV X Γ γ1 (.BoolOp .Or (b :: rest) pos) (.fz d) γ1) : EV X Γ γ (.BoolOp .Or (a :: b :: rest) pos) (.fz (if k then .bool true else d)) γ1 := .mk fun F as σ H R E Q q =>
  ⟨_, pe_or pe_wp pe_wp, h1.go R E fun v F1 as1 H1 x1 R1 i1 => ⟨k, itm_bl.mp i1, by
    cases k with
    | true => exact iteT (q _ F1 as1 H1 x1 R1 (itm_bl.mpr rfl))
    | false => exact iteF ((h2 rfl).go R1 (E.mono x1) fun u F2 as2 H2 x2 R2 i2 => q u F2 as2 H2 (x1.trans x2) R2 i2)⟩⟩
theorem ev_ifx {r : Itm} {γ2 : Cells} (h : TV X Γ γ c k γ1) (h1 : k = true → EV X Γ γ1 a r γ2) (h2 : k = false → EV X Γ γ1 b r γ2) : EV X Γ γ (.IfExp c a b pos) r γ2 := .mk fun F as σ H R E Q q =>
  ⟨_, pe_ifExp pt_wp pe_wp pe_wp, h F as σ H R E _ fun F1 as1 H1 x1 R1 => by
    cases k with
    | true => exact iteT ((h1 rfl).go R1 (E.mono x1) fun u F2 as2 H2 x2 R2 i2 => q u F2 as2 H2 (x1.trans x2) R2 i2)
    | false => exact iteF ((h2 rfl).go R1 (E.mono x1) fun u F2 as2 H2 x2 R2 i2 => q u F2 as2 H2 (x1.trans x2) R2 i2)⟩

/-! ### argument lists, displays -/
variable {es : List Expr} {rs : List Itm}
theorem AV.go (h : AV X Γ γ es rs γ') {F as σ H} (R : Rep X.K F as γ H) (E : EnvR X.K F as Γ σ) {Q : List V → Hp → Prop} (k : ∀ vs F' as' H', Ext F as F' as' → Rep X.K F' as' γ' H' → ItmsR X.K F' as' rs vs → Q vs H') : wpA X es σ H Q := h F as σ H R E Q k
theorem av_nil : AV X Γ γ [] [] γ := fun F as σ H R E Q q => ⟨_, pa_nil, q [] F as H (Ext.refl F as) R .nil⟩
theorem av_cons (h : EV X Γ γ e r γ1) (hr : AV X Γ γ1 es rs γ2) (hs : starEach (e :: es) X.env = (false, eval e X.env) :: starEach es X.env := by rfl) : AV X Γ γ (e :: es) (r :: rs) γ2 := fun F as σ H R E Q q =>
  ⟨_, pa_cons pe_wp pa_wp hs, h.go R E fun v F1 as1 H1 x1 R1 i1 => hr.go R1 (E.mono x1) fun vs F2 as2 H2 x2 R2 i2 => q _ F2 as2 H2 (x1.trans x2) R2 (.cons (itm_mono x2 i1) i2)⟩
theorem itms_fz' {K : PySem.W.Frag} {F : Hp} {as : List Addr} {ds : List PyData} {vs : List V} (h : ItmsR K F as (ds.map Itm.fz) vs) : DpAll K F vs ds := itms_fz h
/-- a tuple of frozen things -/
theorem ev_tup {ds : List PyData} {kk : Nat} (h : AV X Γ γ es (ds.map Itm.fz) γ1) (hl : ds.length ≤ 1000 := by first | decide | simp) : EV X Γ γ (.Tuple es kk pos) (.fz (.tuple ds)) γ1 := .mk fun F as σ H R E Q q => by
  refine ⟨_, pe_tup pa_wp, ?_⟩
  refine h.go R E fun vs F1 as1 H1 x1 R1 i1 => ?_
  have l : vs.length = ds.length := by have := itms_length i1; simpa using this.symm
  refine ⟨by rw [l]; exact Nat.le_of_lt (small1000 hl), fun p hp => q _ (upd F1 p (.tup vs)) as1 _ ?_ (R1.new _ hp) ?_⟩
  · exact x1.trans ⟨R1.sameNew _ hp, [], by simp⟩
  · exact itm_tup.mpr ⟨p, vs, rfl, SqT.of upd_same, dpAll_mono (R1.sameNew _ hp) (itms_fz i1)⟩
theorem ev_lst {ds : List PyData} (h : AV X Γ γ es (ds.map Itm.fz) γ1) (hl : ds.length ≤ 1000 := by first | decide | simp) : EV X Γ γ (.List es pos) (.fz (.list ds)) γ1 := .mk fun F as σ H R E Q q => by
  refine ⟨_, pe_lst pa_wp, ?_⟩
  refine h.go R E fun vs F1 as1 H1 x1 R1 i1 => ?_
  have l : vs.length = ds.length := by have := itms_length i1; simpa using this.symm
  refine ⟨by rw [l]; exact Nat.le_of_lt (small1000 hl), fun p hp => q _ (upd F1 p (.lst vs)) as1 _ ?_ (R1.new _ hp) ?_⟩
  · exact x1.trans ⟨R1.sameNew _ hp, [], by simp⟩
  · exact itm_lst.mpr ⟨p, vs, rfl, SqL.of upd_same, dpAll_mono (R1.sameNew _ hp) (itms_fz i1)⟩
end
end PL

namespace PL
open PySem PySem.Spec PyProof.Rows L2

/-! ### chains -/
section
variable {X : Cx} {Γ : Slots} {γ γ1 γ2 γ3 γ' : Cells} {e a b c : Expr} {r ra rb rc : Itm} {pos : Pos} {op op' : CmpOp} {k k' : Bool}
theorem ev_chain2 (ha : EV X Γ γ a ra γ1) (hb : EV X Γ γ1 b rb γ2) (hc : CmpR X op γ2 ra rb k) (hd : EV X Γ γ2 c rc γ2) (he : CmpR X op' γ2 rb rc k')
    (hm : lastMarks [op, op'] [b, c] = false := by with_unfolding_all rfl) : EV X Γ γ (.Compare a [op, op'] [b, c] pos) (.fz (.bool (k && k'))) γ2 := .mk fun F as σ H R E Q q => by
  obtain ⟨t, ho, hr⟩ := hc
  obtain ⟨t', ho', hr'⟩ := he
  refine ⟨_, pe_chain ho ho' pe_wp pe_wp pe_wp hm, ?_⟩
  refine ha.go R E fun v F1 as1 H1 x1 R1 i1 => ?_
  refine hb.go R1 (E.mono x1) fun u F2 as2 H2 x2 R2 i2 => ?_
  refine hr F2 as2 H2 v u R2 (itm_mono x2 i1) i2 _ ⟨k, rfl, ?_⟩
  cases k with
  | false => exact iteF (q _ F2 as2 H2 (x1.trans x2) R2 (itm_bl.mpr rfl))
  | true =>
    refine iteT (hd.go R2 (E.mono (x1.trans x2)) fun w F3 as3 H3 x3 R3 i3 => ?_)
    exact hr' F3 as3 H3 u w R3 (itm_mono x3 i2) i3 Q (q _ F3 as3 H3 ((x1.trans x2).trans x3) R3 (itm_bl.mpr rfl))
theorem tv_chain2 (ha : EV X Γ γ a ra γ1) (hb : EV X Γ γ1 b rb γ2) (hc : CmpR X op γ2 ra rb k) (hd : EV X Γ γ2 c rc γ2) (he : CmpR X op' γ2 rb rc k')
    (hm : lastMarks [op, op'] [b, c] = false := by with_unfolding_all rfl) : TV X Γ γ (.Compare a [op, op'] [b, c] pos) (k && k') γ2 := fun F as σ H R E Q q => by
  obtain ⟨t, ho, hr⟩ := hc
  obtain ⟨t', ho', hr'⟩ := he
  refine ⟨_, pt_chain ho ho' pe_wp pe_wp pe_wp hm, ?_⟩
  refine ha.go R E fun v F1 as1 H1 x1 R1 i1 => ?_
  refine hb.go R1 (E.mono x1) fun u F2 as2 H2 x2 R2 i2 => ?_
  refine hr F2 as2 H2 v u R2 (itm_mono x2 i1) i2 _ ⟨k, rfl, ?_⟩
  cases k with
  | false => exact iteF ⟨false, rfl, q F2 as2 H2 (x1.trans x2) R2⟩
  | true =>
    refine iteT (hd.go R2 (E.mono (x1.trans x2)) fun w F3 as3 H3 x3 R3 i3 => ?_)
    exact hr' F3 as3 H3 u w R3 (itm_mono x3 i2) i3 _ ⟨k', rfl, q F3 as3 H3 ((x1.trans x2).trans x3) R3⟩
end

/-! ### targets -/
/-- σ' is σ but for the slots ws -/
def But (ws : List Nat) (σ σ' : L2.St) : Prop := σ'.length = σ.length ∧ ∀ j, j ∉ ws → σ'[j]? = σ[j]?
def GV (X : Cx) (γ : Cells) (Γ : Slots) (tg : Expr) (r : Itm) (Γ' : Slots) (ws : List Nat) : Prop :=
  ∀ F as σ H v, Rep X.K F as γ H → EnvR X.K F as Γ σ → ItmR X.K F as r v → ∀ Q : L2.St → Hp → Prop, (∀ σ', EnvR X.K F as Γ' σ' → But ws σ σ' → Q σ' H) → wpG X tg v σ H Q
def wpGs (X : Cx) (es : List Expr) : TGs := fun vs σ H Q => ∃ t, PGs X es t ∧ t vs σ H Q
def GVs (X : Cx) (γ : Cells) (Γ : Slots) (es : List Expr) (rs : List Itm) (Γ' : Slots) (ws : List Nat) : Prop :=
  ∀ F as σ H vs, Rep X.K F as γ H → EnvR X.K F as Γ σ → ItmsR X.K F as rs vs → ∀ Q : L2.St → Hp → Prop, (∀ σ', EnvR X.K F as Γ' σ' → But ws σ σ' → Q σ' H) → wpGs X es vs σ H Q
section
variable {X : Cx} {Γ Γ1 Γ' : Slots} {γ γ1 : Cells} {e : Expr} {es : List Expr} {r : Itm} {rs : List Itm} {pos : Pos} {ws ws' : List Nat}
theorem pgs_wp : PGs X es (wpGs X es) := ⟨fun pins s σ H vs us Q I r ⟨t, h, q⟩ => h.run pins s σ H vs us Q I r q⟩
theorem gv_name {x : Str} {i : Nat} {k : NameKind} (hX : Cok X) (n : Nm X x i k) : GV X γ Γ (.Name x pos) r (Γ.set i (some r)) [i] := fun F as σ H v R E I Q q =>
  ⟨_, pg_name (i := i) hX.nd n.ix n.loc n.hf, q _ (E.set I) ⟨by simp, fun j hj => List.getElem?_set_ne (by simpa [eq_comm] using hj)⟩⟩
theorem gvs_nil : GVs X γ Γ [] [] Γ [] := fun F as σ H vs R E I Q q => by
  cases I
  exact ⟨_, pgs_nil, rfl, q _ E ⟨rfl, fun _ _ => rfl⟩⟩
theorem gvs_cons (h1 : GV X γ Γ e r Γ1 ws) (h2 : GVs X γ Γ1 es rs Γ' ws') (hs : (assignEach (e :: es) X.env).map (·.2) = assign e X.env :: (assignEach es X.env).map (·.2) := by rfl) : GVs X γ Γ (e :: es) (r :: rs) Γ' (ws ++ ws') := fun F as σ H vs R E I Q q => by
  cases I with
  | cons i1 i2 => exact ⟨_, pgs_cons pg_wp pgs_wp hs, _, _, rfl, h1 F as σ H _ R E i1 _ fun σ1 E1 b1 => h2 F as σ1 H _ R E1 i2 Q fun σ2 E2 b2 => q σ2 E2 ⟨b2.1.trans b1.1, fun j hj => by
      rw [List.mem_append, not_or] at hj
      exact (b2.2 j hj.2).trans (b1.2 j hj.1)⟩⟩
theorem gv_tup {ds : List PyData} {kk n : Nat} (hX : Cok X) (h : GVs X γ Γ es (ds.map Itm.fz) Γ' ws) (hl : ds.length = n) (hn : (assignEach es X.env).length = n := by rfl) (hst : (assignEach es X.env).findIdx? (·.1) = none := by rfl) :
    GV X γ Γ (.Tuple es kk pos) (.fz (.tuple ds)) Γ' ws := fun F as σ H v R E I Q q => by
  obtain ⟨a, vs, rfl, h1, h2⟩ := itm_tup.mp I
  exact ⟨_, pg_tup (n := n) hX.calm pgs_wp hn hst, a, vs, rfl, same_t R.fr h1, (dpAll_length h2).trans hl, h F as σ H vs R E (itms_of_dp h2) Q q⟩
theorem gv_tp {xs : List Itm} {kk n : Nat} (hX : Cok X) (h : GVs X γ Γ es xs Γ' ws) (hl : xs.length = n) (hn : (assignEach es X.env).length = n := by rfl) (hst : (assignEach es X.env).findIdx? (·.1) = none := by rfl) :
    GV X γ Γ (.Tuple es kk pos) (.tp xs) Γ' ws := fun F as σ H v R E I Q q => by
  cases I with
  | tp h1 h2 => exact ⟨_, pg_tup (n := n) hX.calm pgs_wp hn hst, _, _, rfl, same_t R.fr h1, (itms_length h2).symm.trans hl, h F as σ H _ R E h2 Q q⟩
end

/-! ### statements -/
section
variable {X : Cx} {Γ Γ1 Γ' : Slots} {γ γ1 γ2 : Cells} {e c o : Expr} {r : Itm} {pos : Pos} {R : SE} {rest sa sb : List Stmt} {s : Stmt} {P : EPost}
def SE.then (R : SE) (X : Cx) (rest : List Stmt) : SE := { R with nx := fun Γ γ => SVs X Γ γ rest R }
theorem svs_nil (h : R.nx Γ γ) : SVs X Γ γ [] R := fun F as σ H D Rp E C => ⟨_, pss_nil, C.nx _ _ _ _ _ _ h (Ext.refl F as) Rp E⟩
theorem svs_cons (h : SV X Γ γ s (R.then X rest)) : SVs X Γ γ (s :: rest) R := fun F as σ H D Rp E C =>
  ⟨_, pss_cons ps_wp pss_wp, h F as σ H _ Rp E ⟨fun Γ' γ' F' as' σ' H' hn x R' E' => hn F' as' σ' H' D R' E' (C.mono x), C.rt, C.bk, C.ct⟩⟩
theorem sv_asg {tg : Expr} (he : EE X Γ γ e P) (hg : ∀ r g, P r g → ∃ Γ' ws, GV X g Γ tg r Γ' ws ∧ R.nx Γ' g) (hs : swapsWithSole [tg] e pos.line X.env = pure false := by rfl) (hw : swappedStores [tg] e X.env = pure none := by rfl)
    (h1 : (assignEach [tg] X.env).map (·.2) = [assign tg X.env] := by rfl) : SV X Γ γ (.Assign [tg] e pos) R := fun F as σ H D Rp E C =>
  ⟨_, ps_asg pe_wp pg_wp hs hw h1, he F as σ H Rp E _ fun v r g F' as' H' hp x R' i => by
    obtain ⟨Γ', ws, hG, hn⟩ := hg r g hp
    exact hG F' as' σ H' v R' (E.mono x) i _ fun σ' E' _ => C.nx _ _ _ _ _ _ hn x R' E'⟩
theorem sv_set {x : Str} {i : Nat} {k : NameKind} {p' : Pos} (hX : Cok X) (n : Nm X x i k) (he : EE X Γ γ e P) (hg : ∀ r g, P r g → R.nx (Γ.set i (some r)) g) (hs : swapsWith e (some (.Name x p')) pos.line X.env = pure false := by rfl) : SV X Γ γ (.Assign [.Name x p'] e pos) R := fun F as σ H D Rp E C =>
  ⟨_, ps_set (i := i) hX.nd n.ix n.loc pe_wp hs n.hf, he F as σ H Rp E _ fun v r g F' as' H' hp x R' i => C.nx _ _ _ _ _ _ (hg r g hp) x R' ((E.mono x).set i)⟩
/-- x = e, then the rest -/
theorem svs_set {x : Str} {i : Nat} {k : NameKind} {p' : Pos} (hX : Cok X) (n : Nm X x i k) (he : EV X Γ γ e r γ1) (h : SVs X (Γ.set i (some r)) γ1 rest R) (hs : swapsWith e (some (.Name x p')) pos.line X.env = pure false := by rfl) : SVs X Γ γ (.Assign [.Name x p'] e pos :: rest) R :=
  svs_cons (sv_set hX n he (fun r' g ⟨e1, e2⟩ => by subst e1 e2; exact h) hs)
theorem svs_setP {x : Str} {i : Nat} {k : NameKind} {p' : Pos} (hX : Cok X) (n : Nm X x i k) (he : EE X Γ γ e P) (h : ∀ r g, P r g → SVs X (Γ.set i (some r)) g rest R) (hs : swapsWith e (some (.Name x p')) pos.line X.env = pure false := by rfl) : SVs X Γ γ (.Assign [.Name x p'] e pos :: rest) R :=
  svs_cons (sv_set hX n he h hs)
theorem svs_asg {tg : Expr} (he : EV X Γ γ e r γ1) {ws : List Nat} (hG : GV X γ1 Γ tg r Γ' ws) (h : SVs X Γ' γ1 rest R) (hs : swapsWithSole [tg] e pos.line X.env = pure false := by rfl) (hw : swappedStores [tg] e X.env = pure none := by rfl)
    (h1 : (assignEach [tg] X.env).map (·.2) = [assign tg X.env] := by rfl) : SVs X Γ γ (.Assign [tg] e pos :: rest) R :=
  svs_cons (sv_asg he (fun r' g ⟨e1, e2⟩ => by subst e1 e2; exact ⟨Γ', ws, hG, h⟩) hs hw h1)
theorem svs_if {k : Bool} (hc : TV X Γ γ c k γ1) (h1 : k = true → SVs X Γ γ1 sa (R.then X rest)) (h2 : k = false → SVs X Γ γ1 sb (R.then X rest)) : SVs X Γ γ (.If c sa sb pos :: rest) R :=
  svs_cons fun F as σ H D Rp E C => ⟨_, ps_if pt_wp pss_wp pss_wp, hc F as σ H Rp E _ fun F1 as1 H1 x1 R1 => by
    cases k with
    | true => exact iteT (h1 rfl F1 as1 σ H1 D R1 (E.mono x1) (C.mono x1))
    | false => exact iteF (h2 rfl F1 as1 σ H1 D R1 (E.mono x1) (C.mono x1))⟩
theorem svs_ret (he : EE X Γ γ e P) (h : ∀ r g, P r g → R.rt r g) : SVs X Γ γ (.Return (some e) pos :: rest) R :=
  svs_cons fun F as σ H D Rp E C => ⟨_, ps_ret pe_wp, he F as σ H Rp E _ fun v r g F' as' H' hp x R' i => C.rt _ _ _ _ _ _ (h r g hp) x R' i⟩
theorem svs_retv (he : EV X Γ γ e r γ1) (h : R.rt r γ1) : SVs X Γ γ (.Return (some e) pos :: rest) R := svs_ret he fun r' g ⟨e1, e2⟩ => by subst e1 e2; exact h
theorem svs_retN (h : R.rt (.fz .none) γ) : SVs X Γ γ (.Return none pos :: rest) R :=
  svs_cons fun F as σ H D Rp E C => ⟨_, ps_retN, C.rt _ _ _ _ _ _ h (Ext.refl F as) Rp (itm_non.mpr rfl)⟩
theorem svs_expr (he : EE X Γ γ e P) (h : ∀ r g, P r g → SVs X Γ g rest R) (hs : swapsWith e none pos.line X.env = pure false := by rfl) : SVs X Γ γ (.Expr e pos :: rest) R :=
  svs_cons fun F as σ H D Rp E C => ⟨_, ps_expr pe_wp hs, he F as σ H Rp E _ fun v r g F' as' H' hp x R' i => C.nx _ _ _ _ _ _ (h r g hp) x R' (E.mono x)⟩
theorem svs_doc {x j p'} (h : SVs X Γ γ rest R) : SVs X Γ γ (.Expr (.Constant (.str x) j p') pos :: rest) R :=
  svs_cons fun F as σ H D Rp E C => ⟨_, ps_doc, C.nx _ _ _ _ _ _ h (Ext.refl F as) Rp E⟩
theorem svs_break (h : R.bk Γ γ) : SVs X Γ γ (.Break pos :: rest) R := svs_cons fun F as σ H D Rp E C => ⟨_, ps_break, C.bk _ _ _ _ _ _ h (Ext.refl F as) Rp E⟩
theorem svs_continue (h : R.ct Γ γ) : SVs X Γ γ (.Continue pos :: rest) R := svs_cons fun F as σ H D Rp E C => ⟨_, ps_continue, C.ct _ _ _ _ _ _ h (Ext.refl F as) Rp E⟩
/-- x op= e, ints -/
theorem svs_augI {x : Str} {i : Nat} {k : NameKind} {p' : Pos} {op : Operator} {f : Int → Int → Int} {n m : Int} (hX : Cok X) (nm : Nm X x i k) (hi : Γ[i]? = some (some (.fz (.int n)))) (hop : PIp X op (ipI f)) (he : EV X Γ γ e (.fz (.int m)) γ1)
    (h : SVs X (Γ.set i (some (.fz (.int (f n m))))) γ1 rest R) : SVs X Γ γ (.AugAssign (.Name x p') op e pos :: rest) R :=
  svs_cons fun F as σ H D Rp E C => by
    obtain ⟨v, hv, hr⟩ := E.2 i _ hi
    refine ⟨_, ps_aug (i := i) hX.nd nm.ix nm.loc pe_wp hop nm.hf, v, hv, he.go Rp E fun u F1 as1 H1 x1 R1 i1 => ?_⟩
    refine ⟨n, m, itm_int.mp hr, itm_int.mp i1, ?_⟩
    exact C.nx _ _ _ _ _ _ h x1 R1 ((E.mono x1).set (itm_int.mpr rfl))
/-- a weaker state ahead -/
theorem SVs.weak (h : SVs X Γ' γ rest R) (hl : Γ'.length = Γ.length) (w : ∀ (i : Nat) (x : Itm), Γ'[i]? = some (some x) → Γ[i]? = some (some x)) : SVs X Γ γ rest R := fun F as σ H D Rp E C => h F as σ H D Rp (E.weak hl w) C
theorem SVs.imp {R' : SE} (h : SVs X Γ γ rest R') (n : ∀ a b, R'.nx a b → R.nx a b) (t : ∀ a b, R'.rt a b → R.rt a b) (k : ∀ a b, R'.bk a b → R.bk a b) (l : ∀ a b, R'.ct a b → R.ct a b) : SVs X Γ γ rest R := fun F as σ H D Rp E C =>
  h F as σ H D Rp E ⟨fun _ _ _ _ _ _ q => C.nx _ _ _ _ _ _ (n _ _ q), fun _ _ _ _ _ _ q => C.rt _ _ _ _ _ _ (t _ _ q), fun _ _ _ _ _ _ q => C.bk _ _ _ _ _ _ (k _ _ q), fun _ _ _ _ _ _ q => C.ct _ _ _ _ _ _ (l _ _ q)⟩
/-- the cell c, a list of frozen things, is frozen; slot i holds it -/
theorem SVs.freeze {i c : Nat} {ds : List PyData} (hi : Γ[i]? = some (some (.cl c))) (hc : γ[c]? = some (.lst (ds.map Itm.fz))) (h : SVs X (Γ.set i (some (.fz (.list ds)))) (γ.set c .dead) rest R) : SVs X Γ γ rest R := fun F as σ H D Rp E C => by
  obtain ⟨v, hv, hr⟩ := E.2 i _ hi
  obtain ⟨a, ha, rfl⟩ := itm_cl.mp hr
  obtain ⟨a', h1, vs, h2, h3⟩ := Rp.cellAt hc
  rw [ha] at h1
  cases h1
  obtain ⟨R', sm⟩ := Rp.freeze hc (by simp) ha h2
  have x : Ext F as (upd F a (.lst vs)) as := ⟨sm, [], by simp⟩
  refine h _ as σ H D R' ?_ (C.mono x)
  have E2 := (E.mono x).set (i := i) (v := .ref a) (itm_lst.mpr ⟨a, vs, rfl, SqL.of upd_same, dpAll_mono sm (itms_fz h3)⟩)
  have es : σ.set i (some (.ref a)) = σ := by
    apply List.ext_getElem?
    intro j
    by_cases hj : i = j
    · subst hj
      rw [List.getElem?_set_self (List.getElem?_eq_some_iff.mp hv).1, hv]
    · rw [List.getElem?_set_ne hj]
  rw [es] at E2
  exact E2
end

/-! ### loops -/
def wpI (X : Cx) (tg it : Expr) : TI := fun σ H R => ∃ t, PI X tg it t ∧ t σ H R
/-- an iterator J that gives xs, while the cells are as stab says -/
def JOk (K : PySem.W.Frag) (F : Hp) (as : List Addr) (xs : List Itm) (stab : Cells → Prop) (J : It) : Prop :=
  ∀ i F' as' γ' H', Ext F as F' as' → Rep K F' as' γ' H' → stab γ' → (xs.length ≤ i → J.stop i H') ∧ (∀ x, xs[i]? = some x → J.go i H' ∧ ∀ v H'', J.yld i H' v H'' → ∃ F'', Ext F' as' F'' as' ∧ Rep K F'' as' γ' H'' ∧ ItmR K F'' as' x v)
def ITV (X : Cx) (Γ : Slots) (γ : Cells) (tg it : Expr) (xs : List Itm) (stab : Cells → Prop) (γ1 : Cells) : Prop :=
  ∀ F as σ H, Rep X.K F as γ H → EnvR X.K F as Γ σ → ∀ Q : It → Hp → Prop, (∀ J F' as' H', Ext F as F' as' → Rep X.K F' as' γ1 H' → JOk X.K F' as' xs stab J → Q J H') → wpI X tg it σ H Q
section
variable {X : Cx} {Γ Γ1 Γ' : Slots} {γ γ1 γ2 : Cells} {e c o it tg : Expr} {r : Itm} {pos : Pos} {R : SE} {rest sa sb body : List Stmt} {s : Stmt} {P : EPost} {xs : List Itm} {stab : Cells → Prop}
theorem pi_wp : PI X tg it (wpI X tg it) := ⟨fun pins s σ H R I ⟨t, h, q⟩ => h.run pins s σ H R I q⟩
theorem svs_for (hX : Cok X) (hp : PassesOwn (model X.prog X.w) X.A X.env X.xe) (hi : ITV X Γ γ tg it xs stab γ1) (Inv : Nat → Slots → Cells → Prop) (h0 : Inv 0 Γ γ1)
    (hst : ∀ i Γ' γ', i ≤ xs.length → Inv i Γ' γ' → stab γ')
    (hb : ∀ i x Γ' γ', xs[i]? = some x → Inv i Γ' γ' → ∃ Γ2 ws, GV X γ' Γ' tg x Γ2 ws ∧ SVs X Γ2 γ' body { nx := Inv (i + 1), ct := Inv (i + 1), bk := fun a b => SVs X a b rest R, rt := R.rt })
    (hd : ∀ Γ' γ', Inv xs.length Γ' γ' → SVs X Γ' γ' rest R)
    (hs : ∀ x, foldedSetIterable it X.env x = pure x := by intro _; rfl) : SVs X Γ γ (.For tg it body [] pos :: rest) R := by
  refine svs_cons fun F as σ H D Rp E C => ⟨_, ps_for hp hX.calm pi_wp pg_wp pss_wp hs, hi F as σ H Rp E _ fun J F1 as1 H1 x1 R1 hJ => ?_⟩
  refine ⟨fun i m σ' H' => m = xs.length - i ∧ i ≤ xs.length ∧ ∃ Γ' γ' F' as', Ext F1 as1 F' as' ∧ Rep X.K F' as' γ' H' ∧ EnvR X.K F' as' Γ' σ' ∧ Inv i Γ' γ', ⟨xs.length, by simp, Nat.zero_le _, Γ, γ1, F1, as1, Ext.refl _ _, R1, E.mono x1, h0⟩, ?_⟩
  rintro i m σ' H' ⟨rfl, hle, Γ', γ', F', as', x', R', E', inv⟩
  obtain ⟨j1, j2⟩ := hJ i F' as' γ' H' x' R' (hst i Γ' γ' hle inv)
  by_cases hlt : i < xs.length
  · obtain ⟨g1, g2⟩ := j2 xs[i] (List.getElem?_eq_getElem hlt)
    refine .inr ⟨g1, fun σ' H' => ∃ Γ' γ' F' as', Ext F1 as1 F' as' ∧ Rep X.K F' as' γ' H' ∧ EnvR X.K F' as' Γ' σ' ∧ Inv (i + 1) Γ' γ', fun σ' H' q => ⟨xs.length - (i + 1), by omega, rfl, hlt, q⟩, fun v H'' y => ?_⟩
    obtain ⟨F'', x'', R'', i''⟩ := g2 v H'' y
    obtain ⟨Γ2, ws, hG, hB⟩ := hb i xs[i] Γ' γ' (List.getElem?_eq_getElem hlt) inv
    refine hG F'' as' σ' H'' v R'' (E'.mono x'') i'' _ fun σ2 E2 _ => ?_
    have xx := (x1.trans x').trans x''
    refine hB F'' as' σ2 H'' _ R'' E2 ⟨fun Γ3 γ3 F3 as3 σ3 H3 n x3 R3 E3 => ⟨Γ3, γ3, F3, as3, (x'.trans x'').trans x3, R3, E3, n⟩, fun a b c d e f g x3 => (C.mono xx).rt a b c d e f g x3,
      fun Γ3 γ3 F3 as3 σ3 H3 n x3 R3 E3 => (C.mono xx).nx Γ3 γ3 F3 as3 σ3 H3 n x3 R3 E3, fun Γ3 γ3 F3 as3 σ3 H3 n x3 R3 E3 => ⟨Γ3, γ3, F3, as3, (x'.trans x'').trans x3, R3, E3, n⟩⟩
  · have e : i = xs.length := by omega
    subst e
    exact .inl ⟨j1 (Nat.le_refl _), C.nx Γ' γ' F' as' σ' H' (hd Γ' γ' inv) (x1.trans x') R' E'⟩
/-- over a list of data: frozen, or a cell -/
theorem itv_list {ds : List PyData} (h : EV X Γ γ it r γ1) (hr : Rdb γ1 r (.list ds)) : ITV X Γ γ tg it (ds.map Itm.fz) (fun g => Rdb g r (.list ds)) γ1 := fun F as σ H R E Q q => by
  refine ⟨_, pi_list pe_wp, h.go R E fun v F1 as1 H1 x1 R1 i1 => ?_⟩
  obtain ⟨a, vs, rfl, h1, h2⟩ := hr.list R1 i1
  refine ⟨a, rfl, ⟨vs, h1⟩, q _ F1 as1 H1 x1 R1 fun i F' as' γ' H' x' R' st => ?_⟩
  obtain ⟨a', vs', e, h1', h2'⟩ := st.list R' (itm_mono x' i1)
  cases e
  refine ⟨fun hl => ⟨vs', h1', by rw [dpAll_length h2']; simpa using hl⟩, fun x hx => ?_⟩
  rw [List.getElem?_map] at hx
  cases hd : ds[i]? with
  | none => rw [hd] at hx; cases hx
  | some d =>
    rw [hd] at hx
    cases hx
    obtain ⟨u, hu, hdp⟩ := dpAll_get h2' hd
    refine ⟨⟨vs', u, h1', hu⟩, fun v H'' y => ?_⟩
    obtain ⟨rfl, y⟩ := y
    cases hu.symm.trans (y vs' h1')
    exact ⟨F', Ext.refl _ _, R', .fz hdp⟩
theorem itv_tup {ds : List PyData} (h : EV X Γ γ it (.fz (.tuple ds)) γ1) : ITV X Γ γ tg it (ds.map Itm.fz) (fun _ => True) γ1 := fun F as σ H R E Q q => by
  refine ⟨_, pi_tup pe_wp, h.go R E fun v F1 as1 H1 x1 R1 i1 => ?_⟩
  obtain ⟨a, vs, rfl, h1, h2⟩ := itm_tup.mp i1
  refine ⟨a, rfl, ⟨vs, same_t R1.fr h1⟩, q _ F1 as1 H1 x1 R1 fun i F' as' γ' H' x' R' st => ?_⟩
  have h1' : SqT X.K H' a vs := same_t R'.fr (same_t x'.1 h1)
  have h2' := dpAll_mono x'.1 h2
  refine ⟨fun hl => ⟨vs, h1', by rw [dpAll_length h2']; simpa using hl⟩, fun x hx => ?_⟩
  rw [List.getElem?_map] at hx
  cases hd : ds[i]? with
  | none => rw [hd] at hx; cases hx
  | some d =>
    rw [hd] at hx
    cases hx
    obtain ⟨u, hu, hdp⟩ := dpAll_get h2' hd
    refine ⟨⟨vs, u, h1', hu⟩, fun v H'' y => ?_⟩
    obtain ⟨rfl, y⟩ := y
    cases hu.symm.trans (y vs h1')
    exact ⟨F', Ext.refl _ _, R', .fz hdp⟩
def rngL (lo : Int) (n : Nat) : List Itm := (List.range n).map fun (i : Nat) => Itm.fz (.int (lo + (i : Int)))
theorem rngL_length (lo : Int) (n : Nat) : (rngL lo n).length = n := by simp [rngL]
theorem rngL_get {lo : Int} {n i : Nat} {x : Itm} (h : (rngL lo n)[i]? = some x) : i < n ∧ x = .fz (.int (lo + i)) := by
  unfold rngL at h
  rw [List.getElem?_map] at h
  cases hd : (List.range n)[i]? with
  | none => rw [hd] at h; cases h
  | some d =>
    rw [hd] at h
    obtain ⟨h1, h2⟩ := List.getElem?_eq_some_iff.mp hd
    simp at h1 h2
    subst h2
    exact ⟨h1, (Option.some.inj h).symm⟩
theorem jok_range {K : PySem.W.Frag} {F : Hp} {as : List Addr} {lo : Int} {n : Nat} : JOk K F as (rngL lo n) (fun _ => True) (Itr lo n) := fun i F' as' γ' H' x' R' st =>
  ⟨fun hl => by rw [rngL_length] at hl; exact hl, fun x hx => by
    obtain ⟨h1, rfl⟩ := rngL_get hx
    refine ⟨h1, fun v H'' y => ?_⟩
    obtain ⟨rfl, rfl⟩ := y
    exact ⟨F', Ext.refl _ _, R', itm_int.mpr rfl⟩⟩
theorem itv_range1 {a : Expr} {p : Pos} {n : Int} (b : Bt X "range") (h : EV X Γ γ a (.fz (.int n)) γ1) (hn : n < 2 ^ 62) (hn' : -(2 ^ 62) ≤ n) (hs : starEach [a] X.env = [(false, eval a X.env)] := by rfl) : ITV X Γ γ tg (.Call (.Name "range" p) [a] [] pos) (rngL 0 n.toNat) (fun _ => True) γ1 := fun F as σ H R E Q q =>
  ⟨_, pi_range1 b.gl b.mg (pa_cons pe_wp pa_nil hs) hs, h.go R E fun v F1 as1 H1 x1 R1 i1 => ⟨n, by rw [itm_int.mp i1], hn', hn, q _ F1 as1 H1 x1 R1 jok_range⟩⟩
theorem itv_range2 {a b : Expr} {p : Pos} {lo n : Int} (bt : Bt X "range") (h : EV X Γ γ a (.fz (.int lo)) γ1) (h' : EV X Γ γ1 b (.fz (.int n)) γ2) (hn : -(2 ^ 62) ≤ lo ∧ lo < 2 ^ 62 ∧ -(2 ^ 62) ≤ n ∧ n < 2 ^ 62) (hs : starEach [a, b] X.env = [(false, eval a X.env), (false, eval b X.env)] := by rfl) (hs2 : starEach [b] X.env = [(false, eval b X.env)] := by rfl) :
    ITV X Γ γ tg (.Call (.Name "range" p) [a, b] [] pos) (rngL lo (n - lo).toNat) (fun _ => True) γ2 := fun F as σ H R E Q q =>
  ⟨_, pi_range2 bt.gl bt.mg (pa_cons pe_wp (pa_cons pe_wp pa_nil hs2) (by rw [hs, hs2])) hs hs2, h.go R E fun v F1 as1 H1 x1 R1 i1 => h'.go R1 (E.mono x1) fun u F2 as2 H2 x2 R2 i2 => ⟨lo, n, by rw [itm_int.mp i1, itm_int.mp i2], hn, q _ F2 as2 H2 (x1.trans x2) R2 jok_range⟩⟩
/-- while -/
theorem svs_while (hp : PassesOwn (model X.prog X.w) X.A X.env X.xe) (Inv : Nat → Slots → Cells → Prop) (m0 : Nat) (h0 : Inv m0 Γ γ)
    (hb : ∀ m Γ' γ', Inv m Γ' γ' → ∃ k γ2, TV X Γ' γ' c k γ2 ∧ (k = true → SVs X Γ' γ2 body { nx := fun a b => ∃ m', m' < m ∧ Inv m' a b, ct := fun a b => ∃ m', m' < m ∧ Inv m' a b, bk := fun a b => SVs X a b rest R, rt := R.rt }) ∧ (k = false → SVs X Γ' γ2 rest R)) :
    SVs X Γ γ (.While c body [] pos :: rest) R := by
  refine svs_cons fun F as σ H D Rp E C => ⟨_, ps_while hp pt_wp pss_wp, ?_⟩
  refine ⟨fun m σ' H' => ∃ Γ' γ' F' as', Ext F as F' as' ∧ Rep X.K F' as' γ' H' ∧ EnvR X.K F' as' Γ' σ' ∧ Inv m Γ' γ', ⟨m0, Γ, γ, F, as, Ext.refl _ _, Rp, E, h0⟩, ?_⟩
  rintro m σ' H' ⟨Γ', γ', F', as', x', R', E', inv⟩
  obtain ⟨k, γ2, ht, hy, hn⟩ := hb m Γ' γ' inv
  refine ht F' as' σ' H' R' E' _ fun F1 as1 H1 x1 R1 => ?_
  have xx := x'.trans x1
  cases k with
  | true =>
    refine iteT ⟨fun σ3 H3 => ∃ m', m' < m ∧ ∃ Γ' γ' F' as', Ext F as F' as' ∧ Rep X.K F' as' γ' H3 ∧ EnvR X.K F' as' Γ' σ3 ∧ Inv m' Γ' γ', fun σ3 H3 q => q, ?_⟩
    refine hy rfl F1 as1 σ' H1 _ R1 (E'.mono x1) ⟨fun Γ3 γ3 F3 as3 σ3 H3 n x3 R3 E3 => ?_, fun a b c d e f g x3 => (C.mono xx).rt a b c d e f g x3, fun Γ3 γ3 F3 as3 σ3 H3 n x3 R3 E3 => (C.mono xx).nx Γ3 γ3 F3 as3 σ3 H3 n x3 R3 E3, fun Γ3 γ3 F3 as3 σ3 H3 n x3 R3 E3 => ?_⟩
    · obtain ⟨m', hm, n⟩ := n
      exact ⟨m', hm, Γ3, γ3, F3, as3, xx.trans x3, R3, E3, n⟩
    · obtain ⟨m', hm, n⟩ := n
      exact ⟨m', hm, Γ3, γ3, F3, as3, xx.trans x3, R3, E3, n⟩
  | false => exact iteF (C.nx _ _ _ _ _ _ (hn rfl) xx R1 (E'.mono x1))
end
end PL

namespace PL
open PySem PySem.Spec PyProof.Rows L2

/-! ### items below n -/
inductive ILt (n : Nat) : Itm → Prop
  | fz (d : PyData) : ILt n (.fz d)
  | cl {c : Nat} (h : c < n) : ILt n (.cl c)
  | tp {xs : List Itm} (h : ∀ x ∈ xs, ILt n x) : ILt n (.tp xs)
def CLt (n : Nat) : Cell → Prop
  | .lst xs => ∀ x ∈ xs, ILt n x
  | .dic kvs => ∀ p ∈ kvs, ILt n p.2
  | .dit kvs => ∀ p ∈ kvs, ILt n p.2
  | .ins _ fs => ∀ p ∈ fs, ILt n p.2
  | .dead => True
def Clo (γ : Cells) : Prop := ∀ o ∈ γ, CLt γ.length o
section
variable {K : PySem.W.Frag} {F : Hp} {as : List Addr} {n : Nat}
mutual
theorem itm_lt : ∀ {x : Itm} {v : V}, ItmR K F as x v → ILt as.length x
  | _, _, .fz _ => .fz _
  | _, _, .cl h => .cl (List.getElem?_eq_some_iff.mp h).1
  | _, _, .tp _ r => .tp (itms_lt r)
theorem itms_lt : ∀ {xs : List Itm} {vs : List V}, ItmsR K F as xs vs → ∀ x ∈ xs, ILt as.length x
  | _, _, .nil, _, h => by simp at h
  | _, _, .cons h r, x, hm => by
    rcases List.mem_cons.mp hm with e | hm
    · rw [e]; exact itm_lt h
    · exact itms_lt r x hm
end
theorem paired_lt {α : Type} : ∀ {xs : List (α × Itm)} {ys : List (α × V)}, Paired (fun (p : α × Itm) (q : α × V) => p.1 = q.1 ∧ ItmR K F as p.2 q.2) xs ys → ∀ p ∈ xs, ILt as.length p.2
  | _, _, .nil, _, h => by simp at h
  | _, _, .cons h r, x, hm => by
    rcases List.mem_cons.mp hm with e | hm
    · rw [e]; exact itm_lt h.2
    · exact paired_lt r x hm
theorem cell_lt {H : Hp} {a : Addr} {o : Cell} (h : CellR K F as H a o) : CLt as.length o := by
  cases o with
  | lst xs => obtain ⟨vs, h1, h2⟩ := h; exact itms_lt h2
  | dic xs => obtain ⟨vs, h1, h2⟩ := h; exact paired_lt h2
  | dit xs => obtain ⟨vs, h1, h2⟩ := h; exact paired_lt h2
  | ins C xs => obtain ⟨dx, vs, h1, h2⟩ := h; exact paired_lt h2
  | dead => trivial
theorem Rep.clo {γ : Cells} {H : Hp} (R : Rep K F as γ H) : Clo γ := fun o ho => by
  obtain ⟨c, hc⟩ := List.getElem?_of_mem ho
  obtain ⟨a, h1, h2⟩ := R.cellAt hc
  rw [← R.len]
  exact cell_lt h2
mutual
theorem itm_cut : ∀ {x : Itm} {v : V}, ItmR K F as x v → ILt n x → ItmR K F (as.take n) x v
  | _, _, .fz h, _ => .fz h
  | _, _, .cl h, l => by
    cases l with
    | cl l => exact .cl (by rw [List.getElem?_take_of_lt l]; exact h)
  | _, _, .tp h r, l => by
    cases l with
    | tp l => exact .tp h (itms_cut r l)
theorem itms_cut : ∀ {xs : List Itm} {vs : List V}, ItmsR K F as xs vs → (∀ x ∈ xs, ILt n x) → ItmsR K F (as.take n) xs vs
  | _, _, .nil, _ => .nil
  | _, _, .cons h r, l => .cons (itm_cut h (l _ List.mem_cons_self)) (itms_cut r fun x hx => l x (List.mem_cons_of_mem _ hx))
end
theorem paired_cut {α : Type} : ∀ {xs : List (α × Itm)} {ys : List (α × V)}, Paired (fun (p : α × Itm) (q : α × V) => p.1 = q.1 ∧ ItmR K F as p.2 q.2) xs ys → (∀ p ∈ xs, ILt n p.2) → Paired (fun (p : α × Itm) (q : α × V) => p.1 = q.1 ∧ ItmR K F (as.take n) p.2 q.2) xs ys
  | _, _, .nil, _ => .nil
  | _, _, .cons h r, l => .cons ⟨h.1, itm_cut h.2 (l _ List.mem_cons_self)⟩ (paired_cut r fun x hx => l x (List.mem_cons_of_mem _ hx))
theorem cell_cut {H : Hp} {a : Addr} {o : Cell} (h : CellR K F as H a o) (l : CLt n o) : CellR K F (as.take n) H a o := by
  cases o with
  | lst xs => obtain ⟨vs, h1, h2⟩ := h; exact ⟨vs, h1, itms_cut h2 l⟩
  | dic xs => obtain ⟨vs, h1, h2⟩ := h; exact ⟨vs, h1, paired_cut h2 l⟩
  | dit xs => obtain ⟨vs, h1, h2⟩ := h; exact ⟨vs, h1, paired_cut h2 l⟩
  | ins C xs => obtain ⟨dx, vs, h1, h2⟩ := h; exact ⟨dx, vs, h1, paired_cut h2 l⟩
  | dead => trivial
/-- the last cells are forgotten -/
theorem Rep.cut {γ junk : Cells} {H : Hp} (R : Rep K F as (γ ++ junk) H) (c : Clo γ) : Rep K F (as.take γ.length) γ H := by
  have hl : γ.length ≤ as.length := by rw [R.len]; simp
  refine ⟨R.fr, (List.take_sublist _ _).nodup R.nd, by simp [Nat.min_eq_left hl], fun a ha => R.th a (List.mem_of_mem_take ha), fun i o h => ?_⟩
  have hi := (List.getElem?_eq_some_iff.mp h).1
  obtain ⟨a, h1, h2, h3⟩ := R.at_ i o (by rw [List.getElem?_append_left hi]; exact h)
  exact ⟨a, by rw [List.getElem?_take_of_lt hi]; exact h1, h2, cell_cut h3 (c o (List.mem_of_getElem? h))⟩
end

/-! ### what a def promises -/
abbrev PSpec := List Itm → Cells → EPost → Prop
/-- at a def's end: the cells without the last ones, which nothing names -/
def Fin (n : Nat) (P : EPost) (r : Itm) (g : Cells) : Prop := ∃ g' junk, g = g' ++ junk ∧ n ≤ g'.length ∧ Clo g' ∧ ILt g'.length r ∧ P r g'
def spPL (K : PySem.W.Frag) (S : PSpec) : Sp := fun vs H Q _ => ∃ F as γ args P, Rep K F as γ H ∧ ItmsR K F as args vs ∧ S args γ P ∧
  ∀ v r γ' F' as' H', P r γ' → Ext F as F' as' → Rep K F' as' γ' H' → ItmR K F' as' r v → Q v H'
structure FnD (P : Program) (w : World) (K : PySem.W.Frag) (mg : Str → Option Value) (base : Heap) (x : Str) (k : Nat) (S : PSpec) : Prop where
  ex : ∃ f fd ps, FnOk P w K mg base CX0 k f fd ps (spPL K S) ∧ mg x = some (.ref f) ∧ PySem.W.keepIn K (.ref f) = true ∧ Binds K fd ps []
/-- the def x may be called here -/
structure Cal (X : Cx) (x : Str) (S : PSpec) : Prop where
  ex : ∃ k, FnD X.prog X.w X.K X.mg X.base x k S ∧ Room k X.A
  gl : Gl X x
  d1 : (x == ("__debug__" : Str)) = false
section
variable {X : Cx} {Γ : Slots} {γ γ1 : Cells} {e : Expr} {es : List Expr} {rs : List Itm} {r : Itm} {pos p : Pos} {x : Str} {S : PSpec} {P : EPost}
theorem ee_call (h : Cal X x S) (ha : AV X Γ γ (e :: es) rs γ1) (hs : S rs γ1 P) (he : starEach (e :: es) X.env = (false, eval e X.env) :: starEach es X.env := by rfl) (hpl : (backTo pos (starEach es X.env)).any (·.1) = false := by rfl) :
    EE X Γ γ (.Call (.Name x p) (e :: es) [] pos) P := fun F as σ H R E Q q => by
  obtain ⟨k, ⟨f, fd, ps, G, hm, hk, hb⟩, hr⟩ := h.ex
  refine ⟨_, pe_call G hr h.gl hm hk hb .nil pass0 pa_wp h.d1 he hpl, ?_⟩
  refine ha.go R E fun vs F1 as1 H1 x1 R1 i1 => ?_
  show spPL X.K S (vs ++ []) H1 Q E0
  rw [List.append_nil]
  exact ⟨F1, as1, γ1, rs, P, R1, i1, hs, fun v r g F2 as2 H2 hp x2 R2 i2 => q v r g F2 as2 H2 hp (x1.trans x2) R2 i2⟩
theorem ev_call {γ2 : Cells} (h : Cal X x S) (ha : AV X Γ γ (e :: es) rs γ1) (hs : S rs γ1 fun r' g => r' = r ∧ g = γ2) (he : starEach (e :: es) X.env = (false, eval e X.env) :: starEach es X.env := by rfl) (hpl : (backTo pos (starEach es X.env)).any (·.1) = false := by rfl) :
    EV X Γ γ (.Call (.Name x p) (e :: es) [] pos) r γ2 := ee_call h ha hs he hpl
end
/-- the context of a def's body -/
structure Ctx (X : Cx) (P : Program) (w : World) (K : PySem.W.Frag) (mg : Str → Option Value) (base : Heap) (N : List Str) (sc : Scope) (k : Nat) : Prop where
  prog : X.prog = P
  w : X.w = w
  K : X.K = K
  mg : X.mg = mg
  base : X.base = base
  N : X.N = N
  sc : X.env.scope = sc
  fn : X.fn = fun _ => true
  ok : Cok X
  room : Room k X.A
  po : PassesOwn (model X.prog X.w) X.A X.env X.xe
section
variable {P : Program} {w : World} {K : PySem.W.Frag} {mg : Str → Option Value} {base : Heap} {N : List Str} {sc : Scope} {X : Cx} {x : Str} {k : Nat} {S : PSpec}
theorem Ctx.nm (c : Ctx X P w K mg base N sc k) (i : Nat) (kd : NameKind) (h1 : N[i]? = some x) (h2 : sc.names.lookup x = some kd) (hv : kd = .local ∨ kd = .cell) (d1 : (x == ("__debug__" : Str)) = false) (d2 : (x == ("__classdict__" : Str)) = false) : Nm X x i kd :=
  ⟨⟨by rw [c.N]; exact h1, by rw [c.sc]; exact h2, hv, d1, d2⟩, .inl (by rw [c.fn])⟩
theorem Ctx.bt (c : Ctx X P w K mg base N sc k) (h1 : sc.names.lookup x = some .globalImplicit) (h2 : mg x = none) : Bt X x := ⟨by show X.env.scope.names.lookup x = _; rw [c.sc]; exact h1, by rw [c.mg]; exact h2⟩
theorem Ctx.cal {j : Nat} (c : Ctx X P w K mg base N sc k) (F : FnD P w K mg base x j S) (hj : j ≤ k) (h1 : sc.names.lookup x = some .globalImplicit) (d1 : (x == ("__debug__" : Str)) = false) : Cal X x S :=
  ⟨⟨j, by rw [c.prog, c.w, c.K, c.mg, c.base]; exact F, c.room.mono hj⟩, by show X.env.scope.names.lookup x = _; rw [c.sc]; exact h1, d1⟩
def slots0 (N : List Str) (args : List Itm) : Slots := args.map some ++ List.replicate (N.length - args.length) none
theorem env_start {F : Hp} {as : List Addr} {args : List Itm} {vs : List V} (h : ItmsR K F as args vs) : EnvR K F as (slots0 N args) (start N vs) := by
  have l := itms_length h
  refine ⟨by simp [slots0, L2.start, l], fun i x hx => ?_⟩
  unfold slots0 at hx
  by_cases hi : i < args.length
  · rw [List.getElem?_append_left (by simpa using hi), List.getElem?_map] at hx
    cases hd : args[i]? with
    | none => rw [hd] at hx; cases hx
    | some y =>
      rw [hd] at hx
      obtain rfl : y = x := by simpa using hx
      obtain ⟨v, h1, h2⟩ := itms_get h hd
      refine ⟨v, ?_, h2⟩
      unfold L2.start
      rw [List.getElem?_append_left (by simp; omega), List.getElem?_map, h1]
      rfl
  · rw [List.getElem?_append_right (by simp; omega)] at hx
    have := List.mem_of_getElem? hx
    simp at this
/-- THE RULE for a def -/
theorem def_ok {qual : Str} {st : Stmt} {f : Addr} {fd : FuncData} {ps : List Str} (F : Fun K x qual st f fd) (SC : FnScope N ps (defScope st)) (hm : mg x = some (.ref f)) (hb : Binds K fd ps [])
    (len : ∀ args γ P, S args γ P → args.length = ps.length)
    (body : ∀ X : Cx, Ctx X P w K mg base N (defScope st) k → ∀ args γ Po, Clo γ → S args γ Po → SVs X (slots0 N args) γ (defBody st) { nx := fun _ g => Fin γ.length Po (.fz .none) g, rt := Fin γ.length Po }) : FnD P w K mg base x (k + 1) S := by
  refine ⟨f, fd, ps, F.ok SC (fun vs H Q E h => ?_) (fun cdv A outer s H vs Q E hr h => ?_), hm, F.kp, hb⟩
  · obtain ⟨F, as, γ, args, Po, R, i, hs, _⟩ := h
    rw [← itms_length i]
    exact len _ _ _ hs
  · obtain ⟨F', as, γ, args, Po, R, i, hs, q⟩ := h
    refine ⟨_, pss_wp, ?_⟩
    have c : Ctx (cxOf CX0 P w K mg base N qual (defScope st) f cdv A outer s H E).nox P w K mg base N (defScope st) k :=
      ⟨rfl, rfl, rfl, rfl, rfl, rfl, rfl, rfl, ⟨rfl, SC.nd, SC.kind, by have := hr.un; show (A.deeper (envOfC qual (defScope st) s.heap.objs.size f cdv)).units + 100 < cLine; omega⟩, hr, PassesOwn.never⟩
    refine body _ c args γ Po R.clo hs F' as (start N vs) H _ R (env_start i) ⟨fun Γ' g F1 as1 σ1 H1 hn x1 R1 E1 => ?_, fun r g F1 as1 v H1 hn x1 R1 i1 => ?_, fun _ _ _ _ _ _ z => z.elim, fun _ _ _ _ _ _ z => z.elim⟩
    · obtain ⟨g', junk, rfl, hl, hc, hi, hp⟩ := hn
      refine q _ _ g' F1 (as1.take g'.length) H1 hp ⟨x1.1, ?_⟩ (R1.cut hc) (itm_non.mpr rfl)
      obtain ⟨_, t, rfl⟩ := x1
      rw [List.take_append, List.take_of_length_le (by rw [R.len]; exact hl)]
      exact ⟨_, rfl⟩
    · obtain ⟨g', junk, rfl, hl, hc, hi, hp⟩ := hn
      refine q _ _ g' F1 (as1.take g'.length) H1 hp ⟨x1.1, ?_⟩ (R1.cut hc) (itm_cut i1 hi)
      obtain ⟨_, t, rfl⟩ := x1
      rw [List.take_append, List.take_of_length_le (by rw [R.len]; exact hl)]
      exact ⟨_, rfl⟩
theorem clo_set {γ : Cells} {c : Nat} {o : Cell} (h : Clo γ) (ho : CLt γ.length o) : Clo (γ.set c o) := fun q hq => by
  rw [List.length_set]
  rcases List.mem_or_eq_of_mem_set hq with hq | e
  · exact h q hq
  · rw [e]; exact ho
theorem clt_fz {n : Nat} (ds : List PyData) : CLt n (.lst (ds.map Itm.fz)) := fun x hx => by
  obtain ⟨d, _, rfl⟩ := List.mem_map.mp hx
  exact .fz d
theorem fin_same {P : EPost} {d : PyData} {γ : Cells} (h : Clo γ) (hp : P (.fz d) γ) : Fin γ.length P (.fz d) γ := ⟨γ, [], by simp, Nat.le_refl _, h, .fz d, hp⟩
theorem fin_junk {P : EPost} {d : PyData} {γ junk : Cells} (h : Clo γ) (hp : P (.fz d) γ) : Fin γ.length P (.fz d) (γ ++ junk) := ⟨γ, junk, rfl, Nat.le_refl _, h, .fz d, hp⟩
theorem fin_of {P : EPost} {d : PyData} {γ g g' junk : Cells} (e : g = g' ++ junk) (hl : γ.length = g'.length) (h : Clo g') (hp : P (.fz d) g') : Fin γ.length P (.fz d) g := ⟨g', junk, e, Nat.le_of_eq hl, h, .fz d, hp⟩
end
end PL

namespace PL
open PySem PySem.Spec PyProof.Rows L2

/-! ### own rules at the value level -/
section
variable {X : Cx}
/-- list + list, both only read -/
def rCatS (K : PySem.W.Frag) : R2 := fun x y H Q => ∃ l b xs zs, x = .ref l ∧ y = .ref b ∧ SqL K H l xs ∧ SqL K H b zs ∧ xs.length + zs.length ≤ sizeLine ∧ ∀ p, H p = none → Q (.ref p) (upd H p (.lst (xs ++ zs)))
theorem op_catS : OpR X (binaryOp .Add) (rCatS X.K) := by
  intro pins s σ H x y v u Q I rx ry h
  obtain ⟨l, b, xs, zs, rfl, rfl, hH, hB, hz, q⟩ := h
  cases rx
  cases ry
  obtain ⟨its, r, pl, _⟩ := I.list hH
  obtain ⟨its2, r2, pl2, _⟩ := I.list hB
  obtain ⟨⟨cls, dd, data, sl⟩, n, ho, hc, hd0, hd⟩ := pl
  obtain ⟨⟨cls2, dd2, data2, sl2⟩, n2, ho2, hc2, hd02, hd2⟩ := pl2
  simp only at hc hd hc2 hd2
  subst hc hd hc2 hd2
  have l1 := r.length
  have l2 := r2.length
  have e : its.toArray ++ its2.toArray = (its ++ its2).toArray := by simp
  refine concat_meets ⟨_, ho, rfl⟩ ⟨_, ho2, rfl⟩ noFill_list_add seq_list_add PySem.F.slot_list_add PySem.F.entry_list_add (PySem.F.args_list_add_2 _ _) (PyProof.Rows.list_addW l b its.toArray its2.toArray n n2 dd dd2 sl sl2 (by simp; omega)) ⟨ho, ho2, ?_⟩
  rw [e]
  exact ⟨.ref _, _, I.lnew (t' := s.toks) (r.append r2) (by rw [List.length_append]; omega), rfl, q _ I.fresh⟩
/-- any, all of a list of ints -/
theorem truth_ints {prog : Program} {w : World} {A : Around} {ns : List Int} {its : List Value} (e : IntsAre its ns) :
    TruthOf prog w A (fun i v => its.toArray[i]? = some v) (fun i => (ns.map (· != 0)).getD i false) := fun i v s Q E hv hq => by
  have hv' : its[i]? = some v := by simpa using hv
  have key : ∀ (its : List Value) (ns : List Int) (i : Nat), IntsAre its ns → its[i]? = some v → ∃ n t, v = Value.int n t ∧ ns[i]? = some n := by
    intro its ns i e
    induction e generalizing i with
    | nil => intro h; simp at h
    | cons n t r ih =>
      intro h
      cases i with
      | zero => simp at h; exact ⟨n, t, h.symm, by simp⟩
      | succ i => simp at h; obtain ⟨m, t', h1, h2⟩ := ih i h; exact ⟨m, t', h1, by simpa using h2⟩
  obtain ⟨n, t, rfl, hn⟩ := key its ns i e hv'
  have hg : (ns.map (· != 0)).getD i false = (n != 0) := by rw [List.getD_eq_getElem?_getD, List.getElem?_map, hn] <;> rfl
  have hq' : Q ((ns.map (· != 0)).getD i false) s := hq
  rw [hg] at hq'
  exact PySem.P.truthy_int hq'
def rAnyI (K : PySem.W.Frag) : List V → Hp → VK → Prop := fun vs H Q => ∃ (a : Addr) (ns : List Int), vs = [V.ref a] ∧ SqL K H a (ns.map V.int) ∧ Q (.bl (ns.any (· != 0))) H
theorem cr_anyI (hc : X.calm = true) : CallR X (.builtin "any") (rAnyI X.K) := by
  intro pins s σ H vs us Q I r h
  obtain ⟨a, bs, rfl, hs, q⟩ := h
  obtain ⟨its, rv, hl, _⟩ := I.list hs
  rw [Vals.ref1 r]
  have hb := rv.ints
  refine call_any_walk (iter_any hl.isList fun s₂ e2 st hne => ?_)
  subst e2
  refine ⟨_, _, _, _, _, _, _, rfl, Walks.list (A := X.A.in1) (I.ok.hd hc) _ a hne its.toArray, st, truth_ints hb, fun h' tk hk => ?_⟩
  refine ⟨.bl _, H, I.kept fun b o eo => hk b o (fun hmem => ?_) (Heap.get?_push_of_some _ eo), ?_, q⟩
  · rcases List.mem_cons.mp hmem with e1 | hmem
    · exact absurd (e1 ▸ Heap.lt_size eo) (Nat.lt_irrefl _)
    · cases hmem
  · show Value.bool _ = Value.bool _
    have e : its.toArray.size = (bs.map (· != 0)).length := by rw [List.size_toArray, List.length_map, hb.length]
    rw [e, L2.any_range, List.any_map]
    rfl
/-- o[i] by values, a list -/
theorem get_list : PGet X (fun x y H Q => ∃ (p : Addr) (xs : List V) (j : Nat) (v : V), x = .ref p ∧ y = .int j ∧ SqL X.K H p xs ∧ xs[j]? = some v ∧ Q v H) := by
  intro pins s σ H x y v u Q I rx ry h
  obtain ⟨p, xs, j, z, rfl, rfl, hq, he, q⟩ := h
  cases rx
  obtain ⟨t, rfl⟩ := ry
  obtain ⟨its, r, pl, hz⟩ := I.list hq
  obtain ⟨w, ew, rw'⟩ := r.get he
  have hl := r.length
  have hn := line63
  have hj := (List.getElem?_eq_some_iff.mp he).1
  exact wpAny_getItem_list pl.isList (by omega) (by omega) (by simpa using ew) ⟨z, H, I, rw', q⟩
end

/-! ### built-in calls -/
section
variable {X : Cx} {Γ : Slots} {γ γ1 γ2 γ3 : Cells} {e a b o c : Expr} {es : List Expr} {rs : List Itm} {r ra rb : Itm} {pos p : Pos} {x : Str} {R : SE} {rest : List Stmt} {k : Bool} {i j n : Int} {ds es' : List PyData} {d : PyData}
theorem ev_callB {id : String} {t : List V → Hp → VK → Prop} (hc : CallR X (.builtin id) t) (bt : Bt X x) (hv : bootBuiltins x = some (.builtin id)) (ha : AV X Γ γ (e :: es) rs γ1)
    (hr : ∀ F as H vs, Rep X.K F as γ1 H → ItmsR X.K F as rs vs → ∀ Q : VK, (∀ v F' as' H', Ext F as F' as' → Rep X.K F' as' γ2 H' → ItmR X.K F' as' r v → Q v H') → t vs H Q)
    (hn : x ≠ "__name__" := by decide) (hdb : (x == ("__debug__" : Str)) = false := by decide)
    (he : starEach (e :: es) X.env = (false, eval e X.env) :: starEach es X.env := by rfl) (hpl : (backTo pos (starEach es X.env)).any (·.1) = false := by rfl) : EV X Γ γ (.Call (.Name x p) (e :: es) [] pos) r γ2 := .mk fun F as σ H R E Q q => by
  refine ⟨_, pe_callB hc bt.gl bt.mg hv pa_wp hn hdb he hpl, ?_⟩
  refine ha.go R E fun vs F1 as1 H1 x1 R1 i1 => ?_
  exact hr F1 as1 H1 vs R1 i1 Q fun v F2 as2 H2 x2 R2 i2 => q v F2 as2 H2 (x1.trans x2) R2 i2
theorem ev_callTy {T : String} {t : List V → Hp → VK → Prop} (hc : CallR X (.type T) t) (bt : Bt X x) (hv : bootBuiltins x = some (.type T)) (ha : AV X Γ γ (e :: es) rs γ1)
    (hr : ∀ F as H vs, Rep X.K F as γ1 H → ItmsR X.K F as rs vs → ∀ Q : VK, (∀ v F' as' H', Ext F as F' as' → Rep X.K F' as' γ2 H' → ItmR X.K F' as' r v → Q v H') → t vs H Q)
    (hn : x ≠ "__name__" := by decide) (hdb : (x == ("__debug__" : Str)) = false := by decide)
    (he : starEach (e :: es) X.env = (false, eval e X.env) :: starEach es X.env := by rfl) (hpl : (backTo pos (starEach es X.env)).any (·.1) = false := by rfl) : EV X Γ γ (.Call (.Name x p) (e :: es) [] pos) r γ2 := .mk fun F as σ H R E Q q => by
  refine ⟨_, pe_callTy hc bt.gl bt.mg hv pa_wp hn hdb he hpl, ?_⟩
  refine ha.go R E fun vs F1 as1 H1 x1 R1 i1 => ?_
  exact hr F1 as1 H1 vs R1 i1 Q fun v F2 as2 H2 x2 R2 i2 => q v F2 as2 H2 (x1.trans x2) R2 i2
theorem itms1 {K F as} {x : Itm} {vs : List V} (h : ItmsR K F as [x] vs) : ∃ v, vs = [v] ∧ ItmR K F as x v := by
  cases h with
  | cons h r => cases r; exact ⟨_, rfl, h⟩
theorem itms2 {K F as} {x y : Itm} {vs : List V} (h : ItmsR K F as [x, y] vs) : ∃ v u, vs = [v, u] ∧ ItmR K F as x v ∧ ItmR K F as y u := by
  cases h with
  | cons h r =>
    obtain ⟨u, rfl, h2⟩ := itms1 r
    exact ⟨_, _, rfl, h, h2⟩
/-- len of a list, of a tuple, of a text -/
theorem ev_lenL (bt : Bt X "len") (ha : EV X Γ γ a r γ1) (hr : Rdb γ1 r (.list ds)) (hs : starEach [a] X.env = (false, eval a X.env) :: starEach [] X.env := by rfl) : EV X Γ γ (.Call (.Name "len" p) [a] [] pos) (.fz (.int (ds.length : Int))) γ1 :=
  ev_callB call_len_seq bt PySem.boot_len (av_cons ha av_nil hs) (fun F as H vs R i Q q => by
    obtain ⟨v, rfl, h⟩ := itms1 i
    obtain ⟨l, us, rfl, h1, h2⟩ := hr.list R h
    exact ⟨l, us, rfl, .inl h1, by rw [dpAll_length h2]; exact q _ F as H (Ext.refl F as) R (itm_int.mpr rfl)⟩) (he := hs)
theorem ev_lenC {cc : Nat} {xs : List Itm} (bt : Bt X "len") (ha : EV X Γ γ a (.cl cc) γ1) (hr : γ1[cc]? = some (.lst xs)) (hs : starEach [a] X.env = (false, eval a X.env) :: starEach [] X.env := by rfl) : EV X Γ γ (.Call (.Name "len" p) [a] [] pos) (.fz (.int (xs.length : Int))) γ1 :=
  ev_callB call_len_seq bt PySem.boot_len (av_cons ha av_nil hs) (fun F as H vs R i Q q => by
    obtain ⟨v, rfl, h⟩ := itms1 i
    obtain ⟨l, hl, rfl⟩ := itm_cl.mp h
    obtain ⟨l', h1, us, h2, h3⟩ := R.cellAt hr
    rw [hl] at h1
    cases h1
    exact ⟨l, us, rfl, .inl (SqL.of h2), by rw [← itms_length h3]; exact q _ F as H (Ext.refl F as) R (itm_int.mpr rfl)⟩) (he := hs)
theorem ev_lenT (bt : Bt X "len") (ha : EV X Γ γ a (.fz (.tuple ds)) γ1) (hs : starEach [a] X.env = (false, eval a X.env) :: starEach [] X.env := by rfl) : EV X Γ γ (.Call (.Name "len" p) [a] [] pos) (.fz (.int (ds.length : Int))) γ1 :=
  ev_callB call_len_seq bt PySem.boot_len (av_cons ha av_nil hs) (fun F as H vs R i Q q => by
    obtain ⟨v, rfl, h⟩ := itms1 i
    obtain ⟨l, us, rfl, h1, h2⟩ := itm_tup.mp h
    exact ⟨l, us, rfl, .inr (same_t R.fr h1), by rw [dpAll_length h2]; exact q _ F as H (Ext.refl F as) R (itm_int.mpr rfl)⟩) (he := hs)
theorem ev_lenS {z : Str} (bt : Bt X "len") (ha : EV X Γ γ a (.fz (.str z)) γ1) (hz : z.length ≤ sizeLine) (hs : starEach [a] X.env = (false, eval a X.env) :: starEach [] X.env := by rfl) : EV X Γ γ (.Call (.Name "len" p) [a] [] pos) (.fz (.int (z.length : Int))) γ1 :=
  ev_callB call_len_str bt PySem.boot_len (av_cons ha av_nil hs) (fun F as H vs R i Q q => by
    obtain ⟨v, rfl, h⟩ := itms1 i
    obtain rfl := itm_str.mp h
    exact ⟨z, rfl, hz, q _ F as H (Ext.refl F as) R (itm_int.mpr rfl)⟩) (he := hs)
theorem ev_max2 (hX : Cok X) (bt : Bt X "max") (ha : EV X Γ γ a (.fz (.int i)) γ1) (hb : EV X Γ γ1 b (.fz (.int j)) γ2) (hs : starEach [a, b] X.env = (false, eval a X.env) :: starEach [b] X.env := by rfl) (hs2 : starEach [b] X.env = (false, eval b X.env) :: starEach [] X.env := by rfl) (hpl : (backTo pos (starEach [b] X.env)).any (·.1) = false := by rfl) :
    EV X Γ γ (.Call (.Name "max" p) [a, b] [] pos) (.fz (.int (max i j))) γ2 :=
  ev_callB (call_max2 hX.calm) bt (by decide +kernel) (av_cons ha (av_cons hb av_nil hs2) hs) (fun F as H vs R i' Q q => by
    obtain ⟨v, u, rfl, h, h'⟩ := itms2 i'
    refine ⟨i, j, by rw [itm_int.mp h, itm_int.mp h'], ?_⟩
    have e : (if j > i then j else i) = max i j := by omega
    rw [e]
    exact q _ F as H (Ext.refl F as) R (itm_int.mpr rfl)) (he := hs) (hpl := hpl)
theorem ev_min2 (hX : Cok X) (bt : Bt X "min") (ha : EV X Γ γ a (.fz (.int i)) γ1) (hb : EV X Γ γ1 b (.fz (.int j)) γ2) (hs : starEach [a, b] X.env = (false, eval a X.env) :: starEach [b] X.env := by rfl) (hs2 : starEach [b] X.env = (false, eval b X.env) :: starEach [] X.env := by rfl) (hpl : (backTo pos (starEach [b] X.env)).any (·.1) = false := by rfl) :
    EV X Γ γ (.Call (.Name "min" p) [a, b] [] pos) (.fz (.int (min i j))) γ2 :=
  ev_callB (call_min2 hX.calm) bt (by decide +kernel) (av_cons ha (av_cons hb av_nil hs2) hs) (fun F as H vs R i' Q q => by
    obtain ⟨v, u, rfl, h, h'⟩ := itms2 i'
    refine ⟨i, j, by rw [itm_int.mp h, itm_int.mp h'], ?_⟩
    have e : (if j < i then j else i) = min i j := by omega
    rw [e]
    exact q _ F as H (Ext.refl F as) R (itm_int.mpr rfl)) (he := hs) (hpl := hpl)
def intsD (ns : List Int) : PyData := .list (ns.map .int)
def boolsD (bs : List Bool) : PyData := .list (bs.map .bool)
theorem dpAll_bools_inv {K F} : ∀ {ns : List Bool} {vs : List V}, DpAll K F vs (ns.map PyData.bool) → vs = ns.map V.bl
  | [], _, h => by cases h; rfl
  | n :: ns, _, h => by
    cases h with
    | cons h r => cases h; rw [dpAll_bools_inv r]; rfl
theorem Rdb.ints {K F H as γ v} {ns : List Int} (r : Rdb γ ra (.list (ns.map .int))) (R : Rep K F as γ H) (h : ItmR K F as ra v) : ∃ l, v = .ref l ∧ SqL K H l (ns.map V.int) := by
  obtain ⟨l, vs, e, h1, h2⟩ := r.list R h
  rw [dpAll_ints_inv h2] at h1
  exact ⟨l, e, h1⟩
theorem Rdb.bools {K F H as γ v} {ns : List Bool} (r : Rdb γ ra (.list (ns.map .bool))) (R : Rep K F as γ H) (h : ItmR K F as ra v) : ∃ l, v = .ref l ∧ SqL K H l (ns.map V.bl) := by
  obtain ⟨l, vs, e, h1, h2⟩ := r.list R h
  rw [dpAll_bools_inv h2] at h1
  exact ⟨l, e, h1⟩
theorem ev_sum {ns : List Int} (hX : Cok X) (bt : Bt X "sum") (ha : EV X Γ γ a r γ1) (hr : Rdb γ1 r (.list (ns.map .int))) (hs : starEach [a] X.env = (false, eval a X.env) :: starEach [] X.env := by rfl) : EV X Γ γ (.Call (.Name "sum" p) [a] [] pos) (.fz (.int ns.sum)) γ1 :=
  ev_callB (cr_sum hX.calm) bt (by decide +kernel) (av_cons ha av_nil hs) (fun F as H vs R i Q q => by
    obtain ⟨v, rfl, h⟩ := itms1 i
    obtain ⟨l, rfl, h1⟩ := hr.ints R h
    exact ⟨l, ns, rfl, h1, q _ F as H (Ext.refl F as) R (itm_int.mpr rfl)⟩) (he := hs)
theorem ev_anyB {ns : List Bool} (hX : Cok X) (bt : Bt X "any") (ha : EV X Γ γ a r γ1) (hr : Rdb γ1 r (.list (ns.map .bool))) (hs : starEach [a] X.env = (false, eval a X.env) :: starEach [] X.env := by rfl) : EV X Γ γ (.Call (.Name "any" p) [a] [] pos) (.fz (.bool (ns.any id))) γ1 :=
  ev_callB (cr_any hX.calm) bt (by decide +kernel) (av_cons ha av_nil hs) (fun F as H vs R i Q q => by
    obtain ⟨v, rfl, h⟩ := itms1 i
    obtain ⟨l, rfl, h1⟩ := hr.bools R h
    exact ⟨l, ns, rfl, h1, q _ F as H (Ext.refl F as) R (itm_bl.mpr rfl)⟩) (he := hs)
theorem ev_allB {ns : List Bool} (hX : Cok X) (bt : Bt X "all") (ha : EV X Γ γ a r γ1) (hr : Rdb γ1 r (.list (ns.map .bool))) (hs : starEach [a] X.env = (false, eval a X.env) :: starEach [] X.env := by rfl) : EV X Γ γ (.Call (.Name "all" p) [a] [] pos) (.fz (.bool (ns.all id))) γ1 :=
  ev_callB (cr_all hX.calm) bt (by decide +kernel) (av_cons ha av_nil hs) (fun F as H vs R i Q q => by
    obtain ⟨v, rfl, h⟩ := itms1 i
    obtain ⟨l, rfl, h1⟩ := hr.bools R h
    exact ⟨l, ns, rfl, h1, q _ F as H (Ext.refl F as) R (itm_bl.mpr rfl)⟩) (he := hs)
theorem ev_anyI {ns : List Int} (hX : Cok X) (bt : Bt X "any") (ha : EV X Γ γ a r γ1) (hr : Rdb γ1 r (.list (ns.map .int))) (hs : starEach [a] X.env = (false, eval a X.env) :: starEach [] X.env := by rfl) : EV X Γ γ (.Call (.Name "any" p) [a] [] pos) (.fz (.bool (ns.any (· != 0)))) γ1 :=
  ev_callB (cr_anyI hX.calm) bt (by decide +kernel) (av_cons ha av_nil hs) (fun F as H vs R i Q q => by
    obtain ⟨v, rfl, h⟩ := itms1 i
    obtain ⟨l, rfl, h1⟩ := hr.ints R h
    exact ⟨l, ns, rfl, h1, q _ F as H (Ext.refl F as) R (itm_bl.mpr rfl)⟩) (he := hs)
/-- max, min of a list of ints -/
def lmax : List Int → Int
  | [] => 0
  | [x] => x
  | x :: y :: r => max x (lmax (y :: r))
def lmin : List Int → Int
  | [] => 0
  | [x] => x
  | x :: y :: r => min x (lmin (y :: r))
theorem lmax_mem : ∀ {ns : List Int}, ns ≠ [] → lmax ns ∈ ns
  | [x], _ => by simp [lmax]
  | x :: y :: r, _ => by
    have h := lmax_mem (ns := y :: r) (by simp)
    simp only [lmax]
    rcases Int.le_total x (lmax (y :: r)) with q | q
    · rw [Int.max_eq_right q]; exact List.mem_cons_of_mem _ h
    · rw [Int.max_eq_left q]; exact List.mem_cons_self
theorem lmax_ge : ∀ {ns : List Int} {y : Int}, y ∈ ns → y ≤ lmax ns
  | [x], y, h => by simp at h; simp [lmax, h]
  | x :: z :: r, y, h => by
    simp only [lmax]
    rcases List.mem_cons.mp h with e | h
    · omega
    · have := lmax_ge h; omega
theorem lmin_mem : ∀ {ns : List Int}, ns ≠ [] → lmin ns ∈ ns
  | [x], _ => by simp [lmin]
  | x :: y :: r, _ => by
    have h := lmin_mem (ns := y :: r) (by simp)
    simp only [lmin]
    rcases Int.le_total x (lmin (y :: r)) with q | q
    · rw [Int.min_eq_left q]; exact List.mem_cons_self
    · rw [Int.min_eq_right q]; exact List.mem_cons_of_mem _ h
theorem lmin_le : ∀ {ns : List Int} {y : Int}, y ∈ ns → lmin ns ≤ y
  | [x], y, h => by simp at h; simp [lmin, h]
  | x :: z :: r, y, h => by
    simp only [lmin]
    rcases List.mem_cons.mp h with e | h
    · omega
    · have := lmin_le h; omega
theorem ev_minL {ns : List Int} (hX : Cok X) (bt : Bt X "min") (ha : EV X Γ γ a r γ1) (hr : Rdb γ1 r (.list (ns.map .int))) (hne : ns ≠ []) (hs : starEach [a] X.env = (false, eval a X.env) :: starEach [] X.env := by rfl) : EV X Γ γ (.Call (.Name "min" p) [a] [] pos) (.fz (.int (lmin ns))) γ1 :=
  ev_callB (cr_min hX.calm) bt (by decide +kernel) (av_cons ha av_nil hs) (fun F as H vs R i Q q => by
    obtain ⟨v, rfl, h⟩ := itms1 i
    obtain ⟨l, rfl, h1⟩ := hr.ints R h
    refine ⟨l, ns, rfl, h1, List.length_pos_iff.mpr hne, fun m hm hle => ?_⟩
    have e : m = lmin ns := Int.le_antisymm (hle _ (lmin_mem hne)) (lmin_le hm)
    rw [e]
    exact q _ F as H (Ext.refl F as) R (itm_int.mpr rfl)) (he := hs)
theorem ev_maxL {ns : List Int} (hX : Cok X) (bt : Bt X "max") (ha : EV X Γ γ a r γ1) (hr : Rdb γ1 r (.list (ns.map .int))) (hne : ns ≠ []) (hs : starEach [a] X.env = (false, eval a X.env) :: starEach [] X.env := by rfl) : EV X Γ γ (.Call (.Name "max" p) [a] [] pos) (.fz (.int (lmax ns))) γ1 :=
  ev_callB (cr_max hX.calm) bt (by decide +kernel) (av_cons ha av_nil hs) (fun F as H vs R i Q q => by
    obtain ⟨v, rfl, h⟩ := itms1 i
    obtain ⟨l, rfl, h1⟩ := hr.ints R h
    refine ⟨l, ns, rfl, h1, List.length_pos_iff.mpr hne, fun m hm hle => ?_⟩
    have e : m = lmax ns := Int.le_antisymm (lmax_ge hm) (hle _ (lmax_mem hne))
    rw [e]
    exact q _ F as H (Ext.refl F as) R (itm_int.mpr rfl)) (he := hs)
theorem ev_intB (bt : Bt X "int") (ha : EV X Γ γ a (.fz (.bool k)) γ1) (hs : starEach [a] X.env = (false, eval a X.env) :: starEach [] X.env := by rfl) : EV X Γ γ (.Call (.Name "int" p) [a] [] pos) (.fz (.int (if k then 1 else 0))) γ1 :=
  ev_callTy call_int1 bt (by decide +kernel) (av_cons ha av_nil hs) (fun F as H vs R i Q q => by
    obtain ⟨v, rfl, h⟩ := itms1 i
    exact .inr ⟨k, by rw [itm_bl.mp h], q _ F as H (Ext.refl F as) R (itm_int.mpr rfl)⟩) (he := hs)
theorem ev_intI (bt : Bt X "int") (ha : EV X Γ γ a (.fz (.int i)) γ1) (hs : starEach [a] X.env = (false, eval a X.env) :: starEach [] X.env := by rfl) : EV X Γ γ (.Call (.Name "int" p) [a] [] pos) (.fz (.int i)) γ1 :=
  ev_callTy call_int1 bt (by decide +kernel) (av_cons ha av_nil hs) (fun F as H vs R i Q q => by
    obtain ⟨v, rfl, h⟩ := itms1 i
    exact .inl ⟨_, by rw [itm_int.mp h], q _ F as H (Ext.refl F as) R (itm_int.mpr rfl)⟩) (he := hs)
theorem ev_abs (bt : Bt X "abs") (ha : EV X Γ γ a (.fz (.int i)) γ1) (hs : starEach [a] X.env = (false, eval a X.env) :: starEach [] X.env := by rfl) : EV X Γ γ (.Call (.Name "abs" p) [a] [] pos) (.fz (.int (i.natAbs : Int))) γ1 :=
  ev_callB call_abs bt (by decide +kernel) (av_cons ha av_nil hs) (fun F as H vs R i' Q q => by
    obtain ⟨v, rfl, h⟩ := itms1 i'
    refine ⟨i, by rw [itm_int.mp h], ?_⟩
    have e : (if i < 0 then -i else i) = (i.natAbs : Int) := by split <;> omega
    rw [e]
    exact q _ F as H (Ext.refl F as) R (itm_int.mpr rfl)) (he := hs)
/-- list(x): a copy, frozen or a cell -/
theorem ev_listF (bt : Bt X "list") (ha : EV X Γ γ a r γ1) (hr : Rdb γ1 r (.list ds) ∨ r = .fz (.tuple ds)) (hs : starEach [a] X.env = (false, eval a X.env) :: starEach [] X.env := by rfl) : EV X Γ γ (.Call (.Name "list" p) [a] [] pos) (.fz (.list ds)) γ1 :=
  ev_callTy call_list_of bt (by decide +kernel) (av_cons ha av_nil hs) (fun F as H vs R i Q q => by
    obtain ⟨v, rfl, h⟩ := itms1 i
    have fin : ∀ us, DpAll X.K F us ds → ∀ l, H l = none → Q (.ref l) (upd H l (.lst us)) := fun us h2 l hl => q _ (upd F l (.lst us)) as _ ⟨R.sameNew _ hl, [], by simp⟩ (R.new _ hl) (itm_lst.mpr ⟨l, us, rfl, SqL.of upd_same, dpAll_mono (R.sameNew _ hl) h2⟩)
    rcases hr with hr | rfl
    · obtain ⟨l, us, rfl, h1, h2⟩ := hr.list R h
      exact ⟨l, us, rfl, .inl h1, fin us h2⟩
    · obtain ⟨l, us, rfl, h1, h2⟩ := itm_tup.mp h
      exact ⟨l, us, rfl, .inr (same_t R.fr h1), fin us h2⟩) (he := hs)
theorem newCellL {K F as γ H} (R : Rep K F as γ H) {xs : List Itm} {us : List V} (h : ItmsR K F as xs us) {l : Addr} (hl : H l = none) : Rep K F (as ++ [l]) (γ ++ [.lst xs]) (upd H l (.lst us)) ∧ ItmR K F (as ++ [l]) (.cl γ.length) (.ref l) := by
  refine ⟨R.newCell hl ⟨us, upd_same, itms_mono ⟨Same.refl F, [l], rfl⟩ h⟩, itm_cl.mpr ⟨l, ?_, rfl⟩⟩
  rw [← R.len, List.getElem?_append_right (Nat.le_refl _)]
  simp
theorem ev_listC (bt : Bt X "list") (ha : EV X Γ γ a r γ1) (hr : Rdb γ1 r (.list ds) ∨ r = .fz (.tuple ds)) (hs : starEach [a] X.env = (false, eval a X.env) :: starEach [] X.env := by rfl) : EV X Γ γ (.Call (.Name "list" p) [a] [] pos) (.cl γ1.length) (γ1 ++ [.lst (ds.map Itm.fz)]) :=
  ev_callTy call_list_of bt (by decide +kernel) (av_cons ha av_nil hs) (fun F as H vs R i Q q => by
    obtain ⟨v, rfl, h⟩ := itms1 i
    have fin : ∀ us, DpAll X.K F us ds → ∀ l, H l = none → Q (.ref l) (upd H l (.lst us)) := fun us h2 l hl => by
      obtain ⟨R', i'⟩ := newCellL R (itms_of_dp h2) hl
      exact q _ F (as ++ [l]) _ ⟨Same.refl F, [l], rfl⟩ R' i'
    rcases hr with hr | rfl
    · obtain ⟨l, us, rfl, h1, h2⟩ := hr.list R h
      exact ⟨l, us, rfl, .inl h1, fin us h2⟩
    · obtain ⟨l, us, rfl, h1, h2⟩ := itm_tup.mp h
      exact ⟨l, us, rfl, .inr (same_t R.fr h1), fin us h2⟩) (he := hs)
/-- [a, b, ..] that will be changed -/
theorem ev_lstC (h : AV X Γ γ es rs γ1) (hl : rs.length ≤ 1000 := by first | decide | simp) : EV X Γ γ (.List es pos) (.cl γ1.length) (γ1 ++ [.lst rs]) := .mk fun F as σ H R E Q q => by
  refine ⟨_, pe_lst pa_wp, ?_⟩
  refine h.go R E fun vs F1 as1 H1 x1 R1 i1 => ?_
  refine ⟨by rw [← itms_length i1]; exact Nat.le_of_lt (small1000 hl), fun p hp => ?_⟩
  obtain ⟨R', i'⟩ := newCellL R1 i1 hp
  exact q _ F1 (as1 ++ [p]) _ (x1.trans ⟨Same.refl F1, [p], rfl⟩) R' i'
/-- + and * of lists -/
theorem ev_catF (ha : EV X Γ γ a ra γ1) (hb : EV X Γ γ1 b rb γ2) (h1 : Rdb γ2 ra (.list ds)) (h2 : Rdb γ2 rb (.list es')) (hz : ds.length + es'.length ≤ 1000000) : EV X Γ γ (.BinOp a .Add b pos) (.fz (.list (ds ++ es'))) γ2 :=
  ev_op op_catS ha hb fun F as H x y R hx hy Q q => by
    obtain ⟨l, us, rfl, p1, p2⟩ := h1.list R hx
    obtain ⟨l', us', rfl, p1', p2'⟩ := h2.list R hy
    have e := dpAll_length p2
    have e' := dpAll_length p2'
    exact ⟨l, l', us, us', rfl, rfl, p1, p1', by rw [sizeLine_eq]; omega, fun p hp => q _ (upd F p (.lst (us ++ us'))) as _ ⟨R.sameNew _ hp, [], by simp⟩ (R.new _ hp) (itm_lst.mpr ⟨p, us ++ us', rfl, SqL.of upd_same, dpAll_mono (R.sameNew _ hp) (dpAll_append p2 p2')⟩)⟩
theorem ev_catC (ha : EV X Γ γ a ra γ1) (hb : EV X Γ γ1 b rb γ2) (h1 : Rdb γ2 ra (.list ds)) (h2 : Rdb γ2 rb (.list es')) (hz : ds.length + es'.length ≤ 1000000) : EV X Γ γ (.BinOp a .Add b pos) (.cl γ2.length) (γ2 ++ [.lst ((ds ++ es').map Itm.fz)]) :=
  ev_op op_catS ha hb fun F as H x y R hx hy Q q => by
    obtain ⟨l, us, rfl, p1, p2⟩ := h1.list R hx
    obtain ⟨l', us', rfl, p1', p2'⟩ := h2.list R hy
    have e := dpAll_length p2
    have e' := dpAll_length p2'
    refine ⟨l, l', us, us', rfl, rfl, p1, p1', by rw [sizeLine_eq]; omega, fun p hp => ?_⟩
    obtain ⟨R', i'⟩ := newCellL R (itms_of_dp (dpAll_append p2 p2')) hp
    exact q _ F (as ++ [p]) _ ⟨Same.refl F, [p], rfl⟩ R' i'
end
end PL

namespace PL
open PySem PySem.Spec PyProof.Rows L2

/-! ### kinds of data -/
def tyD : PyData → String
  | .none => "NoneType"
  | .bool _ => "bool"
  | .int _ => "int"
  | .str _ => "str"
  | .list _ => "list"
  | .tuple _ => "tuple"
  | .dict _ => "dict"
def isI : PyData → Bool
  | .int _ => true
  | .bool _ => true
  | _ => false
def isB : PyData → Bool
  | .bool _ => true
  | _ => false
def isS : PyData → Bool
  | .str _ => true
  | _ => false
def isL : PyData → Bool
  | .list _ => true
  | _ => false
def isT : PyData → Bool
  | .tuple _ => true
  | _ => false
def isD : PyData → Bool
  | .dict _ => true
  | _ => false
theorem kit_int (d : PyData) : kitB (tyD d) "int" = some (isI d) := by cases d <;> (simp only [tyD, isI]; decide +kernel)
theorem kit_bool (d : PyData) : kitB (tyD d) "bool" = some (isB d) := by cases d <;> (simp only [tyD, isB]; decide +kernel)
theorem kit_str (d : PyData) : kitB (tyD d) "str" = some (isS d) := by cases d <;> (simp only [tyD, isS]; decide +kernel)
theorem kit_list (d : PyData) : kitB (tyD d) "list" = some (isL d) := by cases d <;> (simp only [tyD, isL]; decide +kernel)
theorem kit_tuple (d : PyData) : kitB (tyD d) "tuple" = some (isT d) := by cases d <;> (simp only [tyD, isT]; decide +kernel)
theorem kit_dict (d : PyData) : kitB (tyD d) "dict" = some (isD d) := by cases d <;> (simp only [tyD, isD]; decide +kernel)
theorem dp_ty {K : PySem.W.Frag} {H : Hp} {v : V} {d : PyData} (h : Dp K H v d) : TyX K H v (.type (tyD d)) := by
  cases h with
  | non => exact .base .non
  | bl b => exact .base (.bl b)
  | int i => exact .base (.int i)
  | str x => exact .base (.str x)
  | lst h r =>
    rcases h with (h | ⟨o, h⟩) | ⟨o, its, n, h1, h2, _⟩
    · exact .base (.lst h)
    · exact .base (.frz h)
    · exact .kList h1 h2
  | tup h r =>
    rcases h with (h | ⟨o, h⟩) | ⟨o, its, n, h1, h2, _⟩
    · exact .base (.tup h)
    · exact .fTuple h
    · exact .kTuple h1 h2
section
variable {X : Cx} {Γ : Slots} {γ γ1 γ2 γ3 : Cells} {e a b o c : Expr} {es : List Expr} {rs : List Itm} {r ra rb : Itm} {pos p p2 pos' : Pos} {x : Str} {R : SE} {rest : List Stmt} {k : Bool} {i j n : Int} {ds es' : List PyData} {d : PyData}
theorem ev_isi {T : String} {Tn : Str} {q : Pos} (bt : Bt X "isinstance") (bT : Bt X Tn) (hv : bootBuiltins Tn = some (.type T)) (ha : EV X Γ γ a r γ1) (hr : Rdb γ1 r d) (hk : kitB (tyD d) T = some k)
    (hn : Tn ≠ "__name__" := by decide) (hd : (Tn == ("__debug__" : Str)) = false := by decide)
    (hs : starEach [a, .Name Tn q] X.env = (false, eval a X.env) :: starEach [.Name Tn q] X.env := by rfl) (hs2 : starEach [.Name Tn q] X.env = (false, eval (.Name Tn q) X.env) :: starEach [] X.env := by rfl) (hpl : (backTo pos (starEach [.Name Tn q] X.env)).any (·.1) = false := by rfl) :
    EV X Γ γ (.Call (.Name "isinstance" p) [a, .Name Tn q] [] pos) (.fz (.bool k)) γ1 := .mk fun F as σ H R E Q q' => by
  refine ⟨_, pe_callB call_isi bt.gl bt.mg (by decide +kernel) (pa_cons pe_wp (pa_cons (pe_bltn (v := .ty T) bT.gl bT.mg hv rfl hn hd) pa_nil hs2) hs) (by decide) (by decide) hs hpl, ?_⟩
  refine ha.go R E fun v F1 as1 H1 x1 R1 i1 => ?_
  exact ⟨v, .ty T, _, _, k, rfl, .ty T, dp_ty (hr.dp R1 i1), kit_ty hk, q' _ F1 as1 H1 x1 R1 (itm_bl.mpr rfl)⟩
/-- is True, is False -/
theorem cmp_isB {b1 b2 : Bool} : CmpR X .Is γ (.fz (.bool b1)) (.fz (.bool b2)) (b1 == b2) := ⟨_, op_isBl, fun F as H x y R hx hy Q q => ⟨b1, b2, itm_bl.mp hx, itm_bl.mp hy, by
  rw [show decide (b1 = b2) = (b1 == b2) from by cases b1 <;> cases b2 <;> rfl]; exact q⟩⟩
theorem cmp_notB {b1 b2 : Bool} : CmpR X .IsNot γ (.fz (.bool b1)) (.fz (.bool b2)) (b1 != b2) := ⟨_, op_notBl, fun F as H x y R hx hy Q q => ⟨b1, b2, itm_bl.mp hx, itm_bl.mp hy, by
  rw [show (!decide (b1 = b2)) = (b1 != b2) from by cases b1 <;> cases b2 <;> rfl]; exact q⟩⟩
/-- a list's truth -/
theorem tv_truthL (ha : EV X Γ γ a r γ1) (hr : Rdb γ1 r (.list ds)) (he : ∀ whole, isTrue a X.env whole = (do let v ← whole; standAt a.pos; holding [v] (truthy v)) := by intro _; rfl) : TV X Γ γ a (!ds.isEmpty) γ1 := fun F as σ H R E Q q => by
  refine ⟨_, pt_truth pe_wp he, ha.go R E fun v F1 as1 H1 x1 R1 i1 => ?_⟩
  obtain ⟨l, us, rfl, h1, h2⟩ := hr.list R1 i1
  have e := dpAll_length h2
  have e2 : (!us.isEmpty) = (!ds.isEmpty) := by cases us <;> cases ds <;> simp_all
  exact ⟨_, .inl ⟨us, h1, rfl⟩, by rw [e2]; exact q F1 as1 H1 x1 R1⟩
theorem tv_truthI (ha : EV X Γ γ a (.fz (.int i)) γ1) (he : ∀ whole, isTrue a X.env whole = (do let v ← whole; standAt a.pos; holding [v] (truthy v)) := by intro _; rfl) : TV X Γ γ a (i != 0) γ1 := fun F as σ H R E Q q => by
  refine ⟨_, pt_truth pe_wp he, ha.go R E fun v F1 as1 H1 x1 R1 i1 => ?_⟩
  cases itm_int.mp i1
  exact ⟨_, rfl, q F1 as1 H1 x1 R1⟩

/-! ### items -/
theorem atI_lt {α : Type} {xs : List α} {i : Int} {v : α} (h : atI xs i = some v) : ∃ j, xs[j]? = some v ∧ ixN xs.length i = some j := by
  unfold atI at h
  cases q : ixN xs.length i with
  | none => rw [q] at h; cases h
  | some j => rw [q] at h; exact ⟨j, h, rfl⟩
theorem atI_of {α β : Type} {xs : List α} {ys : List β} {i : Int} {j : Nat} {v : β} (hl : ys.length = xs.length) (hi : ixN xs.length i = some j) (h : ys[j]? = some v) : atI ys i = some v := by
  unfold atI
  rw [hl, hi]
  exact h
theorem ev_ixL (ha : EV X Γ γ a ra γ1) (hb : EV X Γ γ1 b (.fz (.int i)) γ2) (hr : Rdb γ2 ra (.list ds)) (hi : atI ds i = some d) (hs : PlainIx b := by exact fun _ _ => rfl) : EV X Γ γ (.Subscript a b pos) (.fz d) γ2 := .mk fun F as σ H R E Q q => by
  refine ⟨_, pe_ix ix_list pe_wp pe_wp hs, ha.go R E fun v F1 as1 H1 x1 R1 i1 => hb.go R1 (E.mono x1) fun u F2 as2 H2 x2 R2 i2 => ?_⟩
  obtain ⟨l, us, rfl, h1, h2⟩ := hr.list R2 (itm_mono x2 i1)
  obtain ⟨j, hj, hx⟩ := atI_lt hi
  obtain ⟨w, hw, hd⟩ := dpAll_get h2 hj
  exact ⟨l, us, i, w, rfl, itm_int.mp i2, h1, atI_of (dpAll_length h2) hx hw, q _ F2 as2 H2 (x1.trans x2) R2 (.fz hd)⟩
theorem ev_ixC {cc : Nat} {xs : List Itm} (ha : EV X Γ γ a (.cl cc) γ1) (hb : EV X Γ γ1 b (.fz (.int i)) γ2) (hr : γ2[cc]? = some (.lst xs)) (hi : atI xs i = some r) (hs : PlainIx b := by exact fun _ _ => rfl) : EV X Γ γ (.Subscript a b pos) r γ2 := .mk fun F as σ H R E Q q => by
  refine ⟨_, pe_ix ix_list pe_wp pe_wp hs, ha.go R E fun v F1 as1 H1 x1 R1 i1 => hb.go R1 (E.mono x1) fun u F2 as2 H2 x2 R2 i2 => ?_⟩
  obtain ⟨l, hl, rfl⟩ := itm_cl.mp (itm_mono x2 i1)
  obtain ⟨l', h1, us, h2, h3⟩ := R2.cellAt hr
  rw [hl] at h1
  cases h1
  obtain ⟨j, hj, hx⟩ := atI_lt hi
  obtain ⟨w, hw, hd⟩ := itms_get h3 hj
  exact ⟨l, us, i, w, rfl, itm_int.mp i2, SqL.of h2, atI_of (itms_length h3).symm hx hw, q _ F2 as2 H2 (x1.trans x2) R2 hd⟩
theorem ev_ixT (ha : EV X Γ γ a (.fz (.tuple ds)) γ1) (hb : EV X Γ γ1 b (.fz (.int i)) γ2) (hi : atI ds i = some d) (hs : PlainIx b := by exact fun _ _ => rfl) : EV X Γ γ (.Subscript a b pos) (.fz d) γ2 := .mk fun F as σ H R E Q q => by
  refine ⟨_, pe_ix ix_tup pe_wp pe_wp hs, ha.go R E fun v F1 as1 H1 x1 R1 i1 => hb.go R1 (E.mono x1) fun u F2 as2 H2 x2 R2 i2 => ?_⟩
  obtain ⟨l, us, rfl, h1, h2⟩ := itm_tup.mp (itm_mono x2 i1)
  obtain ⟨j, hj, hx⟩ := atI_lt hi
  obtain ⟨w, hw, hd⟩ := dpAll_get h2 hj
  exact ⟨l, us, i, w, rfl, itm_int.mp i2, same_t R2.fr h1, atI_of (dpAll_length h2) hx hw, q _ F2 as2 H2 (x1.trans x2) R2 (.fz hd)⟩
theorem ev_ixP {xs : List Itm} (ha : EV X Γ γ a (.tp xs) γ1) (hb : EV X Γ γ1 b (.fz (.int i)) γ2) (hi : atI xs i = some r) (hs : PlainIx b := by exact fun _ _ => rfl) : EV X Γ γ (.Subscript a b pos) r γ2 := .mk fun F as σ H R E Q q => by
  refine ⟨_, pe_ix ix_tup pe_wp pe_wp hs, ha.go R E fun v F1 as1 H1 x1 R1 i1 => hb.go R1 (E.mono x1) fun u F2 as2 H2 x2 R2 i2 => ?_⟩
  cases itm_mono x2 i1 with
  | tp h1 h2 =>
    obtain ⟨j, hj, hx⟩ := atI_lt hi
    obtain ⟨w, hw, hd⟩ := itms_get h2 hj
    exact ⟨_, _, i, w, rfl, itm_int.mp i2, same_t R2.fr h1, atI_of (itms_length h2).symm hx hw, q _ F2 as2 H2 (x1.trans x2) R2 hd⟩
theorem ev_ixS {z : Str} {cp : Nat} (ha : EV X Γ γ a (.fz (.str z)) γ1) (hb : EV X Γ γ1 b (.fz (.int i)) γ2) (hz : z.length ≤ sizeLine) (hi : atI z.cps.toList i = some cp) (hs : PlainIx b := by exact fun _ _ => rfl) : EV X Γ γ (.Subscript a b pos) (.fz (.str ⟨#[cp]⟩)) γ2 := .mk fun F as σ H R E Q q => by
  refine ⟨_, pe_ix ix_str pe_wp pe_wp hs, ha.go R E fun v F1 as1 H1 x1 R1 i1 => hb.go R1 (E.mono x1) fun u F2 as2 H2 x2 R2 i2 => ?_⟩
  exact ⟨z, i, cp, itm_str.mp (itm_mono x2 i1), itm_int.mp i2, hz, hi, q _ F2 as2 H2 (x1.trans x2) R2 (itm_str.mpr rfl)⟩

/-! ### slices of lists, of tuples -/
def cutD {α : Type} (xs : List α) (lo hi : Option Int) : List α := (xs.drop (HT.sIx xs.length 0 lo)).take (HT.sIx xs.length xs.length hi - HT.sIx xs.length 0 lo)
theorem dpAll_drop {K F} : ∀ {vs : List V} {ds : List PyData} (n : Nat), DpAll K F vs ds → DpAll K F (vs.drop n) (ds.drop n)
  | _, _, 0, h => h
  | _, _, _ + 1, .nil => .nil
  | _, _, n + 1, .cons _ r => dpAll_drop n r
theorem dpAll_take {K F} : ∀ {vs : List V} {ds : List PyData} (n : Nat), DpAll K F vs ds → DpAll K F (vs.take n) (ds.take n)
  | _, _, 0, _ => .nil
  | _, _, _ + 1, .nil => .nil
  | _, _, n + 1, .cons h r => .cons h (dpAll_take n r)
theorem dpAll_cut {K F} {vs : List V} {ds : List PyData} (h : DpAll K F vs ds) (lo hi : Option Int) : DpAll K F (cutV vs lo hi) (cutD ds lo hi) := by
  unfold cutV cutD
  rw [dpAll_length h]
  exact dpAll_take _ (dpAll_drop _ h)
/-- a slice's part -/
def wpO (X : Cx) (e : Option Expr) : TO := fun σ H Q => ∃ t, PO X e t ∧ t σ H Q
theorem po_wp {e : Option Expr} : PO X e (wpO X e) := ⟨fun pins s σ H Q I ⟨t, h, q⟩ => h.run pins s σ H Q I q⟩
def OV (X : Cx) (Γ : Slots) (γ : Cells) (e : Option Expr) (o : Option Int) (γ' : Cells) : Prop :=
  ∀ F as σ H, Rep X.K F as γ H → EnvR X.K F as Γ σ → ∀ Q : Option Int → Hp → Prop, (∀ F' as' H', Ext F as F' as' → Rep X.K F' as' γ' H' → Q o H') → wpO X e σ H Q
theorem ov_none : OV X Γ γ none none γ := fun F as σ H R E Q q => ⟨_, po_none, q F as H (Ext.refl F as) R⟩
theorem ov_some (h : EV X Γ γ e (.fz (.int i)) γ1) : OV X Γ γ (some e) (some i) γ1 := fun F as σ H R E Q q => ⟨_, po_some pe_wp, h.go R E fun v F1 as1 H1 x1 R1 i1 => ⟨i, itm_int.mp i1, q F1 as1 H1 x1 R1⟩⟩
variable {lo hi : Option Expr} {ol oh : Option Int}
theorem ev_slL (ha : EV X Γ γ a ra γ1) (h1 : OV X Γ γ1 lo ol γ2) (h2 : OV X Γ γ2 hi oh γ3) (hr : Rdb γ3 ra (.list ds)) : EV X Γ γ (.Subscript a (.Slice lo hi none p2) pos) (.fz (.list (cutD ds ol oh))) γ3 := .mk fun F as σ H R E Q q => by
  refine ⟨_, pe_slice sl_list pe_wp po_wp po_wp, ha.go R E fun v F1 as1 H1 x1 R1 i1 => h1 F1 as1 σ H1 R1 (E.mono x1) _ fun F2 as2 H2 x2 R2 => h2 F2 as2 σ H2 R2 (E.mono (x1.trans x2)) _ fun F3 as3 H3 x3 R3 => ?_⟩
  obtain ⟨l, us, rfl, p1, p2⟩ := hr.list R3 (itm_mono (x2.trans x3) i1)
  exact ⟨l, us, rfl, p1, fun p hp => q _ (upd F3 p (.lst (cutV us ol oh))) as3 _ (((x1.trans x2).trans x3).trans ⟨R3.sameNew _ hp, [], by simp⟩) (R3.new _ hp) (itm_lst.mpr ⟨p, _, rfl, SqL.of upd_same, dpAll_mono (R3.sameNew _ hp) (dpAll_cut p2 ol oh)⟩)⟩
theorem ev_slT (ha : EV X Γ γ a (.fz (.tuple ds)) γ1) (h1 : OV X Γ γ1 lo ol γ2) (h2 : OV X Γ γ2 hi oh γ3) (hw : ¬ (HT.sIx ds.length 0 ol = 0 ∧ HT.sIx ds.length ds.length oh = ds.length)) : EV X Γ γ (.Subscript a (.Slice lo hi none p2) pos) (.fz (.tuple (cutD ds ol oh))) γ3 := .mk fun F as σ H R E Q q => by
  refine ⟨_, pe_slice sl_tup pe_wp po_wp po_wp, ha.go R E fun v F1 as1 H1 x1 R1 i1 => h1 F1 as1 σ H1 R1 (E.mono x1) _ fun F2 as2 H2 x2 R2 => h2 F2 as2 σ H2 R2 (E.mono (x1.trans x2)) _ fun F3 as3 H3 x3 R3 => ?_⟩
  obtain ⟨l, us, rfl, p1, p2⟩ := itm_tup.mp (itm_mono (x2.trans x3) i1)
  exact ⟨l, us, rfl, same_t R3.fr p1, by rw [dpAll_length p2]; exact hw, fun p hp => q _ (upd F3 p (.tup (cutV us ol oh))) as3 _ (((x1.trans x2).trans x3).trans ⟨R3.sameNew _ hp, [], by simp⟩) (R3.new _ hp) (itm_tup.mpr ⟨p, _, rfl, SqT.of upd_same, dpAll_mono (R3.sameNew _ hp) (dpAll_cut p2 ol oh)⟩)⟩

/-! ### a list times a number -/
def repD {α : Type} (xs : List α) (k : Int) : List α := (List.replicate k.toNat xs).flatten
theorem itms_rep {K F as} {xs : List Itm} {vs : List V} (h : ItmsR K F as xs vs) : ∀ k : Nat, ItmsR K F as (List.replicate k xs).flatten (List.replicate k vs).flatten
  | 0 => .nil
  | k + 1 => by
    rw [List.replicate_succ, List.replicate_succ, List.flatten_cons, List.flatten_cons]
    exact itms_append h (itms_rep h k)
/-- [..] * k, a display times a number: frozen, a cell -/
theorem ev_repC {k : Int} (ha : AV X Γ γ es rs γ1) (hb : EV X Γ γ1 b (.fz (.int k)) γ2) (hl : rs.length ≤ 1000) (hk : rs.length * k.toNat ≤ 1000000) (hk2 : -(2 ^ 63) ≤ k ∧ k < 2 ^ 63) : EV X Γ γ (.BinOp (.List es p) .Mult b pos) (.cl γ2.length) (γ2 ++ [.lst (repD rs k)]) := .mk fun F as σ H R E Q q => by
  refine ⟨_, pe_op op_rep (pe_lst pa_wp) pe_wp, ha.go R E fun vs F1 as1 H1 x1 R1 i1 => ?_⟩
  have l := itms_length i1
  refine ⟨by rw [← l]; exact Nat.le_of_lt (small1000 hl), fun t ht => ?_⟩
  have x2 : Ext F1 as1 (upd F1 t (.lst vs)) as1 := ⟨R1.sameNew _ ht, [], by simp⟩
  refine hb.go (R1.new _ ht) (E.mono (x1.trans x2)) fun u F3 as3 H3 x3 R3 i3 => ?_
  refine ⟨t, k, vs, rfl, itm_int.mp i3, R3.fr t _ (x3.1 t _ upd_same), hk2.1, hk2.2, by rw [← l, sizeLine_eq]; omega, fun p' hp => ?_⟩
  obtain ⟨R', i'⟩ := newCellL R3 (itms_rep (itms_mono (x2.trans x3) i1) k.toNat) hp
  exact q _ F3 (as3 ++ [p']) _ (((x1.trans x2).trans x3).trans ⟨Same.refl F3, [p'], rfl⟩) R' i'
theorem ev_repF {k : Int} (ha : AV X Γ γ es (ds.map Itm.fz) γ1) (hb : EV X Γ γ1 b (.fz (.int k)) γ2) (hl : ds.length ≤ 1000) (hk : ds.length * k.toNat ≤ 1000000) (hk2 : -(2 ^ 63) ≤ k ∧ k < 2 ^ 63) : EV X Γ γ (.BinOp (.List es p) .Mult b pos) (.fz (.list (repD ds k))) γ2 := .mk fun F as σ H R E Q q => by
  refine ⟨_, pe_op op_rep (pe_lst pa_wp) pe_wp, ha.go R E fun vs F1 as1 H1 x1 R1 i1 => ?_⟩
  have l := itms_length i1
  rw [List.length_map] at l
  refine ⟨by rw [← l]; exact Nat.le_of_lt (small1000 hl), fun t ht => ?_⟩
  have x2 : Ext F1 as1 (upd F1 t (.lst vs)) as1 := ⟨R1.sameNew _ ht, [], by simp⟩
  refine hb.go (R1.new _ ht) (E.mono (x1.trans x2)) fun u F3 as3 H3 x3 R3 i3 => ?_
  refine ⟨t, k, vs, rfl, itm_int.mp i3, R3.fr t _ (x3.1 t _ upd_same), hk2.1, hk2.2, by rw [← l, sizeLine_eq]; omega, fun p' hp => ?_⟩
  have hrep := itms_rep (itms_mono (x2.trans x3) i1) k.toNat
  have e : (List.replicate k.toNat (ds.map Itm.fz)).flatten = (repD ds k).map Itm.fz := by
    unfold repD
    rw [List.map_flatten, List.map_replicate]
  rw [e] at hrep
  exact q _ (upd F3 p' _) as3 _ (((x1.trans x2).trans x3).trans ⟨R3.sameNew _ hp, [], by simp⟩) (R3.new _ hp) (itm_lst.mpr ⟨p', _, rfl, SqL.of upd_same, dpAll_mono (R3.sameNew _ hp) (itms_fz hrep)⟩)

/-! ### stores into a list -/
theorem ev_append {apos : Pos} {cc : Nat} {xs : List Itm} (ho : EV X Γ γ o (.cl cc) γ1) (he : EV X Γ γ1 e r γ2) (h1 : ∃ ys, γ1[cc]? = some (.lst ys)) (h2 : γ2[cc]? = some (.lst xs)) (hl : xs.length ≤ 1000000)
    (hbase : attributeBase o "append" X.env (eval o X.env) = eval o X.env := by rfl)
    (hfew : ((backTo pos (starEach [e] X.env)).all (fun x => !x.1) && (backToKw pos (keywordEach [] X.env)).all (fun x => x.1.isSome) && decide ([e].length + ([] : List Keyword).length + (if ([] : List Keyword).isEmpty then 0 else 1) < 30)) = true := by rfl)
    (hline : (apos.endLine == pos.line) = true := by rfl) (hs : starEach [e] X.env = (false, eval e X.env) :: starEach [] X.env := by rfl) :
    EV X Γ γ (.Call (.Attribute o "append" apos) [e] [] pos) (.fz .none) (γ2.set cc (.lst (xs ++ [r]))) := .mk fun F as σ H R E Q q => by
  refine ⟨_, pe_bm PySem.F.plainAttrs_list PySem.F.slot_list_append PySem.F.type_list_append mt_append pe_wp (pa_cons pe_wp pa_nil hs) hbase hfew hline hs rfl, ?_⟩
  refine ho.go R E fun v F1 as1 H1 x1 R1 i1 => ?_
  obtain ⟨l, hl1, rfl⟩ := itm_cl.mp i1
  obtain ⟨ys, h1⟩ := h1
  obtain ⟨l1, k1, us, k2, k3⟩ := R1.cellAt h1
  rw [hl1] at k1
  cases k1
  refine ⟨.inl ⟨rfl, us, SqL.of k2⟩, ?_⟩
  refine he.go R1 (E.mono x1) fun u F2 as2 H2 x2 R2 i2 => ?_
  have hl2 := x2.get hl1
  obtain ⟨l2, k1, us2, k4, k5⟩ := R2.cellAt h2
  rw [hl2] at k1
  cases k1
  have e := itms_length k5
  refine ⟨l, us2, u, rfl, rfl, k4, by rw [← e, sizeLine_eq]; omega, ?_⟩
  refine q _ F2 as2 _ (x1.trans x2) (R2.write h2 (by simp) hl2 ⟨_, upd_same, itms_append k5 (.cons i2 .nil)⟩) (itm_non.mpr rfl)
theorem sv_setitem {cc : Nat} {xs : List Itm} {i : Int} {jj : Nat} (he : EV X Γ γ e r γ1) (ho : EV X Γ γ1 o (.cl cc) γ2) (hi : EV X Γ γ2 b (.fz (.int i)) γ3) (hc : γ3[cc]? = some (.lst xs)) (hj : ixN xs.length i = some jj) (h : SVs X Γ (γ3.set cc (.lst (xs.set jj r))) rest R)
    (hs : swapsWithSole [.Subscript o b p] e pos.line X.env = pure false := by rfl) (hw : swappedStores [.Subscript o b p] e X.env = pure none := by rfl)
    (h1 : (assignEach [.Subscript o b p] X.env).map (·.2) = [assign (.Subscript o b p) X.env] := by rfl)
    (ha : ∀ v, assign (.Subscript o b p) X.env v = (do
      let ov ← holding [v] (eval o X.env)
      let iv ← holding [v, ov] (eval b X.env)
      standAt p
      holding [v, ov, iv] (setItem ov iv v)
      release [v, ov, iv] []) := by intro _; rfl) : SVs X Γ γ (.Assign [.Subscript o b p] e pos :: rest) R :=
  svs_cons fun F as σ H D Rp E C => ⟨_, ps_asg pe_wp (pg_sub pe_wp pe_wp set_list ha) hs hw h1, he.go Rp E fun v F1 as1 H1 x1 R1 i1 => ho.go R1 (E.mono x1) fun u F2 as2 H2 x2 R2 i2 => hi.go R2 (E.mono (x1.trans x2)) fun w F3 as3 H3 x3 R3 i3 => by
    obtain ⟨l, hl, rfl⟩ := itm_cl.mp (itm_mono x3 i2)
    obtain ⟨l', k1, us, k2, k3⟩ := R3.cellAt hc
    rw [hl] at k1
    cases k1
    refine ⟨l, us, i, jj, rfl, itm_int.mp i3, k2, by rw [← itms_length k3]; exact hj, ?_⟩
    exact C.nx _ _ _ _ _ _ h ((x1.trans x2).trans x3) (R3.write hc (by simp) hl ⟨_, upd_same, itms_set jj k3 (itm_mono (x2.trans x3) i1)⟩) (E.mono ((x1.trans x2).trans x3))⟩
/-- xs[i] += e: ints -/
theorem sv_augitem {cc jj : Nat} {xs : List Itm} {op : Operator} {f : Int → Int → Int} {m : Int} (ho : EV X Γ γ o (.cl cc) γ1) (hi : EV X Γ γ1 b (.fz (.int (jj : Int))) γ2) (hc : γ2[cc]? = some (.lst xs)) (hx : xs[jj]? = some (.fz (.int n))) (he : EV X Γ γ2 e (.fz (.int m)) γ3) (hc' : γ3[cc]? = some (.lst xs)) (hop : PIp X op (ipI f))
    (h : SVs X Γ (γ3.set cc (.lst (xs.set jj (.fz (.int (f n m)))))) rest R)
    (ha : ∀ ov iv new, augStore b ov iv new = (do holding [new, ov, iv] (setItem ov iv new); release [new, ov, iv] []; pure .next) := by intros; rfl) : SVs X Γ γ (.AugAssign (.Subscript o b p) op e pos :: rest) R :=
  svs_cons fun F as σ H D Rp E C => ⟨_, ps_augS pe_wp pe_wp get_list pe_wp hop set_list ha, ho.go Rp E fun v F1 as1 H1 x1 R1 i1 => hi.go R1 (E.mono x1) fun u F2 as2 H2 x2 R2 i2 => by
    obtain ⟨l, hl, rfl⟩ := itm_cl.mp (itm_mono x2 i1)
    obtain ⟨l', k1, us, k2, k3⟩ := R2.cellAt hc
    rw [hl] at k1
    cases k1
    obtain ⟨w, hw, hd⟩ := itms_get k3 hx
    obtain rfl := itm_int.mp hd
    refine ⟨l, us, jj, .int n, rfl, itm_int.mp i2, SqL.of k2, hw, ?_⟩
    refine he.go R2 (E.mono (x1.trans x2)) fun w F3 as3 H3 x3 R3 i3 => ?_
    have hl3 := x3.get hl
    obtain ⟨l', k1, us3, k4, k5⟩ := R3.cellAt hc'
    rw [hl3] at k1
    cases k1
    refine ⟨n, m, rfl, itm_int.mp i3, l, us3, (jj : Int), jj, rfl, itm_int.mp i2, k4, ?_, ?_⟩
    · have hj := (List.getElem?_eq_some_iff.mp hx).1
      unfold ixN
      rw [if_pos (by omega), if_pos (by rw [← itms_length k5]; omega), Int.toNat_natCast]
    · exact C.nx _ _ _ _ _ _ h ((x1.trans x2).trans x3) (R3.write hc' (by simp) hl3 ⟨_, upd_same, itms_set jj k5 (itm_int.mpr rfl)⟩) (E.mono ((x1.trans x2).trans x3))⟩
end

/-! ### zip, enumerate -/
section
variable {X : Cx} {Γ : Slots} {γ γ1 γ2 : Cells} {e a b : Expr} {r ra rb : Itm} {pos p tpos : Pos} {ds es' : List PyData} {elts : List Expr} {kk : Nat}
def zipD (ds es : List PyData) : List Itm := (ds.zip es).map fun q => .fz (.tuple [q.1, q.2])
theorem itv_zip (bt : Bt X "zip") (ha : EV X Γ γ a ra γ1) (hb : EV X Γ γ1 b rb γ2) (h1 : Rdb γ2 ra (.list ds)) (h2 : Rdb γ2 rb (.list es')) (hs : starEach [a, b] X.env = (false, eval a X.env) :: starEach [b] X.env := by rfl) (hs2 : starEach [b] X.env = (false, eval b X.env) :: starEach [] X.env := by rfl) (hpl : (backTo pos (starEach [b] X.env)).any (·.1) = false := by rfl) :
    ITV X Γ γ (.Tuple elts kk tpos) (.Call (.Name "zip" p) [a, b] [] pos) (zipD ds es') (fun g => Rdb g ra (.list ds) ∧ Rdb g rb (.list es')) γ2 := fun F as σ H R E Q q => by
  refine ⟨_, pi_zip bt.gl bt.mg (pa_cons pe_wp (pa_cons pe_wp pa_nil hs2) hs) hs hpl, ha.go R E fun v F1 as1 H1 x1 R1 i1 => hb.go R1 (E.mono x1) fun u F2 as2 H2 x2 R2 i2 => ?_⟩
  have i1' := itm_mono x2 i1
  obtain ⟨l, us, rfl, p1, p2⟩ := h1.list R2 i1'
  obtain ⟨l', us', rfl, p1', p2'⟩ := h2.list R2 i2
  refine ⟨l, l', us, us', rfl, p1, p1', q _ F2 as2 H2 (x1.trans x2) R2 fun i F' as' γ' H' x' R' st => ?_⟩
  obtain ⟨m, ws, e1, q1, q2⟩ := st.1.list R' (itm_mono x' i1')
  obtain ⟨m', ws', e2, q1', q2'⟩ := st.2.list R' (itm_mono x' i2)
  cases e1
  cases e2
  have l1 := dpAll_length q2
  have l2 := dpAll_length q2'
  refine ⟨fun hl => ?_, fun x hx => ?_⟩
  · refine ⟨ws, ws', q1, q1', ?_⟩
    unfold zipD at hl
    simp at hl
    omega
  · unfold zipD at hx
    rw [List.getElem?_map] at hx
    cases hd : (ds.zip es')[i]? with
    | none => rw [hd] at hx; cases hx
    | some d =>
      rw [hd] at hx
      cases hx
      obtain ⟨d1, d2⟩ := d
      rw [List.getElem?_zip_eq_some] at hd
      obtain ⟨w1, hw1, hp1⟩ := dpAll_get q2 hd.1
      obtain ⟨w2, hw2, hp2⟩ := dpAll_get q2' hd.2
      refine ⟨⟨ws, ws', w1, w2, q1, q1', hw1, hw2⟩, fun v H'' y => ?_⟩
      obtain ⟨T, y1, y2, rfl, nT, rfl, f1, f2⟩ := y
      cases hw1.symm.trans (f1 ws q1)
      cases hw2.symm.trans (f2 ws' q1')
      refine ⟨upd F' T (.tup [w1, w2]), ⟨R'.sameNew _ nT, [], by simp⟩, R'.new _ nT, itm_tup.mpr ⟨T, _, rfl, SqT.of upd_same, ?_⟩⟩
      exact .cons (dp_mono (R'.sameNew _ nT) hp1) (.cons (dp_mono (R'.sameNew _ nT) hp2) .nil)
def enumD (ds : List PyData) : List Itm := ((List.range ds.length).zip ds).map fun q => .fz (.tuple [.int (q.1 : Nat), q.2])
theorem itv_enum (bt : Bt X "enumerate") (ha : EV X Γ γ a ra γ1) (h1 : Rdb γ1 ra (.list ds)) (hs : starEach [a] X.env = [(false, eval a X.env)] := by rfl) :
    ITV X Γ γ (.Tuple elts kk tpos) (.Call (.Name "enumerate" p) [a] [] pos) (enumD ds) (fun g => Rdb g ra (.list ds)) γ1 := fun F as σ H R E Q q => by
  refine ⟨_, pi_enum bt.gl bt.mg (pa_cons pe_wp pa_nil hs) hs, ha.go R E fun v F1 as1 H1 x1 R1 i1 => ?_⟩
  obtain ⟨l, us, rfl, p1, p2⟩ := h1.list R1 i1
  refine ⟨l, us, rfl, p1, q _ F1 as1 H1 x1 R1 fun i F' as' γ' H' x' R' st => ?_⟩
  obtain ⟨m, ws, e1, q1, q2⟩ := st.list R' (itm_mono x' i1)
  cases e1
  have l1 := dpAll_length q2
  refine ⟨fun hl => ?_, fun x hx => ?_⟩
  · refine ⟨ws, q1, ?_⟩
    unfold enumD at hl
    simp at hl
    omega
  · unfold enumD at hx
    rw [List.getElem?_map] at hx
    cases hd : ((List.range ds.length).zip ds)[i]? with
    | none => rw [hd] at hx; cases hx
    | some d =>
      rw [hd] at hx
      cases hx
      obtain ⟨d1, d2⟩ := d
      rw [List.getElem?_zip_eq_some] at hd
      have hi : d1 = i := by
        obtain ⟨_, h⟩ := List.getElem?_eq_some_iff.mp hd.1
        simp at h
        exact h.symm
      subst hi
      obtain ⟨w2, hw2, hp2⟩ := dpAll_get q2 hd.2
      refine ⟨⟨ws, w2, q1, hw2⟩, fun v H'' y => ?_⟩
      obtain ⟨T, y2, rfl, nT, rfl, f2⟩ := y
      cases hw2.symm.trans (f2 ws q1)
      refine ⟨upd F' T (.tup [.int (d1 : Nat), w2]), ⟨R'.sameNew _ nT, [], by simp⟩, R'.new _ nT, itm_tup.mpr ⟨T, _, rfl, SqT.of upd_same, ?_⟩⟩
      exact .cons (.int _) (.cons (dp_mono (R'.sameNew _ nT) hp2) .nil)
end
end PL

namespace PL
open PySem PySem.Spec PyProof.Rows L2

/-! ### a comprehension's block -/
def Blk (X : Cx) (scope : Scope) (X' : Cx) : Prop := ∃ s H C cl fp, X' = X.blk s H scope (compEnvC scope cl C X.env) fp
theorem relabel_cap {env : Env} (hk : env.scope.kind = .function) : ∀ {names : List (Str × NameKind)} {x : Str}, names.lookup x = some .free → env.kindOf x = some .cell →
    (names.map fun (n, k) => if (k == NameKind.free && env.scope.kind == .function && env.kindOf n == some .cell) then (n, NameKind.cell) else (n, k)).lookup x = some .cell
  | [], _, h, _ => by simp at h
  | (n, k₀) :: r, x, h, hc => by
    have ih := @relabel_cap env hk r x
    show List.lookup x ((if (k₀ == NameKind.free && env.scope.kind == .function && env.kindOf n == some .cell) = true then (n, NameKind.cell) else (n, k₀)) :: (r.map _)) = some .cell
    cases hx : x == n with
    | true =>
      have e : x = n := by simpa using hx
      subst e
      simp only [List.lookup_cons, hx] at h
      cases h
      have : (NameKind.free == NameKind.free && env.scope.kind == .function && env.kindOf x == some .cell) = true := by rw [hk, hc]; rfl
      rw [if_pos this]
      simp only [List.lookup_cons, hx]
    | false =>
      simp only [List.lookup_cons, hx] at h
      by_cases hq : (k₀ == NameKind.free && env.scope.kind == .function && env.kindOf n == some .cell) = true
      · rw [if_pos hq]; simp only [List.lookup_cons, hx]; exact ih h hc
      · rw [if_neg hq]; simp only [List.lookup_cons, hx]; exact ih h hc
theorem relabel_keep {env : Env} {names : List (Str × NameKind)} {x : Str} {k : NameKind} (hk : k ≠ .free) (h : names.lookup x = some k) :
    (names.map fun (n, k) => if (k == NameKind.free && env.scope.kind == .function && env.kindOf n == some .cell) then (n, NameKind.cell) else (n, k)).lookup x = some k := by
  induction names with
  | nil => simp at h
  | cons a r ih =>
    obtain ⟨n, k₀⟩ := a
    show List.lookup x ((if (k₀ == NameKind.free && env.scope.kind == .function && env.kindOf n == some .cell) = true then (n, NameKind.cell) else (n, k₀)) :: (r.map _)) = some k
    cases hx : x == n with
    | true =>
      simp only [List.lookup_cons, hx] at h
      cases h
      have : ¬ (k == NameKind.free && env.scope.kind == .function && env.kindOf n == some .cell) = true := by simp [hk]
      rw [if_neg this]
      simp only [List.lookup_cons, hx]
    | false =>
      simp only [List.lookup_cons, hx] at h
      by_cases hq : (k₀ == NameKind.free && env.scope.kind == .function && env.kindOf n == some .cell) = true
      · rw [if_pos hq]; simp only [List.lookup_cons, hx]; exact ih h
      · rw [if_neg hq]; simp only [List.lookup_cons, hx]; exact ih h
section
variable {X X' : Cx} {scope : Scope} {x : Str} {i : Nat} {k : NameKind} {S : PSpec}
theorem Blk.cok (b : Blk X scope X') (h : Cok X) (hk : scope.kind = .function) : Cok X' := by
  obtain ⟨s, H, C, cl, fp, rfl⟩ := b
  exact ⟨h.calm, h.nd, hk, h.hu⟩
theorem Blk.own (b : Blk X scope X') (hi : X.N[i]? = some x) (h : scope.names.lookup x = some .local) (d1 : (x == ("__debug__" : Str)) = false) (d2 : (x == ("__classdict__" : Str)) = false) : Nm X' x i .local := by
  obtain ⟨s, H, C, cl, fp, rfl⟩ := b
  exact ⟨⟨hi, relabel_keep (by decide) h, .inl rfl, d1, d2⟩, .inr rfl⟩
theorem Blk.ownC (b : Blk X scope X') (hi : X.N[i]? = some x) (h : scope.names.lookup x = some .cell) (d1 : (x == ("__debug__" : Str)) = false) (d2 : (x == ("__classdict__" : Str)) = false) : Nm X' x i .cell := by
  obtain ⟨s, H, C, cl, fp, rfl⟩ := b
  exact ⟨⟨hi, relabel_keep (by decide) h, .inr rfl, d1, d2⟩, .inl (by show (scope.names.lookup x == some .cell) = true; rw [h]; rfl)⟩
theorem Blk.cap (b : Blk X scope X') (hX : Cok X) (n : Nr X x i .cell) (h : scope.names.lookup x = some .free) : Nr X' x i .cell := by
  obtain ⟨s, H, C, cl, fp, rfl⟩ := b
  exact ⟨n.ix, relabel_cap hX.kind h n.kd, .inr rfl, n.d1, n.d2⟩
theorem Blk.bt (b : Blk X scope X') (n : X.mg x = none) (h : scope.names.lookup x = some .globalImplicit) : Bt X' x := by
  obtain ⟨s, H, C, cl, fp, rfl⟩ := b
  exact ⟨relabel_keep (by decide) h, n⟩
theorem Blk.cal (b : Blk X scope X') (n : Cal X x S) (h : scope.names.lookup x = some .globalImplicit) : Cal X' x S := by
  obtain ⟨s, H, C, cl, fp, rfl⟩ := b
  exact ⟨n.ex, relabel_keep (by decide) h, n.d1⟩
end
/-- the slots of the block's own names forgotten -/
def wipeS (Γ : Slots) : List Nat → Slots
  | [] => Γ
  | v :: vs => (wipeS Γ vs).set v none
theorem env_wipe {K F as} {Γ : Slots} {σ : L2.St} (h : EnvR K F as Γ σ) : ∀ vs, EnvR K F as (wipeS Γ vs) (wipe σ vs)
  | [] => h
  | v :: vs => (env_wipe h vs).unset
theorem wipe_at (σ : L2.St) : ∀ (vs : List Nat) (j : Nat), (wipe σ vs)[j]? = if j ∈ vs ∧ j < σ.length then some none else σ[j]?
  | [], j => by simp [wipe]
  | v :: vs, j => by
    unfold wipe
    by_cases hj : v = j
    · subst hj
      by_cases hl : v < σ.length
      · rw [List.getElem?_set_self (by rw [wipe_length]; exact hl)]
        simp [hl]
      · rw [List.getElem?_eq_none (by rw [List.length_set, wipe_length]; omega), List.getElem?_eq_none (by omega)]
        simp [hl]
    · rw [List.getElem?_set_ne hj, wipe_at σ vs j]
      simp [Ne.symm hj]
theorem wipe_but {σ σ' : L2.St} {ws vs : List Nat} (b : But ws (wipe σ vs) σ') (h : ∀ j ∈ ws, j ∈ vs) : wipe σ' vs = wipe σ vs := by
  apply List.ext_getElem?
  intro j
  have hl := b.1
  rw [wipe_length] at hl
  rw [wipe_at, wipe_at, hl]
  by_cases hj : j ∈ vs ∧ j < σ.length
  · rw [if_pos hj, if_pos hj]
  · rw [if_neg hj, if_neg hj]
    by_cases hw : j ∈ ws
    · have : ¬ j < σ.length := fun q => hj ⟨h j hw, q⟩
      rw [List.getElem?_eq_none (by omega), List.getElem?_eq_none (by omega)]
    · rw [b.2 j hw, wipe_at, if_neg hj]

def wpTs (X : Cx) (ifs : List Expr) : TT := fun σ H Q => ∃ t, PTs X ifs t ∧ t σ H Q
def TVs (X : Cx) (Γ : Slots) (γ : Cells) (ifs : List Expr) (k : Bool) (γ' : Cells) : Prop :=
  ∀ F as σ H, Rep X.K F as γ H → EnvR X.K F as Γ σ → ∀ Q : Bool → Hp → Prop, (∀ F' as' H', Ext F as F' as' → Rep X.K F' as' γ' H' → Q k H') → wpTs X ifs σ H Q
section
variable {X : Cx} {Γ : Slots} {γ γ1 : Cells} {c : Expr} {k : Bool} {ifs : List Expr}
theorem pts_wp : PTs X ifs (wpTs X ifs) := ⟨fun pins s σ H Q I ⟨t, h, q⟩ => h.run pins s σ H Q I q⟩
theorem tvs_nil : TVs X Γ γ [] true γ := fun F as σ H R E Q q => ⟨_, pts_nil, q F as H (Ext.refl F as) R⟩
theorem tvs_one (h : TV X Γ γ c k γ1) : TVs X Γ γ [c] k γ1 := fun F as σ H R E Q q => ⟨_, pts_one pt_wp, h F as σ H R E Q q⟩
end
/-! ### list comprehensions -/
section
variable {X : Cx} {Γ : Slots} {γ γ1 : Cells} {tg it elt : Expr} {ifs : List Expr} {scope : Scope} {own : List (Str × Nat)} {pos : Pos} {xs : List Itm} {stab : Cells → Prop} {P : EPost}
/-- the block's readings, for every block -/
def wbE (X : Cx) (scope : Scope) (e : Expr) : TE := fun σ H Q => ∀ X', Blk X scope X' → wpE X' e σ H Q
def wbT (X : Cx) (scope : Scope) (e : List Expr) : TT := fun σ H Q => ∀ X', Blk X scope X' → wpTs X' e σ H Q
def wbG (X : Cx) (scope : Scope) (e : Expr) : TG := fun v σ H Q => ∀ X', Blk X scope X' → wpG X' e v σ H Q
theorem lc_reads (hi : ITV X Γ γ tg it xs stab γ1) (Pv : Nat → List Itm → Cells → Prop) (h0 : Pv 0 [] γ1) (hst : ∀ i acc g, i ≤ xs.length → Pv i acc g → stab (g ++ [.lst acc])) (hlen : ∀ i acc g, Pv i acc g → g.length = γ1.length ∧ acc.length ≤ i)
    (hsz : xs.length ≤ 1000000)
    (hb : ∀ i x acc g, xs[i]? = some x → Pv i acc g → ∃ Γ2 ws k g2, (∀ j ∈ ws, j ∈ own.map (·.2)) ∧ g2.length = γ1.length ∧ ∀ X', Blk X scope X' →
      GV X' (g ++ [.lst acc]) (wipeS Γ (own.map (·.2))) tg x Γ2 ws ∧ TVs X' Γ2 (g ++ [.lst acc]) ifs k (g2 ++ [.lst acc]) ∧ (k = false → Pv (i + 1) acc g2) ∧
      (k = true → EE X' Γ2 (g2 ++ [.lst acc]) elt fun r g3 => ∃ g', g3 = g' ++ [.lst acc] ∧ Pv (i + 1) (acc ++ [r]) g'))
    {F as σ H} (R : Rep X.K F as γ H) (E : EnvR X.K F as Γ σ) {Q : VK} (q : ∀ D acc g F' as' H', Clo γ1 → as.length ≤ γ1.length → Pv xs.length acc g → Ext F as F' as' → Rep X.K F' as' (g ++ [.lst acc]) H' → as'[γ1.length]? = some D → Q (.ref D) H') :
    tLc (wpI X tg it) (wbG X scope tg) (wbT X scope ifs) (wbE X scope elt) (own.map (·.2)) σ H Q := by
  refine hi F as σ H R E _ fun J F1 as1 H1 x1 R1 hJ D hD => ?_
  obtain ⟨R1', i1'⟩ := newCellL R1 .nil hD
  have l1 : as1.length = γ1.length := R1.len
  have hDat : (as1 ++ [D])[γ1.length]? = some D := by rw [← l1, List.getElem?_append_right (Nat.le_refl _)]; simp
  have x1' : Ext F1 as1 F1 (as1 ++ [D]) := ⟨Same.refl F1, [D], rfl⟩
  -- what holds at turn i
  refine ⟨fun i m H' => m = xs.length - i ∧ i ≤ xs.length ∧ ∃ acc g F' as', Pv i acc g ∧ Ext F1 (as1 ++ [D]) F' as' ∧ Rep X.K F' as' (g ++ [.lst acc]) H', ⟨xs.length, by simp, Nat.zero_le _, [], γ1, F1, as1 ++ [D], h0, Ext.refl _ _, R1'⟩, ?_⟩
  rintro i m H' ⟨rfl, hle, acc, g, F', as', hp, x', R'⟩
  obtain ⟨lg, la⟩ := hlen i acc g hp
  obtain ⟨j1, j2⟩ := hJ i F' as' _ H' (x1'.trans x') R' (hst i acc g hle hp)
  by_cases hlt : i < xs.length
  · obtain ⟨g1, g2⟩ := j2 xs[i] (List.getElem?_eq_getElem hlt)
    refine .inr ⟨g1, fun H'' => ∃ acc g F' as', Pv (i + 1) acc g ∧ Ext F1 (as1 ++ [D]) F' as' ∧ Rep X.K F' as' (g ++ [.lst acc]) H'', fun H'' n => ⟨xs.length - (i + 1), by omega, rfl, hlt, n⟩, fun v H'' y => ?_⟩
    obtain ⟨F'', x'', R'', i''⟩ := g2 v H'' y
    obtain ⟨Γ2, ws, k, c2, hws, lc2, hall⟩ := hb i xs[i] acc g (List.getElem?_eq_getElem hlt) hp
    intro X' hB
    have hK : X'.K = X.K := by obtain ⟨_, _, _, _, _, rfl⟩ := hB; rfl
    refine (hall X' hB).1 F'' as' (wipe σ _) H'' v (hK ▸ R'') (hK ▸ env_wipe (E.mono (((x1.trans x1').trans x').trans x'')) _) (hK ▸ i'') _ fun σ2 E2 b2 => ⟨wipe_but b2 hws, ?_⟩
    rw [hK] at E2
    intro X2 hB2
    have hK2 : X2.K = X.K := by obtain ⟨_, _, _, _, _, rfl⟩ := hB2; rfl
    refine (hall X2 hB2).2.1 F'' as' σ2 H'' (hK2 ▸ R'') (hK2 ▸ E2) _ fun F3 as3 H3 x3 R3 => ?_
    rw [hK2] at R3
    have xx := (x'.trans x'').trans x3
    cases k with
    | false => exact iteF ⟨acc, c2, F3, as3, (hall X2 hB2).2.2.1 rfl, xx, R3⟩
    | true =>
      refine iteT fun X3 hB3 => ?_
      have hK3 : X3.K = X.K := by obtain ⟨_, _, _, _, _, rfl⟩ := hB3; rfl
      refine (hall X3 hB3).2.2.2 rfl F3 as3 σ2 H3 (hK3 ▸ R3) (hK3 ▸ E2.mono x3) _ fun w r g3 F4 as4 H4 hg3 x4 R4 i4 => ?_
      rw [hK3] at R4 i4
      obtain ⟨g', rfl, hp'⟩ := hg3
      obtain ⟨lg', la'⟩ := hlen (i + 1) _ g' hp'
      have hDx : as4[γ1.length]? = some D := (xx.trans x4).get hDat
      have hc : (g' ++ [Cell.lst acc])[γ1.length]? = some (.lst acc) := by rw [← lg', List.getElem?_append_right (Nat.le_refl _)]; simp
      obtain ⟨D', k1, us, k2, k3⟩ := R4.cellAt hc
      rw [hDx] at k1
      cases k1
      have e := itms_length k3
      refine ⟨us, k2, by rw [← e, sizeLine_eq]; omega, acc ++ [r], g', F4, as4, hp', xx.trans x4, ?_⟩
      have R5 := R4.write (cell := .lst (acc ++ [r])) hc (by simp) hDx ⟨_, upd_same, itms_append k3 (.cons i4 .nil)⟩
      have es : (g' ++ [Cell.lst acc]).set γ1.length (.lst (acc ++ [r])) = g' ++ [.lst (acc ++ [r])] := by
        rw [List.set_append_right _ _ (by omega), lg', Nat.sub_self]
        rfl
      rw [es] at R5
      exact R5
  · have e : i = xs.length := by omega
    subst e
    exact .inl ⟨j1 (Nat.le_refl _), q D acc g F' as' H' R1.clo (by rw [← l1]; obtain ⟨_, t, rfl⟩ := x1; simp) hp ((x1.trans x1').trans x') R' (x'.get hDat)⟩
/-- as a value: a cell -/
theorem ee_lcC (hX : Cok X) (ok : BlkOk X.N X.env.scope scope own) (hi : ITV X Γ γ tg it xs stab γ1) (Pv : Nat → List Itm → Cells → Prop) (h0 : Pv 0 [] γ1) (hst : ∀ i acc g, i ≤ xs.length → Pv i acc g → stab (g ++ [.lst acc])) (hlen : ∀ i acc g, Pv i acc g → g.length = γ1.length ∧ acc.length ≤ i)
    (hsz : xs.length ≤ 1000000)
    (hb : ∀ i x acc g, xs[i]? = some x → Pv i acc g → ∃ Γ2 ws k g2, (∀ j ∈ ws, j ∈ own.map (·.2)) ∧ g2.length = γ1.length ∧ ∀ X', Blk X scope X' →
      GV X' (g ++ [.lst acc]) (wipeS Γ (own.map (·.2))) tg x Γ2 ws ∧ TVs X' Γ2 (g ++ [.lst acc]) ifs k (g2 ++ [.lst acc]) ∧ (k = false → Pv (i + 1) acc g2) ∧
      (k = true → EE X' Γ2 (g2 ++ [.lst acc]) elt fun r g3 => ∃ g', g3 = g' ++ [.lst acc] ∧ Pv (i + 1) (acc ++ [r]) g'))
    (hs : ∀ x, foldedSetIterable it X.env x = pure x := by intro _; rfl) :
    EE X Γ γ (.ListComp elt [⟨tg, it, ifs, 0⟩] scope pos) fun r g => r = .cl γ1.length ∧ ∃ acc g', Pv xs.length acc g' ∧ g = g' ++ [.lst acc] := fun F as σ H R E Q q => by
  refine ⟨_, pe_lc (own := own) (wi := wpI X tg it) (g := wbG X scope tg) (tt := wbT X scope ifs) (te := wbE X scope elt) hX.calm hX.nd pi_wp ok (fun s H C cl fp => ⟨fun pins s' σ H v u Q I r h => pg_wp.run pins s' σ H v u Q I r (h _ ⟨s, _, C, cl, fp, rfl⟩)⟩)
    (fun s H C cl fp => ⟨fun pins s' σ H Q I h => pts_wp.run pins s' σ H Q I (h _ ⟨s, _, C, cl, fp, rfl⟩)⟩) (fun s H C cl fp => ⟨fun pins s' σ H Q I h => pe_wp.run pins s' σ H Q I (h _ ⟨s, _, C, cl, fp, rfl⟩)⟩) hs, ?_⟩
  exact lc_reads hi Pv h0 hst hlen hsz hb R E fun D acc g F' as' H' _ _ hp x' R' hD => q (.ref D) (.cl γ1.length) _ F' as' H' ⟨rfl, acc, g, hp, rfl⟩ x' R' (itm_cl.mpr ⟨D, hD, rfl⟩)
/-- as a value: frozen -/
theorem ee_lcF (hX : Cok X) (ok : BlkOk X.N X.env.scope scope own) (hi : ITV X Γ γ tg it xs stab γ1) (Pv : Nat → List Itm → Cells → Prop) (h0 : Pv 0 [] γ1) (hst : ∀ i acc g, i ≤ xs.length → Pv i acc g → stab (g ++ [.lst acc])) (hlen : ∀ i acc g, Pv i acc g → g.length = γ1.length ∧ acc.length ≤ i)
    (hsz : xs.length ≤ 1000000)
    (hfz : ∀ acc g, Pv xs.length acc g → (∃ ds : List PyData, acc = ds.map Itm.fz) ∧ (Clo γ1 → Clo g))
    (hb : ∀ i x acc g, xs[i]? = some x → Pv i acc g → ∃ Γ2 ws k g2, (∀ j ∈ ws, j ∈ own.map (·.2)) ∧ g2.length = γ1.length ∧ ∀ X', Blk X scope X' →
      GV X' (g ++ [.lst acc]) (wipeS Γ (own.map (·.2))) tg x Γ2 ws ∧ TVs X' Γ2 (g ++ [.lst acc]) ifs k (g2 ++ [.lst acc]) ∧ (k = false → Pv (i + 1) acc g2) ∧
      (k = true → EE X' Γ2 (g2 ++ [.lst acc]) elt fun r g3 => ∃ g', g3 = g' ++ [.lst acc] ∧ Pv (i + 1) (acc ++ [r]) g'))
    (hs : ∀ x, foldedSetIterable it X.env x = pure x := by intro _; rfl) :
    EE X Γ γ (.ListComp elt [⟨tg, it, ifs, 0⟩] scope pos) fun r g => ∃ ds : List PyData, r = .fz (.list ds) ∧ Pv xs.length (ds.map Itm.fz) g := fun F as σ H R E Q q => by
  refine ⟨_, pe_lc (own := own) (wi := wpI X tg it) (g := wbG X scope tg) (tt := wbT X scope ifs) (te := wbE X scope elt) hX.calm hX.nd pi_wp ok (fun s H C cl fp => ⟨fun pins s' σ H v u Q I r h => pg_wp.run pins s' σ H v u Q I r (h _ ⟨s, _, C, cl, fp, rfl⟩)⟩)
    (fun s H C cl fp => ⟨fun pins s' σ H Q I h => pts_wp.run pins s' σ H Q I (h _ ⟨s, _, C, cl, fp, rfl⟩)⟩) (fun s H C cl fp => ⟨fun pins s' σ H Q I h => pe_wp.run pins s' σ H Q I (h _ ⟨s, _, C, cl, fp, rfl⟩)⟩) hs, ?_⟩
  refine lc_reads hi Pv h0 hst hlen hsz hb R E fun D acc g F' as' H' hclo hal hp x' R' hD => ?_
  obtain ⟨⟨ds, rfl⟩, hc⟩ := hfz acc g hp
  obtain ⟨lg, _⟩ := hlen _ _ _ hp
  have hcell : (g ++ [Cell.lst (ds.map Itm.fz)])[γ1.length]? = some (.lst (ds.map Itm.fz)) := by rw [← lg, List.getElem?_append_right (Nat.le_refl _)]; simp
  obtain ⟨D', k1, us, k2, k3⟩ := R'.cellAt hcell
  rw [hD] at k1
  cases k1
  obtain ⟨R2, sm⟩ := R'.freeze hcell (by simp) hD k2
  have es : (g ++ [Cell.lst (ds.map Itm.fz)]).set γ1.length .dead = g ++ [.dead] := by
    rw [List.set_append_right _ _ (by omega), lg, Nat.sub_self]
    rfl
  rw [es] at R2
  refine q (.ref D) _ g _ (as'.take g.length) H' ⟨ds, rfl, hp⟩ ⟨x'.1.trans sm, ?_⟩ (R2.cut (hc hclo)) (itm_lst.mpr ⟨D, us, rfl, SqL.of upd_same, dpAll_mono sm (itms_fz k3)⟩)
  obtain ⟨_, tt, rfl⟩ := x'
  rw [List.take_append, List.take_of_length_le (by omega)]
  exact ⟨_, rfl⟩
/-- name = [..], the name a local: the list is stored within the block's frame -/
theorem swf {y : Str} {py : Pos} {l : Nat} {env : Env} {gs : List Comprehension} (hy : env.scope.names.lookup y = some .cell) : swapsWith (.ListComp elt gs scope pos) (some (.Name y py)) l env = pure false := by
  have ky : env.kindOf y = some .cell := hy
  unfold swapsWith
  have e : (some NameKind.cell == some NameKind.local) = false := rfl
  simp only [ky, e, Bool.and_false, Bool.false_and]
theorem swf_line {y : Str} {py : Pos} {l : Nat} {env : Env} {gs : List Comprehension} (hl : (py.line == pos.line) = false) : swapsWith (.ListComp elt gs scope pos) (some (.Name y py)) l env = pure false := by
  unfold swapsWith
  simp only [Expr.pos, hl]
  simp
theorem svs_setLcC {i : Nat} {y : Str} {py spos : Pos} {rest : List Stmt} {R : SE} (hX : Cok X) (n : Nm X y i .local) (hl : (py.line == pos.line) = true) (hany : (scope.names.any fun (n, k) => n == y && (k == .local || k == .cell)) = false) (ok : BlkOk X.N X.env.scope scope own) (hi : ITV X Γ γ tg it xs stab γ1) (Pv : Nat → List Itm → Cells → Prop) (h0 : Pv 0 [] γ1) (hst : ∀ i acc g, i ≤ xs.length → Pv i acc g → stab (g ++ [.lst acc])) (hlen : ∀ i acc g, Pv i acc g → g.length = γ1.length ∧ acc.length ≤ i)
    (hsz : xs.length ≤ 1000000)
    (hb : ∀ i x acc g, xs[i]? = some x → Pv i acc g → ∃ Γ2 ws k g2, (∀ j ∈ ws, j ∈ own.map (·.2)) ∧ g2.length = γ1.length ∧ ∀ X', Blk X scope X' →
      GV X' (g ++ [.lst acc]) (wipeS Γ (own.map (·.2))) tg x Γ2 ws ∧ TVs X' Γ2 (g ++ [.lst acc]) ifs k (g2 ++ [.lst acc]) ∧ (k = false → Pv (i + 1) acc g2) ∧
      (k = true → EE X' Γ2 (g2 ++ [.lst acc]) elt fun r g3 => ∃ g', g3 = g' ++ [.lst acc] ∧ Pv (i + 1) (acc ++ [r]) g'))
    (h : ∀ acc g, Pv xs.length acc g → SVs X (Γ.set i (some (.cl γ1.length))) (g ++ [.lst acc]) rest R)
    (hs : ∀ x, foldedSetIterable it X.env x = pure x := by intro _; rfl) :
    SVs X Γ γ (.Assign [.Name y py] (.ListComp elt [⟨tg, it, ifs, 0⟩] scope pos) spos :: rest) R := svs_cons fun F as σ H D Rp E C => by
  refine ⟨_, ps_setLc (i := i) (own := own) (wi := wpI X tg it) (g := wbG X scope tg) (tt := wbT X scope ifs) (te := wbE X scope elt) hX.calm hX.nd n.ix n.r.kd (sw_true hX.kind n.r.kd hl hany) pi_wp ok (fun s H C cl fp => ⟨fun pins s' σ H v u Q I r h => pg_wp.run pins s' σ H v u Q I r (h _ ⟨s, _, C, cl, fp, rfl⟩)⟩)
    (fun s H C cl fp => ⟨fun pins s' σ H Q I h => pts_wp.run pins s' σ H Q I (h _ ⟨s, _, C, cl, fp, rfl⟩)⟩) (fun s H C cl fp => ⟨fun pins s' σ H Q I h => pe_wp.run pins s' σ H Q I (h _ ⟨s, _, C, cl, fp, rfl⟩)⟩) hs, ?_⟩
  refine lc_reads hi Pv h0 hst hlen hsz hb Rp E fun D' acc g F' as' H' _ _ hp x' R' hD => ?_
  exact C.nx _ _ _ _ _ _ (h acc g hp) x' R' ((E.mono x').set (itm_cl.mpr ⟨D', hD, rfl⟩))
theorem svs_setLcF {i : Nat} {y : Str} {py spos : Pos} {rest : List Stmt} {R : SE} (hX : Cok X) (n : Nm X y i .local) (hl : (py.line == pos.line) = true) (hany : (scope.names.any fun (n, k) => n == y && (k == .local || k == .cell)) = false) (ok : BlkOk X.N X.env.scope scope own) (hi : ITV X Γ γ tg it xs stab γ1) (Pv : Nat → List Itm → Cells → Prop) (h0 : Pv 0 [] γ1) (hst : ∀ i acc g, i ≤ xs.length → Pv i acc g → stab (g ++ [.lst acc])) (hlen : ∀ i acc g, Pv i acc g → g.length = γ1.length ∧ acc.length ≤ i)
    (hsz : xs.length ≤ 1000000)
    (hfz : ∀ acc g, Pv xs.length acc g → (∃ ds : List PyData, acc = ds.map Itm.fz) ∧ (Clo γ1 → Clo g))
    (hb : ∀ i x acc g, xs[i]? = some x → Pv i acc g → ∃ Γ2 ws k g2, (∀ j ∈ ws, j ∈ own.map (·.2)) ∧ g2.length = γ1.length ∧ ∀ X', Blk X scope X' →
      GV X' (g ++ [.lst acc]) (wipeS Γ (own.map (·.2))) tg x Γ2 ws ∧ TVs X' Γ2 (g ++ [.lst acc]) ifs k (g2 ++ [.lst acc]) ∧ (k = false → Pv (i + 1) acc g2) ∧
      (k = true → EE X' Γ2 (g2 ++ [.lst acc]) elt fun r g3 => ∃ g', g3 = g' ++ [.lst acc] ∧ Pv (i + 1) (acc ++ [r]) g'))
    (h : ∀ (ds : List PyData) g, Pv xs.length (ds.map Itm.fz) g → SVs X (Γ.set i (some (.fz (.list ds)))) g rest R)
    (hs : ∀ x, foldedSetIterable it X.env x = pure x := by intro _; rfl) :
    SVs X Γ γ (.Assign [.Name y py] (.ListComp elt [⟨tg, it, ifs, 0⟩] scope pos) spos :: rest) R := svs_cons fun F as σ H D Rp E C => by
  refine ⟨_, ps_setLc (i := i) (own := own) (wi := wpI X tg it) (g := wbG X scope tg) (tt := wbT X scope ifs) (te := wbE X scope elt) hX.calm hX.nd n.ix n.r.kd (sw_true hX.kind n.r.kd hl hany) pi_wp ok (fun s H C cl fp => ⟨fun pins s' σ H v u Q I r h => pg_wp.run pins s' σ H v u Q I r (h _ ⟨s, _, C, cl, fp, rfl⟩)⟩)
    (fun s H C cl fp => ⟨fun pins s' σ H Q I h => pts_wp.run pins s' σ H Q I (h _ ⟨s, _, C, cl, fp, rfl⟩)⟩) (fun s H C cl fp => ⟨fun pins s' σ H Q I h => pe_wp.run pins s' σ H Q I (h _ ⟨s, _, C, cl, fp, rfl⟩)⟩) hs, ?_⟩
  refine lc_reads hi Pv h0 hst hlen hsz hb Rp E fun D' acc g F' as' H' hclo hal hp x' R' hD => ?_
  obtain ⟨⟨ds, rfl⟩, hc⟩ := hfz acc g hp
  obtain ⟨lg, _⟩ := hlen _ _ _ hp
  have hcell : (g ++ [Cell.lst (ds.map Itm.fz)])[γ1.length]? = some (.lst (ds.map Itm.fz)) := by rw [← lg, List.getElem?_append_right (Nat.le_refl _)]; simp
  obtain ⟨D2, k1, us, k2, k3⟩ := R'.cellAt hcell
  rw [hD] at k1
  cases k1
  obtain ⟨R2, sm⟩ := R'.freeze hcell (by simp) hD k2
  have es : (g ++ [Cell.lst (ds.map Itm.fz)]).set γ1.length .dead = g ++ [.dead] := by
    rw [List.set_append_right _ _ (by omega), lg, Nat.sub_self]
    rfl
  rw [es] at R2
  have xx : Ext F as (upd F' D' (.lst us)) (as'.take g.length) := ⟨x'.1.trans sm, by
    obtain ⟨_, tt, rfl⟩ := x'
    rw [List.take_append, List.take_of_length_le (by omega)]
    exact ⟨_, rfl⟩⟩
  exact C.nx _ _ _ _ _ _ (h ds g hp) xx (R2.cut (hc hclo)) ((E.mono xx).set (itm_lst.mpr ⟨D', us, rfl, SqL.of upd_same, dpAll_mono sm (itms_fz k3)⟩))
end
end PL

namespace PL
open PySem PySem.Spec PyProof.Rows L2

/-! ### what follows, in the place of what comes out -/
def AE (X : Cx) (Γ : Slots) (γ : Cells) (es : List Expr) (P : List Itm → Cells → Prop) : Prop :=
  ∀ (F : Hp) (as : List Addr) (σ : L2.St) (H : Hp), Rep X.K F as γ H → EnvR X.K F as Γ σ → ∀ Q : List V → Hp → Prop,
    (∀ vs rs γ' F' as' H', P rs γ' → Ext F as F' as' → Rep X.K F' as' γ' H' → ItmsR X.K F' as' rs vs → Q vs H') → wpA X es σ H Q
def TP (X : Cx) (Γ : Slots) (γ : Cells) (e : Expr) (P : Bool → Cells → Prop) : Prop :=
  ∀ (F : Hp) (as : List Addr) (σ : L2.St) (H : Hp), Rep X.K F as γ H → EnvR X.K F as Γ σ → ∀ Q : Bool → Hp → Prop,
    (∀ k γ' F' as' H', P k γ' → Ext F as F' as' → Rep X.K F' as' γ' H' → Q k H') → wpT X e σ H Q
def wpC (X : Cx) (op : CmpOp) : R2 := fun x y H Q => ∃ t : R2, OpR X (compareOp op) t ∧ t x y H Q
theorem wpC_ok {X : Cx} {op : CmpOp} : OpR X (compareOp op) (wpC X op) := fun pins s σ H x y v u Q I rx ry ⟨t, h, q⟩ => h pins s σ H x y v u Q I rx ry q
section
variable {X : Cx} {Γ : Slots} {γ γ1 γ2 γ3 : Cells} {e a b o c : Expr} {es : List Expr} {rs : List Itm} {r ra rb : Itm} {pos p : Pos} {x : Str} {S : PSpec} {P : EPost} {R : SE} {rest sa sb : List Stmt} {k : Bool} {i j n : Int}
theorem EE.of (h : EV X Γ γ e r γ1) (hp : P r γ1) : EE X Γ γ e P := EE.imp h fun r' g ⟨e1, e2⟩ => by subst e1 e2; exact hp
theorem TP.of {P : Bool → Cells → Prop} (h : TV X Γ γ e k γ1) (hp : P k γ1) : TP X Γ γ e P := fun F as σ H R E Q q => h F as σ H R E Q fun F' as' H' x R' => q k γ1 F' as' H' hp x R'
theorem AE.of {P : List Itm → Cells → Prop} (h : AV X Γ γ es rs γ1) (hp : P rs γ1) : AE X Γ γ es P := fun F as σ H R E Q q => h F as σ H R E Q fun vs F' as' H' x R' i => q vs rs γ1 F' as' H' hp x R' i
theorem ae_nil {P : List Itm → Cells → Prop} (hp : P [] γ) : AE X Γ γ [] P := AE.of av_nil hp
theorem ae_cons {P : List Itm → Cells → Prop} (h : EE X Γ γ e fun r g => AE X Γ g es fun rs g' => P (r :: rs) g') (hs : starEach (e :: es) X.env = (false, eval e X.env) :: starEach es X.env := by rfl) : AE X Γ γ (e :: es) P := fun F as σ H R E Q q =>
  ⟨_, pa_cons pe_wp pa_wp hs, h F as σ H R E _ fun v r g F1 as1 H1 hp x1 R1 i1 => hp F1 as1 σ H1 R1 (E.mono x1) _ fun vs rs g' F2 as2 H2 hp2 x2 R2 i2 => q _ _ g' F2 as2 H2 hp2 (x1.trans x2) R2 (.cons (itm_mono x2 i1) i2)⟩
theorem ee_call' (h : Cal X x S) (ha : AE X Γ γ (e :: es) fun rs g => S rs g P) (he : starEach (e :: es) X.env = (false, eval e X.env) :: starEach es X.env := by rfl) (hpl : (backTo pos (starEach es X.env)).any (·.1) = false := by rfl) :
    EE X Γ γ (.Call (.Name x p) (e :: es) [] pos) P := fun F as σ H R E Q q => by
  obtain ⟨k, ⟨f, fd, ps, G, hm, hk, hb⟩, hr⟩ := h.ex
  refine ⟨_, pe_call G hr h.gl hm hk hb .nil pass0 pa_wp h.d1 he hpl, ?_⟩
  refine ha F as σ H R E _ fun vs rs g F1 as1 H1 hs x1 R1 i1 => ?_
  show spPL X.K S (vs ++ []) H1 Q E0
  rw [List.append_nil]
  exact ⟨F1, as1, g, rs, P, R1, i1, hs, fun v r g F2 as2 H2 hp x2 R2 i2 => q v r g F2 as2 H2 hp (x1.trans x2) R2 i2⟩
/-- two operands, then r -/
theorem ee_op {op : Operator} {t : R2} (ho : OpR X (binaryOp op) t)
    (h : EE X Γ γ a fun ra g1 => EE X Γ g1 b fun rb g2 => ∀ F as H x y, Rep X.K F as g2 H → ItmR X.K F as ra x → ItmR X.K F as rb y → ∀ Q : VK, (∀ v r g3 F' as' H', P r g3 → Ext F as F' as' → Rep X.K F' as' g3 H' → ItmR X.K F' as' r v → Q v H') → t x y H Q) :
    EE X Γ γ (.BinOp a op b pos) P := fun F as σ H R E Q q => by
  refine ⟨_, pe_op ho pe_wp pe_wp, ?_⟩
  refine h F as σ H R E _ fun v ra g1 F1 as1 H1 hp x1 R1 i1 => ?_
  refine hp F1 as1 σ H1 R1 (E.mono x1) _ fun u rb g2 F2 as2 H2 hp2 x2 R2 i2 => ?_
  exact hp2 F2 as2 H2 v u R2 (itm_mono x2 i1) i2 Q fun w r g3 F3 as3 H3 hp3 x3 R3 i3 => q w r g3 F3 as3 H3 hp3 ((x1.trans x2).trans x3) R3 i3
theorem ee_opI {op : Operator} {C : Int → Int → Prop} {f : Int → Int → Int} (ho : OpR X (binaryOp op) (rI C fun i j => .int (f i j)))
    (h : EE X Γ γ a fun ra g1 => ∃ i, ra = .fz (.int i) ∧ EE X Γ g1 b fun rb g2 => ∃ j, rb = .fz (.int j) ∧ C i j ∧ P (.fz (.int (f i j))) g2) : EE X Γ γ (.BinOp a op b pos) P :=
  ee_op ho (EE.imp h fun ra g1 ⟨i, e1, h2⟩ => EE.imp h2 fun rb g2 ⟨j, e2, hc, hp⟩ => fun F as H x y R hx hy Q q => by
    subst e1 e2
    exact ⟨i, j, itm_int.mp hx, itm_int.mp hy, hc, q _ _ _ F as H hp (Ext.refl F as) R (itm_int.mpr rfl)⟩)
theorem ee_opI0 {op : Operator} {f : Int → Int → Int} (ho : OpR X (binaryOp op) (rI0 fun i j => .int (f i j)))
    (h : EE X Γ γ a fun ra g1 => ∃ i, ra = .fz (.int i) ∧ EE X Γ g1 b fun rb g2 => ∃ j, rb = .fz (.int j) ∧ P (.fz (.int (f i j))) g2) : EE X Γ γ (.BinOp a op b pos) P :=
  ee_op ho (EE.imp h fun ra g1 ⟨i, e1, h2⟩ => EE.imp h2 fun rb g2 ⟨j, e2, hp⟩ => fun F as H x y R hx hy Q q => by
    subst e1 e2
    exact ⟨i, j, itm_int.mp hx, itm_int.mp hy, q _ _ _ F as H hp (Ext.refl F as) R (itm_int.mpr rfl)⟩)
theorem ee_add (h : EE X Γ γ a fun ra g1 => ∃ i, ra = .fz (.int i) ∧ EE X Γ g1 b fun rb g2 => ∃ j, rb = .fz (.int j) ∧ P (.fz (.int (i + j))) g2) : EE X Γ γ (.BinOp a .Add b pos) P := ee_opI0 op_add h
theorem ee_sub (h : EE X Γ γ a fun ra g1 => ∃ i, ra = .fz (.int i) ∧ EE X Γ g1 b fun rb g2 => ∃ j, rb = .fz (.int j) ∧ P (.fz (.int (i - j))) g2) : EE X Γ γ (.BinOp a .Sub b pos) P := ee_opI0 op_sub h
theorem ee_mul (h : EE X Γ γ a fun ra g1 => ∃ i, ra = .fz (.int i) ∧ EE X Γ g1 b fun rb g2 => ∃ j, rb = .fz (.int j) ∧ CMulW i j ∧ P (.fz (.int (i * j))) g2) : EE X Γ γ (.BinOp a .Mult b pos) P := ee_opI op_mulW h
theorem ee_mod (h : EE X Γ γ a fun ra g1 => ∃ i, ra = .fz (.int i) ∧ EE X Γ g1 b fun rb g2 => ∃ j, rb = .fz (.int j) ∧ 0 < j ∧ P (.fz (.int (i % j))) g2) : EE X Γ γ (.BinOp a .Mod b pos) P := ee_opI op_mod h
theorem ee_div (h : EE X Γ γ a fun ra g1 => ∃ i, ra = .fz (.int i) ∧ EE X Γ g1 b fun rb g2 => ∃ j, rb = .fz (.int j) ∧ CDivW i j ∧ P (.fz (.int (i / j))) g2) : EE X Γ γ (.BinOp a .FloorDiv b pos) P := ee_opI op_fdivW h
/-- an item of a list or a tuple of frozen things -/
theorem ee_ixL (h : EE X Γ γ a fun ra g1 => EE X Γ g1 b fun rb g2 => ∃ ds i d, Rdb g2 ra (.list ds) ∧ rb = .fz (.int i) ∧ atI ds i = some d ∧ P (.fz d) g2) (hs : PlainIx b := by exact fun _ _ => rfl) : EE X Γ γ (.Subscript a b pos) P := fun F as σ H R E Q q => by
  refine ⟨_, pe_ix ix_list pe_wp pe_wp hs, h F as σ H R E _ fun v ra g1 F1 as1 H1 hp x1 R1 i1 => hp F1 as1 σ H1 R1 (E.mono x1) _ fun u rb g2 F2 as2 H2 hp2 x2 R2 i2 => ?_⟩
  obtain ⟨ds, i, d, hr, rfl, hi, hp3⟩ := hp2
  obtain ⟨l, us, rfl, h1, h2⟩ := hr.list R2 (itm_mono x2 i1)
  obtain ⟨j, hj, hx⟩ := atI_lt hi
  obtain ⟨w, hw, hd⟩ := dpAll_get h2 hj
  exact ⟨l, us, i, w, rfl, itm_int.mp i2, h1, atI_of (dpAll_length h2) hx hw, q _ _ g2 F2 as2 H2 hp3 (x1.trans x2) R2 (.fz hd)⟩
theorem ee_ixT (h : EE X Γ γ a fun ra g1 => EE X Γ g1 b fun rb g2 => ∃ ds i d, ra = .fz (.tuple ds) ∧ rb = .fz (.int i) ∧ atI ds i = some d ∧ P (.fz d) g2) (hs : PlainIx b := by exact fun _ _ => rfl) : EE X Γ γ (.Subscript a b pos) P := fun F as σ H R E Q q => by
  refine ⟨_, pe_ix ix_tup pe_wp pe_wp hs, h F as σ H R E _ fun v ra g1 F1 as1 H1 hp x1 R1 i1 => hp F1 as1 σ H1 R1 (E.mono x1) _ fun u rb g2 F2 as2 H2 hp2 x2 R2 i2 => ?_⟩
  obtain ⟨ds, i, d, rfl, rfl, hi, hp3⟩ := hp2
  obtain ⟨l, us, rfl, h1, h2⟩ := itm_tup.mp (itm_mono x2 i1)
  obtain ⟨j, hj, hx⟩ := atI_lt hi
  obtain ⟨w, hw, hd⟩ := dpAll_get h2 hj
  exact ⟨l, us, i, w, rfl, itm_int.mp i2, same_t R2.fr h1, atI_of (dpAll_length h2) hx hw, q _ _ g2 F2 as2 H2 hp3 (x1.trans x2) R2 (.fz hd)⟩
/-- displays -/
theorem ee_tup {kk : Nat} (h : AE X Γ γ es fun rs g => ∃ ds : List PyData, rs = ds.map Itm.fz ∧ ds.length ≤ 1000 ∧ P (.fz (.tuple ds)) g) : EE X Γ γ (.Tuple es kk pos) P := fun F as σ H R E Q q => by
  refine ⟨_, pe_tup pa_wp, ?_⟩
  refine h F as σ H R E _ fun vs rs g F1 as1 H1 hp x1 R1 i1 => ?_
  obtain ⟨ds, rfl, hl, hp⟩ := hp
  have l : vs.length = ds.length := by have := itms_length i1; simpa using this.symm
  refine ⟨by rw [l]; exact Nat.le_of_lt (small1000 hl), fun p hp' => q _ _ g (upd F1 p (.tup vs)) as1 _ hp ?_ (R1.new _ hp') ?_⟩
  · exact x1.trans ⟨R1.sameNew _ hp', [], by simp⟩
  · exact itm_tup.mpr ⟨p, vs, rfl, SqT.of upd_same, dpAll_mono (R1.sameNew _ hp') (itms_fz i1)⟩
theorem ee_lst (h : AE X Γ γ es fun rs g => ∃ ds : List PyData, rs = ds.map Itm.fz ∧ ds.length ≤ 1000 ∧ P (.fz (.list ds)) g) : EE X Γ γ (.List es pos) P := fun F as σ H R E Q q => by
  refine ⟨_, pe_lst pa_wp, ?_⟩
  refine h F as σ H R E _ fun vs rs g F1 as1 H1 hp x1 R1 i1 => ?_
  obtain ⟨ds, rfl, hl, hp⟩ := hp
  have l : vs.length = ds.length := by have := itms_length i1; simpa using this.symm
  refine ⟨by rw [l]; exact Nat.le_of_lt (small1000 hl), fun p hp' => q _ _ g (upd F1 p (.lst vs)) as1 _ hp ?_ (R1.new _ hp') ?_⟩
  · exact x1.trans ⟨R1.sameNew _ hp', [], by simp⟩
  · exact itm_lst.mpr ⟨p, vs, rfl, SqL.of upd_same, dpAll_mono (R1.sameNew _ hp') (itms_fz i1)⟩
theorem ee_tupP {kk : Nat} (h : AE X Γ γ es fun rs g => rs.length ≤ 1000 ∧ P (.tp rs) g) : EE X Γ γ (.Tuple es kk pos) P := fun F as σ H R E Q q => by
  refine ⟨_, pe_tup pa_wp, ?_⟩
  refine h F as σ H R E _ fun vs rs g F1 as1 H1 hp x1 R1 i1 => ?_
  obtain ⟨hl, hp⟩ := hp
  have l := itms_length i1
  refine ⟨by rw [← l]; exact Nat.le_of_lt (small1000 hl), fun p hp' => ?_⟩
  have x2 : Ext F1 as1 (upd F1 p (.tup vs)) as1 := ⟨R1.sameNew _ hp', [], by simp⟩
  exact q _ _ g (upd F1 p (.tup vs)) as1 _ hp (x1.trans x2) (R1.new _ hp') (.tp (SqT.of upd_same) (itms_mono x2 i1))
/-- append -/
theorem ee_append {apos : Pos} (h : EE X Γ γ o fun ro g1 => ∃ cc ys, ro = .cl cc ∧ g1[cc]? = some (.lst ys) ∧ EE X Γ g1 e fun r g2 => ∃ xs, g2[cc]? = some (.lst xs) ∧ xs.length ≤ 1000000 ∧ P (.fz .none) (g2.set cc (.lst (xs ++ [r]))))
    (hbase : attributeBase o "append" X.env (eval o X.env) = eval o X.env := by rfl)
    (hfew : ((backTo pos (starEach [e] X.env)).all (fun x => !x.1) && (backToKw pos (keywordEach [] X.env)).all (fun x => x.1.isSome) && decide ([e].length + ([] : List Keyword).length + (if ([] : List Keyword).isEmpty then 0 else 1) < 30)) = true := by rfl)
    (hline : (apos.endLine == pos.line) = true := by rfl) (hs : starEach [e] X.env = (false, eval e X.env) :: starEach [] X.env := by rfl) :
    EE X Γ γ (.Call (.Attribute o "append" apos) [e] [] pos) P := fun F as σ H R E Q q => by
  refine ⟨_, pe_bm PySem.F.plainAttrs_list PySem.F.slot_list_append PySem.F.type_list_append mt_append pe_wp (pa_cons pe_wp pa_nil hs) hbase hfew hline hs rfl, ?_⟩
  refine h F as σ H R E _ fun v ro g1 F1 as1 H1 hp x1 R1 i1 => ?_
  obtain ⟨cc, ys, rfl, h1, he⟩ := hp
  obtain ⟨l, hl1, rfl⟩ := itm_cl.mp i1
  obtain ⟨l1, k1, us, k2, k3⟩ := R1.cellAt h1
  rw [hl1] at k1
  cases k1
  refine ⟨.inl ⟨rfl, us, SqL.of k2⟩, ?_⟩
  refine he F1 as1 σ H1 R1 (E.mono x1) _ fun u r g2 F2 as2 H2 hp2 x2 R2 i2 => ?_
  obtain ⟨xs, h2, hl, hp⟩ := hp2
  have hl2 := x2.get hl1
  obtain ⟨l2, k1, us2, k4, k5⟩ := R2.cellAt h2
  rw [hl2] at k1
  cases k1
  have e := itms_length k5
  refine ⟨l, us2, u, rfl, rfl, k4, by rw [← e, sizeLine_eq]; omega, ?_⟩
  exact q _ _ _ F2 as2 _ hp (x1.trans x2) (R2.write h2 (by simp) hl2 ⟨_, upd_same, itms_append k5 (.cons i2 .nil)⟩) (itm_non.mpr rfl)
/-- comparisons, in tests -/
theorem tp_cmp {op : CmpOp} {P : Bool → Cells → Prop} (h : EE X Γ γ a fun ra g1 => EE X Γ g1 b fun rb g2 => ∃ k, CmpR X op g2 ra rb k ∧ P k g2) (hm : behindInMarks op b = false := by first | exact nomark _ | rfl) : TP X Γ γ (.Compare a [op] [b] pos) P := fun F as σ H R E Q q => by
  refine ⟨_, pt_cmpR (wpC_ok (X := X) (op := op)) pe_wp pe_wp hm, ?_⟩
  refine h F as σ H R E _ fun v ra g1 F1 as1 H1 hp x1 R1 i1 => ?_
  refine hp F1 as1 σ H1 R1 (E.mono x1) _ fun u rb g2 F2 as2 H2 hp2 x2 R2 i2 => ?_
  obtain ⟨k, ⟨t, ho, hr⟩, hp⟩ := hp2
  exact ⟨t, ho, hr F2 as2 H2 v u R2 (itm_mono x2 i1) i2 _ ⟨k, rfl, q k g2 F2 as2 H2 hp (x1.trans x2) R2⟩⟩
theorem ee_cmp {op : CmpOp} (h : EE X Γ γ a fun ra g1 => EE X Γ g1 b fun rb g2 => ∃ k, CmpR X op g2 ra rb k ∧ P (.fz (.bool k)) g2) (hm : behindInMarks op b = false := by first | exact nomark _ | rfl) : EE X Γ γ (.Compare a [op] [b] pos) P := fun F as σ H R E Q q => by
  refine ⟨_, pe_cmpR (wpC_ok (X := X) (op := op)) pe_wp pe_wp hm, ?_⟩
  refine h F as σ H R E _ fun v ra g1 F1 as1 H1 hp x1 R1 i1 => ?_
  refine hp F1 as1 σ H1 R1 (E.mono x1) _ fun u rb g2 F2 as2 H2 hp2 x2 R2 i2 => ?_
  obtain ⟨k, ⟨t, ho, hr⟩, hp⟩ := hp2
  exact ⟨t, ho, hr F2 as2 H2 v u R2 (itm_mono x2 i1) i2 _ (q _ _ g2 F2 as2 H2 hp (x1.trans x2) R2 (itm_bl.mpr rfl))⟩
/-- if, by what follows -/
theorem svs_ifP (h : TP X Γ γ c fun k g => (k = true → SVs X Γ g sa (R.then X rest)) ∧ (k = false → SVs X Γ g sb (R.then X rest))) : SVs X Γ γ (.If c sa sb pos :: rest) R :=
  svs_cons fun F as σ H D Rp E C => ⟨_, ps_if pt_wp pss_wp pss_wp, h F as σ H Rp E _ fun k g F1 as1 H1 hp x1 R1 => by
    cases k with
    | true => exact iteT (hp.1 rfl F1 as1 σ H1 D R1 (E.mono x1) (C.mono x1))
    | false => exact iteF (hp.2 rfl F1 as1 σ H1 D R1 (E.mono x1) (C.mono x1))⟩
theorem svs_setE {x : Str} {i : Nat} {k : NameKind} {p' : Pos} (hX : Cok X) (n : Nm X x i k) (he : EE X Γ γ e fun r g => SVs X (Γ.set i (some r)) g rest R) (hs : swapsWith e (some (.Name x p')) pos.line X.env = pure false := by rfl) : SVs X Γ γ (.Assign [.Name x p'] e pos :: rest) R :=
  svs_cons (sv_set hX n he (fun _ _ h => h) hs)
theorem svs_exprE (he : EE X Γ γ e fun _ g => SVs X Γ g rest R) (hs : swapsWith e none pos.line X.env = pure false := by rfl) : SVs X Γ γ (.Expr e pos :: rest) R := svs_expr he (fun _ _ h => h) hs
theorem svs_retE (he : EE X Γ γ e R.rt) : SVs X Γ γ (.Return (some e) pos :: rest) R := svs_ret he fun _ _ h => h
theorem svs_asgE {tg : Expr} (he : EE X Γ γ e fun r g => ∃ Γ' ws, GV X g Γ tg r Γ' ws ∧ SVs X Γ' g rest R) (hs : swapsWithSole [tg] e pos.line X.env = pure false := by rfl) (hw : swappedStores [tg] e X.env = pure none := by rfl)
    (h1 : (assignEach [tg] X.env).map (·.2) = [assign tg X.env] := by rfl) : SVs X Γ γ (.Assign [tg] e pos :: rest) R := svs_cons (sv_asg he (fun _ _ h => h) hs hw h1)
end
end PL

namespace PL
open PySem PySem.Spec PyProof.Rows L2

/-! ### dicts in cells, keys ints and texts -/
def keyD : PyData → Option Key
  | .int i => some (.inl i)
  | .str s => some (.inr s)
  | _ => none
theorem keyD_v {K F v d k} (h : keyD d = some k) (r : Dp K F v d) : v = kV k := by
  cases r <;> simp [keyD] at h <;> subst h <;> rfl
section
variable {κ : Type} [DecidableEq κ]
def valI (kvs : List (κ × Itm)) (k : κ) : Option Itm := (kvs.find? fun kv => decide (kv.1 = k)).map (·.2)
def putI (kvs : List (κ × Itm)) (k : κ) (v : Itm) : List (κ × Itm) :=
  if kvs.any (fun kv => decide (kv.1 = k)) then kvs.map fun kv => if kv.1 = k then (kv.1, v) else kv else kvs ++ [(k, v)]
def dropI (kvs : List (κ × Itm)) (k : κ) : List (κ × Itm) := kvs.filter fun kv => decide (kv.1 ≠ k)
variable {K : PySem.W.Frag} {F : Hp} {as : List Addr}
abbrev PrI (K : PySem.W.Frag) (F : Hp) (as : List Addr) (κ : Type) : List (κ × Itm) → List (κ × V) → Prop := Paired fun (p : κ × Itm) (q : κ × V) => p.1 = q.1 ∧ ItmR K F as p.2 q.2
theorem pr_val {k : κ} : ∀ {xs : List (κ × Itm)} {ys : List (κ × V)}, PrI K F as κ xs ys → (∀ r, valI xs k = some r → ∃ v, valV ys k = some v ∧ ItmR K F as r v) ∧ (valI xs k = none → valV ys k = none)
  | _, _, .nil => ⟨fun r h => by simp [valI] at h, fun _ => rfl⟩
  | (p1, p2) :: xs, (q1, q2) :: ys, .cons h t => by
    obtain ⟨e, i⟩ := h
    have e : p1 = q1 := e
    subst e
    have ih := pr_val (k := k) t
    unfold valI valV at ih ⊢
    by_cases hk : p1 = k
    · simp only [List.find?_cons, hk, decide_true, Option.map_some]
      exact ⟨fun r h => by cases h; exact ⟨q2, rfl, i⟩, fun h => by cases h⟩
    · simp only [List.find?_cons, hk, decide_false]
      exact ih
theorem pr_any {k : κ} : ∀ {xs : List (κ × Itm)} {ys : List (κ × V)}, PrI K F as κ xs ys → (xs.any fun kv => decide (kv.1 = k)) = ys.any fun kv => decide (kv.1 = k)
  | _, _, .nil => rfl
  | (p1, p2) :: xs, (q1, q2) :: ys, .cons h t => by
    have e : p1 = q1 := h.1
    subst e
    simp only [List.any_cons, pr_any (k := k) t]
theorem pr_map {k : κ} {r : Itm} {v : V} (hr : ItmR K F as r v) : ∀ {xs : List (κ × Itm)} {ys : List (κ × V)}, PrI K F as κ xs ys → PrI K F as κ (xs.map fun kv => if kv.1 = k then (kv.1, r) else kv) (ys.map fun kv => if kv.1 = k then (kv.1, v) else kv)
  | _, _, .nil => .nil
  | (p1, p2) :: xs, (q1, q2) :: ys, .cons h t => by
    have e : p1 = q1 := h.1
    subst e
    refine .cons ?_ (pr_map hr t)
    by_cases hk : p1 = k
    · show (if p1 = k then (p1, r) else (p1, p2)).1 = (if p1 = k then (p1, v) else (p1, q2)).1 ∧ ItmR K F as (if p1 = k then (p1, r) else (p1, p2)).2 (if p1 = k then (p1, v) else (p1, q2)).2
      rw [if_pos hk, if_pos hk]; exact ⟨rfl, hr⟩
    · show (if p1 = k then (p1, r) else (p1, p2)).1 = (if p1 = k then (p1, v) else (p1, q2)).1 ∧ ItmR K F as (if p1 = k then (p1, r) else (p1, p2)).2 (if p1 = k then (p1, v) else (p1, q2)).2
      rw [if_neg hk, if_neg hk]; exact ⟨rfl, h.2⟩
theorem pr_snoc {k : κ} {r : Itm} {v : V} (hr : ItmR K F as r v) : ∀ {xs : List (κ × Itm)} {ys : List (κ × V)}, PrI K F as κ xs ys → PrI K F as κ (xs ++ [(k, r)]) (ys ++ [(k, v)])
  | _, _, .nil => .cons ⟨rfl, hr⟩ .nil
  | _, _, .cons h t => .cons h (pr_snoc hr t)
theorem pr_put {k : κ} {r : Itm} {v : V} {xs : List (κ × Itm)} {ys : List (κ × V)} (h : PrI K F as κ xs ys) (hr : ItmR K F as r v) : PrI K F as κ (putI xs k r) (putK ys k v) := by
  unfold putI putK
  rw [pr_any h]
  split
  · exact pr_map hr h
  · exact pr_snoc hr h
theorem pr_drop {k : κ} : ∀ {xs : List (κ × Itm)} {ys : List (κ × V)}, PrI K F as κ xs ys → PrI K F as κ (dropI xs k) (dropK ys k)
  | _, _, .nil => .nil
  | (p1, p2) :: xs, (q1, q2) :: ys, .cons h t => by
    have e : p1 = q1 := h.1
    subst e
    have ih := pr_drop (k := k) t
    unfold dropI dropK at ih ⊢
    by_cases hk : p1 = k
    · simpa [List.filter_cons, hk] using ih
    · simp only [List.filter_cons, ne_eq, hk, not_false_eq_true, decide_true, if_true]
      exact .cons h ih
theorem pr_length {xs : List (κ × Itm)} {ys : List (κ × V)} (h : PrI K F as κ xs ys) : xs.length = ys.length := Paired.length h
end
section
variable {X : Cx} {Γ : Slots} {γ γ1 γ2 γ3 : Cells} {e a b o i c : Expr} {r ra rb : Itm} {pos p p' : Pos} {R : SE} {rest : List Stmt} {kvs : List (Key × Itm)} {k : Key} {d : PyData} {cc : Nat}
theorem Cok.hu1 (hX : Cok X) : X.A.units + 1 < cLine := by have := hX.hu; omega
/-- the dict at cell cc: what it has at a key -/
theorem dget_of {K F as H v y} (R : Rep K F as γ H) (hc : γ[cc]? = some (.dic kvs)) (iv : ItmR K F as (.cl cc) v) (iy : ItmR K F as (.fz d) y) (hk : keyD d = some k) : ∃ l ks, v = .ref l ∧ H l = some (.dK ks) ∧ DGet H l y (valV ks k) ∧ PrI K F as Key kvs ks := by
  obtain ⟨l, hl, rfl⟩ := itm_cl.mp iv
  obtain ⟨l', h1, ks, h2, h3⟩ := R.cellAt hc
  rw [hl] at h1
  cases h1
  rw [keyD_v hk (itm_fz.mp iy)]
  exact ⟨l, ks, rfl, h2, DGet.k h2, h3⟩
theorem ev_dget (hX : Cok X) (ho : EV X Γ γ o (.cl cc) γ1) (hi : EV X Γ γ1 i (.fz d) γ2) (hc : γ2[cc]? = some (.dic kvs)) (hk : keyD d = some k) (hv : valI kvs k = some r) (hs : NoSl i := by exact fun _ _ => rfl) : EV X Γ γ (.Subscript o i pos) r γ2 := .mk fun F as σ H R E Q q => by
  refine ⟨_, pe_dget hX.hu1 pe_wp pe_wp hs, ho.go R E fun v F1 as1 H1 x1 R1 i1 => hi.go R1 (E.mono x1) fun u F2 as2 H2 x2 R2 i2 => ?_⟩
  obtain ⟨l, ks, rfl, h1, h2, h3⟩ := dget_of R2 hc (itm_mono x2 i1) i2 hk
  obtain ⟨w, hw, hi⟩ := (pr_val h3).1 r hv
  rw [hw] at h2
  exact ⟨l, w, rfl, h2, q w F2 as2 H2 (x1.trans x2) R2 hi⟩
theorem isSome_of {K F as ks} (h3 : PrI K F as Key kvs ks) : (valV ks k).isSome = (valI kvs k).isSome := by
  cases hv : valI kvs k with
  | none => rw [(pr_val h3).2 hv]; rfl
  | some r => obtain ⟨w, hw, _⟩ := (pr_val h3).1 r hv; rw [hw]; rfl
theorem tv_din (hX : Cok X) (hi : EV X Γ γ i (.fz d) γ1) (ho : EV X Γ γ1 o (.cl cc) γ2) (hc : γ2[cc]? = some (.dic kvs)) (hk : keyD d = some k) (h1 : behindInMarks .In o = false := by rfl) : TV X Γ γ (.Compare i [.In] [o] pos) (valI kvs k).isSome γ2 := fun F as σ H R E Q q => by
  refine ⟨_, pt_cmp (pc_din hX.hu1 pe_wp pe_wp) h1, hi.go R E fun v F1 as1 H1 x1 R1 i1 => ho.go R1 (E.mono x1) fun u F2 as2 H2 x2 R2 i2 => ?_⟩
  obtain ⟨l, ks, rfl, h1, h2, h3⟩ := dget_of R2 hc i2 (itm_mono x2 i1) hk
  exact ⟨l, _, rfl, h2, _, rfl, by rw [isSome_of h3]; exact q F2 as2 H2 (x1.trans x2) R2⟩
theorem tv_dnotin (hX : Cok X) (hi : EV X Γ γ i (.fz d) γ1) (ho : EV X Γ γ1 o (.cl cc) γ2) (hc : γ2[cc]? = some (.dic kvs)) (hk : keyD d = some k) (h1 : behindInMarks .NotIn o = false := by rfl) : TV X Γ γ (.Compare i [.NotIn] [o] pos) (!(valI kvs k).isSome) γ2 := fun F as σ H R E Q q => by
  refine ⟨_, pt_cmp (pc_dnotin hX.hu1 pe_wp pe_wp) h1, hi.go R E fun v F1 as1 H1 x1 R1 i1 => ho.go R1 (E.mono x1) fun u F2 as2 H2 x2 R2 i2 => ?_⟩
  obtain ⟨l, ks, rfl, h1, h2, h3⟩ := dget_of R2 hc i2 (itm_mono x2 i1) hk
  exact ⟨l, _, rfl, h2, _, rfl, by rw [isSome_of h3]; exact q F2 as2 H2 (x1.trans x2) R2⟩
theorem ev_din (hX : Cok X) (hi : EV X Γ γ i (.fz d) γ1) (ho : EV X Γ γ1 o (.cl cc) γ2) (hc : γ2[cc]? = some (.dic kvs)) (hk : keyD d = some k) (h1 : behindInMarks .In o = false := by rfl) : EV X Γ γ (.Compare i [.In] [o] pos) (.fz (.bool (valI kvs k).isSome)) γ2 := .mk fun F as σ H R E Q q => by
  refine ⟨_, pe_cmp (pc_din hX.hu1 pe_wp pe_wp) h1, hi.go R E fun v F1 as1 H1 x1 R1 i1 => ho.go R1 (E.mono x1) fun u F2 as2 H2 x2 R2 i2 => ?_⟩
  obtain ⟨l, ks, rfl, h1, h2, h3⟩ := dget_of R2 hc i2 (itm_mono x2 i1) hk
  exact ⟨l, _, rfl, h2, by rw [isSome_of h3]; exact q _ F2 as2 H2 (x1.trans x2) R2 (itm_bl.mpr rfl)⟩
theorem svs_dput (hX : Cok X) (he : EV X Γ γ e r γ1) (ho : EV X Γ γ1 o (.cl cc) γ2) (hi : EV X Γ γ2 i (.fz d) γ3) (hc : γ3[cc]? = some (.dic kvs)) (hk : keyD d = some k) (hl : kvs.length ≤ 1000000) (h : SVs X Γ (γ3.set cc (.dic (putI kvs k r))) rest R)
    (hs : swapsWith e (some (.Subscript o i p')) pos.line X.env = pure false := by rfl) : SVs X Γ γ (.Assign [.Subscript o i p'] e pos :: rest) R := svs_cons fun F as σ H D Rp E C => by
  refine ⟨_, ps_dput hX.hu1 pe_wp pe_wp pe_wp hs, he.go Rp E fun v F1 as1 H1 x1 R1 i1 => ho.go R1 (E.mono x1) fun u F2 as2 H2 x2 R2 i2 => hi.go R2 (E.mono (x1.trans x2)) fun w F3 as3 H3 x3 R3 i3 => ?_⟩
  obtain ⟨l, hl3, rfl⟩ := itm_cl.mp (itm_mono x3 i2)
  obtain ⟨l', h1, ks, h2, h3⟩ := R3.cellAt hc
  rw [hl3] at h1
  cases h1
  rw [keyD_v hk (itm_fz.mp i3)]
  refine ⟨l, _, rfl, DPut.k h2 (by rw [← pr_length h3, sizeLine_eq]; omega), ?_⟩
  exact C.nx _ _ _ _ _ _ h ((x1.trans x2).trans x3) (R3.write hc (by simp) hl3 ⟨_, upd_same, pr_put h3 (itm_mono (x2.trans x3) i1)⟩) (E.mono ((x1.trans x2).trans x3))
/-- a display's pairs -/
def trsOf (X : Cx) : List (Option Expr) → List Expr → List (TE × TE)
  | some k :: ks, v :: vs => (wpE X k, wpE X v) :: trsOf X ks vs
  | _, _ => []
theorem pps_of : ∀ (ks : List (Option Expr)) (vs : List Expr), ks.length = vs.length → ks.all (·.isSome) = true → PPs X pos ks vs (trsOf X ks vs)
  | [], [], _, _ => pps_nil
  | some k :: ks, v :: vs, h1, h2 => pps_cons pe_wp pe_wp (pps_of ks vs (by simpa using h1) (by simpa using h2))
  | [], _ :: _, h, _ => by simp at h
  | _ :: _, [], h, _ => by simp at h
  | none :: _, _ :: _, _, h => by simp at h
abbrev PrV (K : PySem.W.Frag) (F : Hp) (as : List Addr) : List (Key × Itm) → List (V × V) → Prop := Paired fun (p : Key × Itm) (q : V × V) => q.1 = kV p.1 ∧ ItmR K F as p.2 q.2
theorem prv_mono {K F as F' as'} (e : Ext F as F' as') : ∀ {xs ys}, PrV K F as xs ys → PrV K F' as' xs ys
  | _, _, .nil => .nil
  | _, _, .cons h t => .cons ⟨h.1, itm_mono e h.2⟩ (prv_mono e t)
def PV (X : Cx) (Γ : Slots) (γ : Cells) (ks : List (Option Expr)) (vs : List Expr) (prs : List (Key × Itm)) (γ' : Cells) : Prop :=
  ∀ F as σ H, Rep X.K F as γ H → EnvR X.K F as Γ σ → ∀ Q : List (V × V) → Hp → Prop, (∀ ps F' as' H', Ext F as F' as' → Rep X.K F' as' γ' H' → PrV X.K F' as' prs ps → Q ps H') → tPairs (trsOf X ks vs) σ H Q
theorem pv_nil : PV X Γ γ [] [] [] γ := fun F as σ H R E Q q => q [] F as H (Ext.refl F as) R .nil
theorem pv_cons {ke ve : Expr} {ks : List (Option Expr)} {vs : List Expr} {prs : List (Key × Itm)} (hk : EV X Γ γ ke (.fz d) γ1) (hd : keyD d = some k) (hv : EV X Γ γ1 ve r γ2) (hr : PV X Γ γ2 ks vs prs γ3) : PV X Γ γ (some ke :: ks) (ve :: vs) ((k, r) :: prs) γ3 := fun F as σ H R E Q q =>
  hk.go R E fun v F1 as1 H1 x1 R1 i1 => hv.go R1 (E.mono x1) fun u F2 as2 H2 x2 R2 i2 => hr F2 as2 σ H2 R2 (E.mono (x1.trans x2)) _ fun ps F3 as3 H3 x3 R3 i3 => q _ F3 as3 H3 ((x1.trans x2).trans x3) R3 (.cons ⟨keyD_v hd (itm_fz.mp i1), itm_mono x3 i2⟩ i3)
def mergeI (kvs more : List (Key × Itm)) : List (Key × Itm) := more.foldl (fun acc kv => putI acc kv.1 kv.2) kvs
theorem pr_merge {K F as} : ∀ {more : List (Key × Itm)} {rs : List (Key × V)} {kvs : List (Key × Itm)} {ks : List (Key × V)}, PrI K F as Key more rs → PrI K F as Key kvs ks → PrI K F as Key (mergeI kvs more) (mergeK ks rs)
  | _, _, _, _, .nil, h => h
  | (p1, p2) :: xs, (q1, q2) :: ys, kvs, ks, .cons h t, h' => by
    have e : p1 = q1 := h.1
    subst e
    show PrI K F as Key (mergeI (putI kvs p1 p2) xs) (mergeK (putK ks p1 q2) ys)
    exact pr_merge t (pr_put h' h.2)
theorem prv_kvs {K F as} : ∀ {prs : List (Key × Itm)} {ps : List (V × V)}, PrV K F as prs ps → ∃ ks : List (Key × V), ps = ks.map (fun kv => (kV kv.1, kv.2)) ∧ PrI K F as Key prs ks
  | _, _, .nil => ⟨[], rfl, .nil⟩
  | (p1, p2) :: _, (q1, q2) :: _, .cons h t => by
    obtain ⟨ks, rfl, h2⟩ := prv_kvs t
    have e : q1 = kV p1 := h.1
    subst e
    exact ⟨(p1, q2) :: ks, rfl, .cons ⟨rfl, h.2⟩ h2⟩
/-- {k: v, ..}: a cell -/
theorem ev_disp {ks : List (Option Expr)} {vs : List Expr} {prs : List (Key × Itm)} (h : PV X Γ (γ ++ [.dic []]) ks vs prs γ1) (hc : γ1[γ.length]? = some (.dic [])) (h0 : ks ≠ [] := by simp) (hl : ks.length = vs.length := by rfl) (hall : ks.all (·.isSome) = true := by rfl) (h15 : ks.length ≤ 15 := by decide) (hp15 : prs.length ≤ 15 := by first | decide | simp) :
    EV X Γ γ (.Dict ks vs pos) (.cl γ.length) (γ1.set γ.length (.dic (mergeI [] prs))) := .mk fun F as σ H R E Q q => by
  refine ⟨_, pe_disp (pps_of ks vs hl hall) hall hl h0 h15, fun p hp => ?_⟩
  have R1 := R.newCell (cell := .dic []) (o := .dK []) hp ⟨[], upd_same, .nil⟩
  have x1 : Ext F as F (as ++ [p]) := ⟨Same.refl F, [p], rfl⟩
  have hp1 : (as ++ [p])[γ.length]? = some p := by rw [← R.len, List.getElem?_append_right (Nat.le_refl _)]; simp
  refine h F (as ++ [p]) σ _ R1 (E.mono x1) _ fun ps F2 as2 H2 x2 R2 i2 => ?_
  have hp2 := x2.get hp1
  obtain ⟨l', h1, ks', h2, h3⟩ := R2.cellAt hc
  rw [hp2] at h1
  cases h1
  cases h3
  obtain ⟨kv, rfl, hkv⟩ := prv_kvs i2
  refine ⟨h2, kv, rfl, by rw [← pr_length hkv]; exact hp15, ?_⟩
  exact q _ F2 as2 _ (x1.trans x2) (R2.write hc (by simp) hp2 ⟨_, upd_same, pr_merge hkv .nil⟩) (itm_cl.mpr ⟨p, hp2, rfl⟩)
/-- {} -/
theorem ev_dnew : EV X Γ γ (.Dict [] [] pos) (.cl γ.length) (γ ++ [.dic []]) := .mk fun F as σ H R E Q q => by
  refine ⟨_, pe_dnewK, fun p hp => ?_⟩
  have R1 := R.newCell (cell := .dic []) (o := .dK []) hp ⟨[], upd_same, .nil⟩
  exact q _ F (as ++ [p]) _ ⟨Same.refl F, [p], rfl⟩ R1 (itm_cl.mpr ⟨p, by rw [← R.len, List.getElem?_append_right (Nat.le_refl _)]; simp, rfl⟩)
end
end PL

namespace PL
open PySem PySem.Spec PyProof.Rows L2
/-! ### data that may be compared -/
structure Shp (n : Nat) (d : PyData) : Prop where
  lay : d.canLay0 = true
  dep : d.depth ≤ n
theorem Shp.shaped {n : Nat} {d : PyData} (h : Shp n d) (hn : n ≤ 64 := by decide) : SeqAt.shaped d = true := by
  have := h.dep
  show (d.canLay0 && decide (d.depth ≤ 64)) = true
  rw [h.lay, decide_eq_true (by omega)]
  rfl
theorem shpAll {n : Nat} : ∀ {ds : List PyData}, (∀ d ∈ ds, Shp n d) → PyData.canLayAll0 ds = true ∧ PyData.depthAll ds ≤ n
  | [], _ => by simp [PyData.canLayAll0, PyData.depthAll]
  | d :: ds, h => by
    have h1 := h d (by simp)
    have h2 := shpAll (ds := ds) (fun x hx => h x (by simp [hx]))
    simp only [PyData.canLayAll0, PyData.depthAll]
    refine ⟨by rw [h1.lay, h2.1]; rfl, ?_⟩
    have := h1.dep
    omega
theorem shp_int (i : Int) : Shp 0 (.int i) := ⟨rfl, by simp [PyData.depth]⟩
theorem shp_bool (i : Bool) : Shp 0 (.bool i) := ⟨rfl, by simp [PyData.depth]⟩
theorem shp_none : Shp 0 .none := ⟨rfl, by simp [PyData.depth]⟩
theorem Shp.mono {n m : Nat} {d : PyData} (h : Shp n d) (hn : n ≤ m) : Shp m d := ⟨h.lay, Nat.le_trans h.dep hn⟩
theorem shp_list {n : Nat} {ds : List PyData} (h : ∀ d ∈ ds, Shp n d) : Shp (n + 1) (.list ds) := by
  have h1 := shpAll h
  exact ⟨by simp only [PyData.canLay0]; exact h1.1, by simp only [PyData.depth]; omega⟩
theorem shp_tuple {n : Nat} {ds : List PyData} (h : ∀ d ∈ ds, Shp n d) : Shp (n + 1) (.tuple ds) := by
  have h1 := shpAll h
  exact ⟨by simp only [PyData.canLay0]; exact h1.1, by simp only [PyData.depth]; omega⟩
theorem shp_ints (ns : List Int) : Shp 1 (.list (ns.map .int)) := shp_list (n := 0) fun d hd => by
  obtain ⟨i, _, rfl⟩ := List.mem_map.mp hd
  exact shp_int i
theorem eqvAll_map {α : Type} [DecidableEq α] {f : α → PyData} (h : ∀ a b, PyData.eqv (f a) (f b) = decide (a = b)) : ∀ xs ys : List α, PyData.eqvAll (xs.map f) (ys.map f) = decide (xs = ys)
  | [], [] => rfl
  | [], _ :: _ => rfl
  | _ :: _, [] => rfl
  | x :: xs, y :: ys => by
    simp only [List.map_cons, PyData.eqvAll, h, eqvAll_map h xs ys]
    by_cases h1 : x = y <;> by_cases h2 : xs = ys <;> simp [h1, h2]
theorem eqv_list {α : Type} [DecidableEq α] {f : α → PyData} (h : ∀ a b, PyData.eqv (f a) (f b) = decide (a = b)) (xs ys : List α) : PyData.eqv (.list (xs.map f)) (.list (ys.map f)) = decide (xs = ys) := by
  simp only [PyData.eqv]; exact eqvAll_map h xs ys
theorem eqv_int (a b : Int) : PyData.eqv (.int a) (.int b) = decide (a = b) := by simp [PyData.eqv, Bool.beq_eq_decide_eq]
theorem eqv_ints (xs ys : List Int) : PyData.eqv (.list (xs.map .int)) (.list (ys.map .int)) = decide (xs = ys) := eqv_list eqv_int xs ys
end PL

namespace PL
open PySem PySem.Spec PyProof.Rows L2
section
variable {X : Cx} {Γ Γ' : Slots} {γ γ1 : Cells} {tg it elt : Expr} {ifs : List Expr} {xs : List Itm} {stab : Cells → Prop} {scope : Scope} {own : List (Str × Nat)} {pos : Pos}
def picked (k : Nat → Bool) (f : Nat → PyData) (n : Nat) : List PyData := ((List.range n).filter k).map f
theorem picked_succ (k : Nat → Bool) (f : Nat → PyData) (n : Nat) : picked k f (n + 1) = if k n then picked k f n ++ [f n] else picked k f n := by
  unfold picked
  rw [List.range_succ, List.filter_append, List.map_append]
  by_cases h : k n = true
  · simp [h]
  · simp [h]
theorem picked_length (k : Nat → Bool) (f : Nat → PyData) (n : Nat) : (picked k f n).length ≤ n := by
  unfold picked
  rw [List.length_map]
  exact Nat.le_trans (List.length_filter_le _ _) (by simp)
theorem fz_inj {ds es : List PyData} (h : ds.map Itm.fz = es.map Itm.fz) : ds = es :=
  (List.map_inj_right (fun a b (h : Itm.fz a = Itm.fz b) => Itm.fz.inj h)).mp h
/-- a comprehension whose parts change nothing -/
theorem ev_lcP (k : Nat → Bool) (f : Nat → PyData) (hX : Cok X) (ok : BlkOk X.N X.env.scope scope own) (hi : ITV X Γ γ tg it xs stab γ1) (hst : ∀ acc, stab (γ1 ++ [.lst acc])) (hsz : xs.length ≤ 1000000)
    (hb : ∀ i x acc, xs[i]? = some x → ∃ Γ2 ws, (∀ j ∈ ws, j ∈ own.map (·.2)) ∧ ∀ X', Blk X scope X' →
      GV X' (γ1 ++ [.lst acc]) (wipeS Γ (own.map (·.2))) tg x Γ2 ws ∧ TVs X' Γ2 (γ1 ++ [.lst acc]) ifs (k i) (γ1 ++ [.lst acc]) ∧ (k i = true → EV X' Γ2 (γ1 ++ [.lst acc]) elt (.fz (f i)) (γ1 ++ [.lst acc])))
    (hs : ∀ x, foldedSetIterable it X.env x = pure x := by intro _; rfl) :
    EV X Γ γ (.ListComp elt [⟨tg, it, ifs, 0⟩] scope pos) (.fz (.list (picked k f xs.length))) γ1 := by
  refine EE.imp (ee_lcF hX ok hi (fun i acc g => g = γ1 ∧ acc = (picked k f i).map Itm.fz) ⟨rfl, rfl⟩ (fun i acc g _ h => h.1 ▸ hst acc) (fun i acc g h => ⟨by rw [h.1], by rw [h.2, List.length_map]; exact picked_length ..⟩) hsz (fun acc g h => ⟨⟨_, h.2⟩, fun c => h.1 ▸ c⟩) ?_ hs) ?_
  · rintro i x acc g hx ⟨rfl, rfl⟩
    obtain ⟨Γ2, ws, h1, h2⟩ := hb i x ((picked k f i).map Itm.fz) hx
    refine ⟨Γ2, ws, k i, g, h1, rfl, fun X' hB => ?_⟩
    obtain ⟨h3, h4, h5⟩ := h2 X' hB
    refine ⟨h3, h4, fun hk => ⟨rfl, by rw [picked_succ, hk]; rfl⟩, fun hk => EE.of (h5 hk) ⟨g, rfl, rfl, by rw [picked_succ, if_pos hk]; simp⟩⟩
  · rintro r g ⟨ds, rfl, rfl, h⟩
    exact ⟨by rw [fz_inj h], rfl⟩
theorem svs_setLcP {i : Nat} {y : Str} {py spos : Pos} {rest : List Stmt} {R : SE} (k : Nat → Bool) (f : Nat → PyData) (hX : Cok X) (n : Nm X y i .local) (hl : (py.line == pos.line) = true) (hany : (scope.names.any fun (n, k) => n == y && (k == .local || k == .cell)) = false) (ok : BlkOk X.N X.env.scope scope own) (hi : ITV X Γ γ tg it xs stab γ1) (hst : ∀ acc, stab (γ1 ++ [.lst acc])) (hsz : xs.length ≤ 1000000)
    (hb : ∀ i x acc, xs[i]? = some x → ∃ Γ2 ws, (∀ j ∈ ws, j ∈ own.map (·.2)) ∧ ∀ X', Blk X scope X' →
      GV X' (γ1 ++ [.lst acc]) (wipeS Γ (own.map (·.2))) tg x Γ2 ws ∧ TVs X' Γ2 (γ1 ++ [.lst acc]) ifs (k i) (γ1 ++ [.lst acc]) ∧ (k i = true → EV X' Γ2 (γ1 ++ [.lst acc]) elt (.fz (f i)) (γ1 ++ [.lst acc])))
    (h : SVs X (Γ.set i (some (.fz (.list (picked k f xs.length))))) γ1 rest R)
    (hs : ∀ x, foldedSetIterable it X.env x = pure x := by intro _; rfl) :
    SVs X Γ γ (.Assign [.Name y py] (.ListComp elt [⟨tg, it, ifs, 0⟩] scope pos) spos :: rest) R := by
  refine svs_setLcF hX n hl hany ok hi (fun i acc g => g = γ1 ∧ acc = (picked k f i).map Itm.fz) ⟨rfl, rfl⟩ (fun i acc g _ h => h.1 ▸ hst acc) (fun i acc g h => ⟨by rw [h.1], by rw [h.2, List.length_map]; exact picked_length ..⟩) hsz (fun acc g h => ⟨⟨_, h.2⟩, fun c => h.1 ▸ c⟩) ?_ ?_ hs
  · rintro i x acc g hx ⟨rfl, rfl⟩
    obtain ⟨Γ2, ws, h1, h2⟩ := hb i x ((picked k f i).map Itm.fz) hx
    refine ⟨Γ2, ws, k i, g, h1, rfl, fun X' hB => ?_⟩
    obtain ⟨h3, h4, h5⟩ := h2 X' hB
    refine ⟨h3, h4, fun hk => ⟨rfl, by rw [picked_succ, hk]; rfl⟩, fun hk => EE.of (h5 hk) ⟨g, rfl, rfl, by rw [picked_succ, if_pos hk]; simp⟩⟩
  · rintro ds g ⟨rfl, hd⟩
    rw [fz_inj hd]
    exact h
theorem picked_all (f : Nat → PyData) (n : Nat) : picked (fun _ => true) f n = (List.range n).map f := by unfold picked; rw [List.filter_eq_self.mpr (by simp)]
/-- one name for the target -/
theorem ev_lcN {y : Str} {py : Pos} {w : Nat} (k : Nat → Bool) (f : Nat → PyData) (hX : Cok X) (ok : BlkOk X.N X.env.scope scope [(y, w)]) (hn : ∀ X', Blk X scope X' → Cok X' ∧ Nm X' y w .local) (hi : ITV X Γ γ (.Name y py) it xs stab γ1) (hst : ∀ acc, stab (γ1 ++ [.lst acc])) (hsz : xs.length ≤ 1000000)
    (hb : ∀ i x acc, xs[i]? = some x → ∀ X', Blk X scope X' → TVs X' (Γ.set w (some x)) (γ1 ++ [.lst acc]) ifs (k i) (γ1 ++ [.lst acc]) ∧ (k i = true → EV X' (Γ.set w (some x)) (γ1 ++ [.lst acc]) elt (.fz (f i)) (γ1 ++ [.lst acc])))
    (hs : ∀ x, foldedSetIterable it X.env x = pure x := by intro _; rfl) :
    EV X Γ γ (.ListComp elt [⟨.Name y py, it, ifs, 0⟩] scope pos) (.fz (.list (picked k f xs.length))) γ1 := by
  refine ev_lcP k f hX ok hi hst hsz (fun i x acc hx => ⟨Γ.set w (some x), [w], by simp, fun X' hB => ⟨?_, hb i x acc hx X' hB⟩⟩) hs
  have := gv_name (γ := γ1 ++ [.lst acc]) (Γ := wipeS Γ ([(y, w)].map (·.2))) (pos := py) (r := x) (hn X' hB).1 (hn X' hB).2
  have e : (wipeS Γ ([(y, w)].map (·.2))).set w (some x) = Γ.set w (some x) := by
    show (Γ.set w none).set w (some x) = _
    rw [List.set_set]
  rw [e] at this
  exact this
theorem svs_setLcN {i : Nat} {z : Str} {pz spos : Pos} {rest : List Stmt} {R : SE} {y : Str} {py : Pos} {w : Nat} (k : Nat → Bool) (f : Nat → PyData) (hX : Cok X) (n : Nm X z i .local) (hl : (pz.line == pos.line) = true) (hany : (scope.names.any fun (n, k) => n == z && (k == .local || k == .cell)) = false) (ok : BlkOk X.N X.env.scope scope [(y, w)]) (hn : ∀ X', Blk X scope X' → Cok X' ∧ Nm X' y w .local) (hi : ITV X Γ γ (.Name y py) it xs stab γ1) (hst : ∀ acc, stab (γ1 ++ [.lst acc])) (hsz : xs.length ≤ 1000000)
    (hb : ∀ i x acc, xs[i]? = some x → ∀ X', Blk X scope X' → TVs X' (Γ.set w (some x)) (γ1 ++ [.lst acc]) ifs (k i) (γ1 ++ [.lst acc]) ∧ (k i = true → EV X' (Γ.set w (some x)) (γ1 ++ [.lst acc]) elt (.fz (f i)) (γ1 ++ [.lst acc])))
    (h : SVs X (Γ.set i (some (.fz (.list (picked k f xs.length))))) γ1 rest R)
    (hs : ∀ x, foldedSetIterable it X.env x = pure x := by intro _; rfl) :
    SVs X Γ γ (.Assign [.Name z pz] (.ListComp elt [⟨.Name y py, it, ifs, 0⟩] scope pos) spos :: rest) R := by
  refine svs_setLcP k f hX n hl hany ok hi hst hsz (fun i x acc hx => ⟨Γ.set w (some x), [w], by simp, fun X' hB => ⟨?_, hb i x acc hx X' hB⟩⟩) h hs
  have := gv_name (γ := γ1 ++ [.lst acc]) (Γ := wipeS Γ ([(y, w)].map (·.2))) (pos := py) (r := x) (hn X' hB).1 (hn X' hB).2
  have e : (wipeS Γ ([(y, w)].map (·.2))).set w (some x) = Γ.set w (some x) := by
    show (Γ.set w none).set w (some x) = _
    rw [List.set_set]
  rw [e] at this
  exact this
/-- two names for the target, a pair of frozen data for the item -/
theorem ev_lc2 {y y' : Str} {py py' ptp : Pos} {w w' kk : Nat} {ds es : List PyData} (k : Nat → Bool) (f : Nat → PyData) (hX : Cok X) (hw : w ≠ w') (ok : BlkOk X.N X.env.scope scope [(y, w), (y', w')]) (hn : ∀ X', Blk X scope X' → Cok X' ∧ Nm X' y w .local ∧ Nm X' y' w' .local) (hi : ITV X Γ γ (.Tuple [.Name y py, .Name y' py'] kk ptp) it (zipD ds es) stab γ1) (hst : ∀ acc, stab (γ1 ++ [.lst acc])) (hsz : (zipD ds es).length ≤ 1000000)
    (hb : ∀ i d e acc, ds[i]? = some d → es[i]? = some e → ∀ X', Blk X scope X' → TVs X' ((Γ.set w (some (.fz d))).set w' (some (.fz e))) (γ1 ++ [.lst acc]) ifs (k i) (γ1 ++ [.lst acc]) ∧ (k i = true → EV X' ((Γ.set w (some (.fz d))).set w' (some (.fz e))) (γ1 ++ [.lst acc]) elt (.fz (f i)) (γ1 ++ [.lst acc])))
    (hs : ∀ x, foldedSetIterable it X.env x = pure x := by intro _; rfl) :
    EV X Γ γ (.ListComp elt [⟨.Tuple [.Name y py, .Name y' py'] kk ptp, it, ifs, 0⟩] scope pos) (.fz (.list (picked k f (zipD ds es).length))) γ1 := by
  refine ev_lcP k f hX ok hi hst hsz (fun i x acc hx => ?_) hs
  have hx2 : ∃ d e, ds[i]? = some d ∧ es[i]? = some e ∧ x = .fz (.tuple [d, e]) := by
    unfold zipD at hx
    rw [List.getElem?_map] at hx
    cases h : (ds.zip es)[i]? with
    | none => rw [h] at hx; cases hx
    | some q =>
      rw [h] at hx
      obtain ⟨q1, q2⟩ := q
      rw [List.getElem?_zip_eq_some] at h
      exact ⟨q1, q2, h.1, h.2, (Option.some.inj hx).symm⟩
  obtain ⟨d, e, h1, h2, rfl⟩ := hx2
  refine ⟨(Γ.set w (some (.fz d))).set w' (some (.fz e)), [w, w'], by simp, fun X' hB => ⟨?_, hb i d e acc h1 h2 X' hB⟩⟩
  obtain ⟨hX', n1, n2⟩ := hn X' hB
  have G := gv_tup (kk := kk) (n := 2) (pos := ptp) (γ := γ1 ++ [.lst acc]) (Γ := wipeS Γ ([(y, w), (y', w')].map (·.2))) (ds := [d, e]) hX' (gvs_cons (gv_name (pos := py) hX' n1) (gvs_cons (gv_name (pos := py') hX' n2) gvs_nil)) rfl
  have e2 : ((wipeS Γ ([(y, w), (y', w')].map (·.2))).set w (some (.fz d))).set w' (some (.fz e)) = (Γ.set w (some (.fz d))).set w' (some (.fz e)) := by
    show ((((Γ.set w' none).set w none).set w (some (.fz d))).set w' (some (.fz e))) = _
    rw [List.set_set, List.set_comm _ _ hw, List.set_set, List.set_comm _ _ hw.symm]
  rw [e2] at G
  exact G
end
end PL

namespace PL
open PySem PySem.Spec PyProof.Rows L2
section
variable {X : Cx} {Γ Γ' : Slots} {γ γ1 : Cells} {tg it a b : Expr} {body rest : List Stmt} {pos : Pos} {R : SE} {P : EPost}
/-- an iterable, by what follows -/
def ITE (X : Cx) (Γ : Slots) (γ : Cells) (tg it : Expr) (P : List Itm → (Cells → Prop) → Cells → Prop) : Prop :=
  ∀ F as σ H, Rep X.K F as γ H → EnvR X.K F as Γ σ → ∀ Q : It → Hp → Prop, (∀ xs stab γ1 J F' as' H', P xs stab γ1 → Ext F as F' as' → Rep X.K F' as' γ1 H' → JOk X.K F' as' xs stab J → Q J H') → wpI X tg it σ H Q
structure ForK (X : Cx) (tg : Expr) (body rest : List Stmt) (R : SE) (Γ : Slots) (xs : List Itm) (stab : Cells → Prop) (γ1 : Cells) (Inv : Nat → Slots → Cells → Prop) : Prop where
  h0 : Inv 0 Γ γ1
  hst : ∀ i Γ' γ', i ≤ xs.length → Inv i Γ' γ' → stab γ'
  hb : ∀ i x Γ' γ', xs[i]? = some x → Inv i Γ' γ' → ∃ Γ2 ws, GV X γ' Γ' tg x Γ2 ws ∧ SVs X Γ2 γ' body { nx := Inv (i + 1), ct := Inv (i + 1), bk := fun a b => SVs X a b rest R, rt := R.rt }
  hd : ∀ Γ' γ', Inv xs.length Γ' γ' → SVs X Γ' γ' rest R
theorem svs_forE (hX : Cok X) (hp : PassesOwn (model X.prog X.w) X.A X.env X.xe) (hi : ITE X Γ γ tg it fun xs stab γ1 => ∃ Inv, ForK X tg body rest R Γ xs stab γ1 Inv)
    (hs : ∀ x, foldedSetIterable it X.env x = pure x := by intro _; rfl) : SVs X Γ γ (.For tg it body [] pos :: rest) R := by
  refine svs_cons fun F as σ H D Rp E C => ⟨_, ps_for hp hX.calm pi_wp pg_wp pss_wp hs, hi F as σ H Rp E _ fun xs stab γ1 J F1 as1 H1 hPx x1 R1 hJ => ?_⟩
  obtain ⟨Inv, h0, hst, hb, hd⟩ := hPx
  refine ⟨fun i m σ' H' => m = xs.length - i ∧ i ≤ xs.length ∧ ∃ Γ' γ' F' as', Ext F1 as1 F' as' ∧ Rep X.K F' as' γ' H' ∧ EnvR X.K F' as' Γ' σ' ∧ Inv i Γ' γ', ⟨xs.length, by simp, Nat.zero_le _, Γ, γ1, F1, as1, Ext.refl _ _, R1, E.mono x1, h0⟩, ?_⟩
  rintro i m σ' H' ⟨rfl, hle, Γ', γ', F', as', x', R', E', inv⟩
  obtain ⟨j1, j2⟩ := hJ i F' as' γ' H' x' R' (hst i Γ' γ' hle inv)
  by_cases hlt : i < xs.length
  · obtain ⟨g1, g2⟩ := j2 xs[i] (List.getElem?_eq_getElem hlt)
    refine .inr ⟨g1, fun σ' H' => ∃ Γ' γ' F' as', Ext F1 as1 F' as' ∧ Rep X.K F' as' γ' H' ∧ EnvR X.K F' as' Γ' σ' ∧ Inv (i + 1) Γ' γ', fun σ' H' q => ⟨xs.length - (i + 1), by omega, rfl, hlt, q⟩, fun v H'' y => ?_⟩
    obtain ⟨F'', x'', R'', i''⟩ := g2 v H'' y
    obtain ⟨Γ2, ws, hG, hB⟩ := hb i xs[i] Γ' γ' (List.getElem?_eq_getElem hlt) inv
    refine hG F'' as' σ' H'' v R'' (E'.mono x'') i'' _ fun σ2 E2 _ => ?_
    have xx := (x1.trans x').trans x''
    refine hB F'' as' σ2 H'' _ R'' E2 ⟨fun Γ3 γ3 F3 as3 σ3 H3 n x3 R3 E3 => ⟨Γ3, γ3, F3, as3, (x'.trans x'').trans x3, R3, E3, n⟩, fun a b c d e f g x3 => (C.mono xx).rt a b c d e f g x3,
      fun Γ3 γ3 F3 as3 σ3 H3 n x3 R3 E3 => (C.mono xx).nx Γ3 γ3 F3 as3 σ3 H3 n x3 R3 E3, fun Γ3 γ3 F3 as3 σ3 H3 n x3 R3 E3 => ⟨Γ3, γ3, F3, as3, (x'.trans x'').trans x3, R3, E3, n⟩⟩
  · have e : i = xs.length := by omega
    subst e
    exact .inl ⟨j1 (Nat.le_refl _), C.nx Γ' γ' F' as' σ' H' (hd Γ' γ' inv) (x1.trans x') R' E'⟩
theorem ite_range1 {p : Pos} {Pi : List Itm → (Cells → Prop) → Cells → Prop} (bt : Bt X "range") (h : EE X Γ γ a fun r g => ∃ n : Int, r = .fz (.int n) ∧ n < 2 ^ 62 ∧ -(2 ^ 62) ≤ n ∧ Pi (rngL 0 n.toNat) (fun _ => True) g) (hs : starEach [a] X.env = [(false, eval a X.env)] := by rfl) : ITE X Γ γ tg (.Call (.Name "range" p) [a] [] pos) Pi := fun F as σ H R E Q q =>
  ⟨_, pi_range1 bt.gl bt.mg (pa_cons pe_wp pa_nil hs) hs, h F as σ H R E _ fun v r g F1 as1 H1 ⟨n, e, h1, h2, h3⟩ x1 R1 i1 => by
    subst e
    exact ⟨n, by rw [itm_int.mp i1], h2, h1, q _ _ _ _ F1 as1 H1 h3 x1 R1 jok_range⟩⟩
theorem ite_list {Pi : List Itm → (Cells → Prop) → Cells → Prop} (h : EE X Γ γ it fun r g => ∃ ds : List PyData, Rdb g r (.list ds) ∧ Pi (ds.map Itm.fz) (fun g => Rdb g r (.list ds)) g) : ITE X Γ γ tg it Pi := fun F as σ H R E Q q => by
  refine ⟨_, pi_list pe_wp, h F as σ H R E _ fun v r g F1 as1 H1 ⟨ds, hr, hPi⟩ x1 R1 i1 => ?_⟩
  obtain ⟨a, vs, rfl, h1, h2⟩ := hr.list R1 i1
  refine ⟨a, rfl, ⟨vs, h1⟩, q _ _ _ _ F1 as1 H1 hPi x1 R1 fun i F' as' γ' H' x' R' st => ?_⟩
  obtain ⟨a', vs', e, h1', h2'⟩ := st.list R' (itm_mono x' i1)
  cases e
  refine ⟨fun hl => ⟨vs', h1', by rw [dpAll_length h2']; simpa using hl⟩, fun x hx => ?_⟩
  rw [List.getElem?_map] at hx
  cases hd : ds[i]? with
  | none => rw [hd] at hx; cases hx
  | some d =>
    rw [hd] at hx
    cases hx
    obtain ⟨u, hu, hdp⟩ := dpAll_get h2' hd
    refine ⟨⟨vs', u, h1', hu⟩, fun v H'' y => ?_⟩
    obtain ⟨rfl, y⟩ := y
    cases hu.symm.trans (y vs' h1')
    exact ⟨F', Ext.refl _ _, R', .fz hdp⟩
theorem ee_catF (h : EE X Γ γ a fun ra g1 => EE X Γ g1 b fun rb g2 => ∃ ds es : List PyData, Rdb g2 ra (.list ds) ∧ Rdb g2 rb (.list es) ∧ ds.length + es.length ≤ 1000000 ∧ P (.fz (.list (ds ++ es))) g2) : EE X Γ γ (.BinOp a .Add b pos) P :=
  ee_op op_catS (EE.imp h fun ra g1 h1 => EE.imp h1 fun rb g2 ⟨ds, es, r1, r2, hz, hp⟩ => fun F as H x y R hx hy Q q => by
    obtain ⟨l, us, rfl, p1, p2⟩ := r1.list R hx
    obtain ⟨l', us', rfl, p1', p2'⟩ := r2.list R hy
    have e := dpAll_length p2
    have e' := dpAll_length p2'
    exact ⟨l, l', us, us', rfl, rfl, p1, p1', by rw [sizeLine_eq]; omega, fun p hq => q _ _ _ (upd F p (.lst (us ++ us'))) as _ hp ⟨R.sameNew _ hq, [], by simp⟩ (R.new _ hq) (itm_lst.mpr ⟨p, us ++ us', rfl, SqL.of upd_same, dpAll_mono (R.sameNew _ hq) (dpAll_append p2 p2')⟩)⟩)
/-- `xs[i] = e`, by what follows -/
theorem svs_setitemE {o e : Expr} {p : Pos} (he : EE X Γ γ e fun r g1 => ∃ cc i jj xs g2 g3, EV X Γ g1 o (.cl cc) g2 ∧ EV X Γ g2 b (.fz (.int i)) g3 ∧ g3[cc]? = some (.lst xs) ∧ ixN xs.length i = some jj ∧ SVs X Γ (g3.set cc (.lst (xs.set jj r))) rest R)
    (hs : swapsWithSole [.Subscript o b p] e pos.line X.env = pure false := by rfl) (hw : swappedStores [.Subscript o b p] e X.env = pure none := by rfl)
    (h1 : (assignEach [.Subscript o b p] X.env).map (·.2) = [assign (.Subscript o b p) X.env] := by rfl)
    (ha : ∀ v, assign (.Subscript o b p) X.env v = (do
      let ov ← holding [v] (eval o X.env)
      let iv ← holding [v, ov] (eval b X.env)
      standAt p
      holding [v, ov, iv] (setItem ov iv v)
      release [v, ov, iv] []) := by intro _; rfl) : SVs X Γ γ (.Assign [.Subscript o b p] e pos :: rest) R :=
  svs_cons fun F as σ H D Rp E C => ⟨_, ps_asg pe_wp (pg_sub pe_wp pe_wp set_list ha) hs hw h1, he F as σ H Rp E _ fun v r g1 F1 as1 H1 ⟨cc, i, jj, xs, g2, g3, ho, hi, hc, hj, h⟩ x1 R1 i1 => ho.go R1 (E.mono x1) fun u F2 as2 H2 x2 R2 i2 => hi.go R2 (E.mono (x1.trans x2)) fun w F3 as3 H3 x3 R3 i3 => by
    obtain ⟨l, hl, rfl⟩ := itm_cl.mp (itm_mono x3 i2)
    obtain ⟨l', k1, us, k2, k3⟩ := R3.cellAt hc
    rw [hl] at k1
    cases k1
    refine ⟨l, us, i, jj, rfl, itm_int.mp i3, k2, by rw [← itms_length k3]; exact hj, ?_⟩
    exact C.nx _ _ _ _ _ _ h ((x1.trans x2).trans x3) (R3.write hc (by simp) hl ⟨_, upd_same, itms_set jj k3 (itm_mono (x2.trans x3) i1)⟩) (E.mono ((x1.trans x2).trans x3))⟩
/-- a comprehension with one name, by what follows: frozen -/
theorem ee_lcFN {elt : Expr} {xs : List Itm} {stab : Cells → Prop} {scope : Scope} {y : Str} {py : Pos} {w : Nat} (hX : Cok X) (ok : BlkOk X.N X.env.scope scope [(y, w)]) (hn : ∀ X', Blk X scope X' → Cok X' ∧ Nm X' y w .local) (hi : ITV X Γ γ (.Name y py) it xs stab γ1) (Pv : Nat → List Itm → Cells → Prop) (h0 : Pv 0 [] γ1) (hst : ∀ i acc g, i ≤ xs.length → Pv i acc g → stab (g ++ [.lst acc])) (hlen : ∀ i acc g, Pv i acc g → g.length = γ1.length ∧ acc.length ≤ i)
    (hsz : xs.length ≤ 1000000) (hfz : ∀ acc g, Pv xs.length acc g → (∃ ds : List PyData, acc = ds.map Itm.fz) ∧ (Clo γ1 → Clo g))
    (hb : ∀ i x acc g, xs[i]? = some x → Pv i acc g → ∀ X', Blk X scope X' → EE X' (Γ.set w (some x)) (g ++ [.lst acc]) elt fun r g3 => ∃ g', g3 = g' ++ [.lst acc] ∧ Pv (i + 1) (acc ++ [r]) g')
    (hs : ∀ x, foldedSetIterable it X.env x = pure x := by intro _; rfl) :
    EE X Γ γ (.ListComp elt [⟨.Name y py, it, [], 0⟩] scope pos) fun r g => ∃ ds : List PyData, r = .fz (.list ds) ∧ Pv xs.length (ds.map Itm.fz) g :=
  ee_lcF hX ok hi Pv h0 hst hlen hsz hfz (fun i x acc g hx hp => ⟨Γ.set w (some x), [w], true, g, by simp, (hlen _ _ _ hp).1, fun X' hB => ⟨by
    have := gv_name (γ := g ++ [.lst acc]) (Γ := wipeS Γ ([(y, w)].map (·.2))) (pos := py) (r := x) (hn X' hB).1 (hn X' hB).2
    have e : (wipeS Γ ([(y, w)].map (·.2))).set w (some x) = Γ.set w (some x) := by
      show (Γ.set w none).set w (some x) = _
      rw [List.set_set]
    rw [e] at this
    exact this, tvs_nil, (fun h => nomatch h), fun _ => hb i x acc g hx hp X' hB⟩⟩) hs
theorem svs_setLcFN {i : Nat} {z : Str} {pz spos : Pos} {elt : Expr} {xs : List Itm} {stab : Cells → Prop} {scope : Scope} {y : Str} {py : Pos} {w : Nat} (hX : Cok X) (n : Nm X z i .local) (hl : (pz.line == pos.line) = true) (hany : (scope.names.any fun (n, k) => n == z && (k == .local || k == .cell)) = false) (ok : BlkOk X.N X.env.scope scope [(y, w)]) (hn : ∀ X', Blk X scope X' → Cok X' ∧ Nm X' y w .local) (hi : ITV X Γ γ (.Name y py) it xs stab γ1) (Pv : Nat → List Itm → Cells → Prop) (h0 : Pv 0 [] γ1) (hst : ∀ i acc g, i ≤ xs.length → Pv i acc g → stab (g ++ [.lst acc])) (hlen : ∀ i acc g, Pv i acc g → g.length = γ1.length ∧ acc.length ≤ i)
    (hsz : xs.length ≤ 1000000) (hfz : ∀ acc g, Pv xs.length acc g → (∃ ds : List PyData, acc = ds.map Itm.fz) ∧ (Clo γ1 → Clo g))
    (hb : ∀ i x acc g, xs[i]? = some x → Pv i acc g → ∀ X', Blk X scope X' → EE X' (Γ.set w (some x)) (g ++ [.lst acc]) elt fun r g3 => ∃ g', g3 = g' ++ [.lst acc] ∧ Pv (i + 1) (acc ++ [r]) g')
    (h : ∀ (ds : List PyData) g, Pv xs.length (ds.map Itm.fz) g → SVs X (Γ.set i (some (.fz (.list ds)))) g rest R)
    (hs : ∀ x, foldedSetIterable it X.env x = pure x := by intro _; rfl) :
    SVs X Γ γ (.Assign [.Name z pz] (.ListComp elt [⟨.Name y py, it, [], 0⟩] scope pos) spos :: rest) R :=
  svs_setLcF hX n hl hany ok hi Pv h0 hst hlen hsz hfz (fun i x acc g hx hp => ⟨Γ.set w (some x), [w], true, g, by simp, (hlen _ _ _ hp).1, fun X' hB => ⟨by
    have := gv_name (γ := g ++ [.lst acc]) (Γ := wipeS Γ ([(y, w)].map (·.2))) (pos := py) (r := x) (hn X' hB).1 (hn X' hB).2
    have e : (wipeS Γ ([(y, w)].map (·.2))).set w (some x) = Γ.set w (some x) := by
      show (Γ.set w none).set w (some x) = _
      rw [List.set_set]
    rw [e] at this
    exact this, tvs_nil, (fun h => nomatch h), fun _ => hb i x acc g hx hp X' hB⟩⟩) h hs
end
theorem Blk.calC {X X' : Cx} {P : Program} {w : World} {K : PySem.W.Frag} {mg : Str → Option Value} {base : Heap} {N : List Str} {sc scope : Scope} {k j : Nat} {x : Str} {S : PSpec} (b : Blk X scope X') (c : Ctx X P w K mg base N sc k) (F : FnD P w K mg base x j S) (hj : j ≤ k) (h : scope.names.lookup x = some .globalImplicit) (d1 : (x == ("__debug__" : Str)) = false) : Cal X' x S := by
  obtain ⟨s, H, C, cl, fp, rfl⟩ := b
  exact ⟨⟨j, by show FnD X.prog X.w X.K X.mg X.base _ _ _; rw [c.prog, c.w, c.K, c.mg, c.base]; exact F, c.room.mono hj⟩, relabel_keep (by decide) h, d1⟩
end PL

/-! the mathematics of rings and flows -/
namespace M3
abbrev Arc := Int × Int × Int × Int
def ar (as : List Arc) (j : Nat) : Arc := as.getD j (0, 0, 0, 0)
/-- places found, each with the arc that leads to it from a place found earlier -/
inductive Tree (as : List Arc) (v : Int) : List (Int × Option Nat) → Prop
  | root : Tree as v [(v, none)]
  | snoc {L j} : Tree as v L → j < as.length → (ar as j).1 ∈ L.map (·.1) → (ar as j).2.1 ∉ L.map (·.1) → Tree as v (L ++ [((ar as j).2.1, some j)])
theorem Tree.ne {as v L} (h : Tree as v L) : L ≠ [] := by cases h <;> simp
theorem Tree.head {as v L} (h : Tree as v L) : L[0]? = some (v, none) := by
  induction h with
  | root => rfl
  | snoc h _ _ _ ih =>
    have := h.ne
    rw [List.getElem?_append_left (List.length_pos_iff.mpr this)]
    exact ih
theorem Tree.nodup {as v L} (h : Tree as v L) : (L.map (·.1)).Nodup := by
  induction h with
  | root => simp
  | @snoc L j h _ _ hn ih =>
    rw [List.map_append]
    refine List.nodup_append.mpr ⟨ih, by simp, fun a ha b hb e => hn ?_⟩
    have : b = (ar as j).2.1 := by simpa using hb
    rw [← this, ← e]; exact ha
theorem Tree.mem {as v L} (h : Tree as v L) {lo hi : Int} (hv : lo ≤ v ∧ v < hi) (ha : ∀ j, j < as.length → lo ≤ (ar as j).2.1 ∧ (ar as j).2.1 < hi) : ∀ p ∈ L.map (·.1), lo ≤ p ∧ p < hi := by
  induction h with
  | root => intro p hp; have : p = v := by simpa using hp
            rw [this]; exact hv
  | @snoc L j h hj _ _ ih =>
    intro p hp
    rw [List.map_append] at hp
    rcases List.mem_append.mp hp with hp | hp
    · exact ih p hp
    · have : p = (ar as j).2.1 := by simpa using hp
      rw [this]; exact ha _ hj
/-- the arc of a place found at t leads to it from a place found earlier -/
theorem Tree.par {as v L} (h : Tree as v L) : ∀ (t : Nat) (p : Int) (j : Nat), L[t]? = some (p, some j) → j < as.length ∧ (ar as j).2.1 = p ∧ ∃ s q o, s < t ∧ L[s]? = some (q, o) ∧ (ar as j).1 = q := by
  induction h with
  | root =>
    intro t p j h
    cases t with
    | zero => simp at h
    | succ t => simp at h
  | @snoc L i h hj hb hn ih =>
    intro t p j ht
    by_cases hl : t < L.length
    · rw [List.getElem?_append_left hl] at ht
      obtain ⟨h1, h2, s, q, o, h3, h4, h5⟩ := ih t p j ht
      exact ⟨h1, h2, s, q, o, h3, by rw [List.getElem?_append_left (by omega)]; exact h4, h5⟩
    · have e : t = L.length := by
        have := (List.getElem?_eq_some_iff.mp ht).1
        simp at this
        omega
      subst e
      rw [List.getElem?_append_right (Nat.le_refl _)] at ht
      simp at ht
      obtain ⟨rfl, rfl⟩ := ht
      refine ⟨hj, rfl, ?_⟩
      obtain ⟨x, hx, e⟩ := List.mem_map.mp hb
      obtain ⟨s, hs⟩ := List.getElem?_of_mem hx
      have hsl := (List.getElem?_eq_some_iff.mp hs).1
      exact ⟨s, x.1, x.2, hsl, by rw [List.getElem?_append_left hsl]; exact hs, e.symm⟩
theorem Tree.none {as v L} (h : Tree as v L) : ∀ (t : Nat) (p : Int), L[t]? = some (p, none) → p = v := by
  induction h with
  | root =>
    intro t p h
    cases t with
    | zero => simp at h; exact h.symm
    | succ t => simp at h
  | @snoc L i h hj hb hn ih =>
    intro t p ht
    by_cases hl : t < L.length
    · rw [List.getElem?_append_left hl] at ht
      exact ih t p ht
    · have e : t = L.length := by
        have := (List.getElem?_eq_some_iff.mp ht).1
        simp at this
        omega
      subst e
      rw [List.getElem?_append_right (Nat.le_refl _)] at ht
      simp at ht
theorem nodup_lt : ∀ (n : Nat) (l : List Int), l.Nodup → (∀ x ∈ l, 0 ≤ x ∧ x < (n : Int)) → l.length ≤ n
  | 0, l, _, h => by
    cases l with
    | nil => simp
    | cons a r => have := h a (by simp); omega
  | n + 1, l, hn, h => by
    by_cases hm : (n : Int) ∈ l
    · have h1 := nodup_lt n (l.erase (n : Int)) (hn.erase _) (fun x hx => by
        have h2 := h x (List.mem_of_mem_erase hx)
        have h3 : x ≠ (n : Int) := fun e => by rw [e] at hx; exact (List.Nodup.not_mem_erase hn) hx
        omega)
      rw [List.length_erase_of_mem hm] at h1
      omega
    · have h1 := nodup_lt n l hn (fun x hx => by
        have h2 := h x hx
        have h3 : x ≠ (n : Int) := fun e => hm (e ▸ hx)
        omega)
      omega
theorem nodup_ltN : ∀ (n : Nat) (l : List Nat), l.Nodup → (∀ x ∈ l, x < n) → l.length ≤ n
  | 0, l, _, h => by
    cases l with
    | nil => simp
    | cons a r => have := h a (by simp); omega
  | n + 1, l, hn, h => by
    by_cases hm : n ∈ l
    · have h1 := nodup_ltN n (l.erase n) (hn.erase _) (fun x hx => by
        have h2 := h x (List.mem_of_mem_erase hx)
        have h3 : x ≠ n := fun e => by rw [e] at hx; exact (List.Nodup.not_mem_erase hn) hx
        omega)
      rw [List.length_erase_of_mem hm] at h1
      omega
    · have h1 := nodup_ltN n l hn (fun x hx => by
        have h2 := h x hx
        have h3 : x ≠ n := fun e => hm (e ▸ hx)
        omega)
      omega
/-! ### rings -/
def cE (as : List Arc) (r : List Nat) (p : Int) : Nat := r.countP fun j => decide ((ar as j).2.1 = p)
def cB (as : List Arc) (r : List Nat) (p : Int) : Nat := r.countP fun j => decide ((ar as j).1 = p)
structure Ring (as : List Arc) (r : List Nat) : Prop where
  nd : r.Nodup
  lt : ∀ j ∈ r, j < as.length
  bal : ∀ p, cE as r p = cB as r p
theorem Ring.nil (as : List Arc) : Ring as [] := ⟨by simp, by simp, fun _ => rfl⟩
/-- the way back, at the place that stands at t -/
structure Way (as : List Arc) (v : Int) (L : List (Int × Option Nat)) (r : List Nat) (t : Nat) (p : Int) : Prop where
  nd : r.Nodup
  lt : ∀ j ∈ r, j < as.length
  pos : ∀ j ∈ r, ∃ s o, L[s]? = some ((ar as j).2.1, o) ∧ (s = 0 ∨ t < s)
  bal : ∀ q, cE as r q + (if q = p then 1 else 0) = cB as r q + (if q = v then 1 else 0)
theorem Way.start {as v L f t p} (h : Tree as v L) (hf : f < as.length) (he : (ar as f).2.1 = v) (hb : (ar as f).1 = p) : Way as v L [f] t p := by
  refine ⟨by simp, by simpa using hf, fun j hj => ?_, fun q => ?_⟩
  · obtain rfl : j = f := by simpa using hj
    exact ⟨0, none, by rw [he]; exact h.head, .inl rfl⟩
  · unfold cE cB
    simp only [List.countP_cons, List.countP_nil, he, hb]
    by_cases h1 : v = q <;> by_cases h2 : p = q <;> simp [h1, h2, eq_comm] <;> simp_all [eq_comm]
theorem at_inj {L : List (Int × Option Nat)} (h : (L.map (·.1)).Nodup) {s t : Nat} {p : Int} {o o' : Option Nat} (hs : L[s]? = some (p, o)) (ht : L[t]? = some (p, o')) : s = t := by
  obtain ⟨h1, e1⟩ := List.getElem?_eq_some_iff.mp hs
  obtain ⟨h2, e2⟩ := List.getElem?_eq_some_iff.mp ht
  refine (List.getElem_inj (xs := L.map (·.1)) (h₀ := by simpa using h1) (h₁ := by simpa using h2) h).mp ?_
  simp [e1, e2]
theorem Way.step {as v L r t p j} (h : Tree as v L) (w : Way as v L r t p) (ht : L[t]? = some (p, some j)) (h0 : t ≠ 0) {s : Nat} {q : Int} {o : Option Nat} (hst : s < t) (hs : L[s]? = some (q, o)) (hb : (ar as j).1 = q) : Way as v L (r ++ [j]) s q := by
  obtain ⟨hj, he, _⟩ := h.par t p j ht
  refine ⟨?_, ?_, ?_, fun x => ?_⟩
  · refine List.nodup_append.mpr ⟨w.nd, by simp, fun a ha b hb' e => ?_⟩
    obtain rfl : b = j := by simpa using hb'
    subst e
    obtain ⟨s', o', h1, h2⟩ := w.pos a ha
    rw [he] at h1
    have := at_inj h.nodup h1 ht
    omega
  · intro a ha
    rcases List.mem_append.mp ha with ha | ha
    · exact w.lt a ha
    · obtain rfl : a = j := by simpa using ha
      exact hj
  · intro a ha
    rcases List.mem_append.mp ha with ha | ha
    · obtain ⟨s', o', h1, h2⟩ := w.pos a ha
      exact ⟨s', o', h1, by omega⟩
    · obtain rfl : a = j := by simpa using ha
      exact ⟨t, some a, by rw [he]; exact ht, .inr hst⟩
  · have hw := w.bal x
    unfold cE cB at hw ⊢
    rw [List.countP_append, List.countP_append]
    simp only [List.countP_cons, List.countP_nil, he, hb, decide_eq_true_eq]
    have e1 : (if p = x then 1 else 0) = (if x = p then 1 else 0) := by simp [eq_comm]
    have e2 : (if q = x then 1 else 0) = (if x = q then 1 else 0) := by simp [eq_comm]
    rw [e1, e2]
    generalize (if x = p then 1 else 0) = a1 at hw ⊢
    generalize (if x = q then 1 else 0) = a2 at hw ⊢
    generalize (if x = v then 1 else 0) = a3 at hw ⊢
    omega
theorem Way.done {as v L r t} (w : Way as v L r t v) : Ring as r := ⟨w.nd, w.lt, fun q => by have := w.bal q; omega⟩
/-! ### flows -/
def sE (as : List Arc) (fs : List Int) (p : Int) : Int := ((as.zip fs).map fun q => if q.1.2.1 = p then q.2 else 0).sum
def sB (as : List Arc) (fs : List Int) (p : Int) : Int := ((as.zip fs).map fun q => if q.1.1 = p then q.2 else 0).sum
theorem sG_set (g : Arc → Bool) : ∀ (as : List Arc) (fs : List Int) (j : Nat) (x : Int), as.length = fs.length → j < as.length →
    ((as.zip (fs.set j (fs.getD j 0 + x))).map fun q => if g q.1 then q.2 else 0).sum = ((as.zip fs).map fun q => if g q.1 then q.2 else 0).sum + (if g (ar as j) then x else 0)
  | [], _, _, _, _, h => by simp at h
  | a :: as, [], _, _, h, _ => by simp at h
  | a :: as, f :: fs, 0, x, h, _ => by
    simp only [List.set_cons_zero, List.zip_cons_cons, List.map_cons, List.sum_cons, List.getD_cons_zero, ar]
    by_cases hg : g a = true <;> simp [hg] <;> omega
  | a :: as, f :: fs, j + 1, x, h, hj => by
    have ih := sG_set g as fs j x (by simpa using h) (by simpa using hj)
    have e1 : (f :: fs).getD (j + 1) 0 = fs.getD j 0 := by simp
    have e2 : ar (a :: as) (j + 1) = ar as j := by simp [ar]
    rw [e1, e2, List.set_cons_succ, List.zip_cons_cons, List.zip_cons_cons, List.map_cons, List.map_cons, List.sum_cons, List.sum_cons, ih]
    omega
def addAt (fs : List Int) (r : List Nat) (x : Int) : List Int := r.foldl (fun f j => f.set j (f.getD j 0 + x)) fs
theorem addAt_len : ∀ (r : List Nat) (fs : List Int) (x : Int), (addAt fs r x).length = fs.length
  | [], _, _ => rfl
  | j :: r, fs, x => by
    show (addAt (fs.set j (fs.getD j 0 + x)) r x).length = _
    rw [addAt_len r, List.length_set]
theorem addAt_sum (g : Arc → Bool) (as : List Arc) (x : Int) : ∀ (r : List Nat) (fs : List Int), as.length = fs.length → (∀ j ∈ r, j < as.length) →
    ((as.zip (addAt fs r x)).map fun q => if g q.1 then q.2 else 0).sum = ((as.zip fs).map fun q => if g q.1 then q.2 else 0).sum + x * (r.countP fun j => g (ar as j) : Nat)
  | [], fs, h, _ => by simp [addAt]
  | j :: r, fs, h, hr => by
    have ih := addAt_sum g as x r (fs.set j (fs.getD j 0 + x)) (by rw [List.length_set]; exact h) (fun i hi => hr i (by simp [hi]))
    show ((as.zip (addAt (fs.set j (fs.getD j 0 + x)) r x)).map _).sum = _
    rw [ih, sG_set g as fs j x h (hr j (by simp)), List.countP_cons]
    by_cases hg : g (ar as j) = true
    · simp only [hg, if_true]
      rw [show (((r.countP fun j => g (ar as j)) + 1 : Nat) : Int) = ((r.countP fun j => g (ar as j) : Nat) : Int) + 1 by omega, Int.mul_add]
      omega
    · simp [hg]
theorem addAt_out (x : Int) : ∀ (r : List Nat) (fs : List Int) (i : Nat), i ∉ r → (addAt fs r x).getD i 0 = fs.getD i 0
  | [], _, _, _ => rfl
  | j :: r, fs, i, h => by
    show (addAt (fs.set j (fs.getD j 0 + x)) r x).getD i 0 = _
    rw [addAt_out x r _ i (by simp at h; exact h.2)]
    have hne : j ≠ i := by simp at h; exact fun e => h.1 e.symm
    rw [List.getD_eq_getElem?_getD, List.getElem?_set_ne hne, ← List.getD_eq_getElem?_getD]
theorem addAt_in (x : Int) : ∀ (r : List Nat) (fs : List Int) (i : Nat), r.Nodup → i ∈ r → i < fs.length → (addAt fs r x).getD i 0 = fs.getD i 0 + x
  | [], _, _, _, h, _ => by simp at h
  | j :: r, fs, i, hn, h, hi => by
    show (addAt (fs.set j (fs.getD j 0 + x)) r x).getD i 0 = _
    obtain ⟨h1, h2⟩ := List.nodup_cons.mp hn
    rcases List.mem_cons.mp h with rfl | h
    · rw [addAt_out x r _ i h1, List.getD_eq_getElem?_getD, List.getElem?_set_self hi]
      rfl
    · have hne : j ≠ i := fun e => h1 (e ▸ h)
      rw [addAt_in x r _ i h2 h (by rw [List.length_set]; exact hi), List.getD_eq_getElem?_getD, List.getElem?_set_ne hne, ← List.getD_eq_getElem?_getD]
structure Circ (as : List Arc) (fs : List Int) : Prop where
  len : fs.length = as.length
  lo : ∀ i, i < as.length → 0 ≤ fs.getD i 0
  hi : ∀ i, i < as.length → fs.getD i 0 ≤ (ar as i).2.2.1
  bal : ∀ p, sE as fs p = sB as fs p
theorem Circ.add {as fs r x} (h : Circ as fs) (hr : Ring as r) (h0 : 0 ≤ x) (hx : ∀ j ∈ r, x ≤ (ar as j).2.2.1 - fs.getD j 0) : Circ as (addAt fs r x) := by
  refine ⟨by rw [addAt_len, h.len], fun i hi => ?_, fun i hi => ?_, fun p => ?_⟩
  · by_cases hm : i ∈ r
    · rw [addAt_in x r fs i hr.nd hm (by rw [h.len]; exact hi)]; have := h.lo i hi; omega
    · rw [addAt_out x r fs i hm]; exact h.lo i hi
  · by_cases hm : i ∈ r
    · rw [addAt_in x r fs i hr.nd hm (by rw [h.len]; exact hi)]; have := hx i hm; omega
    · rw [addAt_out x r fs i hm]; exact h.hi i hi
  · have e1 := addAt_sum (fun a => decide (a.2.1 = p)) as x r fs h.len.symm hr.lt
    have e2 := addAt_sum (fun a => decide (a.1 = p)) as x r fs h.len.symm hr.lt
    have e3 := h.bal p
    have e4 := hr.bal p
    unfold cE cB at e4
    unfold sE sB at e3 ⊢
    simp only [decide_eq_true_eq] at e1 e2
    rw [e1, e2, e3, e4]
end M3

namespace KK
open PySem PySem.Spec PyProof.Rows L2 PL
def topS (i : Nat) : Stmt := PySem.Challenge.pw_hourring_k03_flows_and_sums.main.body.getD i (.Pass ⟨0, 0, 0, 0⟩)
abbrev s_is_whole : Stmt := topS 1
abbrev N_is_whole : List Str := ["thing", "least", "most"]
theorem sc_is_whole : FnScope N_is_whole ["thing", "least", "most"] (defScope s_is_whole) := ⟨rfl, rfl, rfl, by decide +kernel, rfl, by decide +kernel, by decide +kernel⟩
abbrev s_is_circling : Stmt := topS 3
abbrev N_is_circling : List Str := ["many", "arcs", "flows", "surplus", "start", "end", "room", "_", "flow"]
theorem sc_is_circling : FnScope N_is_circling ["many", "arcs", "flows"] (defScope s_is_circling) := ⟨rfl, rfl, rfl, by decide +kernel, rfl, by decide +kernel, by decide +kernel⟩
abbrev s_worth : Stmt := topS 4
abbrev N_worth : List Str := ["arcs", "flows", "arc", "flow"]
theorem sc_worth : FnScope N_worth ["arcs", "flows"] (defScope s_worth) := ⟨rfl, rfl, rfl, by decide +kernel, rfl, by decide +kernel, by decide +kernel⟩
abbrev s_bound_by : Stmt := topS 5
abbrev N_bound_by : List Str := ["arcs", "prices", "total", "start", "end", "room", "gain"]
theorem sc_bound_by : FnScope N_bound_by ["arcs", "prices"] (defScope s_bound_by) := ⟨rfl, rfl, rfl, by decide +kernel, rfl, by decide +kernel, by decide +kernel⟩
abbrev s_drawn : Stmt := topS 7
abbrev N_drawn : List Str := ["_law_script", "_law_at", "_law_k", "_law_cell"]
theorem sc_drawn : FnScope N_drawn ["_law_script", "_law_at"] (defScope s_drawn) := ⟨rfl, rfl, rfl, by decide +kernel, rfl, by decide +kernel, by decide +kernel⟩
abbrev s_room : Stmt := topS 8
abbrev N_room : List Str := ["_law_script", "_law_at", "_law_number", "_law_cell", "_law_great"]
theorem sc_room : FnScope N_room ["_law_script", "_law_at"] (defScope s_room) := ⟨rfl, rfl, rfl, by decide +kernel, rfl, by decide +kernel, by decide +kernel⟩
abbrev s_l_worth : Stmt := topS 9
abbrev N_l_worth : List Str := ["_law_script", "_law_at", "_law_number"]
theorem sc_l_worth : FnScope N_l_worth ["_law_script", "_law_at"] (defScope s_l_worth) := ⟨rfl, rfl, rfl, by decide +kernel, rfl, by decide +kernel, by decide +kernel⟩
abbrev s_net : Stmt := topS 10
abbrev N_net : List Str := ["_law_script", "_law_at", "_law_many", "_law_arcs", "_law_k", "_law_begin", "_law_end"]
theorem sc_net : FnScope N_net ["_law_script", "_law_at"] (defScope s_net) := ⟨rfl, rfl, rfl, by decide +kernel, rfl, by decide +kernel, by decide +kernel⟩
abbrev s_way_back : Stmt := topS 11
abbrev N_way_back : List Str := ["_law_many", "_law_arcs", "_law_first", "_law_came", "_law_row", "_law_k", "_law_number", "_law_arc", "_law_place", "_law_found"]
theorem sc_way_back : FnScope N_way_back ["_law_many", "_law_arcs", "_law_first"] (defScope s_way_back) := ⟨rfl, rfl, rfl, by decide +kernel, rfl, by decide +kernel, by decide +kernel⟩
abbrev s_flows : Stmt := topS 12
abbrev N_flows : List Str := ["_law_script", "_law_at", "_law_many", "_law_arcs", "_law_flows_here", "_law_turn", "_law_ring", "_law_number", "_law_room_here", "_law_part"]
theorem sc_flows : FnScope N_flows ["_law_script", "_law_at", "_law_many", "_law_arcs"] (defScope s_flows) := ⟨rfl, rfl, rfl, by decide +kernel, rfl, by decide +kernel, by decide +kernel⟩
abbrev s_bent : Stmt := topS 13
abbrev N_bent : List Str := ["_law_script", "_law_at", "_law_flows_here", "_law_found", "_law_way", "_law_spot", "_law_turn"]
theorem sc_bent : FnScope N_bent ["_law_script", "_law_at", "_law_flows_here"] (defScope s_bent) := ⟨rfl, rfl, rfl, by decide +kernel, rfl, by decide +kernel, by decide +kernel⟩
abbrev s_circling : Stmt := topS 14
abbrev N_circling : List Str := ["_law_many", "_law_arcs", "_law_flows_here", "_law_k", "_law_place", "_law_come", "_law_gone"]
theorem sc_circling : FnScope N_circling ["_law_many", "_law_arcs", "_law_flows_here"] (defScope s_circling) := ⟨rfl, rfl, rfl, by decide +kernel, rfl, by decide +kernel, by decide +kernel⟩
abbrev s_bounded : Stmt := topS 15
abbrev N_bounded : List Str := ["_law_arcs", "_law_prices", "_law_found", "_law_begin", "_law_end", "_law_room_here", "_law_own", "_law_more"]
theorem sc_bounded : FnScope N_bounded ["_law_arcs", "_law_prices"] (defScope s_bounded) := ⟨rfl, rfl, rfl, by decide +kernel, rfl, by decide +kernel, by decide +kernel⟩
abbrev s_sum : Stmt := topS 16
abbrev N_sum : List Str := ["_law_arcs", "_law_flows_here", "_law_found", "_law_k"]
theorem sc_sum : FnScope N_sum ["_law_arcs", "_law_flows_here"] (defScope s_sum) := ⟨rfl, rfl, rfl, by decide +kernel, rfl, by decide +kernel, by decide +kernel⟩
abbrev s_law : Stmt := topS 17
abbrev N_law : List Str := ["_law_script", "_law_at", "_law_many", "_law_arcs", "_law_held", "_law_flows_here", "_law_turn", "_law_some", "_law_handed", "_law_due", "_law_wide", "_law_prices", "_law_place"]
theorem sc_law : FnScope N_law ["_law_script"] (defScope s_law) := ⟨rfl, rfl, rfl, by decide +kernel, rfl, by decide +kernel, by decide +kernel⟩
structure G0 (mg : Str → Option Value) : Prop where
  b_any : mg "any" = none
  b_bool : mg "bool" = none
  b_enumerate : mg "enumerate" = none
  b_int : mg "int" = none
  b_isinstance : mg "isinstance" = none
  b_len : mg "len" = none
  b_list : mg "list" = none
  b_max : mg "max" = none
  b_min : mg "min" = none
  b_range : mg "range" = none
  b_sum : mg "sum" = none
  b_zip : mg "zip" = none
section
variable {α : Type} {a b c d e f g h : α} {r : List α}
theorem ix_0 : atI (a :: r) 0 = some a := atI_nat (j := 0) rfl
theorem ix_1 : atI (a :: b :: r) 1 = some b := atI_nat (j := 1) rfl
theorem ix_2 : atI (a :: b :: c :: r) 2 = some c := atI_nat (j := 2) rfl
theorem ix_3 : atI (a :: b :: c :: d :: r) 3 = some d := atI_nat (j := 3) rfl
theorem ix_4 : atI (a :: b :: c :: d :: e :: r) 4 = some e := atI_nat (j := 4) rfl
end
theorem cutD_map {α β : Type} (f : α → β) (xs : List α) (lo hi : Option Int) : PL.cutD (xs.map f) lo hi = (PL.cutD xs lo hi).map f := by
  unfold PL.cutD
  rw [List.length_map, List.map_take, List.map_drop]
theorem cutD_length {α : Type} (xs : List α) (lo hi : Option Int) : (PL.cutD xs lo hi).length ≤ xs.length := by
  unfold PL.cutD
  rw [List.length_take, List.length_drop]
  omega
theorem atI_map {α β : Type} (f : α → β) (xs : List α) (i : Int) : atI (xs.map f) i = (atI xs i).map f := by
  unfold atI
  rw [List.length_map]
  cases ixN xs.length i with
  | none => rfl
  | some j => simp
theorem at0 (xs : List Int) (h : xs ≠ []) : ∃ z : Int, (atI xs 0).map PyData.int = some (.int z) := by
  cases xs with
  | nil => exact (h rfl).elim
  | cons x r => exact ⟨x, by rw [ix_0]; rfl⟩
theorem small_mul {i j : Int} (a b : Nat) (ha : i.natAbs < 2 ^ a) (hb : j.natAbs < 2 ^ b) (h0 : 0 < a := by decide) (h1 : 0 < b := by decide) (h : a + b ≤ 1000000 := by decide) : CMulW i j := wide_mul ha hb h0 h1 h
theorem av_consF {X : Cx} {Γ : Slots} {γ γ1 γ2 : Cells} {e : Expr} {es : List Expr} {d : PyData} {ds : List PyData} (h : EV X Γ γ e (.fz d) γ1) (hr : AV X Γ γ1 es (ds.map Itm.fz) γ2) (hs : starEach (e :: es) X.env = (false, eval e X.env) :: starEach es X.env := by rfl) : AV X Γ γ (e :: es) ((d :: ds).map Itm.fz) γ2 := av_cons h hr hs
theorem av_nilF {X : Cx} {Γ : Slots} {γ : Cells} : AV X Γ γ [] (([] : List PyData).map Itm.fz) γ := av_nil
theorem fin_set {P : EPost} {d : PyData} {γ : Cells} {c : Nat} {xs : List Itm} (h : Clo γ) (hx : ∀ x ∈ xs, ∃ d, x = Itm.fz d) (hp : P (.fz d) (γ.set c (.lst xs))) : PL.Fin γ.length P (.fz d) (γ.set c (.lst xs)) :=
  ⟨γ.set c (.lst xs), [], by simp, by simp, clo_set h (fun x hm => by obtain ⟨d, rfl⟩ := hx x hm; exact .fz d), .fz d, hp⟩

/-- the counter of the draws is k, in cell c -/
def at_ (γ : Cells) (c : Nat) (k : Int) : Cells := γ.set c (.lst [.fz (.int k)])
theorem at_at (γ : Cells) (c : Nat) (k k' : Int) : (at_ γ c k).set c (.lst [.fz (.int k')]) = at_ γ c k' := List.set_set ..
theorem at_len (γ : Cells) (c : Nat) (k : Int) : (at_ γ c k).length = γ.length := List.length_set
theorem at_get {γ : Cells} {c : Nat} (h : c < γ.length) (k : Int) : (at_ γ c k)[c]? = some (.lst [.fz (.int k)]) := List.getElem?_set_self h
theorem at_ne {γ : Cells} {c j : Nat} (h : c ≠ j) (k : Int) : (at_ γ c k)[j]? = γ[j]? := List.getElem?_set_ne h
theorem at_app {γ : Cells} {c : Nat} (h : c < γ.length) (k : Int) (ex : Cells) : at_ γ c k ++ ex = at_ (γ ++ ex) c k := (List.set_append_left _ _ h).symm
theorem at_clo {γ : Cells} {c : Nat} {k : Int} (k' : Int) (h : Clo (at_ γ c k)) : Clo (at_ γ c k') := by
  rw [← at_at γ c k k']
  exact clo_set h (fun x hx => by
    obtain rfl : x = .fz (.int k') := by simpa using hx
    exact .fz _)
theorem fin_at {P : EPost} {d : PyData} {γ : Cells} {c : Nat} {k k' : Int} (h : Clo (at_ γ c k)) (hp : P (.fz d) (at_ γ c k')) : PL.Fin (at_ γ c k).length P (.fz d) (at_ γ c k') :=
  ⟨at_ γ c k', [], by simp, by rw [at_len, at_len]; exact Nat.le_refl _, at_clo k' h, .fz d, hp⟩
theorem fin_at_junk {P : EPost} {d : PyData} {γ junk : Cells} {c : Nat} {k k' : Int} (hc : c < γ.length) (h : Clo (at_ γ c k)) (hp : P (.fz d) (at_ γ c k')) : PL.Fin (at_ γ c k).length P (.fz d) (at_ (γ ++ junk) c k') :=
  ⟨at_ γ c k', junk, (at_app hc k' junk).symm, by rw [at_len, at_len]; exact Nat.le_refl _, at_clo k' h, .fz d, hp⟩
/-- an item at an open place of a display -/
theorem pick_go {C : PyData → Prop} {ds : List PyData} {i : Int} {g : Cells} (G : PyData → Prop) (h0 : 0 ≤ i) (h1 : i < ds.length) (hall : ∀ d ∈ ds, G d) (k : ∀ d, G d → C d) :
    ∃ ds' i' d, Rdb g (.fz (.list ds)) (.list ds') ∧ (Itm.fz (.int i)) = .fz (.int i') ∧ atI ds' i' = some d ∧ C d := by
  have hlt : i.toNat < ds.length := by omega
  refine ⟨ds, i, ds[i.toNat], .fz _, rfl, ?_, k _ (hall _ (List.getElem_mem hlt))⟩
  have h := atI_nat (List.getElem?_eq_getElem hlt)
  rw [Int.toNat_of_nonneg h0] at h
  exact h
def iB (lo hi : Int) (d : PyData) : Prop := ∃ z : Int, d = .int z ∧ lo ≤ z ∧ z ≤ hi
theorem all_nil {G : PyData → Prop} : ∀ d ∈ ([] : List PyData), G d := fun _ h => by simp at h
theorem all_cons {G : PyData → Prop} {d : PyData} {ds : List PyData} (h : G d) (t : ∀ x ∈ ds, G x) : ∀ x ∈ d :: ds, G x := fun x hx => by
  rcases List.mem_cons.mp hx with rfl | hx
  · exact h
  · exact t x hx
theorem at_last {γ : Cells} {c : Nat} (h : c < γ.length) (k : Int) (o : Cell) : (at_ (γ ++ [o]) c k)[γ.length]? = some o := by
  rw [at_ne (by omega), List.getElem?_append_right (Nat.le_refl _)]; simp
theorem at_setl {γ : Cells} {c : Nat} (h : c < γ.length) (k : Int) (o o' : Cell) : (at_ (γ ++ [o]) c k).set γ.length o' = at_ (γ ++ [o']) c k := by
  rw [← at_app h, ← at_app h, List.set_append_right _ _ (by rw [at_len]; exact Nat.le_refl _), at_len, Nat.sub_self]; rfl

local macro_rules | `(tactic| tm_at "nm") => `(tactic| with_reducible first | assumption | exact Nm.r (by assumption))
local macro_rules | `(tactic| tm_at "bt") => `(tactic| with_reducible assumption)
local macro_rules | `(tactic| tm_at "asm") => `(tactic| assumption)
local macro_rules | `(tactic| tm_at "auto") => `(tactic| first | rfl | exact fun _ _ => rfl | (intro _; rfl) | decide | exact nomark _ | (with_unfolding_all rfl))
local macro_rules | `(tactic| tm_at "boot") => `(tactic| decide +kernel)
local macro_rules | `(tactic| tm_at "kit") => `(tactic| first | exact kit_int _ | exact kit_bool _ | exact kit_str _ | exact kit_list _ | exact kit_tuple _ | exact kit_dict _)
local macro_rules | `(tactic| tm_at "side") => `(tactic| first | assumption | decide | omega | (simp only [List.length_map, List.length_cons, List.length_nil, List.length_append]; omega) | (simp; done))
local macro_rules | `(tactic| tm_at "pos") => `(tactic| first | decide | assumption | exact Int.pow_pos (by decide) | omega)
local macro_rules | `(tactic| tm_at "mul") => `(tactic| first | assumption | (exact small_mul 200 200 (by omega) (by omega)))
local macro_rules | `(tactic| tm_at "div") => `(tactic| first | assumption | (exact wide_div (b := 200) (by omega) (by omega) (by decide) (by decide)))
local macro_rules | `(tactic| tm_at "pow") => `(tactic| (refine ⟨?_, ?_, ?_⟩ <;> decide))
local macro_rules | `(tactic| tm_at "rd") => `(tactic| first | exact Rdb.fz _ | exact Rdb.cl (by assumption) | exact Rdb.cl rfl)
local macro_rules | `(tactic| tm_at "rdl") => `(tactic| first | exact .inr rfl | exact .inl (by tm_at "rd"))
local macro_rules | `(tactic| tm_at "ix") => `(tactic| first | assumption | exact ix_0 | exact ix_1 | exact ix_2 | exact ix_3 | exact ix_4 | rfl)
local macro_rules | `(tactic| tm_at "cmp") => `(tactic| first | exact cmp_lt | exact cmp_le | exact cmp_gt | exact cmp_ge | exact cmp_eqI | exact cmp_neI | exact cmp_eqS | exact cmp_neS | exact cmp_isB | exact cmp_notB | exact cmp_isN | exact cmp_notN | exact cmp_eqB | exact cmp_neB)
local macro_rules | `(tactic| tm_at "intro") => `(tactic| (intro _; tm_at "e"))
local macro_rules | `(tactic| tm_at "introe") => `(tactic| (intro _; tm_at "e"))
local macro_rules | `(tactic| tm_at "introw") => `(tactic| (intro _; tm_at "w"))
local macro_rules | `(tactic| tm_at "a") => `(tactic| first
  | exact av_nil
  | (apply av_cons; (focus tm_at "e"); (focus tm_at "a"); (focus tm_at "auto")))
local macro_rules | `(tactic| tm_at "alli") => `(tactic| (repeat (first | exact all_nil | (refine all_cons ⟨_, rfl, ?_, ?_⟩ ?_; (focus omega); (focus omega)))))
local macro_rules | `(tactic| tm_at "afz") => `(tactic| first
  | exact av_nilF
  | (apply av_consF; (focus tm_at "e"); (focus tm_at "afz"); (focus tm_at "auto")))
local macro_rules | `(tactic| tm_at "o") => `(tactic| first
  | exact ov_none
  | (apply ov_some; (focus tm_at "e")))
local macro_rules | `(tactic| tm_at "e") => `(tactic| ((with_reducible show EV _ _ _ (Expr.Tuple _ _ _) _ _); first | (apply ev_tup; (focus tm_at "afz"); (focus tm_at "side"))))
local macro_rules | `(tactic| tm_at "e") => `(tactic| ((with_reducible show EV _ _ _ (Expr.List _ _) _ _); first | (apply ev_lst; (focus tm_at "afz"); (focus tm_at "side"))))
local macro_rules | `(tactic| tm_at "e") => `(tactic| ((with_reducible show EV _ _ _ (Expr.Call (Expr.Name _ _) _ _ _) _ _); first | (apply ev_lenL; (focus tm_at "bt"); (focus tm_at "e"); (focus tm_at "rd"); (focus tm_at "auto")) | (apply ev_lenC; (focus tm_at "bt"); (focus tm_at "e"); (focus tm_at "ix"); (focus tm_at "auto")) | (apply ev_lenT; (focus tm_at "bt"); (focus tm_at "e"); (focus tm_at "auto")) | (apply ev_lenS; (focus tm_at "bt"); (focus tm_at "e"); (focus tm_at "side"); (focus tm_at "auto")) | (apply ev_max2; (focus tm_at "asm"); (focus tm_at "bt"); (focus tm_at "e"); (focus tm_at "e"); (focus tm_at "auto"); (focus tm_at "auto"); (focus tm_at "auto")) | (apply ev_min2; (focus tm_at "asm"); (focus tm_at "bt"); (focus tm_at "e"); (focus tm_at "e"); (focus tm_at "auto"); (focus tm_at "auto"); (focus tm_at "auto")) | (apply ev_intB; (focus tm_at "bt"); (focus tm_at "e"); (focus tm_at "auto")) | (apply ev_intI; (focus tm_at "bt"); (focus tm_at "e"); (focus tm_at "auto")) | (apply ev_abs; (focus tm_at "bt"); (focus tm_at "e"); (focus tm_at "auto")) | (apply ev_sum; (focus tm_at "asm"); (focus tm_at "bt"); (focus tm_at "e"); (focus tm_at "rd"); (focus tm_at "auto")) | (apply ev_listF; (focus tm_at "bt"); (focus tm_at "e"); (focus tm_at "rdl"); (focus tm_at "auto")) | (apply ev_isi; (focus tm_at "bt"); (focus tm_at "bt"); (focus tm_at "boot"); (focus tm_at "e"); (focus tm_at "rd"); (focus tm_at "kit"); (focus tm_at "auto"); (focus tm_at "auto"); (focus tm_at "auto"); (focus tm_at "auto"); (focus tm_at "auto"))))
local macro_rules | `(tactic| tm_at "e") => `(tactic| ((with_reducible show EV _ _ _ (Expr.BoolOp BoolOp.Or _ _) _ _); first | (apply ev_or; (focus tm_at "e"); (focus tm_at "introe"))))
local macro_rules | `(tactic| tm_at "e") => `(tactic| ((with_reducible show EV _ _ _ (Expr.BoolOp BoolOp.And _ _) _ _); first | (apply ev_and; (focus tm_at "e"); (focus tm_at "introe"))))
local macro_rules | `(tactic| tm_at "e") => `(tactic| ((with_reducible show EV _ _ _ (Expr.BoolOp _ [_] _) _ _); first | (apply ev_one; (focus tm_at "e"))))
local macro_rules | `(tactic| tm_at "e") => `(tactic| ((with_reducible show EV _ _ _ (Expr.IfExp _ _ _ _) _ _); first | (apply ev_ifx; (focus tm_at "t"); (focus tm_at "intro"); (focus tm_at "intro"))))
local macro_rules | `(tactic| tm_at "e") => `(tactic| ((with_reducible show EV _ _ _ (Expr.Compare _ [_, _] [_, _] _) _ _); first | (apply ev_chain2; (focus tm_at "e"); (focus tm_at "e"); (focus tm_at "cmp"); (focus tm_at "e"); (focus tm_at "cmp"); (focus tm_at "auto"))))
local macro_rules | `(tactic| tm_at "e") => `(tactic| ((with_reducible show EV _ _ _ (Expr.Compare _ [_] [_] _) _ _); first | (apply ev_cmp; (focus tm_at "e"); (focus tm_at "e"); (focus tm_at "cmp"); (focus tm_at "auto"))))
local macro_rules | `(tactic| tm_at "e") => `(tactic| ((with_reducible show EV _ _ _ (Expr.UnaryOp UnaryOp.Not _ _) _ _); first | (apply ev_not; (focus tm_at "e"))))
local macro_rules | `(tactic| tm_at "e") => `(tactic| ((with_reducible show EV _ _ _ (Expr.UnaryOp UnaryOp.USub _ _) _ _); first | (apply ev_neg; (focus tm_at "e"))))
local macro_rules | `(tactic| tm_at "e") => `(tactic| ((with_reducible show EV _ _ _ (Expr.Subscript _ _ _) _ _); first | (apply ev_ixL; (focus tm_at "e"); (focus tm_at "e"); (focus tm_at "rd"); (focus tm_at "ix"); (focus tm_at "auto")) | (apply ev_ixT; (focus tm_at "e"); (focus tm_at "e"); (focus tm_at "ix"); (focus tm_at "auto")) | (apply ev_ixC; (focus tm_at "e"); (focus tm_at "e"); (focus tm_at "ix"); (focus tm_at "ix"); (focus tm_at "auto")) | (apply ev_ixP; (focus tm_at "e"); (focus tm_at "e"); (focus tm_at "ix"); (focus tm_at "auto"))))
local macro_rules | `(tactic| tm_at "e") => `(tactic| ((with_reducible show EV _ _ _ (Expr.Subscript _ (Expr.Slice _ _ _ _) _) _ _); first | (apply ev_slL; (focus tm_at "e"); (focus tm_at "o"); (focus tm_at "o"); (focus tm_at "rd")) | (apply ev_slT; (focus tm_at "e"); (focus tm_at "o"); (focus tm_at "o"); (focus tm_at "side"))))
local macro_rules | `(tactic| tm_at "e") => `(tactic| ((with_reducible show EV _ _ _ (Expr.BinOp _ Operator.Pow _ _) _ _); first | (apply ev_pow; (focus tm_at "e"); (focus tm_at "e"); (focus tm_at "pow"))))
local macro_rules | `(tactic| tm_at "e") => `(tactic| ((with_reducible show EV _ _ _ (Expr.BinOp _ Operator.FloorDiv _ _) _ _); first | (apply ev_div; (focus tm_at "e"); (focus tm_at "e"); (focus tm_at "div"))))
local macro_rules | `(tactic| tm_at "e") => `(tactic| ((with_reducible show EV _ _ _ (Expr.BinOp _ Operator.Mod _ _) _ _); first | (apply ev_mod; (focus tm_at "e"); (focus tm_at "e"); (focus tm_at "pos"))))
local macro_rules | `(tactic| tm_at "e") => `(tactic| ((with_reducible show EV _ _ _ (Expr.BinOp _ Operator.Mult _ _) _ _); first | (apply ev_mul; (focus tm_at "e"); (focus tm_at "e"); (focus tm_at "mul")) | (apply ev_repF; (focus tm_at "afz"); (focus tm_at "e"); (focus tm_at "side"); (focus tm_at "side"); (focus tm_at "side"))))
local macro_rules | `(tactic| tm_at "e") => `(tactic| ((with_reducible show EV _ _ _ (Expr.BinOp _ Operator.Sub _ _) _ _); first | (apply ev_sub; (focus tm_at "e"); (focus tm_at "e"))))
local macro_rules | `(tactic| tm_at "e") => `(tactic| ((with_reducible show EV _ _ _ (Expr.BinOp _ Operator.Add _ _) _ _); first | (apply ev_add; (focus tm_at "e"); (focus tm_at "e")) | (apply ev_catF; (focus tm_at "e"); (focus tm_at "e"); (focus tm_at "rd"); (focus tm_at "rd"); (focus tm_at "side")) | (apply ev_addS; (focus tm_at "e"); (focus tm_at "e"); (focus tm_at "side")) | (apply ev_catT; (focus tm_at "e"); (focus tm_at "e"); (focus tm_at "side"))))
local macro_rules | `(tactic| tm_at "e") => `(tactic| ((with_reducible show EV _ _ _ (Expr.Name _ _) _ _); first | (apply ev_name; (focus tm_at "nm"); (focus rfl))))
local macro_rules | `(tactic| tm_at "e") => `(tactic| ((with_reducible show EV _ _ _ (Expr.Constant _ _ _) _ _); first | exact ev_int | exact ev_bl | exact ev_str | exact ev_non))
local macro_rules | `(tactic| tm_at "t") => `(tactic| ((with_reducible show TV _ _ _ _ _ _); first | (apply tv_val; (focus tm_at "e"); (focus tm_at "auto")) | (apply tv_truthL; (focus tm_at "e"); (focus tm_at "rd"); (focus tm_at "auto")) | (apply tv_truthI; (focus tm_at "e"); (focus tm_at "auto"))))
local macro_rules | `(tactic| tm_at "t") => `(tactic| ((with_reducible show TV _ _ _ (Expr.BoolOp _ _ _) _ _); first | (apply tv_w; (focus tm_at "w"))))
local macro_rules | `(tactic| tm_at "t") => `(tactic| ((with_reducible show TV _ _ _ (Expr.UnaryOp UnaryOp.Not _ _) _ _); first | (apply tv_not; (focus tm_at "t"))))
local macro_rules | `(tactic| tm_at "t") => `(tactic| ((with_reducible show TV _ _ _ (Expr.Compare _ [_, _] [_, _] _) _ _); first | (apply tv_chain2; (focus tm_at "e"); (focus tm_at "e"); (focus tm_at "cmp"); (focus tm_at "e"); (focus tm_at "cmp"); (focus tm_at "auto"))))
local macro_rules | `(tactic| tm_at "t") => `(tactic| ((with_reducible show TV _ _ _ (Expr.Compare _ [_] [_] _) _ _); first | (apply tv_cmp; (focus tm_at "e"); (focus tm_at "e"); (focus tm_at "cmp"); (focus tm_at "auto"))))
local macro_rules | `(tactic| tm_at "w") => `(tactic| ((with_reducible show WV _ _ _ (Expr.BoolOp BoolOp.Or _ _) _ _); first | (apply wv_or; (focus tm_at "t"); (focus tm_at "introw"))))
local macro_rules | `(tactic| tm_at "w") => `(tactic| ((with_reducible show WV _ _ _ (Expr.BoolOp BoolOp.And _ _) _ _); first | (apply wv_and; (focus tm_at "t"); (focus tm_at "introw"))))
local macro_rules | `(tactic| tm_at "w") => `(tactic| ((with_reducible show WV _ _ _ (Expr.BoolOp BoolOp.Or [_] _) _ _); first | (apply wv_or1; (focus tm_at "t"))))
local macro_rules | `(tactic| tm_at "w") => `(tactic| ((with_reducible show WV _ _ _ (Expr.BoolOp BoolOp.And [_] _) _ _); first | (apply wv_and1; (focus tm_at "t"))))

def isScript (a : Itm) : Prop := ∃ ns : List Int, a = .fz (.list (ns.map .int)) ∧ ns.length ≤ 63
def S_drawn : PSpec := fun args γ P => ∃ a c γ0 k m, args = [a, .cl c] ∧ isScript a ∧ γ = at_ γ0 c k ∧ c < γ0.length ∧ 0 ≤ k ∧ k ≤ m ∧ m ≤ 1000000 ∧ ∀ d k' : Int, 0 ≤ d → d ≤ 90749500 → 0 ≤ k' → k' ≤ m + 1 → P (.fz (.int d)) (at_ γ0 c k')
theorem len_drawn {args γ P} (h : S_drawn args γ P) : args.length = 2 := by obtain ⟨a, c, γ0, k, m, rfl, _⟩ := h; rfl
theorem drawn_y (z k : Int) (h0 : 0 ≤ k) (h1 : k ≤ 1000000) : 0 ≤ z % 10 ^ (60 : Int).toNat + 7919 * k * k + 104729 ∧ z % 10 ^ (60 : Int).toNat + 7919 * k * k + 104729 < 2 ^ 205 := by
  have e : (10 : Int) ^ (60 : Int).toNat = 1000000000000000000000000000000000000000000000000000000000000 := by decide +kernel
  rw [e]
  have h2 : 0 ≤ 7919 * k * k := Int.mul_nonneg (by omega) h0
  have h3 : 7919 * k * k ≤ 7919 * 1000000 * 1000000 := Int.mul_le_mul (by omega) h1 h0 (by omega)
  omega
/-- the cell that a script has at a place -/
theorem cell_at (ns : List Int) (hn : ns.length ≤ 63) (k : Int) : (∃ z : Int, atI (PL.cutD (PL.cutD (ns.map PyData.int) (some (k % max 1 ((ns.map PyData.int).length : Int))) none) none (some 1) ++ [PyData.int 0]) 0 = some (.int z)) ∧
    (PL.cutD (PL.cutD (ns.map PyData.int) (some (k % max 1 ((ns.map PyData.int).length : Int))) none) none (some 1)).length + [PyData.int 0].length ≤ 1000000 ∧ 0 < max (1 : Int) ((ns.map PyData.int).length : Int) := by
  refine ⟨?_, ?_, by omega⟩
  · rw [cutD_map, cutD_map, show ([PyData.int 0] : List PyData) = [(0 : Int)].map PyData.int from rfl, ← List.map_append, atI_map]
    exact at0 _ (by simp)
  · have h1 := cutD_length (PL.cutD (ns.map PyData.int) (some (k % max 1 ((ns.map PyData.int).length : Int))) none) none (some 1)
    have h2 := cutD_length (ns.map PyData.int) (some (k % max 1 ((ns.map PyData.int).length : Int))) none
    simp only [List.length_map, List.length_cons, List.length_nil] at h1 h2 ⊢
    omega
set_option maxHeartbeats 4000000 in
theorem body_drawn {P : Program} {w : World} {K : PySem.W.Frag} {mg : Str → Option Value} {base : Heap} (g0 : G0 mg)
    {X : Cx} (c : Ctx X P w K mg base N_drawn (defScope s_drawn) 0) {args : List Itm} {γ : Cells} {Po : EPost} (hγ : Clo γ) (hS : S_drawn args γ Po) :
    SVs X (slots0 N_drawn args) γ (defBody s_drawn) { nx := fun _ g => PL.Fin γ.length Po (.fz .none) g, rt := PL.Fin γ.length Po } := by
  have hX := c.ok
  have hp := c.po
  have v0 : Nm X "_law_script" 0 .local := c.nm 0 .local rfl (by decide +kernel) (.inl rfl) (by decide +kernel) (by decide +kernel)
  have v1 : Nm X "_law_at" 1 .local := c.nm 1 .local rfl (by decide +kernel) (.inl rfl) (by decide +kernel) (by decide +kernel)
  have v2 : Nm X "_law_k" 2 .local := c.nm 2 .local rfl (by decide +kernel) (.inl rfl) (by decide +kernel) (by decide +kernel)
  have v3 : Nm X "_law_cell" 3 .local := c.nm 3 .local rfl (by decide +kernel) (.inl rfl) (by decide +kernel) (by decide +kernel)
  have b_max : Bt X "max" := c.bt (by decide +kernel) g0.b_max
  have b_len : Bt X "len" := c.bt (by decide +kernel) g0.b_len
  obtain ⟨a, cc, γ0, k, m, rfl, ⟨ns, rfl, hn⟩, rfl, hc, hk0, hkm, hm, hP⟩ := hS
  have hk := at_get hc k
  apply svs_setE hX v2
  apply EE.of
  · tm_at "e"
  apply sv_setitem (hc := hk)
  · tm_at "e"
  · tm_at "e"
  · tm_at "e"
  · rfl
  apply svs_setE hX v3
  obtain ⟨⟨z, hz⟩, hlen, hmax⟩ := cell_at ns hn k
  have hm1 : CMulW 7919 k := small_mul 200 200 (by decide) (by omega)
  have hm2 : CMulW (7919 * k) k := small_mul 200 200 (by omega) (by omega)
  apply EE.of
  · tm_at "e"
  obtain ⟨hy0, hy1⟩ := drawn_y z k hk0 (by omega)
  generalize z % 10 ^ (60 : Int).toNat + 7919 * k * k + 104729 = y at hy0 hy1 ⊢
  have hm3 : CMulW y y := small_mul 210 210 (by omega) (by omega)
  have hm4 : CMulW (y * y % 2147483647) (48271 + 2 * (k % 97)) := small_mul 200 200 (by omega) (by omega)
  have hm5 : CMulW 2 (k % 97) := small_mul 200 200 (by decide) (by omega)
  apply svs_retE
  apply EE.of
  · tm_at "e"
  have e : (at_ γ0 cc k).set cc (.lst ([Itm.fz (.int k)].set (Int.toNat 0) (.fz (.int (k + 1))))) = at_ γ0 cc (k + 1) := at_at γ0 cc k (k + 1)
  rw [e]
  refine fin_at hγ (hP _ _ ?_ ?_ ?_ ?_) <;> omega
theorem ok_drawn {P : Program} {w : World} {K : PySem.W.Frag} {mg : Str → Option Value} {base : Heap} (g0 : G0 mg)
    {f : Addr} {fd : FuncData} (F : Fun K "_law_drawn" "_law_drawn" s_drawn f fd) (hm : mg "_law_drawn" = some (.ref f)) : FnD P w K mg base "_law_drawn" 1 S_drawn :=
  def_ok F sc_drawn hm (F.binds (ps := ["_law_script", "_law_at"]) fun _ _ _ _ _ _ us hl => match us, hl with | [_, _], _ => rfl) (fun args γ P h => len_drawn h)
    fun X c args γ Po hγ hS => body_drawn g0  c hγ hS
theorem use_drawn {ns : List Int} {P : EPost} {c : Nat} {γ0 : Cells} {k : Int} (m : Int) (hn : ns.length ≤ 63) (hc : c < γ0.length) (h0 : 0 ≤ k) (h1 : k ≤ m) (h2 : m ≤ 1000000) (q : ∀ d k' : Int, 0 ≤ d → d ≤ 90749500 → 0 ≤ k' → k' ≤ m + 1 → P (.fz (.int d)) (at_ γ0 c k')) :
    S_drawn [.fz (.list (ns.map .int)), .cl c] (at_ γ0 c k) P := ⟨_, c, γ0, k, m, rfl, ⟨ns, rfl, hn⟩, rfl, hc, h0, h1, h2, q⟩
/-! ### room, worth -/
def S_room : PSpec := fun args γ P => ∃ a c γ0 k m, args = [a, .cl c] ∧ isScript a ∧ γ = at_ γ0 c k ∧ c < γ0.length ∧ 0 ≤ k ∧ k ≤ m ∧ m ≤ 900000 ∧ ∀ d k' : Int, 0 ≤ d → d ≤ 10 ^ 31 → 0 ≤ k' → k' ≤ m + 1 → P (.fz (.int d)) (at_ γ0 c k')
theorem len_room {args γ P} (h : S_room args γ P) : args.length = 2 := by obtain ⟨a, c, γ0, k, m, rfl, _⟩ := h; rfl
set_option maxHeartbeats 4000000 in
theorem body_room {P : Program} {w : World} {K : PySem.W.Frag} {mg : Str → Option Value} {base : Heap} (g0 : G0 mg)
    (D_drawn : FnD P w K mg base "_law_drawn" 1 S_drawn)
    {X : Cx} (c : Ctx X P w K mg base N_room (defScope s_room) 1) {args : List Itm} {γ : Cells} {Po : EPost} (hγ : Clo γ) (hS : S_room args γ Po) :
    SVs X (slots0 N_room args) γ (defBody s_room) { nx := fun _ g => PL.Fin γ.length Po (.fz .none) g, rt := PL.Fin γ.length Po } := by
  have hX := c.ok
  have hp := c.po
  have v0 : Nm X "_law_script" 0 .local := c.nm 0 .local rfl (by decide +kernel) (.inl rfl) (by decide +kernel) (by decide +kernel)
  have v1 : Nm X "_law_at" 1 .local := c.nm 1 .local rfl (by decide +kernel) (.inl rfl) (by decide +kernel) (by decide +kernel)
  have v2 : Nm X "_law_number" 2 .local := c.nm 2 .local rfl (by decide +kernel) (.inl rfl) (by decide +kernel) (by decide +kernel)
  have v3 : Nm X "_law_cell" 3 .local := c.nm 3 .local rfl (by decide +kernel) (.inl rfl) (by decide +kernel) (by decide +kernel)
  have v4 : Nm X "_law_great" 4 .local := c.nm 4 .local rfl (by decide +kernel) (.inl rfl) (by decide +kernel) (by decide +kernel)
  have k_drawn : Cal X "_law_drawn" S_drawn := c.cal D_drawn (by decide) (by decide +kernel) (by decide +kernel)
  have b_max : Bt X "max" := c.bt (by decide +kernel) g0.b_max
  have b_len : Bt X "len" := c.bt (by decide +kernel) g0.b_len
  obtain ⟨a, cc, γ0, k, m, rfl, ⟨ns, rfl, hn⟩, rfl, hc, hk0, hkm, hm, hP⟩ := hS
  apply svs_setE hX v2
  refine ee_call' k_drawn ?_
  · apply AE.of
    · tm_at "a"
    refine use_drawn m hn hc hk0 hkm (by omega) fun d k' hd0 hd1 h0 h1 => ?_
    have hk := at_get hc k'
    apply svs_setE hX v3
    obtain ⟨⟨z, hz⟩, hlen, hmax⟩ := cell_at ns hn k'
    apply EE.of
    · tm_at "e"
    have e60 : (10 : Int) ^ (60 : Int).toNat = 1000000000000000000000000000000000000000000000000000000000000 := by decide +kernel
    have e31 : (10 : Int) ^ (31 : Int).toNat = 10000000000000000000000000000000 := by decide +kernel
    rw [e60]
    apply svs_setE hX v4
    have hm1 : CMulW (z % 1000000000000000000000000000000000000000000000000000000000000) 48271 := small_mul 210 210 (by omega) (by decide)
    have hp1 : 0 < (10 : Int) ^ (31 : Int).toNat + 1 := by rw [e31]; decide
    apply EE.of
    · tm_at "e"
    rw [e31]
    generalize hw : (z % 1000000000000000000000000000000000000000000000000000000000000 * 48271 + d) % (10000000000000000000000000000000 + 1) = w
    have hw0 : 0 ≤ w := by omega
    have hw1 : w ≤ 10000000000000000000000000000000 := by omega
    apply svs_retE
    refine ee_ixL ?_
    · apply EE.of
      · tm_at "e"
      apply EE.of
      · tm_at "e"
      rw [e31]
      refine pick_go (iB 0 10000000000000000000000000000000) (by omega) (by simp only [List.length_cons, List.length_nil]; omega) ?_ ?_
      · tm_at "alli"
      · rintro _ ⟨x, rfl, hx0, hx1⟩
        exact fin_at hγ (hP x k' hx0 (by rw [show (10 : Int) ^ 31 = 10000000000000000000000000000000 from by decide +kernel]; exact hx1) h0 h1)
theorem ok_room {P : Program} {w : World} {K : PySem.W.Frag} {mg : Str → Option Value} {base : Heap} (g0 : G0 mg)
    (D_drawn : FnD P w K mg base "_law_drawn" 1 S_drawn)
    {f : Addr} {fd : FuncData} (F : Fun K "_law_room" "_law_room" s_room f fd) (hm : mg "_law_room" = some (.ref f)) : FnD P w K mg base "_law_room" 2 S_room :=
  def_ok F sc_room hm (F.binds (ps := ["_law_script", "_law_at"]) fun _ _ _ _ _ _ us hl => match us, hl with | [_, _], _ => rfl) (fun args γ P h => len_room h)
    fun X c args γ Po hγ hS => body_room g0 D_drawn c hγ hS
def S_l_worth : PSpec := fun args γ P => ∃ a c γ0 k m, args = [a, .cl c] ∧ isScript a ∧ γ = at_ γ0 c k ∧ c < γ0.length ∧ 0 ≤ k ∧ k ≤ m ∧ m ≤ 900000 ∧ ∀ d k' : Int, -1000 ≤ d → d ≤ 1000 → 0 ≤ k' → k' ≤ m + 1 → P (.fz (.int d)) (at_ γ0 c k')
theorem len_l_worth {args γ P} (h : S_l_worth args γ P) : args.length = 2 := by obtain ⟨a, c, γ0, k, m, rfl, _⟩ := h; rfl
set_option maxHeartbeats 4000000 in
theorem body_l_worth {P : Program} {w : World} {K : PySem.W.Frag} {mg : Str → Option Value} {base : Heap} (g0 : G0 mg)
    (D_drawn : FnD P w K mg base "_law_drawn" 1 S_drawn)
    {X : Cx} (c : Ctx X P w K mg base N_l_worth (defScope s_l_worth) 1) {args : List Itm} {γ : Cells} {Po : EPost} (hγ : Clo γ) (hS : S_l_worth args γ Po) :
    SVs X (slots0 N_l_worth args) γ (defBody s_l_worth) { nx := fun _ g => PL.Fin γ.length Po (.fz .none) g, rt := PL.Fin γ.length Po } := by
  have hX := c.ok
  have hp := c.po
  have v0 : Nm X "_law_script" 0 .local := c.nm 0 .local rfl (by decide +kernel) (.inl rfl) (by decide +kernel) (by decide +kernel)
  have v1 : Nm X "_law_at" 1 .local := c.nm 1 .local rfl (by decide +kernel) (.inl rfl) (by decide +kernel) (by decide +kernel)
  have v2 : Nm X "_law_number" 2 .local := c.nm 2 .local rfl (by decide +kernel) (.inl rfl) (by decide +kernel) (by decide +kernel)
  have k_drawn : Cal X "_law_drawn" S_drawn := c.cal D_drawn (by decide) (by decide +kernel) (by decide +kernel)
  obtain ⟨a, cc, γ0, k, m, rfl, ⟨ns, rfl, hn⟩, rfl, hc, hk0, hkm, hm, hP⟩ := hS
  apply svs_setE hX v2
  refine ee_call' k_drawn ?_
  · apply AE.of
    · tm_at "a"
    refine use_drawn m hn hc hk0 hkm (by omega) fun d k' hd0 hd1 h0 h1 => ?_
    apply svs_retE
    refine ee_ixL ?_
    · apply EE.of
      · tm_at "e"
      apply EE.of
      · tm_at "e"
      refine pick_go (iB (-1000) 1000) (by omega) (by simp only [List.length_cons, List.length_nil]; omega) ?_ ?_
      · tm_at "alli"
      · rintro _ ⟨x, rfl, hx0, hx1⟩
        exact fin_at hγ (hP x k' hx0 hx1 h0 h1)
theorem ok_l_worth {P : Program} {w : World} {K : PySem.W.Frag} {mg : Str → Option Value} {base : Heap} (g0 : G0 mg)
    (D_drawn : FnD P w K mg base "_law_drawn" 1 S_drawn)
    {f : Addr} {fd : FuncData} (F : Fun K "_law_worth" "_law_worth" s_l_worth f fd) (hm : mg "_law_worth" = some (.ref f)) : FnD P w K mg base "_law_worth" 2 S_l_worth :=
  def_ok F sc_l_worth hm (F.binds (ps := ["_law_script", "_law_at"]) fun _ _ _ _ _ _ us hl => match us, hl with | [_, _], _ => rfl) (fun args γ P h => len_l_worth h)
    fun X c args γ Po hγ hS => body_l_worth g0 D_drawn c hγ hS
end KK

namespace KK
open PySem PySem.Spec PyProof.Rows L2 PL
local macro_rules | `(tactic| tm_at "nm") => `(tactic| with_reducible first | assumption | exact Nm.r (by assumption))
local macro_rules | `(tactic| tm_at "bt") => `(tactic| with_reducible assumption)
local macro_rules | `(tactic| tm_at "asm") => `(tactic| assumption)
local macro_rules | `(tactic| tm_at "auto") => `(tactic| first | rfl | exact fun _ _ => rfl | (intro _; rfl) | decide | exact nomark _ | (with_unfolding_all rfl))
local macro_rules | `(tactic| tm_at "boot") => `(tactic| decide +kernel)
local macro_rules | `(tactic| tm_at "kit") => `(tactic| first | exact kit_int _ | exact kit_bool _ | exact kit_str _ | exact kit_list _ | exact kit_tuple _ | exact kit_dict _)
local macro_rules | `(tactic| tm_at "side") => `(tactic| first | assumption | decide | omega | (simp only [List.length_map, List.length_cons, List.length_nil, List.length_append]; omega) | (simp; done))
local macro_rules | `(tactic| tm_at "pos") => `(tactic| first | decide | assumption | exact Int.pow_pos (by decide) | omega)
local macro_rules | `(tactic| tm_at "mul") => `(tactic| first | assumption | (exact small_mul 200 200 (by omega) (by omega)))
local macro_rules | `(tactic| tm_at "div") => `(tactic| first | assumption | (exact wide_div (b := 200) (by omega) (by omega) (by decide) (by decide)))
local macro_rules | `(tactic| tm_at "pow") => `(tactic| (refine ⟨?_, ?_, ?_⟩ <;> decide))
local macro_rules | `(tactic| tm_at "rd") => `(tactic| first | exact Rdb.fz _ | exact Rdb.cl (by assumption) | exact Rdb.cl rfl)
local macro_rules | `(tactic| tm_at "rdl") => `(tactic| first | exact .inr rfl | exact .inl (by tm_at "rd"))
local macro_rules | `(tactic| tm_at "ix") => `(tactic| first | assumption | exact ix_0 | exact ix_1 | exact ix_2 | exact ix_3 | exact ix_4 | rfl)
local macro_rules | `(tactic| tm_at "cmp") => `(tactic| first | exact cmp_lt | exact cmp_le | exact cmp_gt | exact cmp_ge | exact cmp_eqI | exact cmp_neI | exact cmp_eqS | exact cmp_neS | exact cmp_isB | exact cmp_notB | exact cmp_isN | exact cmp_notN | exact cmp_eqB | exact cmp_neB)
local macro_rules | `(tactic| tm_at "intro") => `(tactic| (intro _; tm_at "e"))
local macro_rules | `(tactic| tm_at "introe") => `(tactic| (intro _; tm_at "e"))
local macro_rules | `(tactic| tm_at "introw") => `(tactic| (intro _; tm_at "w"))
local macro_rules | `(tactic| tm_at "a") => `(tactic| first
  | exact av_nil
  | (apply av_cons; (focus tm_at "e"); (focus tm_at "a"); (focus tm_at "auto")))
local macro_rules | `(tactic| tm_at "alli") => `(tactic| (repeat (first | exact all_nil | (refine all_cons ⟨_, rfl, ?_, ?_⟩ ?_; (focus omega); (focus omega)))))
local macro_rules | `(tactic| tm_at "afz") => `(tactic| first
  | exact av_nilF
  | (apply av_consF; (focus tm_at "e"); (focus tm_at "afz"); (focus tm_at "auto")))
local macro_rules | `(tactic| tm_at "o") => `(tactic| first
  | exact ov_none
  | (apply ov_some; (focus tm_at "e")))
local macro_rules | `(tactic| tm_at "e") => `(tactic| ((with_reducible show EV _ _ _ (Expr.Tuple _ _ _) _ _); first | (apply ev_tup; (focus tm_at "afz"); (focus tm_at "side"))))
local macro_rules | `(tactic| tm_at "e") => `(tactic| ((with_reducible show EV _ _ _ (Expr.List _ _) _ _); first | (apply ev_lst; (focus tm_at "afz"); (focus tm_at "side"))))
local macro_rules | `(tactic| tm_at "e") => `(tactic| ((with_reducible show EV _ _ _ (Expr.Call (Expr.Name _ _) _ _ _) _ _); first | (apply ev_lenL; (focus tm_at "bt"); (focus tm_at "e"); (focus tm_at "rd"); (focus tm_at "auto")) | (apply ev_lenC; (focus tm_at "bt"); (focus tm_at "e"); (focus tm_at "ix"); (focus tm_at "auto")) | (apply ev_lenT; (focus tm_at "bt"); (focus tm_at "e"); (focus tm_at "auto")) | (apply ev_lenS; (focus tm_at "bt"); (focus tm_at "e"); (focus tm_at "side"); (focus tm_at "auto")) | (apply ev_max2; (focus tm_at "asm"); (focus tm_at "bt"); (focus tm_at "e"); (focus tm_at "e"); (focus tm_at "auto"); (focus tm_at "auto"); (focus tm_at "auto")) | (apply ev_min2; (focus tm_at "asm"); (focus tm_at "bt"); (focus tm_at "e"); (focus tm_at "e"); (focus tm_at "auto"); (focus tm_at "auto"); (focus tm_at "auto")) | (apply ev_intB; (focus tm_at "bt"); (focus tm_at "e"); (focus tm_at "auto")) | (apply ev_intI; (focus tm_at "bt"); (focus tm_at "e"); (focus tm_at "auto")) | (apply ev_abs; (focus tm_at "bt"); (focus tm_at "e"); (focus tm_at "auto")) | (apply ev_sum; (focus tm_at "asm"); (focus tm_at "bt"); (focus tm_at "e"); (focus tm_at "rd"); (focus tm_at "auto")) | (apply ev_listF; (focus tm_at "bt"); (focus tm_at "e"); (focus tm_at "rdl"); (focus tm_at "auto")) | (apply ev_isi; (focus tm_at "bt"); (focus tm_at "bt"); (focus tm_at "boot"); (focus tm_at "e"); (focus tm_at "rd"); (focus tm_at "kit"); (focus tm_at "auto"); (focus tm_at "auto"); (focus tm_at "auto"); (focus tm_at "auto"); (focus tm_at "auto"))))
local macro_rules | `(tactic| tm_at "e") => `(tactic| ((with_reducible show EV _ _ _ (Expr.BoolOp BoolOp.Or _ _) _ _); first | (apply ev_or; (focus tm_at "e"); (focus tm_at "introe"))))
local macro_rules | `(tactic| tm_at "e") => `(tactic| ((with_reducible show EV _ _ _ (Expr.BoolOp BoolOp.And _ _) _ _); first | (apply ev_and; (focus tm_at "e"); (focus tm_at "introe"))))
local macro_rules | `(tactic| tm_at "e") => `(tactic| ((with_reducible show EV _ _ _ (Expr.BoolOp _ [_] _) _ _); first | (apply ev_one; (focus tm_at "e"))))
local macro_rules | `(tactic| tm_at "e") => `(tactic| ((with_reducible show EV _ _ _ (Expr.IfExp _ _ _ _) _ _); first | (apply ev_ifx; (focus tm_at "t"); (focus tm_at "intro"); (focus tm_at "intro"))))
local macro_rules | `(tactic| tm_at "e") => `(tactic| ((with_reducible show EV _ _ _ (Expr.Compare _ [_, _] [_, _] _) _ _); first | (apply ev_chain2; (focus tm_at "e"); (focus tm_at "e"); (focus tm_at "cmp"); (focus tm_at "e"); (focus tm_at "cmp"); (focus tm_at "auto"))))
local macro_rules | `(tactic| tm_at "e") => `(tactic| ((with_reducible show EV _ _ _ (Expr.Compare _ [_] [_] _) _ _); first | (apply ev_cmp; (focus tm_at "e"); (focus tm_at "e"); (focus tm_at "cmp"); (focus tm_at "auto"))))
local macro_rules | `(tactic| tm_at "e") => `(tactic| ((with_reducible show EV _ _ _ (Expr.UnaryOp UnaryOp.Not _ _) _ _); first | (apply ev_not; (focus tm_at "e"))))
local macro_rules | `(tactic| tm_at "e") => `(tactic| ((with_reducible show EV _ _ _ (Expr.UnaryOp UnaryOp.USub _ _) _ _); first | (apply ev_neg; (focus tm_at "e"))))
local macro_rules | `(tactic| tm_at "e") => `(tactic| ((with_reducible show EV _ _ _ (Expr.Subscript _ _ _) _ _); first | (apply ev_ixL; (focus tm_at "e"); (focus tm_at "e"); (focus tm_at "rd"); (focus tm_at "ix"); (focus tm_at "auto")) | (apply ev_ixT; (focus tm_at "e"); (focus tm_at "e"); (focus tm_at "ix"); (focus tm_at "auto")) | (apply ev_ixC; (focus tm_at "e"); (focus tm_at "e"); (focus tm_at "ix"); (focus tm_at "ix"); (focus tm_at "auto")) | (apply ev_ixP; (focus tm_at "e"); (focus tm_at "e"); (focus tm_at "ix"); (focus tm_at "auto"))))
local macro_rules | `(tactic| tm_at "e") => `(tactic| ((with_reducible show EV _ _ _ (Expr.Subscript _ (Expr.Slice _ _ _ _) _) _ _); first | (apply ev_slL; (focus tm_at "e"); (focus tm_at "o"); (focus tm_at "o"); (focus tm_at "rd")) | (apply ev_slT; (focus tm_at "e"); (focus tm_at "o"); (focus tm_at "o"); (focus tm_at "side"))))
local macro_rules | `(tactic| tm_at "e") => `(tactic| ((with_reducible show EV _ _ _ (Expr.BinOp _ Operator.Pow _ _) _ _); first | (apply ev_pow; (focus tm_at "e"); (focus tm_at "e"); (focus tm_at "pow"))))
local macro_rules | `(tactic| tm_at "e") => `(tactic| ((with_reducible show EV _ _ _ (Expr.BinOp _ Operator.FloorDiv _ _) _ _); first | (apply ev_div; (focus tm_at "e"); (focus tm_at "e"); (focus tm_at "div"))))
local macro_rules | `(tactic| tm_at "e") => `(tactic| ((with_reducible show EV _ _ _ (Expr.BinOp _ Operator.Mod _ _) _ _); first | (apply ev_mod; (focus tm_at "e"); (focus tm_at "e"); (focus tm_at "pos"))))
local macro_rules | `(tactic| tm_at "e") => `(tactic| ((with_reducible show EV _ _ _ (Expr.BinOp _ Operator.Mult _ _) _ _); first | (apply ev_mul; (focus tm_at "e"); (focus tm_at "e"); (focus tm_at "mul")) | (apply ev_repF; (focus tm_at "afz"); (focus tm_at "e"); (focus tm_at "side"); (focus tm_at "side"); (focus tm_at "side"))))
local macro_rules | `(tactic| tm_at "e") => `(tactic| ((with_reducible show EV _ _ _ (Expr.BinOp _ Operator.Sub _ _) _ _); first | (apply ev_sub; (focus tm_at "e"); (focus tm_at "e"))))
local macro_rules | `(tactic| tm_at "e") => `(tactic| ((with_reducible show EV _ _ _ (Expr.BinOp _ Operator.Add _ _) _ _); first | (apply ev_add; (focus tm_at "e"); (focus tm_at "e")) | (apply ev_catF; (focus tm_at "e"); (focus tm_at "e"); (focus tm_at "rd"); (focus tm_at "rd"); (focus tm_at "side")) | (apply ev_addS; (focus tm_at "e"); (focus tm_at "e"); (focus tm_at "side")) | (apply ev_catT; (focus tm_at "e"); (focus tm_at "e"); (focus tm_at "side"))))
local macro_rules | `(tactic| tm_at "e") => `(tactic| ((with_reducible show EV _ _ _ (Expr.Name _ _) _ _); first | (apply ev_name; (focus tm_at "nm"); (focus rfl))))
local macro_rules | `(tactic| tm_at "e") => `(tactic| ((with_reducible show EV _ _ _ (Expr.Constant _ _ _) _ _); first | exact ev_int | exact ev_bl | exact ev_str | exact ev_non))
local macro_rules | `(tactic| tm_at "t") => `(tactic| ((with_reducible show TV _ _ _ _ _ _); first | (apply tv_val; (focus tm_at "e"); (focus tm_at "auto")) | (apply tv_truthL; (focus tm_at "e"); (focus tm_at "rd"); (focus tm_at "auto")) | (apply tv_truthI; (focus tm_at "e"); (focus tm_at "auto"))))
local macro_rules | `(tactic| tm_at "t") => `(tactic| ((with_reducible show TV _ _ _ (Expr.BoolOp _ _ _) _ _); first | (apply tv_w; (focus tm_at "w"))))
local macro_rules | `(tactic| tm_at "t") => `(tactic| ((with_reducible show TV _ _ _ (Expr.UnaryOp UnaryOp.Not _ _) _ _); first | (apply tv_not; (focus tm_at "t"))))
local macro_rules | `(tactic| tm_at "t") => `(tactic| ((with_reducible show TV _ _ _ (Expr.Compare _ [_, _] [_, _] _) _ _); first | (apply tv_chain2; (focus tm_at "e"); (focus tm_at "e"); (focus tm_at "cmp"); (focus tm_at "e"); (focus tm_at "cmp"); (focus tm_at "auto"))))
local macro_rules | `(tactic| tm_at "t") => `(tactic| ((with_reducible show TV _ _ _ (Expr.Compare _ [_] [_] _) _ _); first | (apply tv_cmp; (focus tm_at "e"); (focus tm_at "e"); (focus tm_at "cmp"); (focus tm_at "auto"))))
local macro_rules | `(tactic| tm_at "w") => `(tactic| ((with_reducible show WV _ _ _ (Expr.BoolOp BoolOp.Or _ _) _ _); first | (apply wv_or; (focus tm_at "t"); (focus tm_at "introw"))))
local macro_rules | `(tactic| tm_at "w") => `(tactic| ((with_reducible show WV _ _ _ (Expr.BoolOp BoolOp.And _ _) _ _); first | (apply wv_and; (focus tm_at "t"); (focus tm_at "introw"))))
local macro_rules | `(tactic| tm_at "w") => `(tactic| ((with_reducible show WV _ _ _ (Expr.BoolOp BoolOp.Or [_] _) _ _); first | (apply wv_or1; (focus tm_at "t"))))
local macro_rules | `(tactic| tm_at "w") => `(tactic| ((with_reducible show WV _ _ _ (Expr.BoolOp BoolOp.And [_] _) _ _); first | (apply wv_and1; (focus tm_at "t"))))

theorem use_room {ns : List Int} {P : EPost} {c : Nat} {γ0 : Cells} {k : Int} (m : Int) (hn : ns.length ≤ 63) (hc : c < γ0.length) (h0 : 0 ≤ k) (h1 : k ≤ m) (h2 : m ≤ 900000) (q : ∀ d k' : Int, 0 ≤ d → d ≤ 10 ^ 31 → 0 ≤ k' → k' ≤ m + 1 → P (.fz (.int d)) (at_ γ0 c k')) :
    S_room [.fz (.list (ns.map .int)), .cl c] (at_ γ0 c k) P := ⟨_, c, γ0, k, m, rfl, ⟨ns, rfl, hn⟩, rfl, hc, h0, h1, h2, q⟩
theorem use_l_worth {ns : List Int} {P : EPost} {c : Nat} {γ0 : Cells} {k : Int} (m : Int) (hn : ns.length ≤ 63) (hc : c < γ0.length) (h0 : 0 ≤ k) (h1 : k ≤ m) (h2 : m ≤ 900000) (q : ∀ d k' : Int, -1000 ≤ d → d ≤ 1000 → 0 ≤ k' → k' ≤ m + 1 → P (.fz (.int d)) (at_ γ0 c k')) :
    S_l_worth [.fz (.list (ns.map .int)), .cl c] (at_ γ0 c k) P := ⟨_, c, γ0, k, m, rfl, ⟨ns, rfl, hn⟩, rfl, hc, h0, h1, h2, q⟩
/-! ### nets -/
abbrev Arc := Int × Int × Int × Int
def dArc (a : Arc) : PyData := .tuple [.int a.1, .int a.2.1, .int a.2.2.1, .int a.2.2.2]
def dArcs (as : List Arc) : PyData := .list (as.map dArc)
structure GoodA (many : Int) (a : Arc) : Prop where
  b0 : 0 ≤ a.1
  b1 : a.1 < many
  e0 : 0 ≤ a.2.1
  e1 : a.2.1 < many
  r0 : 0 ≤ a.2.2.1
  r1 : a.2.2.1 ≤ 10 ^ 31
  w0 : -1000 ≤ a.2.2.2
  w1 : a.2.2.2 ≤ 1000
structure Good (many : Int) (as : List Arc) : Prop where
  m0 : 2 ≤ many
  m1 : many ≤ 30
  len : as.length ≤ 63
  all : ∀ a ∈ as, GoodA many a
def S_net : PSpec := fun args γ P => ∃ a c γ0 k m, args = [a, .cl c] ∧ isScript a ∧ γ = at_ γ0 c k ∧ c < γ0.length ∧ 0 ≤ k ∧ k ≤ m ∧ m ≤ 800000 ∧ ∀ (many : Int) (as : List Arc) (k' : Int), Good many as → 0 ≤ k' → k' ≤ m + 1000 → P (.fz (.tuple [.int many, dArcs as])) (at_ γ0 c k')
theorem len_net {args γ P} (h : S_net args γ P) : args.length = 2 := by obtain ⟨a, c, γ0, k, m, rfl, _⟩ := h; rfl
set_option maxHeartbeats 8000000 in
theorem body_net {P : Program} {w : World} {K : PySem.W.Frag} {mg : Str → Option Value} {base : Heap} (g0 : G0 mg)
    (D_drawn : FnD P w K mg base "_law_drawn" 1 S_drawn)
    (D_room : FnD P w K mg base "_law_room" 2 S_room)
    (D_l_worth : FnD P w K mg base "_law_worth" 2 S_l_worth)
    {X : Cx} (c : Ctx X P w K mg base N_net (defScope s_net) 2) {args : List Itm} {γ : Cells} {Po : EPost} (hγ : Clo γ) (hS : S_net args γ Po) :
    SVs X (slots0 N_net args) γ (defBody s_net) { nx := fun _ g => PL.Fin γ.length Po (.fz .none) g, rt := PL.Fin γ.length Po } := by
  have hX := c.ok
  have hp := c.po
  have v0 : Nm X "_law_script" 0 .local := c.nm 0 .local rfl (by decide +kernel) (.inl rfl) (by decide +kernel) (by decide +kernel)
  have v1 : Nm X "_law_at" 1 .local := c.nm 1 .local rfl (by decide +kernel) (.inl rfl) (by decide +kernel) (by decide +kernel)
  have v2 : Nm X "_law_many" 2 .local := c.nm 2 .local rfl (by decide +kernel) (.inl rfl) (by decide +kernel) (by decide +kernel)
  have v3 : Nm X "_law_arcs" 3 .local := c.nm 3 .local rfl (by decide +kernel) (.inl rfl) (by decide +kernel) (by decide +kernel)
  have v4 : Nm X "_law_k" 4 .local := c.nm 4 .local rfl (by decide +kernel) (.inl rfl) (by decide +kernel) (by decide +kernel)
  have v5 : Nm X "_law_begin" 5 .local := c.nm 5 .local rfl (by decide +kernel) (.inl rfl) (by decide +kernel) (by decide +kernel)
  have v6 : Nm X "_law_end" 6 .local := c.nm 6 .local rfl (by decide +kernel) (.inl rfl) (by decide +kernel) (by decide +kernel)
  have k_drawn : Cal X "_law_drawn" S_drawn := c.cal D_drawn (by decide) (by decide +kernel) (by decide +kernel)
  have b_range : Bt X "range" := c.bt (by decide +kernel) g0.b_range
  have b_min : Bt X "min" := c.bt (by decide +kernel) g0.b_min
  have b_len : Bt X "len" := c.bt (by decide +kernel) g0.b_len
  have k_room : Cal X "_law_room" S_room := c.cal D_room (by decide) (by decide +kernel) (by decide +kernel)
  have k_l_worth : Cal X "_law_worth" S_l_worth := c.cal D_l_worth (by decide) (by decide +kernel) (by decide +kernel)
  obtain ⟨a, cc, γ0, k, m, rfl, ⟨ns, rfl, hn⟩, rfl, hc, hk0, hkm, hm, hP⟩ := hS
  apply svs_setE hX v2
  refine ee_add (EE.of (r := .fz (.int 2)) (γ1 := at_ γ0 cc k) (by tm_at "e") ⟨2, rfl, ?_⟩)
  refine ee_mod (ee_call' k_drawn (AE.of (γ1 := at_ γ0 cc k) (rs := [.fz (.list (ns.map .int)), .cl cc]) (by tm_at "a") (use_drawn m hn hc hk0 hkm (by omega) fun d k1 hd0 hd1 h10 h11 => ⟨d, rfl, ?_⟩)))
  refine ee_ixL (EE.of (γ1 := at_ γ0 cc k1) (r := .fz (.list [.int 4, .int 29])) (by tm_at "e") ?_)
  refine ee_mod (ee_call' k_drawn (AE.of (γ1 := at_ γ0 cc k1) (rs := [.fz (.list (ns.map .int)), .cl cc]) (by tm_at "a") (use_drawn (m + 1) hn hc h10 h11 (by omega) fun d2 k2 hd20 hd21 h20 h21 => ⟨d2, rfl, ?_⟩)))
  refine EE.of (γ1 := at_ γ0 cc k2) (r := .fz (.int 2)) (by tm_at "e") ⟨2, rfl, by decide, ?_⟩
  refine pick_go (iB 4 29) (by omega) (by simp; omega) (by tm_at "alli") ?_
  rintro _ ⟨x, rfl, hx0, hx1⟩
  refine ⟨x, rfl, by omega, _, rfl, ?_⟩
  have hm0 : 2 ≤ 2 + d % x := by have := Int.emod_nonneg d (show x ≠ 0 by omega); omega
  have hm1 : 2 + d % x ≤ 30 := by have := Int.emod_lt_of_pos d (show 0 < x by omega); omega
  generalize 2 + d % x = many at hm0 hm1 ⊢
  apply svs_setE hX v3
  refine EE.of (ev_lstC av_nil) ?_
  rw [at_len, at_app hc]
  have hrange : ((ns.map PyData.int).length : Int) ≤ 63 := by simp; omega
  refine svs_for hX hp (xs := rngL 0 (min 120 ((ns.map PyData.int).length : Int)).toNat) (stab := fun _ => True) (γ1 := at_ (γ0 ++ [.lst []]) cc k2) (itv_range1 b_range (by tm_at "e") (by omega) (by omega))
    (fun i Γ' γ' => ∃ (as : List Arc) (k : Int) (s4 s5 s6 : Option Itm), Γ' = [some (.fz (.list (ns.map .int))), some (.cl cc), some (.fz (.int many)), some (.cl γ0.length), s4, s5, s6] ∧ γ' = at_ (γ0 ++ [.lst ((as.map dArc).map Itm.fz)]) cc k ∧ as.length = i ∧ (∀ a ∈ as, GoodA many a) ∧ 0 ≤ k ∧ k ≤ m + 2 + 4 * (i : Int))
    ⟨[], k2, none, none, none, rfl, rfl, rfl, by simp, h20, by omega⟩ (fun _ _ _ _ _ => trivial) ?_ ?_
  · rintro i x Γ' γ' hx ⟨as, k3, s4, s5, s6, rfl, rfl, hl, hg, h30, h31⟩
    have hi : (i : Int) < 63 := by
      have := (List.getElem?_eq_some_iff.mp hx).1
      rw [rngL_length] at this
      omega
    have hc' : cc < (γ0 ++ [Cell.lst ((as.map dArc).map Itm.fz)]).length := by rw [List.length_append]; omega
    refine ⟨_, _, gv_name hX v4, ?_⟩
    apply svs_setE hX v5
    refine ee_mod (ee_call' k_drawn (AE.of (γ1 := at_ _ cc k3) (rs := [.fz (.list (ns.map .int)), .cl cc]) (by tm_at "a") (use_drawn (m + 2 + 4 * (i : Int)) hn hc' h30 h31 (by omega) fun d k4 hd0 hd1 h40 h41 => ⟨d, rfl, ?_⟩)))
    refine EE.of (γ1 := at_ _ cc k4) (r := .fz (.int many)) (by tm_at "e") ⟨many, rfl, by omega, ?_⟩
    have hb0 := Int.emod_nonneg d (show many ≠ 0 by omega)
    have hb1 := Int.emod_lt_of_pos d (show 0 < many by omega)
    generalize d % many = b at hb0 hb1 ⊢
    apply svs_setE hX v6
    refine ee_mod (ee_add (EE.of (γ1 := at_ _ cc k4) (r := .fz (.int (b + 1))) (by tm_at "e") ⟨b + 1, rfl, ?_⟩))
    refine ee_mod (ee_call' k_drawn (AE.of (γ1 := at_ _ cc k4) (rs := [.fz (.list (ns.map .int)), .cl cc]) (by tm_at "a") (use_drawn (m + 3 + 4 * (i : Int)) hn hc' h40 (by omega) (by omega) fun d5 k5 hd50 hd51 h50 h51 => ⟨d5, rfl, ?_⟩)))
    refine EE.of (γ1 := at_ _ cc k5) (r := .fz (.int (many - 1))) (by tm_at "e") ⟨many - 1, rfl, by omega, _, rfl, _, rfl, ?_⟩
    refine EE.of (γ1 := at_ _ cc k5) (r := .fz (.int many)) (by tm_at "e") ⟨many, rfl, by omega, ?_⟩
    have he0 := Int.emod_nonneg (b + 1 + d5 % (many - 1)) (show many ≠ 0 by omega)
    have he1 := Int.emod_lt_of_pos (b + 1 + d5 % (many - 1)) (show 0 < many by omega)
    generalize (b + 1 + d5 % (many - 1)) % many = en at he0 he1 ⊢
    refine svs_exprE (ee_append (EE.of (γ1 := at_ _ cc k5) (r := .cl γ0.length) (by tm_at "e") ⟨γ0.length, _, rfl, at_last hc k5 _, ?_⟩))
    refine ee_tup (ae_cons (EE.of (γ1 := at_ _ cc k5) (r := .fz (.int b)) (by tm_at "e") ?_))
    refine ae_cons (EE.of (γ1 := at_ _ cc k5) (r := .fz (.int en)) (by tm_at "e") ?_)
    refine ae_cons (ee_call' k_room (AE.of (γ1 := at_ _ cc k5) (rs := [.fz (.list (ns.map .int)), .cl cc]) (by tm_at "a") (use_room (m + 4 + 4 * (i : Int)) hn hc' h50 (by omega) (by omega) fun ro k6 hr0 hr1 h60 h61 => ?_)))
    refine ae_cons (ee_call' k_l_worth (AE.of (γ1 := at_ _ cc k6) (rs := [.fz (.list (ns.map .int)), .cl cc]) (by tm_at "a") (use_l_worth (m + 5 + 4 * (i : Int)) hn hc' h60 (by omega) (by omega) fun wo k7 hw0 hw1 h70 h71 => ?_)))
    refine ae_nil ⟨[.int b, .int en, .int ro, .int wo], rfl, by simp, _, at_last hc k7 _, by simp; omega, ?_⟩
    rw [at_setl hc]
    refine svs_nil ⟨as ++ [(b, en, ro, wo)], k7, _, _, _, rfl, ?_, by simp [hl], ?_, h70, by omega⟩
    · simp [dArc]
    · intro a ha
      rcases List.mem_append.mp ha with ha | ha
      · exact hg a ha
      · obtain rfl : a = (b, en, ro, wo) := by simpa using ha
        exact ⟨hb0, hb1, he0, he1, hr0, hr1, hw0, hw1⟩
  · rintro Γ' γ' ⟨as, k3, s4, s5, s6, rfl, rfl, hl, hg, h30, h31⟩
    rw [rngL_length] at hl h31
    refine SVs.freeze (i := 3) (c := γ0.length) (ds := as.map dArc) rfl (at_last hc k3 _) ?_
    rw [at_setl hc]
    apply svs_retE
    apply EE.of
    · tm_at "e"
    exact fin_at_junk hc hγ (hP many as k3 ⟨hm0, hm1, by omega, hg⟩ h30 (by omega))
theorem ok_net {P : Program} {w : World} {K : PySem.W.Frag} {mg : Str → Option Value} {base : Heap} (g0 : G0 mg)
    (D_drawn : FnD P w K mg base "_law_drawn" 1 S_drawn)
    (D_room : FnD P w K mg base "_law_room" 2 S_room)
    (D_l_worth : FnD P w K mg base "_law_worth" 2 S_l_worth)
    {f : Addr} {fd : FuncData} (F : Fun K "_law_net" "_law_net" s_net f fd) (hm : mg "_law_net" = some (.ref f)) : FnD P w K mg base "_law_net" 3 S_net :=
  def_ok F sc_net hm (F.binds (ps := ["_law_script", "_law_at"]) fun _ _ _ _ _ _ us hl => match us, hl with | [_, _], _ => rfl) (fun args γ P h => len_net h)
    fun X c args γ Po hγ hS => body_net g0 D_drawn D_room D_l_worth c hγ hS
end KK

namespace KK
open PySem PySem.Spec PyProof.Rows L2 PL M3
local macro_rules | `(tactic| tm_at "nm") => `(tactic| with_reducible first | assumption | exact Nm.r (by assumption))
local macro_rules | `(tactic| tm_at "bt") => `(tactic| with_reducible assumption)
local macro_rules | `(tactic| tm_at "asm") => `(tactic| assumption)
local macro_rules | `(tactic| tm_at "auto") => `(tactic| first | rfl | exact fun _ _ => rfl | (intro _; rfl) | decide | exact nomark _ | (with_unfolding_all rfl))
local macro_rules | `(tactic| tm_at "boot") => `(tactic| decide +kernel)
local macro_rules | `(tactic| tm_at "kit") => `(tactic| first | exact kit_int _ | exact kit_bool _ | exact kit_str _ | exact kit_list _ | exact kit_tuple _ | exact kit_dict _)
local macro_rules | `(tactic| tm_at "side") => `(tactic| first | assumption | decide | omega | (simp only [List.length_map, List.length_cons, List.length_nil, List.length_append]; omega) | (simp; done))
local macro_rules | `(tactic| tm_at "pos") => `(tactic| first | decide | assumption | exact Int.pow_pos (by decide) | omega)
local macro_rules | `(tactic| tm_at "mul") => `(tactic| first | assumption | (exact small_mul 200 200 (by omega) (by omega)))
local macro_rules | `(tactic| tm_at "div") => `(tactic| first | assumption | (exact wide_div (b := 200) (by omega) (by omega) (by decide) (by decide)))
local macro_rules | `(tactic| tm_at "pow") => `(tactic| (refine ⟨?_, ?_, ?_⟩ <;> decide))
local macro_rules | `(tactic| tm_at "rd") => `(tactic| first | exact Rdb.fz _ | exact Rdb.cl (by assumption) | exact Rdb.cl rfl)
local macro_rules | `(tactic| tm_at "rdl") => `(tactic| first | exact .inr rfl | exact .inl (by tm_at "rd"))
local macro_rules | `(tactic| tm_at "ix") => `(tactic| first | assumption | exact ix_0 | exact ix_1 | exact ix_2 | exact ix_3 | exact ix_4 | rfl)
local macro_rules | `(tactic| tm_at "cmp") => `(tactic| first | exact cmp_lt | exact cmp_le | exact cmp_gt | exact cmp_ge | exact cmp_eqI | exact cmp_neI | exact cmp_eqS | exact cmp_neS | exact cmp_isB | exact cmp_notB | exact cmp_isN | exact cmp_notN | exact cmp_eqB | exact cmp_neB)
local macro_rules | `(tactic| tm_at "intro") => `(tactic| (intro _; tm_at "e"))
local macro_rules | `(tactic| tm_at "introe") => `(tactic| (intro _; tm_at "e"))
local macro_rules | `(tactic| tm_at "introw") => `(tactic| (intro _; tm_at "w"))
local macro_rules | `(tactic| tm_at "a") => `(tactic| first
  | exact av_nil
  | (apply av_cons; (focus tm_at "e"); (focus tm_at "a"); (focus tm_at "auto")))
local macro_rules | `(tactic| tm_at "alli") => `(tactic| (repeat (first | exact all_nil | (refine all_cons ⟨_, rfl, ?_, ?_⟩ ?_; (focus omega); (focus omega)))))
local macro_rules | `(tactic| tm_at "afz") => `(tactic| first
  | exact av_nilF
  | (apply av_consF; (focus tm_at "e"); (focus tm_at "afz"); (focus tm_at "auto")))
local macro_rules | `(tactic| tm_at "o") => `(tactic| first
  | exact ov_none
  | (apply ov_some; (focus tm_at "e")))
local macro_rules | `(tactic| tm_at "e") => `(tactic| ((with_reducible show EV _ _ _ (Expr.Tuple _ _ _) _ _); first | (apply ev_tup; (focus tm_at "afz"); (focus tm_at "side"))))
local macro_rules | `(tactic| tm_at "e") => `(tactic| ((with_reducible show EV _ _ _ (Expr.List _ _) _ _); first | (apply ev_lst; (focus tm_at "afz"); (focus tm_at "side"))))
local macro_rules | `(tactic| tm_at "e") => `(tactic| ((with_reducible show EV _ _ _ (Expr.Call (Expr.Name _ _) _ _ _) _ _); first | (apply ev_lenL; (focus tm_at "bt"); (focus tm_at "e"); (focus tm_at "rd"); (focus tm_at "auto")) | (apply ev_lenC; (focus tm_at "bt"); (focus tm_at "e"); (focus tm_at "ix"); (focus tm_at "auto")) | (apply ev_lenT; (focus tm_at "bt"); (focus tm_at "e"); (focus tm_at "auto")) | (apply ev_lenS; (focus tm_at "bt"); (focus tm_at "e"); (focus tm_at "side"); (focus tm_at "auto")) | (apply ev_max2; (focus tm_at "asm"); (focus tm_at "bt"); (focus tm_at "e"); (focus tm_at "e"); (focus tm_at "auto"); (focus tm_at "auto"); (focus tm_at "auto")) | (apply ev_min2; (focus tm_at "asm"); (focus tm_at "bt"); (focus tm_at "e"); (focus tm_at "e"); (focus tm_at "auto"); (focus tm_at "auto"); (focus tm_at "auto")) | (apply ev_intB; (focus tm_at "bt"); (focus tm_at "e"); (focus tm_at "auto")) | (apply ev_intI; (focus tm_at "bt"); (focus tm_at "e"); (focus tm_at "auto")) | (apply ev_abs; (focus tm_at "bt"); (focus tm_at "e"); (focus tm_at "auto")) | (apply ev_sum; (focus tm_at "asm"); (focus tm_at "bt"); (focus tm_at "e"); (focus tm_at "rd"); (focus tm_at "auto")) | (apply ev_listF; (focus tm_at "bt"); (focus tm_at "e"); (focus tm_at "rdl"); (focus tm_at "auto")) | (apply ev_isi; (focus tm_at "bt"); (focus tm_at "bt"); (focus tm_at "boot"); (focus tm_at "e"); (focus tm_at "rd"); (focus tm_at "kit"); (focus tm_at "auto"); (focus tm_at "auto"); (focus tm_at "auto"); (focus tm_at "auto"); (focus tm_at "auto"))))
local macro_rules | `(tactic| tm_at "e") => `(tactic| ((with_reducible show EV _ _ _ (Expr.BoolOp BoolOp.Or _ _) _ _); first | (apply ev_or; (focus tm_at "e"); (focus tm_at "introe"))))
local macro_rules | `(tactic| tm_at "e") => `(tactic| ((with_reducible show EV _ _ _ (Expr.BoolOp BoolOp.And _ _) _ _); first | (apply ev_and; (focus tm_at "e"); (focus tm_at "introe"))))
local macro_rules | `(tactic| tm_at "e") => `(tactic| ((with_reducible show EV _ _ _ (Expr.BoolOp _ [_] _) _ _); first | (apply ev_one; (focus tm_at "e"))))
local macro_rules | `(tactic| tm_at "e") => `(tactic| ((with_reducible show EV _ _ _ (Expr.IfExp _ _ _ _) _ _); first | (apply ev_ifx; (focus tm_at "t"); (focus tm_at "intro"); (focus tm_at "intro"))))
local macro_rules | `(tactic| tm_at "e") => `(tactic| ((with_reducible show EV _ _ _ (Expr.Compare _ [_, _] [_, _] _) _ _); first | (apply ev_chain2; (focus tm_at "e"); (focus tm_at "e"); (focus tm_at "cmp"); (focus tm_at "e"); (focus tm_at "cmp"); (focus tm_at "auto"))))
local macro_rules | `(tactic| tm_at "e") => `(tactic| ((with_reducible show EV _ _ _ (Expr.Compare _ [_] [_] _) _ _); first | (apply ev_cmp; (focus tm_at "e"); (focus tm_at "e"); (focus tm_at "cmp"); (focus tm_at "auto"))))
local macro_rules | `(tactic| tm_at "e") => `(tactic| ((with_reducible show EV _ _ _ (Expr.UnaryOp UnaryOp.Not _ _) _ _); first | (apply ev_not; (focus tm_at "e"))))
local macro_rules | `(tactic| tm_at "e") => `(tactic| ((with_reducible show EV _ _ _ (Expr.UnaryOp UnaryOp.USub _ _) _ _); first | (apply ev_neg; (focus tm_at "e"))))
local macro_rules | `(tactic| tm_at "e") => `(tactic| ((with_reducible show EV _ _ _ (Expr.Subscript _ _ _) _ _); first | (apply ev_ixL; (focus tm_at "e"); (focus tm_at "e"); (focus tm_at "rd"); (focus tm_at "ix"); (focus tm_at "auto")) | (apply ev_ixT; (focus tm_at "e"); (focus tm_at "e"); (focus tm_at "ix"); (focus tm_at "auto")) | (apply ev_ixC; (focus tm_at "e"); (focus tm_at "e"); (focus tm_at "ix"); (focus tm_at "ix"); (focus tm_at "auto")) | (apply ev_ixP; (focus tm_at "e"); (focus tm_at "e"); (focus tm_at "ix"); (focus tm_at "auto"))))
local macro_rules | `(tactic| tm_at "e") => `(tactic| ((with_reducible show EV _ _ _ (Expr.Subscript _ (Expr.Slice _ _ _ _) _) _ _); first | (apply ev_slL; (focus tm_at "e"); (focus tm_at "o"); (focus tm_at "o"); (focus tm_at "rd")) | (apply ev_slT; (focus tm_at "e"); (focus tm_at "o"); (focus tm_at "o"); (focus tm_at "side"))))
local macro_rules | `(tactic| tm_at "e") => `(tactic| ((with_reducible show EV _ _ _ (Expr.BinOp _ Operator.Pow _ _) _ _); first | (apply ev_pow; (focus tm_at "e"); (focus tm_at "e"); (focus tm_at "pow"))))
local macro_rules | `(tactic| tm_at "e") => `(tactic| ((with_reducible show EV _ _ _ (Expr.BinOp _ Operator.FloorDiv _ _) _ _); first | (apply ev_div; (focus tm_at "e"); (focus tm_at "e"); (focus tm_at "div"))))
local macro_rules | `(tactic| tm_at "e") => `(tactic| ((with_reducible show EV _ _ _ (Expr.BinOp _ Operator.Mod _ _) _ _); first | (apply ev_mod; (focus tm_at "e"); (focus tm_at "e"); (focus tm_at "pos"))))
local macro_rules | `(tactic| tm_at "e") => `(tactic| ((with_reducible show EV _ _ _ (Expr.BinOp _ Operator.Mult _ _) _ _); first | (apply ev_mul; (focus tm_at "e"); (focus tm_at "e"); (focus tm_at "mul")) | (apply ev_repF; (focus tm_at "afz"); (focus tm_at "e"); (focus tm_at "side"); (focus tm_at "side"); (focus tm_at "side"))))
local macro_rules | `(tactic| tm_at "e") => `(tactic| ((with_reducible show EV _ _ _ (Expr.BinOp _ Operator.Sub _ _) _ _); first | (apply ev_sub; (focus tm_at "e"); (focus tm_at "e"))))
local macro_rules | `(tactic| tm_at "e") => `(tactic| ((with_reducible show EV _ _ _ (Expr.BinOp _ Operator.Add _ _) _ _); first | (apply ev_add; (focus tm_at "e"); (focus tm_at "e")) | (apply ev_catF; (focus tm_at "e"); (focus tm_at "e"); (focus tm_at "rd"); (focus tm_at "rd"); (focus tm_at "side")) | (apply ev_addS; (focus tm_at "e"); (focus tm_at "e"); (focus tm_at "side")) | (apply ev_catT; (focus tm_at "e"); (focus tm_at "e"); (focus tm_at "side"))))
local macro_rules | `(tactic| tm_at "e") => `(tactic| ((with_reducible show EV _ _ _ (Expr.Name _ _) _ _); first | (apply ev_name; (focus tm_at "nm"); (focus rfl))))
local macro_rules | `(tactic| tm_at "e") => `(tactic| ((with_reducible show EV _ _ _ (Expr.Constant _ _ _) _ _); first | exact ev_int | exact ev_bl | exact ev_str | exact ev_non))
local macro_rules | `(tactic| tm_at "t") => `(tactic| ((with_reducible show TV _ _ _ _ _ _); first | (apply tv_val; (focus tm_at "e"); (focus tm_at "auto")) | (apply tv_truthL; (focus tm_at "e"); (focus tm_at "rd"); (focus tm_at "auto")) | (apply tv_truthI; (focus tm_at "e"); (focus tm_at "auto"))))
local macro_rules | `(tactic| tm_at "t") => `(tactic| ((with_reducible show TV _ _ _ (Expr.BoolOp _ _ _) _ _); first | (apply tv_w; (focus tm_at "w"))))
local macro_rules | `(tactic| tm_at "t") => `(tactic| ((with_reducible show TV _ _ _ (Expr.UnaryOp UnaryOp.Not _ _) _ _); first | (apply tv_not; (focus tm_at "t"))))
local macro_rules | `(tactic| tm_at "t") => `(tactic| ((with_reducible show TV _ _ _ (Expr.Compare _ [_, _] [_, _] _) _ _); first | (apply tv_chain2; (focus tm_at "e"); (focus tm_at "e"); (focus tm_at "cmp"); (focus tm_at "e"); (focus tm_at "cmp"); (focus tm_at "auto"))))
local macro_rules | `(tactic| tm_at "t") => `(tactic| ((with_reducible show TV _ _ _ (Expr.Compare _ [_] [_] _) _ _); first | (apply tv_cmp; (focus tm_at "e"); (focus tm_at "e"); (focus tm_at "cmp"); (focus tm_at "auto"))))
local macro_rules | `(tactic| tm_at "w") => `(tactic| ((with_reducible show WV _ _ _ (Expr.BoolOp BoolOp.Or _ _) _ _); first | (apply wv_or; (focus tm_at "t"); (focus tm_at "introw"))))
local macro_rules | `(tactic| tm_at "w") => `(tactic| ((with_reducible show WV _ _ _ (Expr.BoolOp BoolOp.And _ _) _ _); first | (apply wv_and; (focus tm_at "t"); (focus tm_at "introw"))))
local macro_rules | `(tactic| tm_at "w") => `(tactic| ((with_reducible show WV _ _ _ (Expr.BoolOp BoolOp.Or [_] _) _ _); first | (apply wv_or1; (focus tm_at "t"))))
local macro_rules | `(tactic| tm_at "w") => `(tactic| ((with_reducible show WV _ _ _ (Expr.BoolOp BoolOp.And [_] _) _ _); first | (apply wv_and1; (focus tm_at "t"))))

theorem atArc {as : List Arc} {j : Nat} (h : j < as.length) : atI (as.map dArc) (j : Int) = some (.tuple [.int (ar as j).1, .int (ar as j).2.1, .int (ar as j).2.2.1, .int (ar as j).2.2.2]) := by
  refine atI_nat ?_
  rw [List.getElem?_map, List.getElem?_eq_getElem h]
  simp [dArc, ar, h]
theorem ar_mem {as : List Arc} {j : Nat} (h : j < as.length) : ar as j ∈ as := by
  simp [ar, h]
def optD : Option Nat → PyData
  | none => .none
  | some j => .int (j : Int)
abbrev LT := List (Int × Option Nat)
def dicL (L : LT) : List (Key × Itm) := L.map fun x => (Sum.inl x.1, .fz (optD x.2))
def rowL (L : LT) : List Itm := L.map fun x => .fz (.int x.1)
def cW (γ : Cells) (L : LT) : Cells := γ ++ [.dic (dicL L), .lst (rowL L)]
theorem cW0 (γ : Cells) (L : LT) : (cW γ L)[γ.length]? = some (.dic (dicL L)) := by unfold cW; rw [List.getElem?_append_right (Nat.le_refl _)]; simp
theorem cW1 (γ : Cells) (L : LT) : (cW γ L)[γ.length + 1]? = some (.lst (rowL L)) := by unfold cW; rw [List.getElem?_append_right (by omega)]; simp
theorem cWs0 (γ : Cells) (L : LT) (a : Cell) : (cW γ L).set γ.length a = γ ++ [a, .lst (rowL L)] := by unfold cW; rw [List.set_append_right _ _ (Nat.le_refl _)]; simp
theorem valI_L (p : Int) : ∀ (L : LT), valI (dicL L) (Sum.inl p) = (L.find? fun x => decide (x.1 = p)).map fun x => Itm.fz (optD x.2)
  | [] => rfl
  | x :: L => by
    have ih := valI_L p L
    unfold valI dicL at ih ⊢
    simp only [List.map_cons, List.find?_cons]
    by_cases h : x.1 = p
    · simp [h]
    · have : ¬ (Sum.inl x.1 : Key) = Sum.inl p := fun e => h (Sum.inl.inj e)
      simp only [h, this, decide_false]
      exact ih
theorem valI_some (p : Int) (L : LT) : (valI (dicL L) (Sum.inl p)).isSome = decide (p ∈ L.map (·.1)) := by
  rw [valI_L, Option.isSome_map, Bool.eq_iff_iff, List.find?_isSome]
  simp [List.mem_map]
theorem valI_at {p : Int} {o : Option Nat} {t : Nat} {L : LT} (hn : (L.map (·.1)).Nodup) (h : L[t]? = some (p, o)) : valI (dicL L) (Sum.inl p) = some (.fz (optD o)) := by
  rw [valI_L]
  cases hf : L.find? (fun x => decide (x.1 = p)) with
  | none =>
    have := List.find?_eq_none.mp hf (p, o) (List.mem_of_getElem? h)
    simp at this
  | some y =>
    have h1 := List.find?_some hf
    have h1 : y.1 = p := by simpa using h1
    obtain ⟨s, hs⟩ := List.getElem?_of_mem (List.mem_of_find?_eq_some hf)
    obtain ⟨y1, y2⟩ := y
    subst h1
    have := at_inj hn hs h
    subst this
    rw [h] at hs
    cases hs
    rfl
theorem put_L {L : LT} {p : Int} {o : Option Nat} (h : p ∉ L.map (·.1)) : putI (dicL L) (Sum.inl p) (.fz (optD o)) = dicL (L ++ [(p, o)]) := by
  unfold putI
  rw [if_neg]
  · simp [dicL]
  · intro q
    obtain ⟨kv, h1, h2⟩ := List.any_eq_true.mp q
    unfold dicL at h1
    obtain ⟨x, h3, rfl⟩ := List.mem_map.mp h1
    have h4 : (Sum.inl x.1 : Key) = Sum.inl p := by simpa using h2
    exact h (List.mem_map.mpr ⟨x, h3, Sum.inl.inj h4⟩)
theorem enum_get {ds : List PyData} {i : Nat} {x : Itm} (h : (enumD ds)[i]? = some x) : ∃ d, ds[i]? = some d ∧ x = .fz (.tuple [.int (i : Int), d]) := by
  unfold enumD at h
  rw [List.getElem?_map] at h
  cases hd : ((List.range ds.length).zip ds)[i]? with
  | none => rw [hd] at h; cases h
  | some q =>
    rw [hd] at h
    obtain ⟨q1, q2⟩ := q
    rw [List.getElem?_zip_eq_some] at hd
    obtain ⟨_, h1⟩ := List.getElem?_eq_some_iff.mp hd.1
    simp at h1
    subst h1
    exact ⟨q2, hd.2, (Option.some.inj h).symm⟩
theorem enum_len (ds : List PyData) : (enumD ds).length = ds.length := by simp [enumD]
def dRing (r : List Nat) : PyData := .list (r.map fun (j : Nat) => PyData.int (j : Int))
def S_way_back : PSpec := fun args γ P => ∃ (d0 : PyData) (many : Int) (as : List Arc) (f : Nat), args = [.fz d0, .fz (dArcs as), .fz (.int (f : Int))] ∧ Good many as ∧ f < as.length ∧ ∀ r, Ring as r → P (.fz (dRing r)) γ
theorem len_way_back {args γ P} (h : S_way_back args γ P) : args.length = 3 := by obtain ⟨d0, many, as, f, rfl, _⟩ := h; rfl
theorem atRow {L : LT} {k : Nat} {p : Int} {o : Option Nat} (h : L[k]? = some (p, o)) : atI (rowL L) (k : Int) = some (.fz (.int p)) := by
  refine atI_nat ?_
  unfold rowL
  rw [List.getElem?_map, h]
  rfl
set_option maxHeartbeats 8000000 in
theorem body_way_back {P : Program} {w : World} {K : PySem.W.Frag} {mg : Str → Option Value} {base : Heap} (g0 : G0 mg)
    {X : Cx} (c : Ctx X P w K mg base N_way_back (defScope s_way_back) 0) {args : List Itm} {γ : Cells} {Po : EPost} (hγ : Clo γ) (hS : S_way_back args γ Po) :
    SVs X (slots0 N_way_back args) γ (defBody s_way_back) { nx := fun _ g => PL.Fin γ.length Po (.fz .none) g, rt := PL.Fin γ.length Po } := by
  have hX := c.ok
  have hp := c.po
  have v0 : Nm X "_law_many" 0 .local := c.nm 0 .local rfl (by decide +kernel) (.inl rfl) (by decide +kernel) (by decide +kernel)
  have v1 : Nm X "_law_arcs" 1 .local := c.nm 1 .local rfl (by decide +kernel) (.inl rfl) (by decide +kernel) (by decide +kernel)
  have v2 : Nm X "_law_first" 2 .local := c.nm 2 .local rfl (by decide +kernel) (.inl rfl) (by decide +kernel) (by decide +kernel)
  have v3 : Nm X "_law_came" 3 .local := c.nm 3 .local rfl (by decide +kernel) (.inl rfl) (by decide +kernel) (by decide +kernel)
  have v4 : Nm X "_law_row" 4 .local := c.nm 4 .local rfl (by decide +kernel) (.inl rfl) (by decide +kernel) (by decide +kernel)
  have v5 : Nm X "_law_k" 5 .local := c.nm 5 .local rfl (by decide +kernel) (.inl rfl) (by decide +kernel) (by decide +kernel)
  have v6 : Nm X "_law_number" 6 .local := c.nm 6 .local rfl (by decide +kernel) (.inl rfl) (by decide +kernel) (by decide +kernel)
  have v7 : Nm X "_law_arc" 7 .local := c.nm 7 .local rfl (by decide +kernel) (.inl rfl) (by decide +kernel) (by decide +kernel)
  have v8 : Nm X "_law_place" 8 .local := c.nm 8 .local rfl (by decide +kernel) (.inl rfl) (by decide +kernel) (by decide +kernel)
  have v9 : Nm X "_law_found" 9 .local := c.nm 9 .local rfl (by decide +kernel) (.inl rfl) (by decide +kernel) (by decide +kernel)
  have b_len : Bt X "len" := c.bt (by decide +kernel) g0.b_len
  have b_enumerate : Bt X "enumerate" := c.bt (by decide +kernel) g0.b_enumerate
  obtain ⟨d0, many, as, f, rfl, hG, hf, hP⟩ := hS
  have hixf := atArc hf
  have hpl : ∀ j, j < as.length → (0 : Int) ≤ (ar as j).2.1 ∧ (ar as j).2.1 < ((30 : Nat) : Int) := fun j hj => by
    have := hG.all _ (ar_mem hj); have := hG.m1; have := this; have h1 := (hG.all _ (ar_mem hj)).e0; have h2 := (hG.all _ (ar_mem hj)).e1; omega
  generalize hv : (ar as f).2.1 = v
  have hlen30 : ∀ L, Tree as v L → L.length ≤ 30 := fun L hL => by
    have := nodup_lt 30 (L.map (·.1)) hL.nodup (hL.mem (hv ▸ hpl f hf) hpl)
    simpa using this
  have hr : Rdb γ (.fz (dArcs as)) (.list (as.map dArc)) := Rdb.fz _
  -- came = {arcs[first][1]: None}; row = [arcs[first][1]]
  have hE1 : ∀ (g : Cells) (Γ : Slots), Γ[1]? = some (some (.fz (dArcs as))) → Γ[2]? = some (some (.fz (.int (f : Int)))) → ∀ pos p1 p2 p3 p4 j0, EV X Γ g (.Subscript (.Subscript (.Name "_law_arcs" p1) (.Name "_law_first" p2) p3) (.Constant (.int 1) j0 p4) pos) (.fz (.int v)) g := by
    intro g Γ h1 h2 pos p1 p2 p3 p4 j0
    rw [← hv]
    exact ev_ixT (ev_ixL (ev_name v1.r h1) (ev_name v2.r h2) (Rdb.fz _) hixf) ev_int ix_1
  apply svs_setE hX v3
  refine EE.of (ev_disp (prs := [(Sum.inl v, .fz .none)]) (pv_cons (hE1 _ _ rfl rfl _ _ _ _ _ _) rfl ev_non pv_nil) (by rw [List.getElem?_append_right (Nat.le_refl _)]; simp)) ?_
  apply svs_setE hX v4
  refine EE.of (ev_lstC (av_cons (hE1 _ _ rfl rfl _ _ _ _ _ _) av_nil)) ?_
  have ec : (γ ++ [Cell.dic []]).set γ.length (.dic (mergeI [] [(Sum.inl v, .fz .none)])) ++ [.lst [.fz (.int v)]] = cW γ [(v, none)] := by
    rw [List.set_append_right _ _ (Nat.le_refl _)]
    simp [cW, dicL, rowL, mergeI, putI, optD]
  have el : ((γ ++ [Cell.dic []]).set γ.length (.dic (mergeI [] [(Sum.inl v, .fz .none)]))).length = γ.length + 1 := by simp
  rw [ec, el]
  apply svs_setE hX v5
  refine EE.of ev_int ?_
  refine svs_while hp (fun m Γ' γ' => ∃ (L : LT) (k : Nat) (s6 s7 : Option Itm), Tree as v L ∧ m + k = 30 ∧ Γ' = [some (.fz d0), some (.fz (dArcs as)), some (.fz (.int (f : Int))), some (.cl γ.length), some (.cl (γ.length + 1)), some (.fz (.int (k : Int))), s6, s7, none, none] ∧ γ' = cW γ L) 30
    ⟨[(v, none)], 0, none, none, .root, rfl, rfl, rfl⟩ ?_
  rintro m Γ' γ' ⟨L, k, s6, s7, hT, hmk, rfl, rfl⟩
  refine ⟨decide ((k : Int) < ((rowL L).length : Int)), cW γ L, tv_cmp (ev_name v5.r rfl) (ev_lenC b_len (ev_name v4.r rfl) (cW1 γ L)) cmp_lt, fun hk => ?_, fun hk => ?_⟩
  · have hk : k < L.length := by have := of_decide_eq_true hk; simp [rowL] at this; omega
    have h30 := hlen30 L hT
    refine svs_for hX hp (itv_enum b_enumerate (ev_name v1.r rfl) (Rdb.fz _)) (fun i Γ' γ' => ∃ (L : LT) (s6 s7 : Option Itm), Tree as v L ∧ k < L.length ∧ Γ' = [some (.fz d0), some (.fz (dArcs as)), some (.fz (.int (f : Int))), some (.cl γ.length), some (.cl (γ.length + 1)), some (.fz (.int (k : Int))), s6, s7, none, none] ∧ γ' = cW γ L)
      ⟨L, s6, s7, hT, hk, rfl, rfl⟩ (fun _ _ _ _ _ => Rdb.fz _) ?_ ?_
    · rintro i x Γ' γ' hx ⟨L, s6, s7, hT, hk, rfl, rfl⟩
      obtain ⟨d, hd, rfl⟩ := enum_get hx
      rw [List.getElem?_map] at hd
      have hi : i < as.length := by
        cases h : as[i]? with
        | none => rw [h] at hd; cases hd
        | some y => exact (List.getElem?_eq_some_iff.mp h).1
      have hda : d = .tuple [.int (ar as i).1, .int (ar as i).2.1, .int (ar as i).2.2.1, .int (ar as i).2.2.2] := by
        have := atArc hi
        rw [atI_nat (by rw [List.getElem?_map]; exact hd)] at this
        exact Option.some.inj this
      subst hda
      refine ⟨_, _, gv_tup hX (gvs_cons (gv_name hX v6) (gvs_cons (gv_name hX v7) gvs_nil)) rfl, ?_⟩
      obtain ⟨⟨pk, ok⟩, hpk⟩ : ∃ y, L[k]? = some y := ⟨_, List.getElem?_eq_getElem hk⟩
      refine svs_if (tv_w (wv_and (tv_cmp (ev_ixT (ev_name v7.r rfl) ev_int ix_0) (ev_ixC (ev_name v4.r rfl) (ev_name v5.r rfl) (cW1 γ L) (atRow hpk)) cmp_eqI) fun _ => wv_and1 (tv_dnotin hX (ev_ixT (ev_name v7.r rfl) ev_int ix_1) (ev_name v3.r rfl) (cW0 γ L) rfl))) (fun ht => ?_) (fun ht => ?_)
      · rw [Bool.and_eq_true, valI_some] at ht
        have h1 : (ar as i).1 = pk := of_decide_eq_true ht.1
        have h2 : (ar as i).2.1 ∉ L.map (·.1) := by simpa using ht.2
        refine svs_dput hX (ev_name v6.r rfl) (ev_name v3.r rfl) (ev_ixT (ev_name v7.r rfl) ev_int ix_1) (cW0 γ L) rfl (by have := hlen30 L hT; simp [dicL]; omega) ?_
        rw [show (Itm.fz (.int (i : Int))) = .fz (optD (some i)) from rfl, put_L h2, cWs0]
        refine svs_exprE (EE.of (ev_append (ev_name v4.r rfl) (ev_ixT (ev_name v7.r rfl) ev_int ix_1) ⟨rowL L, ?_⟩ (xs := rowL L) ?_ (by have := hlen30 L hT; simp [rowL]; omega)) ?_)
        · rw [List.getElem?_append_right (by omega)]; simp
        · rw [List.getElem?_append_right (by omega)]; simp
        refine svs_nil (svs_nil ⟨L ++ [((ar as i).2.1, some i)], _, _, hT.snoc hi (h1 ▸ List.mem_map.mpr ⟨_, List.mem_of_getElem? hpk, rfl⟩) h2, by rw [List.length_append]; omega, rfl, ?_⟩)
        rw [List.set_append_right _ _ (by omega)]
        simp [cW, rowL]
      · exact svs_nil (svs_nil ⟨L, _, _, hT, hk, rfl, rfl⟩)
    · rintro Γ' γ' ⟨L, s6, s7, hT, hk, rfl, rfl⟩
      apply svs_setE hX v5
      refine EE.of (ev_add (ev_name v5.r rfl) ev_int) ?_
      refine svs_nil ⟨m - 1, by omega, L, k + 1, s6, s7, hT, by omega, rfl, rfl⟩
  · -- the way back
    have hE0 : ∀ (g : Cells) (Γ : Slots), Γ[1]? = some (some (.fz (dArcs as))) → Γ[2]? = some (some (.fz (.int (f : Int)))) → ∀ pos p1 p2 p3 p4 j0, EV X Γ g (.Subscript (.Subscript (.Name "_law_arcs" p1) (.Name "_law_first" p2) p3) (.Constant (.int 0) j0 p4) pos) (.fz (.int (ar as f).1)) g := by
      intro g Γ h1 h2 pos p1 p2 p3 p4 j0
      exact ev_ixT (ev_ixL (ev_name v1.r h1) (ev_name v2.r h2) (Rdb.fz _) hixf) ev_int ix_0
    apply svs_setE hX v8
    refine EE.of (hE0 _ _ rfl rfl _ _ _ _ _ _) ?_
    refine svs_if (tv_dnotin hX (ev_name v8.r rfl) (ev_name v3.r rfl) (cW0 γ L) rfl) (fun ht => ?_) (fun ht => ?_)
    · apply svs_retE
      refine EE.of (r := .fz (.list [])) (ev_lst (ds := []) av_nil) ?_
      exact fin_junk hγ (hP [] (Ring.nil as))
    · rw [valI_some] at ht
      have hm : (ar as f).1 ∈ L.map (·.1) := by simpa using ht
      obtain ⟨⟨p0, o0⟩, hm1, hm2⟩ := List.mem_map.mp hm
      obtain ⟨t0, ht0⟩ := List.getElem?_of_mem hm1
      have hp0 : (ar as f).1 = p0 := hm2.symm
      apply svs_nil
      apply svs_setE hX v9
      refine EE.of (ev_lstC (av_cons (ev_name v2.r rfl) av_nil)) ?_
      have hl2 : (cW γ L).length = γ.length + 2 := by simp [cW]
      rw [hl2]
      have c3 : ∀ xs : List Itm, (cW γ L ++ [Cell.lst xs])[γ.length + 2]? = some (.lst xs) := fun xs => by rw [List.getElem?_append_right (by omega), hl2]; simp
      have c30 : ∀ xs : List Itm, (cW γ L ++ [Cell.lst xs])[γ.length]? = some (.dic (dicL L)) := fun xs => by rw [List.getElem?_append_left (by omega)]; exact cW0 γ L
      have c3s : ∀ (xs : List Itm) (o : Cell), (cW γ L ++ [Cell.lst xs]).set (γ.length + 2) o = cW γ L ++ [o] := fun xs o => by rw [List.set_append_right _ _ (by omega), hl2]; simp
      refine svs_while hp (fun m Γ' γ' => ∃ (p : Int) (o : Option Nat) (r : List Nat), Way as v L r m p ∧ L[m]? = some (p, o) ∧ Γ' = [some (.fz d0), some (.fz (dArcs as)), some (.fz (.int (f : Int))), some (.cl γ.length), some (.cl (γ.length + 1)), some (.fz (.int (k : Int))), s6, s7, some (.fz (.int p)), some (.cl (γ.length + 2))] ∧ γ' = cW γ L ++ [.lst ((r.map fun (j : Nat) => PyData.int (j : Int)).map Itm.fz)]) t0
        ⟨p0, o0, [f], .start hT hf hv hp0, ht0, by rw [← hp0]; rfl, rfl⟩ ?_
      rintro t Γ' γ' ⟨p, o, r, hW, hLt, rfl, rfl⟩
      have hget : valI (dicL L) (Sum.inl p) = some (.fz (optD o)) := valI_at hT.nodup hLt
      refine ⟨!dNone (optD o), _, tv_cmp (ev_dget hX (ev_name v3.r rfl) (ev_name v8.r rfl) (c30 _) rfl hget) ev_non cmp_notN, fun hk' => ?_, fun hk' => ?_⟩
      · cases o with
        | none => simp [optD, dNone] at hk'
        | some j =>
          obtain ⟨hj, hje, s, q, oq, hst, hs, hjb⟩ := hT.par t p j hLt
          have h0 : t ≠ 0 := fun e => by
            rw [e, hT.head] at hLt
            cases hLt
          have hrl : r.length ≤ 1000000 := by
            have h1 := nodup_ltN _ r hW.nd hW.lt
            have := hG.len
            omega
          refine svs_exprE (EE.of (ev_append (ev_name v9.r rfl) (ev_dget hX (ev_name v3.r rfl) (ev_name v8.r rfl) (c30 _) rfl hget) ⟨_, c3 _⟩ (c3 _) (by simpa using hrl)) ?_)
          rw [c3s]
          apply svs_setE hX v8
          refine EE.of (ev_ixT (ev_ixL (ev_name v1.r rfl) (ev_dget hX (ev_name v3.r rfl) (ev_name v8.r rfl) (c30 _) rfl hget) (Rdb.fz _) (atArc hj)) ev_int ix_0) ?_
          refine svs_nil ⟨s, hst, q, oq, r ++ [j], hW.step hT hLt h0 hst hs hjb, hs, by rw [hjb]; rfl, ?_⟩
          simp [optD]
      · cases o with
        | some j => simp [optD, dNone] at hk'
        | none =>
          have hpv := hT.none t p hLt
          subst hpv
          refine SVs.freeze (i := 9) (c := γ.length + 2) (ds := r.map fun (j : Nat) => PyData.int (j : Int)) rfl (c3 _) ?_
          rw [c3s]
          apply svs_retE
          refine EE.of (ev_name v9.r rfl) ?_
          have e : cW γ L ++ [Cell.dead] = γ ++ [.dic (dicL L), .lst (rowL L), .dead] := by simp [cW]
          rw [e]
          exact fin_junk hγ (hP r hW.done)
theorem ok_way_back {P : Program} {w : World} {K : PySem.W.Frag} {mg : Str → Option Value} {base : Heap} (g0 : G0 mg)
    {f : Addr} {fd : FuncData} (F : Fun K "_law_way_back" "_law_way_back" s_way_back f fd) (hm : mg "_law_way_back" = some (.ref f)) : FnD P w K mg base "_law_way_back" 1 S_way_back :=
  def_ok F sc_way_back hm (F.binds (ps := ["_law_many", "_law_arcs", "_law_first"]) fun _ _ _ _ _ _ us hl => match us, hl with | [_, _, _], _ => rfl) (fun args γ P h => len_way_back h)
    fun X c args γ Po hγ hS => body_way_back g0  c hγ hS
end KK

namespace KK
open PySem PySem.Spec PyProof.Rows L2 PL M3
local macro_rules | `(tactic| tm_at "nm") => `(tactic| with_reducible first | assumption | exact Nm.r (by assumption))
local macro_rules | `(tactic| tm_at "bt") => `(tactic| with_reducible assumption)
local macro_rules | `(tactic| tm_at "asm") => `(tactic| assumption)
local macro_rules | `(tactic| tm_at "auto") => `(tactic| first | rfl | exact fun _ _ => rfl | (intro _; rfl) | decide | exact nomark _ | (with_unfolding_all rfl))
local macro_rules | `(tactic| tm_at "boot") => `(tactic| decide +kernel)
local macro_rules | `(tactic| tm_at "kit") => `(tactic| first | exact kit_int _ | exact kit_bool _ | exact kit_str _ | exact kit_list _ | exact kit_tuple _ | exact kit_dict _)
local macro_rules | `(tactic| tm_at "side") => `(tactic| first | assumption | decide | omega | (simp only [List.length_map, List.length_cons, List.length_nil, List.length_append]; omega) | (simp; done))
local macro_rules | `(tactic| tm_at "pos") => `(tactic| first | decide | assumption | exact Int.pow_pos (by decide) | omega)
local macro_rules | `(tactic| tm_at "mul") => `(tactic| first | assumption | (exact small_mul 200 200 (by omega) (by omega)))
local macro_rules | `(tactic| tm_at "div") => `(tactic| first | assumption | (exact wide_div (b := 200) (by omega) (by omega) (by decide) (by decide)))
local macro_rules | `(tactic| tm_at "pow") => `(tactic| (refine ⟨?_, ?_, ?_⟩ <;> decide))
local macro_rules | `(tactic| tm_at "rd") => `(tactic| first | exact Rdb.fz _ | exact Rdb.cl (by assumption) | exact Rdb.cl rfl)
local macro_rules | `(tactic| tm_at "rdl") => `(tactic| first | exact .inr rfl | exact .inl (by tm_at "rd"))
local macro_rules | `(tactic| tm_at "ix") => `(tactic| first | assumption | exact ix_0 | exact ix_1 | exact ix_2 | exact ix_3 | exact ix_4 | rfl)
local macro_rules | `(tactic| tm_at "cmp") => `(tactic| first | exact cmp_lt | exact cmp_le | exact cmp_gt | exact cmp_ge | exact cmp_eqI | exact cmp_neI | exact cmp_eqS | exact cmp_neS | exact cmp_isB | exact cmp_notB | exact cmp_isN | exact cmp_notN | exact cmp_eqB | exact cmp_neB)
local macro_rules | `(tactic| tm_at "intro") => `(tactic| (intro _; tm_at "e"))
local macro_rules | `(tactic| tm_at "introe") => `(tactic| (intro _; tm_at "e"))
local macro_rules | `(tactic| tm_at "introw") => `(tactic| (intro _; tm_at "w"))
local macro_rules | `(tactic| tm_at "a") => `(tactic| first
  | exact av_nil
  | (apply av_cons; (focus tm_at "e"); (focus tm_at "a"); (focus tm_at "auto")))
local macro_rules | `(tactic| tm_at "alli") => `(tactic| (repeat (first | exact all_nil | (refine all_cons ⟨_, rfl, ?_, ?_⟩ ?_; (focus omega); (focus omega)))))
local macro_rules | `(tactic| tm_at "afz") => `(tactic| first
  | exact av_nilF
  | (apply av_consF; (focus tm_at "e"); (focus tm_at "afz"); (focus tm_at "auto")))
local macro_rules | `(tactic| tm_at "o") => `(tactic| first
  | exact ov_none
  | (apply ov_some; (focus tm_at "e")))
local macro_rules | `(tactic| tm_at "e") => `(tactic| ((with_reducible show EV _ _ _ (Expr.Tuple _ _ _) _ _); first | (apply ev_tup; (focus tm_at "afz"); (focus tm_at "side"))))
local macro_rules | `(tactic| tm_at "e") => `(tactic| ((with_reducible show EV _ _ _ (Expr.List _ _) _ _); first | (apply ev_lst; (focus tm_at "afz"); (focus tm_at "side"))))
local macro_rules | `(tactic| tm_at "e") => `(tactic| ((with_reducible show EV _ _ _ (Expr.Call (Expr.Name _ _) _ _ _) _ _); first | (apply ev_lenL; (focus tm_at "bt"); (focus tm_at "e"); (focus tm_at "rd"); (focus tm_at "auto")) | (apply ev_lenC; (focus tm_at "bt"); (focus tm_at "e"); (focus tm_at "ix"); (focus tm_at "auto")) | (apply ev_lenT; (focus tm_at "bt"); (focus tm_at "e"); (focus tm_at "auto")) | (apply ev_lenS; (focus tm_at "bt"); (focus tm_at "e"); (focus tm_at "side"); (focus tm_at "auto")) | (apply ev_max2; (focus tm_at "asm"); (focus tm_at "bt"); (focus tm_at "e"); (focus tm_at "e"); (focus tm_at "auto"); (focus tm_at "auto"); (focus tm_at "auto")) | (apply ev_min2; (focus tm_at "asm"); (focus tm_at "bt"); (focus tm_at "e"); (focus tm_at "e"); (focus tm_at "auto"); (focus tm_at "auto"); (focus tm_at "auto")) | (apply ev_intB; (focus tm_at "bt"); (focus tm_at "e"); (focus tm_at "auto")) | (apply ev_intI; (focus tm_at "bt"); (focus tm_at "e"); (focus tm_at "auto")) | (apply ev_abs; (focus tm_at "bt"); (focus tm_at "e"); (focus tm_at "auto")) | (apply ev_sum; (focus tm_at "asm"); (focus tm_at "bt"); (focus tm_at "e"); (focus tm_at "rd"); (focus tm_at "auto")) | (apply ev_listF; (focus tm_at "bt"); (focus tm_at "e"); (focus tm_at "rdl"); (focus tm_at "auto")) | (apply ev_isi; (focus tm_at "bt"); (focus tm_at "bt"); (focus tm_at "boot"); (focus tm_at "e"); (focus tm_at "rd"); (focus tm_at "kit"); (focus tm_at "auto"); (focus tm_at "auto"); (focus tm_at "auto"); (focus tm_at "auto"); (focus tm_at "auto"))))
local macro_rules | `(tactic| tm_at "e") => `(tactic| ((with_reducible show EV _ _ _ (Expr.BoolOp BoolOp.Or _ _) _ _); first | (apply ev_or; (focus tm_at "e"); (focus tm_at "introe"))))
local macro_rules | `(tactic| tm_at "e") => `(tactic| ((with_reducible show EV _ _ _ (Expr.BoolOp BoolOp.And _ _) _ _); first | (apply ev_and; (focus tm_at "e"); (focus tm_at "introe"))))
local macro_rules | `(tactic| tm_at "e") => `(tactic| ((with_reducible show EV _ _ _ (Expr.BoolOp _ [_] _) _ _); first | (apply ev_one; (focus tm_at "e"))))
local macro_rules | `(tactic| tm_at "e") => `(tactic| ((with_reducible show EV _ _ _ (Expr.IfExp _ _ _ _) _ _); first | (apply ev_ifx; (focus tm_at "t"); (focus tm_at "intro"); (focus tm_at "intro"))))
local macro_rules | `(tactic| tm_at "e") => `(tactic| ((with_reducible show EV _ _ _ (Expr.Compare _ [_, _] [_, _] _) _ _); first | (apply ev_chain2; (focus tm_at "e"); (focus tm_at "e"); (focus tm_at "cmp"); (focus tm_at "e"); (focus tm_at "cmp"); (focus tm_at "auto"))))
local macro_rules | `(tactic| tm_at "e") => `(tactic| ((with_reducible show EV _ _ _ (Expr.Compare _ [_] [_] _) _ _); first | (apply ev_cmp; (focus tm_at "e"); (focus tm_at "e"); (focus tm_at "cmp"); (focus tm_at "auto"))))
local macro_rules | `(tactic| tm_at "e") => `(tactic| ((with_reducible show EV _ _ _ (Expr.UnaryOp UnaryOp.Not _ _) _ _); first | (apply ev_not; (focus tm_at "e"))))
local macro_rules | `(tactic| tm_at "e") => `(tactic| ((with_reducible show EV _ _ _ (Expr.UnaryOp UnaryOp.USub _ _) _ _); first | (apply ev_neg; (focus tm_at "e"))))
local macro_rules | `(tactic| tm_at "e") => `(tactic| ((with_reducible show EV _ _ _ (Expr.Subscript _ _ _) _ _); first | (apply ev_ixL; (focus tm_at "e"); (focus tm_at "e"); (focus tm_at "rd"); (focus tm_at "ix"); (focus tm_at "auto")) | (apply ev_ixT; (focus tm_at "e"); (focus tm_at "e"); (focus tm_at "ix"); (focus tm_at "auto")) | (apply ev_ixC; (focus tm_at "e"); (focus tm_at "e"); (focus tm_at "ix"); (focus tm_at "ix"); (focus tm_at "auto")) | (apply ev_ixP; (focus tm_at "e"); (focus tm_at "e"); (focus tm_at "ix"); (focus tm_at "auto"))))
local macro_rules | `(tactic| tm_at "e") => `(tactic| ((with_reducible show EV _ _ _ (Expr.Subscript _ (Expr.Slice _ _ _ _) _) _ _); first | (apply ev_slL; (focus tm_at "e"); (focus tm_at "o"); (focus tm_at "o"); (focus tm_at "rd")) | (apply ev_slT; (focus tm_at "e"); (focus tm_at "o"); (focus tm_at "o"); (focus tm_at "side"))))
local macro_rules | `(tactic| tm_at "e") => `(tactic| ((with_reducible show EV _ _ _ (Expr.BinOp _ Operator.Pow _ _) _ _); first | (apply ev_pow; (focus tm_at "e"); (focus tm_at "e"); (focus tm_at "pow"))))
local macro_rules | `(tactic| tm_at "e") => `(tactic| ((with_reducible show EV _ _ _ (Expr.BinOp _ Operator.FloorDiv _ _) _ _); first | (apply ev_div; (focus tm_at "e"); (focus tm_at "e"); (focus tm_at "div"))))
local macro_rules | `(tactic| tm_at "e") => `(tactic| ((with_reducible show EV _ _ _ (Expr.BinOp _ Operator.Mod _ _) _ _); first | (apply ev_mod; (focus tm_at "e"); (focus tm_at "e"); (focus tm_at "pos"))))
local macro_rules | `(tactic| tm_at "e") => `(tactic| ((with_reducible show EV _ _ _ (Expr.BinOp _ Operator.Mult _ _) _ _); first | (apply ev_mul; (focus tm_at "e"); (focus tm_at "e"); (focus tm_at "mul")) | (apply ev_repF; (focus tm_at "afz"); (focus tm_at "e"); (focus tm_at "side"); (focus tm_at "side"); (focus tm_at "side"))))
local macro_rules | `(tactic| tm_at "e") => `(tactic| ((with_reducible show EV _ _ _ (Expr.BinOp _ Operator.Sub _ _) _ _); first | (apply ev_sub; (focus tm_at "e"); (focus tm_at "e"))))
local macro_rules | `(tactic| tm_at "e") => `(tactic| ((with_reducible show EV _ _ _ (Expr.BinOp _ Operator.Add _ _) _ _); first | (apply ev_add; (focus tm_at "e"); (focus tm_at "e")) | (apply ev_catF; (focus tm_at "e"); (focus tm_at "e"); (focus tm_at "rd"); (focus tm_at "rd"); (focus tm_at "side")) | (apply ev_addS; (focus tm_at "e"); (focus tm_at "e"); (focus tm_at "side")) | (apply ev_catT; (focus tm_at "e"); (focus tm_at "e"); (focus tm_at "side"))))
local macro_rules | `(tactic| tm_at "e") => `(tactic| ((with_reducible show EV _ _ _ (Expr.Name _ _) _ _); first | (apply ev_name; (focus tm_at "nm"); (focus rfl))))
local macro_rules | `(tactic| tm_at "e") => `(tactic| ((with_reducible show EV _ _ _ (Expr.Constant _ _ _) _ _); first | exact ev_int | exact ev_bl | exact ev_str | exact ev_non))
local macro_rules | `(tactic| tm_at "t") => `(tactic| ((with_reducible show TV _ _ _ _ _ _); first | (apply tv_val; (focus tm_at "e"); (focus tm_at "auto")) | (apply tv_truthL; (focus tm_at "e"); (focus tm_at "rd"); (focus tm_at "auto")) | (apply tv_truthI; (focus tm_at "e"); (focus tm_at "auto"))))
local macro_rules | `(tactic| tm_at "t") => `(tactic| ((with_reducible show TV _ _ _ (Expr.BoolOp _ _ _) _ _); first | (apply tv_w; (focus tm_at "w"))))
local macro_rules | `(tactic| tm_at "t") => `(tactic| ((with_reducible show TV _ _ _ (Expr.UnaryOp UnaryOp.Not _ _) _ _); first | (apply tv_not; (focus tm_at "t"))))
local macro_rules | `(tactic| tm_at "t") => `(tactic| ((with_reducible show TV _ _ _ (Expr.Compare _ [_, _] [_, _] _) _ _); first | (apply tv_chain2; (focus tm_at "e"); (focus tm_at "e"); (focus tm_at "cmp"); (focus tm_at "e"); (focus tm_at "cmp"); (focus tm_at "auto"))))
local macro_rules | `(tactic| tm_at "t") => `(tactic| ((with_reducible show TV _ _ _ (Expr.Compare _ [_] [_] _) _ _); first | (apply tv_cmp; (focus tm_at "e"); (focus tm_at "e"); (focus tm_at "cmp"); (focus tm_at "auto"))))
local macro_rules | `(tactic| tm_at "w") => `(tactic| ((with_reducible show WV _ _ _ (Expr.BoolOp BoolOp.Or _ _) _ _); first | (apply wv_or; (focus tm_at "t"); (focus tm_at "introw"))))
local macro_rules | `(tactic| tm_at "w") => `(tactic| ((with_reducible show WV _ _ _ (Expr.BoolOp BoolOp.And _ _) _ _); first | (apply wv_and; (focus tm_at "t"); (focus tm_at "introw"))))
local macro_rules | `(tactic| tm_at "w") => `(tactic| ((with_reducible show WV _ _ _ (Expr.BoolOp BoolOp.Or [_] _) _ _); first | (apply wv_or1; (focus tm_at "t"))))
local macro_rules | `(tactic| tm_at "w") => `(tactic| ((with_reducible show WV _ _ _ (Expr.BoolOp BoolOp.And [_] _) _ _); first | (apply wv_and1; (focus tm_at "t"))))

theorem shp_arc (a : Arc) : Shp 1 (dArc a) := shp_tuple (n := 0) fun d hd => by
  simp at hd
  rcases hd with rfl | rfl | rfl | rfl <;> exact shp_int _
theorem shp_arcs (as : List Arc) : Shp 2 (dArcs as) := shp_list (n := 1) fun d hd => by
  obtain ⟨a, _, rfl⟩ := List.mem_map.mp hd
  exact shp_arc a
theorem eqv_arc (a b : Arc) : PyData.eqv (dArc a) (dArc b) = decide (a = b) := by
  obtain ⟨a1, a2, a3, a4⟩ := a
  obtain ⟨b1, b2, b3, b4⟩ := b
  rw [Bool.eq_iff_iff]
  simp [dArc, PyData.eqv, PyData.eqvAll]
theorem eqv_arcs (xs ys : List Arc) : PyData.eqv (dArcs xs) (dArcs ys) = decide (xs = ys) := eqv_list eqv_arc xs ys
def rf (as : List Arc) (fs : List Int) (j : Nat) : Int := (ar as j).2.2.1 - fs.getD j 0
theorem picked_map {α : Type} (l : List α) (f : Nat → PyData) (g : α → PyData) (h : ∀ i x, l[i]? = some x → f i = g x) : picked (fun _ => true) f l.length = l.map g := by
  rw [picked_all]
  apply List.ext_getElem?
  intro i
  rw [List.getElem?_map, List.getElem?_map]
  by_cases hi : i < l.length
  · rw [List.getElem?_range hi, List.getElem?_eq_getElem hi]
    simp [h i _ (List.getElem?_eq_getElem hi)]
  · rw [List.getElem?_eq_none (by simpa using hi), List.getElem?_eq_none (by simpa using hi)]
    rfl
theorem atInts {fs : List Int} {j : Nat} (h : j < fs.length) : atI (fs.map PyData.int) (j : Int) = some (.int (fs.getD j 0)) := by
  refine atI_nat ?_
  rw [List.getElem?_map, List.getElem?_eq_getElem h]
  simp [h]
theorem atIntsF {fs : List Int} {j : Nat} (h : j < fs.length) : atI ((fs.map PyData.int).map Itm.fz) (j : Int) = some (.fz (.int (fs.getD j 0))) := by
  rw [atI_map, atInts h]; rfl
def S_flows : PSpec := fun args γ P => ∃ a c γ0 k m many as, args = [a, .cl c, .fz (.int many), .fz (dArcs as)] ∧ isScript a ∧ γ = at_ γ0 c k ∧ c < γ0.length ∧ 0 ≤ k ∧ k ≤ m ∧ m ≤ 900000 ∧ Good many as ∧ ∀ (fs : List Int) (k' : Int), Circ as fs → 0 ≤ k' → k' ≤ m + 10 → P (.fz (.list (fs.map .int))) (at_ γ0 c k')
theorem len_flows {args γ P} (h : S_flows args γ P) : args.length = 4 := by obtain ⟨a, c, γ0, k, m, many, as, rfl, _⟩ := h; rfl
theorem circ0 (as : List Arc) (h : ∀ i, i < as.length → 0 ≤ (ar as i).2.2.1) : Circ as (List.replicate as.length 0) := by
  have e : ∀ i, (List.replicate as.length (0 : Int)).getD i 0 = 0 := fun i => by
    rw [List.getD_eq_getElem?_getD, List.getElem?_replicate]; split <;> rfl
  refine ⟨by simp, fun i hi => by rw [e]; exact Int.le_refl _, fun i hi => by rw [e]; exact h i hi, fun p => ?_⟩
  have z : ∀ (g : Arc → Bool) (l : List Arc) (n : Nat), ((l.zip (List.replicate n (0 : Int))).map fun q => if g q.1 then q.2 else 0).sum = 0 := by
    intro g l
    induction l with
    | nil => intro n; simp
    | cons a l ih =>
      intro n
      cases n with
      | zero => simp
      | succ n =>
        rw [List.replicate_succ, List.zip_cons_cons, List.map_cons, List.sum_cons, ih n]
        simp
  have z1 := z (fun a => decide (a.2.1 = p)) as as.length
  have z2 := z (fun a => decide (a.1 = p)) as as.length
  simp only [decide_eq_true_eq] at z1 z2
  unfold sE sB
  rw [z1, z2]
theorem rep0 (n : Nat) : repD [Itm.fz (.int 0)] (n : Int) = ((List.replicate n (0 : Int)).map PyData.int).map Itm.fz := by
  unfold repD
  rw [show ((n : Int)).toNat = n by omega]
  induction n with
  | zero => rfl
  | succ n ih => rw [List.replicate_succ, List.flatten_cons, ih, List.replicate_succ, List.map_cons, List.map_cons]; rfl
set_option maxHeartbeats 8000000 in
theorem body_flows {P : Program} {w : World} {K : PySem.W.Frag} {mg : Str → Option Value} {base : Heap} (g0 : G0 mg)
    (D_drawn : FnD P w K mg base "_law_drawn" 1 S_drawn)
    (D_way_back : FnD P w K mg base "_law_way_back" 1 S_way_back)
    {X : Cx} (c : Ctx X P w K mg base N_flows (defScope s_flows) 1) {args : List Itm} {γ : Cells} {Po : EPost} (hγ : Clo γ) (hS : S_flows args γ Po) :
    SVs X (slots0 N_flows args) γ (defBody s_flows) { nx := fun _ g => PL.Fin γ.length Po (.fz .none) g, rt := PL.Fin γ.length Po } := by
  have hX := c.ok
  have hp := c.po
  have v0 : Nm X "_law_script" 0 .local := c.nm 0 .local rfl (by decide +kernel) (.inl rfl) (by decide +kernel) (by decide +kernel)
  have v1 : Nm X "_law_at" 1 .local := c.nm 1 .local rfl (by decide +kernel) (.inl rfl) (by decide +kernel) (by decide +kernel)
  have v2 : Nm X "_law_many" 2 .local := c.nm 2 .local rfl (by decide +kernel) (.inl rfl) (by decide +kernel) (by decide +kernel)
  have v3 : Nm X "_law_arcs" 3 .cell := c.nm 3 .cell rfl (by decide +kernel) (.inr rfl) (by decide +kernel) (by decide +kernel)
  have v4 : Nm X "_law_flows_here" 4 .cell := c.nm 4 .cell rfl (by decide +kernel) (.inr rfl) (by decide +kernel) (by decide +kernel)
  have v5 : Nm X "_law_turn" 5 .local := c.nm 5 .local rfl (by decide +kernel) (.inl rfl) (by decide +kernel) (by decide +kernel)
  have v6 : Nm X "_law_ring" 6 .local := c.nm 6 .local rfl (by decide +kernel) (.inl rfl) (by decide +kernel) (by decide +kernel)
  have v7 : Nm X "_law_number" 7 .local := c.nm 7 .local rfl (by decide +kernel) (.inl rfl) (by decide +kernel) (by decide +kernel)
  have v8 : Nm X "_law_room_here" 8 .local := c.nm 8 .local rfl (by decide +kernel) (.inl rfl) (by decide +kernel) (by decide +kernel)
  have v9 : Nm X "_law_part" 9 .local := c.nm 9 .local rfl (by decide +kernel) (.inl rfl) (by decide +kernel) (by decide +kernel)
  have b_len : Bt X "len" := c.bt (by decide +kernel) g0.b_len
  have b_range : Bt X "range" := c.bt (by decide +kernel) g0.b_range
  have b_int : Bt X "int" := c.bt (by decide +kernel) g0.b_int
  have k_way_back : Cal X "_law_way_back" S_way_back := c.cal D_way_back (by decide) (by decide +kernel) (by decide +kernel)
  have k_drawn : Cal X "_law_drawn" S_drawn := c.cal D_drawn (by decide) (by decide +kernel) (by decide +kernel)
  have b_min : Bt X "min" := c.bt (by decide +kernel) g0.b_min
  obtain ⟨a, cc, γ0, k, m, many, as, rfl, ⟨ns, rfl, hn⟩, rfl, hc, hk0, hkm, hm, hG, hP⟩ := hS
  have hlen := hG.len
  apply svs_setE hX v4
  refine EE.of (ev_repC (rs := [.fz (.int 0)]) (by tm_at "a") (ev_lenL b_len (ev_name v3.r rfl) (Rdb.fz _)) (by simp) (by simp [List.length_map]; omega) (by simp [List.length_map]; omega)) ?_
  rw [List.length_map, rep0, at_len, at_app hc]
  refine svs_for hX hp (itv_range1 (n := 3 * (if (!PyData.eqv (dArcs as) (dArcs [])) = true then 1 else 0)) (γ1 := at_ (γ0 ++ [.lst (((List.replicate as.length (0 : Int)).map PyData.int).map Itm.fz)]) cc k) b_range (ev_mul ev_int (ev_intB b_int (ev_cmp (ev_name v3.r rfl) (ev_lst (ds := []) av_nil) (cmp_neD hX (Rdb.fz _) (Rdb.fz _) (shp_arcs as).shaped (shp_arcs []).shaped))) (by split <;> exact small_mul 5 5 (by decide) (by decide))) (by split <;> decide) (by split <;> decide))
    (fun i Γ' γ' => ∃ (fs : List Int) (k : Int) (s5 s6 s7 s8 s9 : Option Itm), Γ' = [some (.fz (.list (ns.map .int))), some (.cl cc), some (.fz (.int many)), some (.fz (dArcs as)), some (.cl γ0.length), s5, s6, s7, s8, s9] ∧ γ' = at_ (γ0 ++ [.lst ((fs.map PyData.int).map Itm.fz)]) cc k ∧ Circ as fs ∧ 0 ≤ k ∧ k ≤ m + 2 * (i : Int))
    ⟨List.replicate as.length 0, k, none, none, none, none, none, rfl, rfl, circ0 as (fun i hi => (hG.all _ (ar_mem hi)).r0), hk0, by omega⟩ (fun _ _ _ _ _ => trivial) ?_ ?_
  · rintro i x Γ' γ' hx ⟨fs, k3, s5, s6, s7, s8, s9, rfl, rfl, hC, h30, h31⟩
    obtain ⟨hi, rfl⟩ := rngL_get hx
    have hi3 : i < 3 := by
      have : ((3 : Int) * (if (!PyData.eqv (dArcs as) (dArcs [])) = true then 1 else 0)).toNat ≤ 3 := by split <;> decide
      omega
    have hne : as ≠ [] := fun e => by
      subst e
      rw [eqv_arcs] at hi
      simp at hi
    have hpos : 0 < as.length := List.length_pos_iff.mpr hne
    have hc' : cc < (γ0 ++ [Cell.lst ((fs.map PyData.int).map Itm.fz)]).length := by rw [List.length_append]; omega
    refine ⟨_, _, gv_name hX v5, ?_⟩
    apply svs_setE hX v6
    refine ee_call' k_way_back (ae_cons (EE.of (ev_name v2.r rfl) ?_))
    refine ae_cons (EE.of (ev_name v3.r rfl) ?_)
    refine ae_cons (ee_mod (ee_call' k_drawn (AE.of (γ1 := at_ _ cc k3) (rs := [.fz (.list (ns.map .int)), .cl cc]) (by tm_at "a") (use_drawn (m + 2 * (i : Int)) hn hc' h30 h31 (by omega) fun d k4 hd0 hd1 h40 h41 => ⟨d, rfl, ?_⟩))))
    refine EE.of (ev_lenL b_len (ev_name v3.r rfl) (Rdb.fz _)) ⟨_, rfl, by rw [List.length_map]; omega, ?_⟩
    rw [List.length_map]
    obtain ⟨f, hf⟩ : ∃ f : Nat, d % (as.length : Int) = f := ⟨(d % (as.length : Int)).toNat, by have := Int.emod_nonneg d (show (as.length : Int) ≠ 0 by omega); omega⟩
    have hfl : f < as.length := by have := Int.emod_lt_of_pos d (show 0 < (as.length : Int) by omega); omega
    rw [hf]
    refine ae_nil ⟨_, many, as, f, rfl, hG, hfl, fun r hr => ?_⟩
    -- the room of the ring
    have hcell : (at_ (γ0 ++ [Cell.lst ((fs.map PyData.int).map Itm.fz)]) cc k4)[γ0.length]? = some (.lst ((fs.map PyData.int).map Itm.fz)) := at_last hc k4 _
    apply svs_setE hX v8
    refine EE.of (ev_minL (ns := r.map (rf as fs) ++ [10 ^ 31]) (γ1 := at_ (γ0 ++ [Cell.lst ((fs.map PyData.int).map Itm.fz)]) cc k4) hX b_min (ev_catF (ds := (r.map (rf as fs)).map PyData.int) (es' := [.int (10 ^ (31 : Int).toNat)]) (γ1 := at_ (γ0 ++ [Cell.lst ((fs.map PyData.int).map Itm.fz)]) cc k4) ?_ (by tm_at "e") (Rdb.fz _) (Rdb.fz _) ?_) (by rw [List.map_append]; exact Rdb.fz _) (by simp)) ?_
    · have ep : picked (fun _ => true) (fun i => .int (rf as fs (r.getD i 0))) ((r.map fun (j : Nat) => PyData.int (j : Int)).map Itm.fz).length = (r.map (rf as fs)).map PyData.int := by
        rw [List.length_map, List.length_map, List.map_map]
        exact picked_map r _ _ fun i x hx => by rw [List.getD_eq_getElem?_getD, hx]; rfl
      rw [← ep]
      refine ev_lcN (w := 7) (fun _ => true) _ hX (by rw [c.N, c.sc]; exact ⟨rfl, by decide +kernel, by decide +kernel, by decide +kernel, by decide +kernel⟩) (fun X' hB => ⟨hB.cok hX rfl, hB.own (by rw [c.N]; rfl) (by decide +kernel) (by decide +kernel) (by decide +kernel)⟩) (itv_list (γ1 := at_ (γ0 ++ [Cell.lst ((fs.map PyData.int).map Itm.fz)]) cc k4) (ev_name v6.r rfl) (Rdb.fz _)) (fun _ => Rdb.fz _) ?_ ?_
      · have := nodup_ltN _ r hr.nd hr.lt
        rw [List.length_map, List.length_map]; omega
      · intro i x acc hx X' hB
        have hx' : ∃ j, r[i]? = some j ∧ x = .fz (.int (j : Int)) := by
          rw [List.getElem?_map, List.getElem?_map] at hx
          cases h : r[i]? with
          | none => rw [h] at hx; cases hx
          | some j => rw [h] at hx; exact ⟨j, rfl, (Option.some.inj hx).symm⟩
        obtain ⟨j, hj, rfl⟩ := hx'
        have hja : j < as.length := hr.lt j (List.mem_of_getElem? hj)
        have hg : r.getD i 0 = j := by rw [List.getD_eq_getElem?_getD, hj]; rfl
        have hX_X' := hB.cok hX rfl
        have w7_X' : Nm X' "_law_number" 7 .local := hB.own (by rw [c.N]; rfl) (by decide +kernel) (by decide +kernel) (by decide +kernel)
        have w3_X' : Nr X' "_law_arcs" 3 .cell := hB.cap hX v3.r (by decide +kernel)
        have w4_X' : Nr X' "_law_flows_here" 4 .cell := hB.cap hX v4.r (by decide +kernel)
        refine ⟨tvs_nil, fun _ => ?_⟩
        rw [hg]
        have hcell' : (at_ (γ0 ++ [Cell.lst ((fs.map PyData.int).map Itm.fz)]) cc k4 ++ [.lst acc])[γ0.length]? = some (.lst ((fs.map PyData.int).map Itm.fz)) := by
          rw [List.getElem?_append_left (by rw [at_len, List.length_append]; simp)]; exact hcell
        exact ev_sub (ev_ixT (ev_ixL (ev_name w3_X' rfl) (ev_name w7_X'.r rfl) (Rdb.fz _) (atArc hja)) ev_int ix_2) (ev_ixC (ev_name w4_X' rfl) (ev_name w7_X'.r rfl) hcell' (atIntsF (by rw [hC.len]; exact hja)))
    · have := nodup_ltN _ r hr.nd hr.lt
      simp only [List.length_map, List.length_cons, List.length_nil]; omega
    have hR0 : 0 ≤ lmin (r.map (rf as fs) ++ [10 ^ 31]) := by
      have := lmin_mem (ns := r.map (rf as fs) ++ [10 ^ 31]) (by simp)
      rcases List.mem_append.mp this with h | h
      · obtain ⟨j, hj, e⟩ := List.mem_map.mp h
        rw [← e]
        have := hC.hi j (hr.lt j hj)
        show 0 ≤ (ar as j).2.2.1 - fs.getD j 0
        omega
      · have e : lmin (r.map (rf as fs) ++ [10 ^ 31]) = 10 ^ 31 := by simpa using h
        rw [e]; decide
    have hR1 : ∀ j ∈ r, lmin (r.map (rf as fs) ++ [10 ^ 31]) ≤ (ar as j).2.2.1 - fs.getD j 0 := fun j hj => lmin_le (List.mem_append.mpr (.inl (List.mem_map.mpr ⟨j, hj, rfl⟩)))
    have hR2 : lmin (r.map (rf as fs) ++ [10 ^ 31]) ≤ 10 ^ 31 := lmin_le (List.mem_append.mpr (.inr (by simp)))
    generalize lmin (r.map (rf as fs) ++ [10 ^ 31]) = R at hR0 hR1 hR2 ⊢
    rw [show (10 : Int) ^ 31 = 10000000000000000000000000000000 from by decide +kernel] at hR2
    -- the part
    apply svs_setE hX v9
    refine ee_ixL (EE.of (γ1 := at_ (γ0 ++ [Cell.lst ((fs.map PyData.int).map Itm.fz)]) cc k4) (r := .fz (.list [.int R, .int (R / 2), .int (min R 1)])) (by tm_at "e") ?_)
    refine ee_mod (ee_call' k_drawn (AE.of (γ1 := at_ _ cc k4) (rs := [.fz (.list (ns.map .int)), .cl cc]) (by tm_at "a") (use_drawn (m + 2 * (i : Int) + 1) hn hc' h40 (by omega) (by omega) fun d2 k5 hd20 hd21 h50 h51 => ⟨d2, rfl, ?_⟩)))
    refine EE.of (γ1 := at_ _ cc k5) (r := .fz (.int 3)) (by tm_at "e") ⟨3, rfl, by decide, ?_⟩
    refine pick_go (iB 0 R) (by omega) (by simp only [List.length_cons, List.length_nil]; omega) (by tm_at "alli") ?_
    rintro _ ⟨part, rfl, hp0, hp1⟩
    -- the loop over the ring
    refine svs_for hX hp (itv_list (γ1 := at_ (γ0 ++ [Cell.lst ((fs.map PyData.int).map Itm.fz)]) cc k5) (ev_name v6.r rfl) (Rdb.fz _))
      (fun t Γ' γ' => ∃ (s7 : Option Itm), Γ' = [some (.fz (.list (ns.map .int))), some (.cl cc), some (.fz (.int many)), some (.fz (dArcs as)), some (.cl γ0.length), some (.fz (.int (0 + (i : Int)))), some (.fz (dRing r)), s7, some (.fz (.int R)), some (.fz (.int part))] ∧ γ' = at_ (γ0 ++ [.lst (((addAt fs (r.take t) part).map PyData.int).map Itm.fz)]) cc k5)
      ⟨s7, rfl, by simp [addAt]⟩ (fun _ _ _ _ _ => Rdb.fz _) ?_ ?_
    · rintro t x Γ' γ' hx ⟨s7, rfl, rfl⟩
      have hx' : ∃ j, r[t]? = some j ∧ x = .fz (.int (j : Int)) := by
        rw [List.getElem?_map, List.getElem?_map] at hx
        cases h : r[t]? with
        | none => rw [h] at hx; cases hx
        | some j => rw [h] at hx; exact ⟨j, rfl, (Option.some.inj hx).symm⟩
      obtain ⟨j, hj, rfl⟩ := hx'
      have hja : j < (addAt fs (r.take t) part).length := by rw [addAt_len, hC.len]; exact hr.lt j (List.mem_of_getElem? hj)
      refine ⟨_, _, gv_name hX v7, ?_⟩
      generalize hF : addAt fs (r.take t) part = F at hja
      have hcellF : (at_ (γ0 ++ [Cell.lst ((F.map PyData.int).map Itm.fz)]) cc k5)[γ0.length]? = some (.lst ((F.map PyData.int).map Itm.fz)) := at_last hc k5 _
      refine sv_setitem (jj := j) (hc := hcellF) (ev_add (ev_ixC (ev_name v4.r rfl) (ev_name v7.r rfl) hcellF (atIntsF hja)) (ev_name v9.r rfl)) (ev_name v4.r rfl) (ev_name v7.r rfl) ?_ ?_
      · rw [List.length_map, List.length_map]
        unfold ixN; simp; omega
      · rw [at_setl hc]
        refine svs_nil ⟨_, rfl, ?_⟩
        rw [List.take_add_one, hj]
        unfold addAt at hF ⊢
        rw [List.foldl_append, hF]
        simp [List.map_set]
    · rintro Γ' γ' ⟨s7, rfl, rfl⟩
      rw [List.take_of_length_le (by rw [List.length_map, List.length_map]; exact Nat.le_refl _)]
      exact svs_nil ⟨addAt fs r part, k5, _, _, _, _, _, rfl, rfl, hC.add hr hp0 (fun j hj => Int.le_trans hp1 (hR1 j hj)), h50, by omega⟩
  · rintro Γ' γ' ⟨fs, k3, s5, s6, s7, s8, s9, rfl, rfl, hC, h30, h31⟩
    have h3 : ((3 : Int) * (if (!PyData.eqv (dArcs as) (dArcs [])) = true then 1 else 0)).toNat ≤ 3 := by split <;> decide
    rw [rngL_length] at h31
    refine SVs.freeze (i := 4) (c := γ0.length) (ds := fs.map PyData.int) rfl (at_last hc k3 _) ?_
    rw [at_setl hc]
    apply svs_retE
    refine EE.of (ev_name v4.r rfl) ?_
    have hF := fin_at_junk (junk := [Cell.dead]) hc hγ (hP fs k3 hC h30 (by omega))
    rw [at_len] at hF
    exact hF
theorem ok_flows {P : Program} {w : World} {K : PySem.W.Frag} {mg : Str → Option Value} {base : Heap} (g0 : G0 mg)
    (D_drawn : FnD P w K mg base "_law_drawn" 1 S_drawn)
    (D_way_back : FnD P w K mg base "_law_way_back" 1 S_way_back)
    {f : Addr} {fd : FuncData} (F : Fun K "_law_flows" "_law_flows" s_flows f fd) (hm : mg "_law_flows" = some (.ref f)) : FnD P w K mg base "_law_flows" 2 S_flows :=
  def_ok F sc_flows hm (F.binds (ps := ["_law_script", "_law_at", "_law_many", "_law_arcs"]) fun _ _ _ _ _ _ us hl => match us, hl with | [_, _, _, _], _ => rfl) (fun args γ P h => len_flows h)
    fun X c args γ Po hγ hS => body_flows g0 D_drawn D_way_back c hγ hS
end KK

namespace KK
open PySem PySem.Spec PyProof.Rows L2 PL M3
local macro_rules | `(tactic| tm_at "nm") => `(tactic| with_reducible first | assumption | exact Nm.r (by assumption))
local macro_rules | `(tactic| tm_at "bt") => `(tactic| with_reducible assumption)
local macro_rules | `(tactic| tm_at "asm") => `(tactic| assumption)
local macro_rules | `(tactic| tm_at "auto") => `(tactic| first | rfl | exact fun _ _ => rfl | (intro _; rfl) | decide | exact nomark _ | (with_unfolding_all rfl))
local macro_rules | `(tactic| tm_at "boot") => `(tactic| decide +kernel)
local macro_rules | `(tactic| tm_at "kit") => `(tactic| first | exact kit_int _ | exact kit_bool _ | exact kit_str _ | exact kit_list _ | exact kit_tuple _ | exact kit_dict _)
local macro_rules | `(tactic| tm_at "side") => `(tactic| first | assumption | decide | omega | (simp only [List.length_map, List.length_cons, List.length_nil, List.length_append]; omega) | (simp; done))
local macro_rules | `(tactic| tm_at "pos") => `(tactic| first | decide | assumption | exact Int.pow_pos (by decide) | omega)
local macro_rules | `(tactic| tm_at "mul") => `(tactic| first | assumption | (exact small_mul 200 200 (by omega) (by omega)))
local macro_rules | `(tactic| tm_at "div") => `(tactic| first | assumption | (exact wide_div (b := 200) (by omega) (by omega) (by decide) (by decide)))
local macro_rules | `(tactic| tm_at "pow") => `(tactic| (refine ⟨?_, ?_, ?_⟩ <;> decide))
local macro_rules | `(tactic| tm_at "rd") => `(tactic| first | exact Rdb.fz _ | exact Rdb.cl (by assumption) | exact Rdb.cl rfl)
local macro_rules | `(tactic| tm_at "rdl") => `(tactic| first | exact .inr rfl | exact .inl (by tm_at "rd"))
local macro_rules | `(tactic| tm_at "ix") => `(tactic| first | assumption | exact ix_0 | exact ix_1 | exact ix_2 | exact ix_3 | exact ix_4 | rfl)
local macro_rules | `(tactic| tm_at "cmp") => `(tactic| first | exact cmp_lt | exact cmp_le | exact cmp_gt | exact cmp_ge | exact cmp_eqI | exact cmp_neI | exact cmp_eqS | exact cmp_neS | exact cmp_isB | exact cmp_notB | exact cmp_isN | exact cmp_notN | exact cmp_eqB | exact cmp_neB)
local macro_rules | `(tactic| tm_at "intro") => `(tactic| (intro _; tm_at "e"))
local macro_rules | `(tactic| tm_at "introe") => `(tactic| (intro _; tm_at "e"))
local macro_rules | `(tactic| tm_at "introw") => `(tactic| (intro _; tm_at "w"))
local macro_rules | `(tactic| tm_at "a") => `(tactic| first
  | exact av_nil
  | (apply av_cons; (focus tm_at "e"); (focus tm_at "a"); (focus tm_at "auto")))
local macro_rules | `(tactic| tm_at "alli") => `(tactic| (repeat (first | exact all_nil | (refine all_cons ⟨_, rfl, ?_, ?_⟩ ?_; (focus omega); (focus omega)))))
local macro_rules | `(tactic| tm_at "afz") => `(tactic| first
  | exact av_nilF
  | (apply av_consF; (focus tm_at "e"); (focus tm_at "afz"); (focus tm_at "auto")))
local macro_rules | `(tactic| tm_at "o") => `(tactic| first
  | exact ov_none
  | (apply ov_some; (focus tm_at "e")))
local macro_rules | `(tactic| tm_at "e") => `(tactic| ((with_reducible show EV _ _ _ (Expr.Tuple _ _ _) _ _); first | (apply ev_tup; (focus tm_at "afz"); (focus tm_at "side"))))
local macro_rules | `(tactic| tm_at "e") => `(tactic| ((with_reducible show EV _ _ _ (Expr.List _ _) _ _); first | (apply ev_lst; (focus tm_at "afz"); (focus tm_at "side"))))
local macro_rules | `(tactic| tm_at "e") => `(tactic| ((with_reducible show EV _ _ _ (Expr.Call (Expr.Name _ _) _ _ _) _ _); first | (apply ev_lenL; (focus tm_at "bt"); (focus tm_at "e"); (focus tm_at "rd"); (focus tm_at "auto")) | (apply ev_lenC; (focus tm_at "bt"); (focus tm_at "e"); (focus tm_at "ix"); (focus tm_at "auto")) | (apply ev_lenT; (focus tm_at "bt"); (focus tm_at "e"); (focus tm_at "auto")) | (apply ev_lenS; (focus tm_at "bt"); (focus tm_at "e"); (focus tm_at "side"); (focus tm_at "auto")) | (apply ev_max2; (focus tm_at "asm"); (focus tm_at "bt"); (focus tm_at "e"); (focus tm_at "e"); (focus tm_at "auto"); (focus tm_at "auto"); (focus tm_at "auto")) | (apply ev_min2; (focus tm_at "asm"); (focus tm_at "bt"); (focus tm_at "e"); (focus tm_at "e"); (focus tm_at "auto"); (focus tm_at "auto"); (focus tm_at "auto")) | (apply ev_intB; (focus tm_at "bt"); (focus tm_at "e"); (focus tm_at "auto")) | (apply ev_intI; (focus tm_at "bt"); (focus tm_at "e"); (focus tm_at "auto")) | (apply ev_abs; (focus tm_at "bt"); (focus tm_at "e"); (focus tm_at "auto")) | (apply ev_sum; (focus tm_at "asm"); (focus tm_at "bt"); (focus tm_at "e"); (focus tm_at "rd"); (focus tm_at "auto")) | (apply ev_listF; (focus tm_at "bt"); (focus tm_at "e"); (focus tm_at "rdl"); (focus tm_at "auto")) | (apply ev_isi; (focus tm_at "bt"); (focus tm_at "bt"); (focus tm_at "boot"); (focus tm_at "e"); (focus tm_at "rd"); (focus tm_at "kit"); (focus tm_at "auto"); (focus tm_at "auto"); (focus tm_at "auto"); (focus tm_at "auto"); (focus tm_at "auto"))))
local macro_rules | `(tactic| tm_at "e") => `(tactic| ((with_reducible show EV _ _ _ (Expr.BoolOp BoolOp.Or _ _) _ _); first | (apply ev_or; (focus tm_at "e"); (focus tm_at "introe"))))
local macro_rules | `(tactic| tm_at "e") => `(tactic| ((with_reducible show EV _ _ _ (Expr.BoolOp BoolOp.And _ _) _ _); first | (apply ev_and; (focus tm_at "e"); (focus tm_at "introe"))))
local macro_rules | `(tactic| tm_at "e") => `(tactic| ((with_reducible show EV _ _ _ (Expr.BoolOp _ [_] _) _ _); first | (apply ev_one; (focus tm_at "e"))))
local macro_rules | `(tactic| tm_at "e") => `(tactic| ((with_reducible show EV _ _ _ (Expr.IfExp _ _ _ _) _ _); first | (apply ev_ifx; (focus tm_at "t"); (focus tm_at "intro"); (focus tm_at "intro"))))
local macro_rules | `(tactic| tm_at "e") => `(tactic| ((with_reducible show EV _ _ _ (Expr.Compare _ [_, _] [_, _] _) _ _); first | (apply ev_chain2; (focus tm_at "e"); (focus tm_at "e"); (focus tm_at "cmp"); (focus tm_at "e"); (focus tm_at "cmp"); (focus tm_at "auto"))))
local macro_rules | `(tactic| tm_at "e") => `(tactic| ((with_reducible show EV _ _ _ (Expr.Compare _ [_] [_] _) _ _); first | (apply ev_cmp; (focus tm_at "e"); (focus tm_at "e"); (focus tm_at "cmp"); (focus tm_at "auto"))))
local macro_rules | `(tactic| tm_at "e") => `(tactic| ((with_reducible show EV _ _ _ (Expr.UnaryOp UnaryOp.Not _ _) _ _); first | (apply ev_not; (focus tm_at "e"))))
local macro_rules | `(tactic| tm_at "e") => `(tactic| ((with_reducible show EV _ _ _ (Expr.UnaryOp UnaryOp.USub _ _) _ _); first | (apply ev_neg; (focus tm_at "e"))))
local macro_rules | `(tactic| tm_at "e") => `(tactic| ((with_reducible show EV _ _ _ (Expr.Subscript _ _ _) _ _); first | (apply ev_ixL; (focus tm_at "e"); (focus tm_at "e"); (focus tm_at "rd"); (focus tm_at "ix"); (focus tm_at "auto")) | (apply ev_ixT; (focus tm_at "e"); (focus tm_at "e"); (focus tm_at "ix"); (focus tm_at "auto")) | (apply ev_ixC; (focus tm_at "e"); (focus tm_at "e"); (focus tm_at "ix"); (focus tm_at "ix"); (focus tm_at "auto")) | (apply ev_ixP; (focus tm_at "e"); (focus tm_at "e"); (focus tm_at "ix"); (focus tm_at "auto"))))
local macro_rules | `(tactic| tm_at "e") => `(tactic| ((with_reducible show EV _ _ _ (Expr.Subscript _ (Expr.Slice _ _ _ _) _) _ _); first | (apply ev_slL; (focus tm_at "e"); (focus tm_at "o"); (focus tm_at "o"); (focus tm_at "rd")) | (apply ev_slT; (focus tm_at "e"); (focus tm_at "o"); (focus tm_at "o"); (focus tm_at "side"))))
local macro_rules | `(tactic| tm_at "e") => `(tactic| ((with_reducible show EV _ _ _ (Expr.BinOp _ Operator.Pow _ _) _ _); first | (apply ev_pow; (focus tm_at "e"); (focus tm_at "e"); (focus tm_at "pow"))))
local macro_rules | `(tactic| tm_at "e") => `(tactic| ((with_reducible show EV _ _ _ (Expr.BinOp _ Operator.FloorDiv _ _) _ _); first | (apply ev_div; (focus tm_at "e"); (focus tm_at "e"); (focus tm_at "div"))))
local macro_rules | `(tactic| tm_at "e") => `(tactic| ((with_reducible show EV _ _ _ (Expr.BinOp _ Operator.Mod _ _) _ _); first | (apply ev_mod; (focus tm_at "e"); (focus tm_at "e"); (focus tm_at "pos"))))
local macro_rules | `(tactic| tm_at "e") => `(tactic| ((with_reducible show EV _ _ _ (Expr.BinOp _ Operator.Mult _ _) _ _); first | (apply ev_mul; (focus tm_at "e"); (focus tm_at "e"); (focus tm_at "mul")) | (apply ev_repF; (focus tm_at "afz"); (focus tm_at "e"); (focus tm_at "side"); (focus tm_at "side"); (focus tm_at "side"))))
local macro_rules | `(tactic| tm_at "e") => `(tactic| ((with_reducible show EV _ _ _ (Expr.BinOp _ Operator.Sub _ _) _ _); first | (apply ev_sub; (focus tm_at "e"); (focus tm_at "e"))))
local macro_rules | `(tactic| tm_at "e") => `(tactic| ((with_reducible show EV _ _ _ (Expr.BinOp _ Operator.Add _ _) _ _); first | (apply ev_add; (focus tm_at "e"); (focus tm_at "e")) | (apply ev_catF; (focus tm_at "e"); (focus tm_at "e"); (focus tm_at "rd"); (focus tm_at "rd"); (focus tm_at "side")) | (apply ev_addS; (focus tm_at "e"); (focus tm_at "e"); (focus tm_at "side")) | (apply ev_catT; (focus tm_at "e"); (focus tm_at "e"); (focus tm_at "side"))))
local macro_rules | `(tactic| tm_at "e") => `(tactic| ((with_reducible show EV _ _ _ (Expr.Name _ _) _ _); first | (apply ev_name; (focus tm_at "nm"); (focus rfl))))
local macro_rules | `(tactic| tm_at "e") => `(tactic| ((with_reducible show EV _ _ _ (Expr.Constant _ _ _) _ _); first | exact ev_int | exact ev_bl | exact ev_str | exact ev_non))
local macro_rules | `(tactic| tm_at "t") => `(tactic| ((with_reducible show TV _ _ _ _ _ _); first | (apply tv_val; (focus tm_at "e"); (focus tm_at "auto")) | (apply tv_truthL; (focus tm_at "e"); (focus tm_at "rd"); (focus tm_at "auto")) | (apply tv_truthI; (focus tm_at "e"); (focus tm_at "auto"))))
local macro_rules | `(tactic| tm_at "t") => `(tactic| ((with_reducible show TV _ _ _ (Expr.BoolOp _ _ _) _ _); first | (apply tv_w; (focus tm_at "w"))))
local macro_rules | `(tactic| tm_at "t") => `(tactic| ((with_reducible show TV _ _ _ (Expr.UnaryOp UnaryOp.Not _ _) _ _); first | (apply tv_not; (focus tm_at "t"))))
local macro_rules | `(tactic| tm_at "t") => `(tactic| ((with_reducible show TV _ _ _ (Expr.Compare _ [_, _] [_, _] _) _ _); first | (apply tv_chain2; (focus tm_at "e"); (focus tm_at "e"); (focus tm_at "cmp"); (focus tm_at "e"); (focus tm_at "cmp"); (focus tm_at "auto"))))
local macro_rules | `(tactic| tm_at "t") => `(tactic| ((with_reducible show TV _ _ _ (Expr.Compare _ [_] [_] _) _ _); first | (apply tv_cmp; (focus tm_at "e"); (focus tm_at "e"); (focus tm_at "cmp"); (focus tm_at "auto"))))
local macro_rules | `(tactic| tm_at "w") => `(tactic| ((with_reducible show WV _ _ _ (Expr.BoolOp BoolOp.Or _ _) _ _); first | (apply wv_or; (focus tm_at "t"); (focus tm_at "introw"))))
local macro_rules | `(tactic| tm_at "w") => `(tactic| ((with_reducible show WV _ _ _ (Expr.BoolOp BoolOp.And _ _) _ _); first | (apply wv_and; (focus tm_at "t"); (focus tm_at "introw"))))
local macro_rules | `(tactic| tm_at "w") => `(tactic| ((with_reducible show WV _ _ _ (Expr.BoolOp BoolOp.Or [_] _) _ _); first | (apply wv_or1; (focus tm_at "t"))))
local macro_rules | `(tactic| tm_at "w") => `(tactic| ((with_reducible show WV _ _ _ (Expr.BoolOp BoolOp.And [_] _) _ _); first | (apply wv_and1; (focus tm_at "t"))))

/-! ### what the program answers -/
structure Net (many : Int) (as : List Arc) : Prop where
  m0 : 0 ≤ many
  m1 : many ≤ 30
  len : as.length ≤ 63
  all : ∀ a ∈ as, GoodA many a
theorem Good.net {many as} (h : Good many as) : Net many as := ⟨by have := h.m0; omega, h.m1, h.len, h.all⟩
def inn (as : List Arc) (fs : List Int) (p : Int) : Nat → Int
  | 0 => 0
  | t + 1 => inn as fs p t + (if (ar as t).2.1 = p then fs.getD t 0 else 0)
def out (as : List Arc) (fs : List Int) (p : Int) : Nat → Int
  | 0 => 0
  | t + 1 => out as fs p t + (if (ar as t).1 = p then fs.getD t 0 else 0)
def OkF (as : List Arc) (fs : List Int) (t : Nat) : Prop := 0 ≤ fs.getD t 0 ∧ fs.getD t 0 ≤ (ar as t).2.2.1
instance (as fs t) : Decidable (OkF as fs t) := inferInstanceAs (Decidable (_ ∧ _))
def CircP (many : Int) (as : List Arc) (fs : List Int) : Prop := fs.length = as.length ∧ (∀ t, t < as.length → OkF as fs t) ∧ ∀ p : Nat, p < many.toNat → inn as fs (p : Int) as.length = out as fs (p : Int) as.length
instance (many as fs) : Decidable (CircP many as fs) := inferInstanceAs (Decidable (_ ∧ _ ∧ _))
def S_whole : PSpec := fun args γ P => ∃ a b c : Int, args = [.fz (.int a), .fz (.int b), .fz (.int c)] ∧ P (.fz (.bool (decide (b ≤ a) && decide (a ≤ c)))) γ
abbrev S_is_whole := S_whole
theorem len_is_whole {args γ P} (h : S_is_whole args γ P) : args.length = 3 := by obtain ⟨a, b, c, rfl, _⟩ := h; rfl
set_option maxHeartbeats 8000000 in
theorem body_is_whole {P : Program} {w : World} {K : PySem.W.Frag} {mg : Str → Option Value} {base : Heap} (g0 : G0 mg)
    {X : Cx} (c : Ctx X P w K mg base N_is_whole (defScope s_is_whole) 0) {args : List Itm} {γ : Cells} {Po : EPost} (hγ : Clo γ) (hS : S_is_whole args γ Po) :
    SVs X (slots0 N_is_whole args) γ (defBody s_is_whole) { nx := fun _ g => PL.Fin γ.length Po (.fz .none) g, rt := PL.Fin γ.length Po } := by
  have hX := c.ok
  have hp := c.po
  have v0 : Nm X "thing" 0 .local := c.nm 0 .local rfl (by decide +kernel) (.inl rfl) (by decide +kernel) (by decide +kernel)
  have v1 : Nm X "least" 1 .local := c.nm 1 .local rfl (by decide +kernel) (.inl rfl) (by decide +kernel) (by decide +kernel)
  have v2 : Nm X "most" 2 .local := c.nm 2 .local rfl (by decide +kernel) (.inl rfl) (by decide +kernel) (by decide +kernel)
  have b_isinstance : Bt X "isinstance" := c.bt (by decide +kernel) g0.b_isinstance
  have b_int : Bt X "int" := c.bt (by decide +kernel) g0.b_int
  have b_bool : Bt X "bool" := c.bt (by decide +kernel) g0.b_bool
  obtain ⟨a, b, cc, rfl, hP⟩ := hS
  refine svs_if (γ1 := γ) (k := !isI (.int a) || isB (.int a)) (tv_w (wv_or (tv_not (tv_val (ev_isi b_isinstance b_int (by decide +kernel) (ev_name v0.r rfl) (Rdb.fz _) (kit_int _)))) fun _ => wv_or1 (tv_val (ev_isi b_isinstance b_bool (by decide +kernel) (ev_name v0.r rfl) (Rdb.fz _) (kit_bool _))))) (fun h => by cases h) (fun _ => ?_)
  apply svs_nil
  apply svs_retE
  apply EE.of
  · tm_at "e"
  exact fin_same hγ hP
theorem ok_is_whole {P : Program} {w : World} {K : PySem.W.Frag} {mg : Str → Option Value} {base : Heap} (g0 : G0 mg)
    {f : Addr} {fd : FuncData} (F : Fun K "is_whole" "is_whole" s_is_whole f fd) (hm : mg "is_whole" = some (.ref f)) : FnD P w K mg base "is_whole" 1 S_is_whole :=
  def_ok F sc_is_whole hm (F.binds (ps := ["thing", "least", "most"]) fun _ _ _ _ _ _ us hl => match us, hl with | [_, _, _], _ => rfl) (fun args γ P h => len_is_whole h)
    fun X c args γ Po hγ hS => body_is_whole g0  c hγ hS
def S_circ : PSpec := fun args γ P => ∃ (many : Int) (as : List Arc) (fs : List Int), args = [.fz (.int many), .fz (dArcs as), .fz (.list (fs.map .int))] ∧ Net many as ∧ fs.length ≤ 1000 ∧ P (.fz (.bool (decide (CircP many as fs)))) γ
abbrev S_circling := S_circ
abbrev S_is_circling := S_circ
theorem len_circling {args γ P} (h : S_circling args γ P) : args.length = 3 := by obtain ⟨a, b, c, rfl, _⟩ := h; rfl
theorem len_is_circling {args γ P} (h : S_is_circling args γ P) : args.length = 3 := by obtain ⟨a, b, c, rfl, _⟩ := h; rfl
theorem sum_inn (as : List Arc) (fs : List Int) (p : Int) : ∀ n, (((List.range n).filter fun i => decide ((ar as i).2.1 = p)).map fun i => fs.getD i 0).sum = inn as fs p n
  | 0 => rfl
  | n + 1 => by
    rw [List.range_succ, List.filter_append, List.map_append, List.sum_append, sum_inn as fs p n]
    show _ = inn as fs p n + (if (ar as n).2.1 = p then fs.getD n 0 else 0)
    by_cases h : (ar as n).2.1 = p <;> simp [h]
theorem sum_out (as : List Arc) (fs : List Int) (p : Int) : ∀ n, (((List.range n).filter fun i => decide ((ar as i).1 = p)).map fun i => fs.getD i 0).sum = out as fs p n
  | 0 => rfl
  | n + 1 => by
    rw [List.range_succ, List.filter_append, List.map_append, List.sum_append, sum_out as fs p n]
    show _ = out as fs p n + (if (ar as n).1 = p then fs.getD n 0 else 0)
    by_cases h : (ar as n).1 = p <;> simp [h]
set_option maxHeartbeats 8000000 in
theorem body_circling {P : Program} {w : World} {K : PySem.W.Frag} {mg : Str → Option Value} {base : Heap} (g0 : G0 mg)
    {X : Cx} (c : Ctx X P w K mg base N_circling (defScope s_circling) 0) {args : List Itm} {γ : Cells} {Po : EPost} (hγ : Clo γ) (hS : S_circling args γ Po) :
    SVs X (slots0 N_circling args) γ (defBody s_circling) { nx := fun _ g => PL.Fin γ.length Po (.fz .none) g, rt := PL.Fin γ.length Po } := by
  have hX := c.ok
  have hp := c.po
  have v0 : Nm X "_law_many" 0 .local := c.nm 0 .local rfl (by decide +kernel) (.inl rfl) (by decide +kernel) (by decide +kernel)
  have v1 : Nm X "_law_arcs" 1 .cell := c.nm 1 .cell rfl (by decide +kernel) (.inr rfl) (by decide +kernel) (by decide +kernel)
  have v2 : Nm X "_law_flows_here" 2 .cell := c.nm 2 .cell rfl (by decide +kernel) (.inr rfl) (by decide +kernel) (by decide +kernel)
  have v3 : Nm X "_law_k" 3 .local := c.nm 3 .local rfl (by decide +kernel) (.inl rfl) (by decide +kernel) (by decide +kernel)
  have v4 : Nm X "_law_place" 4 .cell := c.nm 4 .cell rfl (by decide +kernel) (.inr rfl) (by decide +kernel) (by decide +kernel)
  have v5 : Nm X "_law_come" 5 .local := c.nm 5 .local rfl (by decide +kernel) (.inl rfl) (by decide +kernel) (by decide +kernel)
  have v6 : Nm X "_law_gone" 6 .local := c.nm 6 .local rfl (by decide +kernel) (.inl rfl) (by decide +kernel) (by decide +kernel)
  have b_len : Bt X "len" := c.bt (by decide +kernel) g0.b_len
  have b_range : Bt X "range" := c.bt (by decide +kernel) g0.b_range
  have b_sum : Bt X "sum" := c.bt (by decide +kernel) g0.b_sum
  obtain ⟨many, as, fs, rfl, hN, hfl, hP⟩ := hS
  have hlen := hN.len
  refine svs_if (tv_cmp (ev_lenL b_len (ev_name v2.r rfl) (Rdb.fz _)) (ev_lenL b_len (ev_name v1.r rfl) (Rdb.fz _)) cmp_neI) (fun h => ?_) (fun h => svs_nil ?_)
  · apply svs_retE
    refine EE.of ev_bl ?_
    have hn : ¬ CircP many as fs := fun q => by
      rw [List.length_map, List.length_map, q.1] at h
      simp at h
    rw [decide_eq_false hn] at hP
    exact fin_same hγ hP
  · have hl : fs.length = as.length := by
      rw [List.length_map, List.length_map] at h
      have : (fs.length : Int) = as.length := by simpa using h
      omega
    refine svs_for hX hp (itv_range1 b_range (ev_lenL b_len (ev_name v1.r rfl) (Rdb.fz _)) (by rw [List.length_map]; omega) (by rw [List.length_map]; omega))
      (fun i Γ' γ' => ∃ s3, Γ' = [some (.fz (.int many)), some (.fz (dArcs as)), some (.fz (.list (fs.map .int))), s3, none, none, none] ∧ γ' = γ ∧ ∀ t, t < i → OkF as fs t)
      ⟨_, rfl, rfl, fun t ht => by omega⟩ (fun _ _ _ _ _ => trivial) ?_ ?_
    · rintro i x Γ' γ' hx ⟨s3, rfl, rfl, hok⟩
      obtain ⟨hi, rfl⟩ := rngL_get hx
      rw [List.length_map] at hi
      have hi : i < as.length := by omega
      refine ⟨_, _, gv_name hX v3, ?_⟩
      rw [Int.zero_add]
      refine svs_if (tv_w (wv_or (tv_cmp (ev_ixL (ev_name v2.r rfl) (ev_name v3.r rfl) (Rdb.fz _) (atInts (by omega))) ev_int cmp_lt) fun _ => wv_or1 (tv_cmp (ev_ixL (ev_name v2.r rfl) (ev_name v3.r rfl) (Rdb.fz _) (atInts (by omega))) (ev_ixT (ev_ixL (ev_name v1.r rfl) (ev_name v3.r rfl) (Rdb.fz _) (atArc hi)) ev_int ix_2) cmp_gt))) (fun ht => ?_) (fun ht => svs_nil (svs_nil ⟨_, rfl, rfl, fun t htt => ?_⟩))
      · apply svs_retE
        refine EE.of ev_bl ?_
        have hn : ¬ CircP many as fs := fun q => by
          have := q.2.1 i hi
          unfold OkF at this
          rw [Bool.or_eq_true, decide_eq_true_eq, decide_eq_true_eq] at ht
          omega
        rw [decide_eq_false hn] at hP
        exact fin_same hγ hP
      · by_cases e : t = i
        · subst e
          rw [Bool.or_eq_false_iff, decide_eq_false_iff_not, decide_eq_false_iff_not] at ht
          exact ⟨by omega, by omega⟩
        · exact hok t (by omega)
    · rintro Γ' γ' ⟨s3, rfl, rfl, hok⟩
      rw [rngL_length, List.length_map] at hok
      refine svs_for hX hp (itv_range1 b_range (ev_name v0.r rfl) (by have := hN.m1; omega) (by have := hN.m0; omega))
        (fun i Γ' g => ∃ s3 s4 s5 s6, Γ' = [some (.fz (.int many)), some (.fz (dArcs as)), some (.fz (.list (fs.map .int))), s3, s4, s5, s6] ∧ g = γ' ∧ ∀ p : Nat, p < i → inn as fs (p : Int) as.length = out as fs (p : Int) as.length)
        ⟨_, _, _, _, rfl, rfl, fun t ht => by omega⟩ (fun _ _ _ _ _ => trivial) ?_ ?_
      · rintro i x Γ' γ hx ⟨s3, s4, s5, s6, rfl, rfl, hb⟩
        obtain ⟨hi, rfl⟩ := rngL_get hx
        refine ⟨_, _, gv_name hX v4, ?_⟩
        rw [Int.zero_add]
        refine svs_setLcN (w := 3) (fun t => decide ((ar as t).2.1 = (i : Int))) (fun t => .int (fs.getD t 0)) hX v5 rfl (by decide +kernel) (by rw [c.N, c.sc]; exact ⟨rfl, by decide +kernel, by decide +kernel, by decide +kernel, by decide +kernel⟩) (fun X' hB => ⟨hB.cok hX rfl, hB.own (by rw [c.N]; rfl) (by decide +kernel) (by decide +kernel) (by decide +kernel)⟩) (itv_range1 b_range (ev_lenL b_len (ev_name v1.r rfl) (Rdb.fz _)) (by rw [List.length_map]; omega) (by rw [List.length_map]; omega)) (fun _ => trivial) (by rw [rngL_length, List.length_map]; omega) ?_ ?_
        · intro t x acc hx X' hB
          obtain ⟨ht, rfl⟩ := rngL_get hx
          rw [List.length_map] at ht
          have ht : t < as.length := by omega
          rw [Int.zero_add]
          have hX_X' := hB.cok hX rfl
          have w3_X' : Nm X' "_law_k" 3 .local := hB.own (by rw [c.N]; rfl) (by decide +kernel) (by decide +kernel) (by decide +kernel)
          have w1_X' : Nr X' "_law_arcs" 1 .cell := hB.cap hX v1.r (by decide +kernel)
          have w2_X' : Nr X' "_law_flows_here" 2 .cell := hB.cap hX v2.r (by decide +kernel)
          have w4_X' : Nr X' "_law_place" 4 .cell := hB.cap hX v4.r (by decide +kernel)
          exact ⟨tvs_one (tv_cmp (ev_ixT (ev_ixL (ev_name w1_X' rfl) (ev_name w3_X'.r rfl) (Rdb.fz _) (atArc ht)) ev_int ix_1) (ev_name w4_X' rfl) cmp_eqI), fun _ => ev_ixL (ev_name w2_X' rfl) (ev_name w3_X'.r rfl) (Rdb.fz _) (atInts (by omega))⟩
        refine svs_setLcN (w := 3) (fun t => decide ((ar as t).1 = (i : Int))) (fun t => .int (fs.getD t 0)) hX v6 rfl (by decide +kernel) (by rw [c.N, c.sc]; exact ⟨rfl, by decide +kernel, by decide +kernel, by decide +kernel, by decide +kernel⟩) (fun X' hB => ⟨hB.cok hX rfl, hB.own (by rw [c.N]; rfl) (by decide +kernel) (by decide +kernel) (by decide +kernel)⟩) (itv_range1 b_range (ev_lenL b_len (ev_name v1.r rfl) (Rdb.fz _)) (by rw [List.length_map]; omega) (by rw [List.length_map]; omega)) (fun _ => trivial) (by rw [rngL_length, List.length_map]; omega) ?_ ?_
        · intro t x acc hx X' hB
          obtain ⟨ht, rfl⟩ := rngL_get hx
          rw [List.length_map] at ht
          have ht : t < as.length := by omega
          rw [Int.zero_add]
          have hX_X' := hB.cok hX rfl
          have w3_X' : Nm X' "_law_k" 3 .local := hB.own (by rw [c.N]; rfl) (by decide +kernel) (by decide +kernel) (by decide +kernel)
          have w1_X' : Nr X' "_law_arcs" 1 .cell := hB.cap hX v1.r (by decide +kernel)
          have w2_X' : Nr X' "_law_flows_here" 2 .cell := hB.cap hX v2.r (by decide +kernel)
          have w4_X' : Nr X' "_law_place" 4 .cell := hB.cap hX v4.r (by decide +kernel)
          exact ⟨tvs_one (tv_cmp (ev_ixT (ev_ixL (ev_name w1_X' rfl) (ev_name w3_X'.r rfl) (Rdb.fz _) (atArc ht)) ev_int ix_0) (ev_name w4_X' rfl) cmp_eqI), fun _ => ev_ixL (ev_name w2_X' rfl) (ev_name w3_X'.r rfl) (Rdb.fz _) (atInts (by omega))⟩
        have e1 : ∀ k : Nat → Bool, picked k (fun t => .int (fs.getD t 0)) (rngL 0 ((as.map dArc).length : Int).toNat).length = ((((List.range as.length).filter k).map fun i => fs.getD i 0).map PyData.int) := fun k => by
          rw [rngL_length, List.length_map, show ((as.length : Int)).toNat = as.length by omega]
          unfold picked
          rw [List.map_map]; rfl
        rw [e1, e1]
        refine svs_if (tv_cmp (ev_sum hX b_sum (ev_name v5.r rfl) (Rdb.fz _)) (ev_sum hX b_sum (ev_name v6.r rfl) (Rdb.fz _)) cmp_neI) (fun ht => ?_) (fun ht => svs_nil (svs_nil ⟨_, _, _, _, rfl, rfl, fun p hpi => ?_⟩))
        · rw [sum_inn, sum_out] at ht
          apply svs_retE
          refine EE.of ev_bl ?_
          have hn : ¬ CircP many as fs := fun q => by
            have := q.2.2 i hi
            rw [this] at ht
            simp at ht
          rw [decide_eq_false hn] at hP
          exact fin_same hγ hP
        · by_cases e : p = i
          · subst e
            rw [sum_inn, sum_out] at ht
            simpa using ht
          · exact hb p (by omega)
      · rintro Γ' γ ⟨s3, s4, s5, s6, rfl, rfl, hb⟩
        rw [rngL_length] at hb
        apply svs_retE
        refine EE.of ev_bl ?_
        have hn : CircP many as fs := ⟨hl, fun t ht => hok t (by omega), hb⟩
        rw [decide_eq_true hn] at hP
        exact fin_same hγ hP
theorem ok_circling {P : Program} {w : World} {K : PySem.W.Frag} {mg : Str → Option Value} {base : Heap} (g0 : G0 mg)
    {f : Addr} {fd : FuncData} (F : Fun K "_law_circling" "_law_circling" s_circling f fd) (hm : mg "_law_circling" = some (.ref f)) : FnD P w K mg base "_law_circling" 1 S_circling :=
  def_ok F sc_circling hm (F.binds (ps := ["_law_many", "_law_arcs", "_law_flows_here"]) fun _ _ _ _ _ _ us hl => match us, hl with | [_, _, _], _ => rfl) (fun args γ P h => len_circling h)
    fun X c args γ Po hγ hS => body_circling g0  c hγ hS
end KK

namespace KK
open PySem PySem.Spec PyProof.Rows L2 PL M3
local macro_rules | `(tactic| tm_at "nm") => `(tactic| with_reducible first | assumption | exact Nm.r (by assumption))
local macro_rules | `(tactic| tm_at "bt") => `(tactic| with_reducible assumption)
local macro_rules | `(tactic| tm_at "asm") => `(tactic| assumption)
local macro_rules | `(tactic| tm_at "auto") => `(tactic| first | rfl | exact fun _ _ => rfl | (intro _; rfl) | decide | exact nomark _ | (with_unfolding_all rfl))
local macro_rules | `(tactic| tm_at "boot") => `(tactic| decide +kernel)
local macro_rules | `(tactic| tm_at "kit") => `(tactic| first | exact kit_int _ | exact kit_bool _ | exact kit_str _ | exact kit_list _ | exact kit_tuple _ | exact kit_dict _)
local macro_rules | `(tactic| tm_at "side") => `(tactic| first | assumption | decide | omega | (simp only [List.length_map, List.length_cons, List.length_nil, List.length_append]; omega) | (simp; done))
local macro_rules | `(tactic| tm_at "pos") => `(tactic| first | decide | assumption | exact Int.pow_pos (by decide) | omega)
local macro_rules | `(tactic| tm_at "mul") => `(tactic| first | assumption | (exact small_mul 200 200 (by omega) (by omega)))
local macro_rules | `(tactic| tm_at "div") => `(tactic| first | assumption | (exact wide_div (b := 200) (by omega) (by omega) (by decide) (by decide)))
local macro_rules | `(tactic| tm_at "pow") => `(tactic| (refine ⟨?_, ?_, ?_⟩ <;> decide))
local macro_rules | `(tactic| tm_at "rd") => `(tactic| first | exact Rdb.fz _ | exact Rdb.cl (by assumption) | exact Rdb.cl rfl)
local macro_rules | `(tactic| tm_at "rdl") => `(tactic| first | exact .inr rfl | exact .inl (by tm_at "rd"))
local macro_rules | `(tactic| tm_at "ix") => `(tactic| first | assumption | exact ix_0 | exact ix_1 | exact ix_2 | exact ix_3 | exact ix_4 | rfl)
local macro_rules | `(tactic| tm_at "cmp") => `(tactic| first | exact cmp_lt | exact cmp_le | exact cmp_gt | exact cmp_ge | exact cmp_eqI | exact cmp_neI | exact cmp_eqS | exact cmp_neS | exact cmp_isB | exact cmp_notB | exact cmp_isN | exact cmp_notN | exact cmp_eqB | exact cmp_neB)
local macro_rules | `(tactic| tm_at "intro") => `(tactic| (intro _; tm_at "e"))
local macro_rules | `(tactic| tm_at "introe") => `(tactic| (intro _; tm_at "e"))
local macro_rules | `(tactic| tm_at "introw") => `(tactic| (intro _; tm_at "w"))
local macro_rules | `(tactic| tm_at "a") => `(tactic| first
  | exact av_nil
  | (apply av_cons; (focus tm_at "e"); (focus tm_at "a"); (focus tm_at "auto")))
local macro_rules | `(tactic| tm_at "alli") => `(tactic| (repeat (first | exact all_nil | (refine all_cons ⟨_, rfl, ?_, ?_⟩ ?_; (focus omega); (focus omega)))))
local macro_rules | `(tactic| tm_at "afz") => `(tactic| first
  | exact av_nilF
  | (apply av_consF; (focus tm_at "e"); (focus tm_at "afz"); (focus tm_at "auto")))
local macro_rules | `(tactic| tm_at "o") => `(tactic| first
  | exact ov_none
  | (apply ov_some; (focus tm_at "e")))
local macro_rules | `(tactic| tm_at "e") => `(tactic| ((with_reducible show EV _ _ _ (Expr.Tuple _ _ _) _ _); first | (apply ev_tup; (focus tm_at "afz"); (focus tm_at "side"))))
local macro_rules | `(tactic| tm_at "e") => `(tactic| ((with_reducible show EV _ _ _ (Expr.List _ _) _ _); first | (apply ev_lst; (focus tm_at "afz"); (focus tm_at "side"))))
local macro_rules | `(tactic| tm_at "e") => `(tactic| ((with_reducible show EV _ _ _ (Expr.Call (Expr.Name _ _) _ _ _) _ _); first | (apply ev_lenL; (focus tm_at "bt"); (focus tm_at "e"); (focus tm_at "rd"); (focus tm_at "auto")) | (apply ev_lenC; (focus tm_at "bt"); (focus tm_at "e"); (focus tm_at "ix"); (focus tm_at "auto")) | (apply ev_lenT; (focus tm_at "bt"); (focus tm_at "e"); (focus tm_at "auto")) | (apply ev_lenS; (focus tm_at "bt"); (focus tm_at "e"); (focus tm_at "side"); (focus tm_at "auto")) | (apply ev_max2; (focus tm_at "asm"); (focus tm_at "bt"); (focus tm_at "e"); (focus tm_at "e"); (focus tm_at "auto"); (focus tm_at "auto"); (focus tm_at "auto")) | (apply ev_min2; (focus tm_at "asm"); (focus tm_at "bt"); (focus tm_at "e"); (focus tm_at "e"); (focus tm_at "auto"); (focus tm_at "auto"); (focus tm_at "auto")) | (apply ev_intB; (focus tm_at "bt"); (focus tm_at "e"); (focus tm_at "auto")) | (apply ev_intI; (focus tm_at "bt"); (focus tm_at "e"); (focus tm_at "auto")) | (apply ev_abs; (focus tm_at "bt"); (focus tm_at "e"); (focus tm_at "auto")) | (apply ev_sum; (focus tm_at "asm"); (focus tm_at "bt"); (focus tm_at "e"); (focus tm_at "rd"); (focus tm_at "auto")) | (apply ev_listF; (focus tm_at "bt"); (focus tm_at "e"); (focus tm_at "rdl"); (focus tm_at "auto")) | (apply ev_isi; (focus tm_at "bt"); (focus tm_at "bt"); (focus tm_at "boot"); (focus tm_at "e"); (focus tm_at "rd"); (focus tm_at "kit"); (focus tm_at "auto"); (focus tm_at "auto"); (focus tm_at "auto"); (focus tm_at "auto"); (focus tm_at "auto"))))
local macro_rules | `(tactic| tm_at "e") => `(tactic| ((with_reducible show EV _ _ _ (Expr.BoolOp BoolOp.Or _ _) _ _); first | (apply ev_or; (focus tm_at "e"); (focus tm_at "introe"))))
local macro_rules | `(tactic| tm_at "e") => `(tactic| ((with_reducible show EV _ _ _ (Expr.BoolOp BoolOp.And _ _) _ _); first | (apply ev_and; (focus tm_at "e"); (focus tm_at "introe"))))
local macro_rules | `(tactic| tm_at "e") => `(tactic| ((with_reducible show EV _ _ _ (Expr.BoolOp _ [_] _) _ _); first | (apply ev_one; (focus tm_at "e"))))
local macro_rules | `(tactic| tm_at "e") => `(tactic| ((with_reducible show EV _ _ _ (Expr.IfExp _ _ _ _) _ _); first | (apply ev_ifx; (focus tm_at "t"); (focus tm_at "intro"); (focus tm_at "intro"))))
local macro_rules | `(tactic| tm_at "e") => `(tactic| ((with_reducible show EV _ _ _ (Expr.Compare _ [_, _] [_, _] _) _ _); first | (apply ev_chain2; (focus tm_at "e"); (focus tm_at "e"); (focus tm_at "cmp"); (focus tm_at "e"); (focus tm_at "cmp"); (focus tm_at "auto"))))
local macro_rules | `(tactic| tm_at "e") => `(tactic| ((with_reducible show EV _ _ _ (Expr.Compare _ [_] [_] _) _ _); first | (apply ev_cmp; (focus tm_at "e"); (focus tm_at "e"); (focus tm_at "cmp"); (focus tm_at "auto"))))
local macro_rules | `(tactic| tm_at "e") => `(tactic| ((with_reducible show EV _ _ _ (Expr.UnaryOp UnaryOp.Not _ _) _ _); first | (apply ev_not; (focus tm_at "e"))))
local macro_rules | `(tactic| tm_at "e") => `(tactic| ((with_reducible show EV _ _ _ (Expr.UnaryOp UnaryOp.USub _ _) _ _); first | (apply ev_neg; (focus tm_at "e"))))
local macro_rules | `(tactic| tm_at "e") => `(tactic| ((with_reducible show EV _ _ _ (Expr.Subscript _ _ _) _ _); first | (apply ev_ixL; (focus tm_at "e"); (focus tm_at "e"); (focus tm_at "rd"); (focus tm_at "ix"); (focus tm_at "auto")) | (apply ev_ixT; (focus tm_at "e"); (focus tm_at "e"); (focus tm_at "ix"); (focus tm_at "auto")) | (apply ev_ixC; (focus tm_at "e"); (focus tm_at "e"); (focus tm_at "ix"); (focus tm_at "ix"); (focus tm_at "auto")) | (apply ev_ixP; (focus tm_at "e"); (focus tm_at "e"); (focus tm_at "ix"); (focus tm_at "auto"))))
local macro_rules | `(tactic| tm_at "e") => `(tactic| ((with_reducible show EV _ _ _ (Expr.Subscript _ (Expr.Slice _ _ _ _) _) _ _); first | (apply ev_slL; (focus tm_at "e"); (focus tm_at "o"); (focus tm_at "o"); (focus tm_at "rd")) | (apply ev_slT; (focus tm_at "e"); (focus tm_at "o"); (focus tm_at "o"); (focus tm_at "side"))))
local macro_rules | `(tactic| tm_at "e") => `(tactic| ((with_reducible show EV _ _ _ (Expr.BinOp _ Operator.Pow _ _) _ _); first | (apply ev_pow; (focus tm_at "e"); (focus tm_at "e"); (focus tm_at "pow"))))
local macro_rules | `(tactic| tm_at "e") => `(tactic| ((with_reducible show EV _ _ _ (Expr.BinOp _ Operator.FloorDiv _ _) _ _); first | (apply ev_div; (focus tm_at "e"); (focus tm_at "e"); (focus tm_at "div"))))
local macro_rules | `(tactic| tm_at "e") => `(tactic| ((with_reducible show EV _ _ _ (Expr.BinOp _ Operator.Mod _ _) _ _); first | (apply ev_mod; (focus tm_at "e"); (focus tm_at "e"); (focus tm_at "pos"))))
local macro_rules | `(tactic| tm_at "e") => `(tactic| ((with_reducible show EV _ _ _ (Expr.BinOp _ Operator.Mult _ _) _ _); first | (apply ev_mul; (focus tm_at "e"); (focus tm_at "e"); (focus tm_at "mul")) | (apply ev_repF; (focus tm_at "afz"); (focus tm_at "e"); (focus tm_at "side"); (focus tm_at "side"); (focus tm_at "side"))))
local macro_rules | `(tactic| tm_at "e") => `(tactic| ((with_reducible show EV _ _ _ (Expr.BinOp _ Operator.Sub _ _) _ _); first | (apply ev_sub; (focus tm_at "e"); (focus tm_at "e"))))
local macro_rules | `(tactic| tm_at "e") => `(tactic| ((with_reducible show EV _ _ _ (Expr.BinOp _ Operator.Add _ _) _ _); first | (apply ev_add; (focus tm_at "e"); (focus tm_at "e")) | (apply ev_catF; (focus tm_at "e"); (focus tm_at "e"); (focus tm_at "rd"); (focus tm_at "rd"); (focus tm_at "side")) | (apply ev_addS; (focus tm_at "e"); (focus tm_at "e"); (focus tm_at "side")) | (apply ev_catT; (focus tm_at "e"); (focus tm_at "e"); (focus tm_at "side"))))
local macro_rules | `(tactic| tm_at "e") => `(tactic| ((with_reducible show EV _ _ _ (Expr.Name _ _) _ _); first | (apply ev_name; (focus tm_at "nm"); (focus rfl))))
local macro_rules | `(tactic| tm_at "e") => `(tactic| ((with_reducible show EV _ _ _ (Expr.Constant _ _ _) _ _); first | exact ev_int | exact ev_bl | exact ev_str | exact ev_non))
local macro_rules | `(tactic| tm_at "t") => `(tactic| ((with_reducible show TV _ _ _ _ _ _); first | (apply tv_val; (focus tm_at "e"); (focus tm_at "auto")) | (apply tv_truthL; (focus tm_at "e"); (focus tm_at "rd"); (focus tm_at "auto")) | (apply tv_truthI; (focus tm_at "e"); (focus tm_at "auto"))))
local macro_rules | `(tactic| tm_at "t") => `(tactic| ((with_reducible show TV _ _ _ (Expr.BoolOp _ _ _) _ _); first | (apply tv_w; (focus tm_at "w"))))
local macro_rules | `(tactic| tm_at "t") => `(tactic| ((with_reducible show TV _ _ _ (Expr.UnaryOp UnaryOp.Not _ _) _ _); first | (apply tv_not; (focus tm_at "t"))))
local macro_rules | `(tactic| tm_at "t") => `(tactic| ((with_reducible show TV _ _ _ (Expr.Compare _ [_, _] [_, _] _) _ _); first | (apply tv_chain2; (focus tm_at "e"); (focus tm_at "e"); (focus tm_at "cmp"); (focus tm_at "e"); (focus tm_at "cmp"); (focus tm_at "auto"))))
local macro_rules | `(tactic| tm_at "t") => `(tactic| ((with_reducible show TV _ _ _ (Expr.Compare _ [_] [_] _) _ _); first | (apply tv_cmp; (focus tm_at "e"); (focus tm_at "e"); (focus tm_at "cmp"); (focus tm_at "auto"))))
local macro_rules | `(tactic| tm_at "w") => `(tactic| ((with_reducible show WV _ _ _ (Expr.BoolOp BoolOp.Or _ _) _ _); first | (apply wv_or; (focus tm_at "t"); (focus tm_at "introw"))))
local macro_rules | `(tactic| tm_at "w") => `(tactic| ((with_reducible show WV _ _ _ (Expr.BoolOp BoolOp.And _ _) _ _); first | (apply wv_and; (focus tm_at "t"); (focus tm_at "introw"))))
local macro_rules | `(tactic| tm_at "w") => `(tactic| ((with_reducible show WV _ _ _ (Expr.BoolOp BoolOp.Or [_] _) _ _); first | (apply wv_or1; (focus tm_at "t"))))
local macro_rules | `(tactic| tm_at "w") => `(tactic| ((with_reducible show WV _ _ _ (Expr.BoolOp BoolOp.And [_] _) _ _); first | (apply wv_and1; (focus tm_at "t"))))

def sur (many : Int) (as : List Arc) (fs : List Int) (t : Nat) : List Int := (List.range many.toNat).map fun (p : Nat) => inn as fs (p : Int) t - out as fs (p : Int) t
theorem sur_len (many as fs t) : (sur many as fs t).length = many.toNat := by simp [sur]
theorem inn_succ (as fs p t) : inn as fs p (t + 1) = inn as fs p t + (if (ar as t).2.1 = p then fs.getD t 0 else 0) := rfl
theorem out_succ (as fs p t) : out as fs p (t + 1) = out as fs p t + (if (ar as t).1 = p then fs.getD t 0 else 0) := rfl
theorem sur_step {many : Int} {as : List Arc} {fs : List Int} {t s e : Nat} (hs : (ar as t).1 = (s : Int)) (he : (ar as t).2.1 = (e : Int)) (hsl : s < many.toNat) (hel : e < many.toNat) :
    ((sur many as fs t).set s ((sur many as fs t).getD s 0 - fs.getD t 0)).set e (((sur many as fs t).set s ((sur many as fs t).getD s 0 - fs.getD t 0)).getD e 0 + fs.getD t 0) = sur many as fs (t + 1) := by
  apply List.ext_getElem
  · simp [sur]
  · intro p h1 h2
    have hp : p < many.toNat := by simpa [sur] using h2
    have g : ∀ q, q < many.toNat → (sur many as fs t).getD q 0 = inn as fs (q : Int) t - out as fs (q : Int) t := fun q hq => by
      simp [sur, hq]
    have g1 : (sur many as fs (t + 1))[p] = inn as fs (p : Int) (t + 1) - out as fs (p : Int) (t + 1) := by simp [sur]
    have g0 : (sur many as fs t)[p]'(by rw [sur_len]; exact hp) = inn as fs (p : Int) t - out as fs (p : Int) t := by simp [sur]
    rw [g1, inn_succ, out_succ, hs, he, List.getElem_set, List.getElem_set, g0, g s hsl]
    have g2 : ((sur many as fs t).set s (inn as fs (s : Int) t - out as fs (s : Int) t - fs.getD t 0)).getD e 0 = if s = e then inn as fs (s : Int) t - out as fs (s : Int) t - fs.getD t 0 else inn as fs (e : Int) t - out as fs (e : Int) t := by
      rw [List.getD_eq_getElem?_getD, List.getElem?_set]
      have := sur_len many as fs t
      by_cases h : s = e
      · rw [if_pos h, if_pos h, if_pos (by omega)]; rfl
      · rw [if_neg h, if_neg h, ← List.getD_eq_getElem?_getD, g e hel]
    rw [g2]
    by_cases h3 : e = p
    · subst h3
      by_cases h4 : s = e
      · subst h4; simp; omega
      · have h5 : ¬ (s : Int) = (e : Int) := by omega
        simp [h4, h5]; omega
    · have h5 : ¬ (e : Int) = (p : Int) := by omega
      by_cases h4 : s = p
      · subst h4; simp [h3, h5]
        omega
      · have h6 : ¬ (s : Int) = (p : Int) := by omega
        simp [h3, h4, h5, h6]
theorem sur_zero (many : Int) (as fs) : sur many as fs 0 = List.replicate many.toNat 0 := by
  apply List.ext_getElem
  · simp [sur]
  · intro p h1 h2; simp [sur, inn, out]
theorem sur_any (many : Int) (as fs t) : (!(sur many as fs t).any (· != 0)) = decide (∀ p : Nat, p < many.toNat → inn as fs (p : Int) t = out as fs (p : Int) t) := by
  rw [Bool.eq_iff_iff]
  simp only [Bool.not_eq_true', List.any_eq_false, decide_eq_true_eq]
  constructor
  · intro h p hp
    have := h (inn as fs (p : Int) t - out as fs (p : Int) t) (by unfold sur; exact List.mem_map.mpr ⟨p, List.mem_range.mpr hp, rfl⟩)
    have h2 : inn as fs (p : Int) t - out as fs (p : Int) t = 0 := by simpa using this
    omega
  · intro h x hx
    obtain ⟨p, hp, rfl⟩ := List.mem_map.mp hx
    have := h p (List.mem_range.mp hp)
    simp; omega
theorem intsAt {ns : List Int} {j : Nat} (h : j < ns.length) : ((ns.map PyData.int).map Itm.fz)[j]? = some (.fz (.int (ns.getD j 0))) := by
  rw [List.getElem?_map, List.getElem?_map, List.getElem?_eq_getElem h]; simp [h]
theorem intsSet (ns : List Int) (j : Nat) (x : Int) : ((ns.map PyData.int).map Itm.fz).set j (.fz (.int x)) = ((ns.set j x).map PyData.int).map Itm.fz := by simp [List.map_set]
theorem zip_get {ds es : List PyData} {i : Nat} {x : Itm} (hx : (zipD ds es)[i]? = some x) : ∃ d e, ds[i]? = some d ∧ es[i]? = some e ∧ x = .fz (.tuple [d, e]) := by
  unfold zipD at hx
  rw [List.getElem?_map] at hx
  cases h : (ds.zip es)[i]? with
  | none => rw [h] at hx; cases hx
  | some q =>
    rw [h] at hx
    obtain ⟨q1, q2⟩ := q
    rw [List.getElem?_zip_eq_some] at h
    exact ⟨q1, q2, h.1, h.2, (Option.some.inj hx).symm⟩
theorem arcs_at {as : List Arc} {i : Nat} {d : PyData} (h : (as.map dArc)[i]? = some d) : i < as.length ∧ d = .tuple [.int (ar as i).1, .int (ar as i).2.1, .int (ar as i).2.2.1, .int (ar as i).2.2.2] := by
  have hi : i < as.length := by
    have := (List.getElem?_eq_some_iff.mp h).1
    simpa using this
  refine ⟨hi, ?_⟩
  have := atArc hi
  rw [atI_nat h] at this
  exact Option.some.inj this
theorem ints_at {fs : List Int} {i : Nat} {d : PyData} (h : (fs.map PyData.int)[i]? = some d) : i < fs.length ∧ d = .int (fs.getD i 0) := by
  have hi : i < fs.length := by
    have := (List.getElem?_eq_some_iff.mp h).1
    simpa using this
  refine ⟨hi, ?_⟩
  have := atInts hi
  rw [atI_nat h] at this
  exact Option.some.inj this
theorem zip_len (as : List Arc) (fs : List Int) : (zipD (as.map dArc) (fs.map PyData.int)).length = min as.length fs.length := by simp [zipD]
theorem cl1 (γ : Cells) (o : Cell) : (γ ++ [o])[γ.length]? = some o := by rw [List.getElem?_append_right (Nat.le_refl _)]; simp
theorem cl1s (γ : Cells) (o o' : Cell) : (γ ++ [o]).set γ.length o' = γ ++ [o'] := by rw [List.set_append_right _ _ (Nat.le_refl _)]; simp
set_option maxHeartbeats 8000000 in
theorem body_is_circling {P : Program} {w : World} {K : PySem.W.Frag} {mg : Str → Option Value} {base : Heap} (g0 : G0 mg)
    (D_is_whole : FnD P w K mg base "is_whole" 1 S_is_whole)
    {X : Cx} (c : Ctx X P w K mg base N_is_circling (defScope s_is_circling) 1) {args : List Itm} {γ : Cells} {Po : EPost} (hγ : Clo γ) (hS : S_is_circling args γ Po) :
    SVs X (slots0 N_is_circling args) γ (defBody s_is_circling) { nx := fun _ g => PL.Fin γ.length Po (.fz .none) g, rt := PL.Fin γ.length Po } := by
  have hX := c.ok
  have hp := c.po
  have v0 : Nm X "many" 0 .local := c.nm 0 .local rfl (by decide +kernel) (.inl rfl) (by decide +kernel) (by decide +kernel)
  have v1 : Nm X "arcs" 1 .local := c.nm 1 .local rfl (by decide +kernel) (.inl rfl) (by decide +kernel) (by decide +kernel)
  have v2 : Nm X "flows" 2 .local := c.nm 2 .local rfl (by decide +kernel) (.inl rfl) (by decide +kernel) (by decide +kernel)
  have v3 : Nm X "surplus" 3 .local := c.nm 3 .local rfl (by decide +kernel) (.inl rfl) (by decide +kernel) (by decide +kernel)
  have v4 : Nm X "start" 4 .local := c.nm 4 .local rfl (by decide +kernel) (.inl rfl) (by decide +kernel) (by decide +kernel)
  have v5 : Nm X "end" 5 .local := c.nm 5 .local rfl (by decide +kernel) (.inl rfl) (by decide +kernel) (by decide +kernel)
  have v6 : Nm X "room" 6 .local := c.nm 6 .local rfl (by decide +kernel) (.inl rfl) (by decide +kernel) (by decide +kernel)
  have v7 : Nm X "_" 7 .local := c.nm 7 .local rfl (by decide +kernel) (.inl rfl) (by decide +kernel) (by decide +kernel)
  have v8 : Nm X "flow" 8 .local := c.nm 8 .local rfl (by decide +kernel) (.inl rfl) (by decide +kernel) (by decide +kernel)
  have b_isinstance : Bt X "isinstance" := c.bt (by decide +kernel) g0.b_isinstance
  have b_list : Bt X "list" := c.bt (by decide +kernel) g0.b_list
  have b_len : Bt X "len" := c.bt (by decide +kernel) g0.b_len
  have b_zip : Bt X "zip" := c.bt (by decide +kernel) g0.b_zip
  have k_is_whole : Cal X "is_whole" S_is_whole := c.cal D_is_whole (by decide) (by decide +kernel) (by decide +kernel)
  have b_any : Bt X "any" := c.bt (by decide +kernel) g0.b_any
  obtain ⟨many, as, fs, rfl, hN, hfl, hP⟩ := hS
  have hlen := hN.len
  have hm0 := hN.m0
  have hm1 := hN.m1
  refine svs_if (γ1 := γ) (tv_w (wv_or (tv_not (tv_val (ev_isi b_isinstance b_list (by decide +kernel) (ev_name v2.r rfl) (Rdb.fz _) (kit_list _)))) fun _ => wv_or1 (tv_cmp (ev_lenL b_len (ev_name v2.r rfl) (Rdb.fz _)) (ev_lenL b_len (ev_name v1.r rfl) (Rdb.fz _)) cmp_neI))) (fun h => ?_) (fun h => svs_nil ?_)
  · apply svs_retE
    refine EE.of ev_bl ?_
    have hn : ¬ CircP many as fs := fun q => by
      rw [List.length_map, List.length_map, q.1] at h
      simp [isL] at h
    rw [decide_eq_false hn] at hP
    exact fin_same hγ hP
  · have hl : fs.length = as.length := by
      rw [List.length_map, List.length_map] at h
      have : (fs.length : Int) = as.length := by simpa [isL] using h
      omega
    apply svs_setE hX v3
    refine EE.of (ev_repC (rs := [.fz (.int 0)]) (by tm_at "a") (ev_name v0.r rfl) (by simp) (by simp; omega) (by omega)) ?_
    have e0 : repD [Itm.fz (.int 0)] many = ((sur many as fs 0).map PyData.int).map Itm.fz := by
      rw [sur_zero, ← rep0, show ((many.toNat : Nat) : Int) = many by omega]
    rw [e0]
    refine svs_for hX hp (itv_zip b_zip (ev_name v1.r rfl) (ev_name v2.r rfl) (Rdb.fz _) (Rdb.fz _))
      (fun i Γ' g => ∃ s4 s5 s6 s7 s8, Γ' = [some (.fz (.int many)), some (.fz (dArcs as)), some (.fz (.list (fs.map .int))), some (.cl γ.length), s4, s5, s6, s7, s8] ∧ g = γ ++ [.lst (((sur many as fs i).map PyData.int).map Itm.fz)] ∧ ∀ t, t < i → OkF as fs t)
      ⟨_, _, _, _, _, rfl, rfl, fun t ht => by omega⟩ (fun _ _ _ _ _ => ⟨Rdb.fz _, Rdb.fz _⟩) ?_ ?_
    · rintro i x Γ' g hx ⟨s4, s5, s6, s7, s8, rfl, rfl, hok⟩
      obtain ⟨d1, d2, h1, h2, rfl⟩ := zip_get hx
      obtain ⟨hi, rfl⟩ := arcs_at h1
      obtain ⟨_, rfl⟩ := ints_at h2
      refine ⟨_, _, gv_tup (ds := [_, _]) hX (gvs_cons (gv_tup (ds := [_, _, _, _]) hX (gvs_cons (gv_name hX v4) (gvs_cons (gv_name hX v5) (gvs_cons (gv_name hX v6) (gvs_cons (gv_name hX v7) gvs_nil)))) rfl) (gvs_cons (gv_name hX v8) gvs_nil)) rfl, ?_⟩
      have hA := hN.all _ (ar_mem hi)
      obtain ⟨s, hs⟩ : ∃ s : Nat, (ar as i).1 = (s : Int) := ⟨(ar as i).1.toNat, by have := hA.b0; omega⟩
      obtain ⟨e, he⟩ : ∃ s : Nat, (ar as i).2.1 = (s : Int) := ⟨(ar as i).2.1.toNat, by have := hA.e0; omega⟩
      have hsl : s < many.toNat := by have := hA.b1; omega
      have hel : e < many.toNat := by have := hA.e1; omega
      have hS0 := sur_step (fs := fs) hs he hsl hel
      have hL0 := sur_len many as fs i
      generalize sur many as fs i = S0 at hS0 hL0 ⊢
      refine svs_if (tv_not (tv_val (ev_call k_is_whole (av_cons (ev_name v8.r rfl) (av_cons ev_int (av_cons (ev_name v6.r rfl) av_nil))) ⟨_, _, _, rfl, rfl, rfl⟩))) (fun ht => ?_) (fun ht => svs_nil ?_)
      · apply svs_retE
        refine EE.of ev_bl ?_
        have hn : ¬ CircP many as fs := fun q => by
          have := q.2.1 i hi
          unfold OkF at this
          rw [decide_eq_true this.1, decide_eq_true this.2] at ht
          cases ht
        rw [decide_eq_false hn] at hP
        exact fin_junk hγ hP
      · refine sv_augitem (jj := s) (cc := γ.length) (op := .Sub) (f := fun a b => a - b) (m := fs.getD i 0) (n := S0.getD s 0) (ev_name v3.r rfl) (by rw [← hs]; exact ev_name v4.r rfl) (cl1 _ _) (intsAt (by omega)) (ev_name v8.r rfl) (cl1 _ _) ip_sub ?_
        rw [intsSet, cl1s]
        generalize hS1 : S0.set s (S0.getD s 0 - fs.getD i 0) = S1 at hS0 ⊢
        have hL1 : S1.length = many.toNat := by rw [← hS1, List.length_set, hL0]
        refine sv_augitem (jj := e) (cc := γ.length) (op := .Add) (f := fun a b => a + b) (m := fs.getD i 0) (n := S1.getD e 0) (ev_name v3.r rfl) (by rw [← he]; exact ev_name v5.r rfl) (cl1 _ _) (intsAt (by omega)) (ev_name v8.r rfl) (cl1 _ _) ip_add ?_
        rw [intsSet, cl1s, hS0]
        refine svs_nil ⟨_, _, _, _, _, rfl, rfl, fun t htt => ?_⟩
        by_cases et : t = i
        · subst et
          unfold OkF
          simpa using ht
        · exact hok t (by omega)
    · rintro Γ' g ⟨s4, s5, s6, s7, s8, rfl, rfl, hok⟩
      rw [zip_len, hl, Nat.min_self] at hok ⊢
      apply svs_retE
      refine EE.of (ev_not (ev_anyI hX b_any (ev_name v3.r rfl) (Rdb.cl (cl1 _ _)))) ?_
      rw [sur_any]
      have e : decide (CircP many as fs) = decide (∀ p : Nat, p < many.toNat → inn as fs (p : Int) as.length = out as fs (p : Int) as.length) := by
        rw [Bool.eq_iff_iff, decide_eq_true_eq, decide_eq_true_eq]
        exact ⟨fun h => h.2.2, fun h => ⟨hl, hok, h⟩⟩
      rw [e] at hP
      exact fin_junk hγ hP
theorem ok_is_circling {P : Program} {w : World} {K : PySem.W.Frag} {mg : Str → Option Value} {base : Heap} (g0 : G0 mg)
    (D_is_whole : FnD P w K mg base "is_whole" 1 S_is_whole)
    {f : Addr} {fd : FuncData} (F : Fun K "is_circling" "is_circling" s_is_circling f fd) (hm : mg "is_circling" = some (.ref f)) : FnD P w K mg base "is_circling" 2 S_is_circling :=
  def_ok F sc_is_circling hm (F.binds (ps := ["many", "arcs", "flows"]) fun _ _ _ _ _ _ us hl => match us, hl with | [_, _, _], _ => rfl) (fun args γ P h => len_is_circling h)
    fun X c args γ Po hγ hS => body_is_circling g0 D_is_whole c hγ hS
end KK

namespace KK
open PySem PySem.Spec PyProof.Rows L2 PL M3
local macro_rules | `(tactic| tm_at "nm") => `(tactic| with_reducible first | assumption | exact Nm.r (by assumption))
local macro_rules | `(tactic| tm_at "bt") => `(tactic| with_reducible assumption)
local macro_rules | `(tactic| tm_at "asm") => `(tactic| assumption)
local macro_rules | `(tactic| tm_at "auto") => `(tactic| first | rfl | exact fun _ _ => rfl | (intro _; rfl) | decide | exact nomark _ | (with_unfolding_all rfl))
local macro_rules | `(tactic| tm_at "boot") => `(tactic| decide +kernel)
local macro_rules | `(tactic| tm_at "kit") => `(tactic| first | exact kit_int _ | exact kit_bool _ | exact kit_str _ | exact kit_list _ | exact kit_tuple _ | exact kit_dict _)
local macro_rules | `(tactic| tm_at "side") => `(tactic| first | assumption | decide | omega | (simp only [List.length_map, List.length_cons, List.length_nil, List.length_append]; omega) | (simp; done))
local macro_rules | `(tactic| tm_at "pos") => `(tactic| first | decide | assumption | exact Int.pow_pos (by decide) | omega)
local macro_rules | `(tactic| tm_at "mul") => `(tactic| first | assumption | (exact small_mul 200 200 (by omega) (by omega)))
local macro_rules | `(tactic| tm_at "div") => `(tactic| first | assumption | (exact wide_div (b := 200) (by omega) (by omega) (by decide) (by decide)))
local macro_rules | `(tactic| tm_at "pow") => `(tactic| (refine ⟨?_, ?_, ?_⟩ <;> decide))
local macro_rules | `(tactic| tm_at "rd") => `(tactic| first | exact Rdb.fz _ | exact Rdb.cl (by assumption) | exact Rdb.cl rfl)
local macro_rules | `(tactic| tm_at "rdl") => `(tactic| first | exact .inr rfl | exact .inl (by tm_at "rd"))
local macro_rules | `(tactic| tm_at "ix") => `(tactic| first | assumption | exact ix_0 | exact ix_1 | exact ix_2 | exact ix_3 | exact ix_4 | rfl)
local macro_rules | `(tactic| tm_at "cmp") => `(tactic| first | exact cmp_lt | exact cmp_le | exact cmp_gt | exact cmp_ge | exact cmp_eqI | exact cmp_neI | exact cmp_eqS | exact cmp_neS | exact cmp_isB | exact cmp_notB | exact cmp_isN | exact cmp_notN | exact cmp_eqB | exact cmp_neB)
local macro_rules | `(tactic| tm_at "intro") => `(tactic| (intro _; tm_at "e"))
local macro_rules | `(tactic| tm_at "introe") => `(tactic| (intro _; tm_at "e"))
local macro_rules | `(tactic| tm_at "introw") => `(tactic| (intro _; tm_at "w"))
local macro_rules | `(tactic| tm_at "a") => `(tactic| first
  | exact av_nil
  | (apply av_cons; (focus tm_at "e"); (focus tm_at "a"); (focus tm_at "auto")))
local macro_rules | `(tactic| tm_at "alli") => `(tactic| (repeat (first | exact all_nil | (refine all_cons ⟨_, rfl, ?_, ?_⟩ ?_; (focus omega); (focus omega)))))
local macro_rules | `(tactic| tm_at "afz") => `(tactic| first
  | exact av_nilF
  | (apply av_consF; (focus tm_at "e"); (focus tm_at "afz"); (focus tm_at "auto")))
local macro_rules | `(tactic| tm_at "o") => `(tactic| first
  | exact ov_none
  | (apply ov_some; (focus tm_at "e")))
local macro_rules | `(tactic| tm_at "e") => `(tactic| ((with_reducible show EV _ _ _ (Expr.Tuple _ _ _) _ _); first | (apply ev_tup; (focus tm_at "afz"); (focus tm_at "side"))))
local macro_rules | `(tactic| tm_at "e") => `(tactic| ((with_reducible show EV _ _ _ (Expr.List _ _) _ _); first | (apply ev_lst; (focus tm_at "afz"); (focus tm_at "side"))))
local macro_rules | `(tactic| tm_at "e") => `(tactic| ((with_reducible show EV _ _ _ (Expr.Call (Expr.Name _ _) _ _ _) _ _); first | (apply ev_lenL; (focus tm_at "bt"); (focus tm_at "e"); (focus tm_at "rd"); (focus tm_at "auto")) | (apply ev_lenC; (focus tm_at "bt"); (focus tm_at "e"); (focus tm_at "ix"); (focus tm_at "auto")) | (apply ev_lenT; (focus tm_at "bt"); (focus tm_at "e"); (focus tm_at "auto")) | (apply ev_lenS; (focus tm_at "bt"); (focus tm_at "e"); (focus tm_at "side"); (focus tm_at "auto")) | (apply ev_max2; (focus tm_at "asm"); (focus tm_at "bt"); (focus tm_at "e"); (focus tm_at "e"); (focus tm_at "auto"); (focus tm_at "auto"); (focus tm_at "auto")) | (apply ev_min2; (focus tm_at "asm"); (focus tm_at "bt"); (focus tm_at "e"); (focus tm_at "e"); (focus tm_at "auto"); (focus tm_at "auto"); (focus tm_at "auto")) | (apply ev_intB; (focus tm_at "bt"); (focus tm_at "e"); (focus tm_at "auto")) | (apply ev_intI; (focus tm_at "bt"); (focus tm_at "e"); (focus tm_at "auto")) | (apply ev_abs; (focus tm_at "bt"); (focus tm_at "e"); (focus tm_at "auto")) | (apply ev_sum; (focus tm_at "asm"); (focus tm_at "bt"); (focus tm_at "e"); (focus tm_at "rd"); (focus tm_at "auto")) | (apply ev_listF; (focus tm_at "bt"); (focus tm_at "e"); (focus tm_at "rdl"); (focus tm_at "auto")) | (apply ev_isi; (focus tm_at "bt"); (focus tm_at "bt"); (focus tm_at "boot"); (focus tm_at "e"); (focus tm_at "rd"); (focus tm_at "kit"); (focus tm_at "auto"); (focus tm_at "auto"); (focus tm_at "auto"); (focus tm_at "auto"); (focus tm_at "auto"))))
local macro_rules | `(tactic| tm_at "e") => `(tactic| ((with_reducible show EV _ _ _ (Expr.BoolOp BoolOp.Or _ _) _ _); first | (apply ev_or; (focus tm_at "e"); (focus tm_at "introe"))))
local macro_rules | `(tactic| tm_at "e") => `(tactic| ((with_reducible show EV _ _ _ (Expr.BoolOp BoolOp.And _ _) _ _); first | (apply ev_and; (focus tm_at "e"); (focus tm_at "introe"))))
local macro_rules | `(tactic| tm_at "e") => `(tactic| ((with_reducible show EV _ _ _ (Expr.BoolOp _ [_] _) _ _); first | (apply ev_one; (focus tm_at "e"))))
local macro_rules | `(tactic| tm_at "e") => `(tactic| ((with_reducible show EV _ _ _ (Expr.IfExp _ _ _ _) _ _); first | (apply ev_ifx; (focus tm_at "t"); (focus tm_at "intro"); (focus tm_at "intro"))))
local macro_rules | `(tactic| tm_at "e") => `(tactic| ((with_reducible show EV _ _ _ (Expr.Compare _ [_, _] [_, _] _) _ _); first | (apply ev_chain2; (focus tm_at "e"); (focus tm_at "e"); (focus tm_at "cmp"); (focus tm_at "e"); (focus tm_at "cmp"); (focus tm_at "auto"))))
local macro_rules | `(tactic| tm_at "e") => `(tactic| ((with_reducible show EV _ _ _ (Expr.Compare _ [_] [_] _) _ _); first | (apply ev_cmp; (focus tm_at "e"); (focus tm_at "e"); (focus tm_at "cmp"); (focus tm_at "auto"))))
local macro_rules | `(tactic| tm_at "e") => `(tactic| ((with_reducible show EV _ _ _ (Expr.UnaryOp UnaryOp.Not _ _) _ _); first | (apply ev_not; (focus tm_at "e"))))
local macro_rules | `(tactic| tm_at "e") => `(tactic| ((with_reducible show EV _ _ _ (Expr.UnaryOp UnaryOp.USub _ _) _ _); first | (apply ev_neg; (focus tm_at "e"))))
local macro_rules | `(tactic| tm_at "e") => `(tactic| ((with_reducible show EV _ _ _ (Expr.Subscript _ _ _) _ _); first | (apply ev_ixL; (focus tm_at "e"); (focus tm_at "e"); (focus tm_at "rd"); (focus tm_at "ix"); (focus tm_at "auto")) | (apply ev_ixT; (focus tm_at "e"); (focus tm_at "e"); (focus tm_at "ix"); (focus tm_at "auto")) | (apply ev_ixC; (focus tm_at "e"); (focus tm_at "e"); (focus tm_at "ix"); (focus tm_at "ix"); (focus tm_at "auto")) | (apply ev_ixP; (focus tm_at "e"); (focus tm_at "e"); (focus tm_at "ix"); (focus tm_at "auto"))))
local macro_rules | `(tactic| tm_at "e") => `(tactic| ((with_reducible show EV _ _ _ (Expr.Subscript _ (Expr.Slice _ _ _ _) _) _ _); first | (apply ev_slL; (focus tm_at "e"); (focus tm_at "o"); (focus tm_at "o"); (focus tm_at "rd")) | (apply ev_slT; (focus tm_at "e"); (focus tm_at "o"); (focus tm_at "o"); (focus tm_at "side"))))
local macro_rules | `(tactic| tm_at "e") => `(tactic| ((with_reducible show EV _ _ _ (Expr.BinOp _ Operator.Pow _ _) _ _); first | (apply ev_pow; (focus tm_at "e"); (focus tm_at "e"); (focus tm_at "pow"))))
local macro_rules | `(tactic| tm_at "e") => `(tactic| ((with_reducible show EV _ _ _ (Expr.BinOp _ Operator.FloorDiv _ _) _ _); first | (apply ev_div; (focus tm_at "e"); (focus tm_at "e"); (focus tm_at "div"))))
local macro_rules | `(tactic| tm_at "e") => `(tactic| ((with_reducible show EV _ _ _ (Expr.BinOp _ Operator.Mod _ _) _ _); first | (apply ev_mod; (focus tm_at "e"); (focus tm_at "e"); (focus tm_at "pos"))))
local macro_rules | `(tactic| tm_at "e") => `(tactic| ((with_reducible show EV _ _ _ (Expr.BinOp _ Operator.Mult _ _) _ _); first | (apply ev_mul; (focus tm_at "e"); (focus tm_at "e"); (focus tm_at "mul")) | (apply ev_repF; (focus tm_at "afz"); (focus tm_at "e"); (focus tm_at "side"); (focus tm_at "side"); (focus tm_at "side"))))
local macro_rules | `(tactic| tm_at "e") => `(tactic| ((with_reducible show EV _ _ _ (Expr.BinOp _ Operator.Sub _ _) _ _); first | (apply ev_sub; (focus tm_at "e"); (focus tm_at "e"))))
local macro_rules | `(tactic| tm_at "e") => `(tactic| ((with_reducible show EV _ _ _ (Expr.BinOp _ Operator.Add _ _) _ _); first | (apply ev_add; (focus tm_at "e"); (focus tm_at "e")) | (apply ev_catF; (focus tm_at "e"); (focus tm_at "e"); (focus tm_at "rd"); (focus tm_at "rd"); (focus tm_at "side")) | (apply ev_addS; (focus tm_at "e"); (focus tm_at "e"); (focus tm_at "side")) | (apply ev_catT; (focus tm_at "e"); (focus tm_at "e"); (focus tm_at "side"))))
local macro_rules | `(tactic| tm_at "e") => `(tactic| ((with_reducible show EV _ _ _ (Expr.Name _ _) _ _); first | (apply ev_name; (focus tm_at "nm"); (focus rfl))))
local macro_rules | `(tactic| tm_at "e") => `(tactic| ((with_reducible show EV _ _ _ (Expr.Constant _ _ _) _ _); first | exact ev_int | exact ev_bl | exact ev_str | exact ev_non))
local macro_rules | `(tactic| tm_at "t") => `(tactic| ((with_reducible show TV _ _ _ _ _ _); first | (apply tv_val; (focus tm_at "e"); (focus tm_at "auto")) | (apply tv_truthL; (focus tm_at "e"); (focus tm_at "rd"); (focus tm_at "auto")) | (apply tv_truthI; (focus tm_at "e"); (focus tm_at "auto"))))
local macro_rules | `(tactic| tm_at "t") => `(tactic| ((with_reducible show TV _ _ _ (Expr.BoolOp _ _ _) _ _); first | (apply tv_w; (focus tm_at "w"))))
local macro_rules | `(tactic| tm_at "t") => `(tactic| ((with_reducible show TV _ _ _ (Expr.UnaryOp UnaryOp.Not _ _) _ _); first | (apply tv_not; (focus tm_at "t"))))
local macro_rules | `(tactic| tm_at "t") => `(tactic| ((with_reducible show TV _ _ _ (Expr.Compare _ [_, _] [_, _] _) _ _); first | (apply tv_chain2; (focus tm_at "e"); (focus tm_at "e"); (focus tm_at "cmp"); (focus tm_at "e"); (focus tm_at "cmp"); (focus tm_at "auto"))))
local macro_rules | `(tactic| tm_at "t") => `(tactic| ((with_reducible show TV _ _ _ (Expr.Compare _ [_] [_] _) _ _); first | (apply tv_cmp; (focus tm_at "e"); (focus tm_at "e"); (focus tm_at "cmp"); (focus tm_at "auto"))))
local macro_rules | `(tactic| tm_at "w") => `(tactic| ((with_reducible show WV _ _ _ (Expr.BoolOp BoolOp.Or _ _) _ _); first | (apply wv_or; (focus tm_at "t"); (focus tm_at "introw"))))
local macro_rules | `(tactic| tm_at "w") => `(tactic| ((with_reducible show WV _ _ _ (Expr.BoolOp BoolOp.And _ _) _ _); first | (apply wv_and; (focus tm_at "t"); (focus tm_at "introw"))))
local macro_rules | `(tactic| tm_at "w") => `(tactic| ((with_reducible show WV _ _ _ (Expr.BoolOp BoolOp.Or [_] _) _ _); first | (apply wv_or1; (focus tm_at "t"))))
local macro_rules | `(tactic| tm_at "w") => `(tactic| ((with_reducible show WV _ _ _ (Expr.BoolOp BoolOp.And [_] _) _ _); first | (apply wv_and1; (focus tm_at "t"))))

def Bd (B : Int) (fs : List Int) : Prop := ∀ x ∈ fs, -B ≤ x ∧ x ≤ B
theorem Bd.at {B : Int} {fs : List Int} (h : Bd B fs) {i : Nat} (hi : i < fs.length) : -B ≤ fs.getD i 0 ∧ fs.getD i 0 ≤ B := by
  have e : fs.getD i 0 = fs[i] := by simp [hi]
  rw [e]; exact h _ (List.getElem_mem hi)
def wsum (as : List Arc) (fs : List Int) : Nat → Int
  | 0 => 0
  | t + 1 => wsum as fs t + fs.getD t 0 * (ar as t).2.2.2
theorem wsum_succ (as fs t) : wsum as fs (t + 1) = wsum as fs t + fs.getD t 0 * (ar as t).2.2.2 := rfl
abbrev B33 : Int := 1000000000000000000000000000000000
theorem at33 {fs : List Int} (h : Bd B33 fs) {i : Nat} (hi : i < fs.length) : -1000000000000000000000000000000000 ≤ fs.getD i 0 ∧ fs.getD i 0 ≤ 1000000000000000000000000000000000 := h.at hi
def S_wsum : PSpec := fun args γ P => ∃ (many : Int) (as : List Arc) (fs : List Int), args = [.fz (dArcs as), .fz (.list (fs.map .int))] ∧ Net many as ∧ fs.length = as.length ∧ Bd B33 fs ∧ P (.fz (.int (wsum as fs as.length))) γ
abbrev S_worth := S_wsum
abbrev S_sum := S_wsum
theorem len_worth {args γ P} (h : S_worth args γ P) : args.length = 2 := by obtain ⟨a, b, c, rfl, _⟩ := h; rfl
theorem len_sum {args γ P} (h : S_sum args γ P) : args.length = 2 := by obtain ⟨a, b, c, rfl, _⟩ := h; rfl
theorem range_wsum (as : List Arc) (fs : List Int) : ∀ n, ((List.range n).map fun i => fs.getD i 0 * (ar as i).2.2.2).sum = wsum as fs n
  | 0 => rfl
  | n + 1 => by
    rw [List.range_succ, List.map_append, List.sum_append, range_wsum as fs n, wsum_succ]
    simp
set_option maxHeartbeats 8000000 in
theorem body_worth {P : Program} {w : World} {K : PySem.W.Frag} {mg : Str → Option Value} {base : Heap} (g0 : G0 mg)
    {X : Cx} (c : Ctx X P w K mg base N_worth (defScope s_worth) 0) {args : List Itm} {γ : Cells} {Po : EPost} (hγ : Clo γ) (hS : S_worth args γ Po) :
    SVs X (slots0 N_worth args) γ (defBody s_worth) { nx := fun _ g => PL.Fin γ.length Po (.fz .none) g, rt := PL.Fin γ.length Po } := by
  have hX := c.ok
  have hp := c.po
  have v0 : Nm X "arcs" 0 .local := c.nm 0 .local rfl (by decide +kernel) (.inl rfl) (by decide +kernel) (by decide +kernel)
  have v1 : Nm X "flows" 1 .local := c.nm 1 .local rfl (by decide +kernel) (.inl rfl) (by decide +kernel) (by decide +kernel)
  have b_sum : Bt X "sum" := c.bt (by decide +kernel) g0.b_sum
  have b_zip : Bt X "zip" := c.bt (by decide +kernel) g0.b_zip
  obtain ⟨many, as, fs, rfl, hN, hl, hB, hP⟩ := hS
  have hlen := hN.len
  apply svs_retE
  refine EE.of (ev_sum (ns := (List.range as.length).map fun i => fs.getD i 0 * (ar as i).2.2.2) (r := .fz (.list (((List.range as.length).map fun i => fs.getD i 0 * (ar as i).2.2.2).map PyData.int))) (γ1 := γ) hX b_sum ?_ (Rdb.fz _)) ?_
  · have ep : picked (fun _ => true) (fun i => .int (fs.getD i 0 * (ar as i).2.2.2)) (zipD (as.map dArc) (fs.map PyData.int)).length = (((List.range as.length).map fun i => fs.getD i 0 * (ar as i).2.2.2).map PyData.int) := by
      rw [zip_len, hl, Nat.min_self, picked_all, List.map_map]; rfl
    rw [← ep]
    refine ev_lc2 (w := 2) (w' := 3) (fun _ => true) _ hX (by decide) (by rw [c.N, c.sc]; exact ⟨rfl, by decide +kernel, by decide +kernel, by decide +kernel, by decide +kernel⟩) (fun X' hB => ⟨hB.cok hX rfl, hB.own (by rw [c.N]; rfl) (by decide +kernel) (by decide +kernel) (by decide +kernel), hB.own (by rw [c.N]; rfl) (by decide +kernel) (by decide +kernel) (by decide +kernel)⟩) (itv_zip b_zip (ev_name v0.r rfl) (ev_name v1.r rfl) (Rdb.fz _) (Rdb.fz _)) (fun _ => ⟨Rdb.fz _, Rdb.fz _⟩) (by rw [zip_len]; omega) ?_
    intro i d e acc h1 h2 X' hBl
    obtain ⟨hi, rfl⟩ := arcs_at h1
    obtain ⟨hj, rfl⟩ := ints_at h2
    have hX_X' := hBl.cok hX rfl
    have w2_X' : Nm X' "arc" 2 .local := hBl.own (by rw [c.N]; rfl) (by decide +kernel) (by decide +kernel) (by decide +kernel)
    have w3_X' : Nm X' "flow" 3 .local := hBl.own (by rw [c.N]; rfl) (by decide +kernel) (by decide +kernel) (by decide +kernel)
    have b1 := at33 hB hj
    have hA := hN.all _ (ar_mem hi)
    have b2 := hA.w0
    have b3 := hA.w1
    exact ⟨tvs_nil, fun _ => ev_mul (ev_name w3_X'.r rfl) (ev_ixT (ev_name w2_X'.r rfl) ev_int ix_3) (small_mul 200 200 (by omega) (by omega))⟩
  · rw [range_wsum]
    exact fin_same hγ hP
theorem ok_worth {P : Program} {w : World} {K : PySem.W.Frag} {mg : Str → Option Value} {base : Heap} (g0 : G0 mg)
    {f : Addr} {fd : FuncData} (F : Fun K "worth" "worth" s_worth f fd) (hm : mg "worth" = some (.ref f)) : FnD P w K mg base "worth" 1 S_worth :=
  def_ok F sc_worth hm (F.binds (ps := ["arcs", "flows"]) fun _ _ _ _ _ _ us hl => match us, hl with | [_, _], _ => rfl) (fun args γ P h => len_worth h)
    fun X c args γ Po hγ hS => body_worth g0  c hγ hS
set_option maxHeartbeats 8000000 in
theorem body_sum {P : Program} {w : World} {K : PySem.W.Frag} {mg : Str → Option Value} {base : Heap} (g0 : G0 mg)
    {X : Cx} (c : Ctx X P w K mg base N_sum (defScope s_sum) 0) {args : List Itm} {γ : Cells} {Po : EPost} (hγ : Clo γ) (hS : S_sum args γ Po) :
    SVs X (slots0 N_sum args) γ (defBody s_sum) { nx := fun _ g => PL.Fin γ.length Po (.fz .none) g, rt := PL.Fin γ.length Po } := by
  have hX := c.ok
  have hp := c.po
  have v0 : Nm X "_law_arcs" 0 .local := c.nm 0 .local rfl (by decide +kernel) (.inl rfl) (by decide +kernel) (by decide +kernel)
  have v1 : Nm X "_law_flows_here" 1 .local := c.nm 1 .local rfl (by decide +kernel) (.inl rfl) (by decide +kernel) (by decide +kernel)
  have v2 : Nm X "_law_found" 2 .local := c.nm 2 .local rfl (by decide +kernel) (.inl rfl) (by decide +kernel) (by decide +kernel)
  have v3 : Nm X "_law_k" 3 .local := c.nm 3 .local rfl (by decide +kernel) (.inl rfl) (by decide +kernel) (by decide +kernel)
  have b_range : Bt X "range" := c.bt (by decide +kernel) g0.b_range
  have b_len : Bt X "len" := c.bt (by decide +kernel) g0.b_len
  obtain ⟨many, as, fs, rfl, hN, hl, hB, hP⟩ := hS
  have hlen := hN.len
  apply svs_setE hX v2
  refine EE.of ev_int ?_
  refine svs_for hX hp (itv_range1 b_range (ev_lenL b_len (ev_name v0.r rfl) (Rdb.fz _)) (by rw [List.length_map]; omega) (by rw [List.length_map]; omega))
    (fun i Γ' g => ∃ s3, Γ' = [some (.fz (dArcs as)), some (.fz (.list (fs.map .int))), some (.fz (.int (wsum as fs i))), s3] ∧ g = γ) ⟨none, rfl, rfl⟩ (fun _ _ _ _ _ => trivial) ?_ ?_
  · rintro i x Γ' g hx ⟨s3, rfl, rfl⟩
    obtain ⟨hi, rfl⟩ := rngL_get hx
    rw [List.length_map] at hi
    have hi : i < as.length := by omega
    refine ⟨_, _, gv_name hX v3, ?_⟩
    rw [Int.zero_add]
    have b1 := at33 hB (show i < fs.length by omega)
    have hA := hN.all _ (ar_mem hi)
    have b2 := hA.w0
    have b3 := hA.w1
    apply svs_setE hX v2
    refine EE.of (ev_add (ev_name v2.r rfl) (ev_mul (ev_ixL (ev_name v1.r rfl) (ev_name v3.r rfl) (Rdb.fz _) (atInts (by omega))) (ev_ixT (ev_ixL (ev_name v0.r rfl) (ev_name v3.r rfl) (Rdb.fz _) (atArc hi)) ev_int ix_3) (small_mul 200 200 (by omega) (by omega)))) ?_
    exact svs_nil ⟨_, rfl, rfl⟩
  · rintro Γ' g ⟨s3, rfl, rfl⟩
    rw [rngL_length, List.length_map, show ((as.length : Int)).toNat = as.length by omega]
    apply svs_retE
    refine EE.of (ev_name v2.r rfl) ?_
    exact fin_same hγ hP
theorem ok_sum {P : Program} {w : World} {K : PySem.W.Frag} {mg : Str → Option Value} {base : Heap} (g0 : G0 mg)
    {f : Addr} {fd : FuncData} (F : Fun K "_law_sum" "_law_sum" s_sum f fd) (hm : mg "_law_sum" = some (.ref f)) : FnD P w K mg base "_law_sum" 1 S_sum :=
  def_ok F sc_sum hm (F.binds (ps := ["_law_arcs", "_law_flows_here"]) fun _ _ _ _ _ _ us hl => match us, hl with | [_, _], _ => rfl) (fun args γ P h => len_sum h)
    fun X c args γ Po hγ hS => body_sum g0  c hγ hS
/-! ### prices -/
def more (as : List Arc) (pr : List Int) (t : Nat) : Int := (ar as t).2.2.2 - pr.getD (ar as t).1.toNat 0 + pr.getD (ar as t).2.1.toNat 0
def bsum (as : List Arc) (pr : List Int) : Nat → Int
  | 0 => 0
  | t + 1 => bsum as pr t + (if 0 < more as pr t then (ar as t).2.2.1 * more as pr t else 0)
theorem bsum_succ (as pr t) : bsum as pr (t + 1) = bsum as pr t + (if 0 < more as pr t then (ar as t).2.2.1 * more as pr t else 0) := rfl
def S_bsum : PSpec := fun args γ P => ∃ (many : Int) (as : List Arc) (pr : List Int), args = [.fz (dArcs as), .fz (.list (pr.map .int))] ∧ Net many as ∧ pr.length = many.toNat ∧ Bd B33 pr ∧ P (.fz (.int (bsum as pr as.length))) γ
abbrev S_bound_by := S_bsum
abbrev S_bounded := S_bsum
theorem len_bound_by {args γ P} (h : S_bound_by args γ P) : args.length = 2 := by obtain ⟨a, b, c, rfl, _⟩ := h; rfl
theorem len_bounded {args γ P} (h : S_bounded args γ P) : args.length = 2 := by obtain ⟨a, b, c, rfl, _⟩ := h; rfl
theorem atIntsI {fs : List Int} {i : Int} (h0 : 0 ≤ i) (h : i.toNat < fs.length) : atI (fs.map PyData.int) i = some (.int (fs.getD i.toNat 0)) := by
  have := atInts h
  rw [show ((i.toNat : Nat) : Int) = i by omega] at this
  exact this
theorem arcs_it {as : List Arc} {i : Nat} {x : Itm} (h : ((as.map dArc).map Itm.fz)[i]? = some x) : i < as.length ∧ x = .fz (.tuple [.int (ar as i).1, .int (ar as i).2.1, .int (ar as i).2.2.1, .int (ar as i).2.2.2]) := by
  rw [List.getElem?_map] at h
  cases hd : (as.map dArc)[i]? with
  | none => rw [hd] at h; cases h
  | some d =>
    rw [hd] at h
    obtain ⟨h1, rfl⟩ := arcs_at hd
    exact ⟨h1, (Option.some.inj h).symm⟩
set_option maxHeartbeats 8000000 in
theorem body_bound_by {P : Program} {w : World} {K : PySem.W.Frag} {mg : Str → Option Value} {base : Heap} (g0 : G0 mg)
    {X : Cx} (c : Ctx X P w K mg base N_bound_by (defScope s_bound_by) 0) {args : List Itm} {γ : Cells} {Po : EPost} (hγ : Clo γ) (hS : S_bound_by args γ Po) :
    SVs X (slots0 N_bound_by args) γ (defBody s_bound_by) { nx := fun _ g => PL.Fin γ.length Po (.fz .none) g, rt := PL.Fin γ.length Po } := by
  have hX := c.ok
  have hp := c.po
  have v0 : Nm X "arcs" 0 .local := c.nm 0 .local rfl (by decide +kernel) (.inl rfl) (by decide +kernel) (by decide +kernel)
  have v1 : Nm X "prices" 1 .local := c.nm 1 .local rfl (by decide +kernel) (.inl rfl) (by decide +kernel) (by decide +kernel)
  have v2 : Nm X "total" 2 .local := c.nm 2 .local rfl (by decide +kernel) (.inl rfl) (by decide +kernel) (by decide +kernel)
  have v3 : Nm X "start" 3 .local := c.nm 3 .local rfl (by decide +kernel) (.inl rfl) (by decide +kernel) (by decide +kernel)
  have v4 : Nm X "end" 4 .local := c.nm 4 .local rfl (by decide +kernel) (.inl rfl) (by decide +kernel) (by decide +kernel)
  have v5 : Nm X "room" 5 .local := c.nm 5 .local rfl (by decide +kernel) (.inl rfl) (by decide +kernel) (by decide +kernel)
  have v6 : Nm X "gain" 6 .local := c.nm 6 .local rfl (by decide +kernel) (.inl rfl) (by decide +kernel) (by decide +kernel)
  have b_max : Bt X "max" := c.bt (by decide +kernel) g0.b_max
  obtain ⟨many, as, pr, rfl, hN, hl, hB, hP⟩ := hS
  have hlen := hN.len
  apply svs_setE hX v2
  refine EE.of ev_int ?_
  refine svs_for hX hp (itv_list (ev_name v0.r rfl) (Rdb.fz _))
    (fun i Γ' g => ∃ s3 s4 s5 s6, Γ' = [some (.fz (dArcs as)), some (.fz (.list (pr.map .int))), some (.fz (.int (bsum as pr i))), s3, s4, s5, s6] ∧ g = γ) ⟨none, none, none, none, rfl, rfl⟩ (fun _ _ _ _ _ => Rdb.fz _) ?_ ?_
  · rintro i x Γ' g hx ⟨s3, s4, s5, s6, rfl, rfl⟩
    obtain ⟨hi, rfl⟩ := arcs_it hx
    refine ⟨_, _, gv_tup (ds := [_, _, _, _]) hX (gvs_cons (gv_name hX v3) (gvs_cons (gv_name hX v4) (gvs_cons (gv_name hX v5) (gvs_cons (gv_name hX v6) gvs_nil)))) rfl, ?_⟩
    have hA := hN.all _ (ar_mem hi)
    have hs : (ar as i).1.toNat < pr.length := by have := hA.b0; have := hA.b1; omega
    have he : (ar as i).2.1.toNat < pr.length := by have := hA.e0; have := hA.e1; omega
    have b1 := at33 hB hs
    have b2 := at33 hB he
    have b3 := hA.w0
    have b4 := hA.w1
    have b5 := hA.r0
    have b6 := hA.r1
    rw [show (10 : Int) ^ 31 = 10000000000000000000000000000000 from by decide +kernel] at b6
    refine svs_augI hX v2 rfl ip_add (ev_max2 hX b_max ev_int (ev_mul (j := more as pr i) (ev_name v5.r rfl) (ev_add (ev_sub (ev_name v6.r rfl) (ev_ixL (ev_name v1.r rfl) (ev_name v3.r rfl) (Rdb.fz _) (atIntsI hA.b0 hs))) (ev_ixL (ev_name v1.r rfl) (ev_name v4.r rfl) (Rdb.fz _) (atIntsI hA.e0 he))) (small_mul 200 200 (by omega) (by unfold more; omega)))) ?_
    have e : max 0 ((ar as i).2.2.1 * more as pr i) = (if 0 < more as pr i then (ar as i).2.2.1 * more as pr i else 0) := by
      by_cases h : 0 < more as pr i
      · rw [if_pos h]
        have := Int.mul_nonneg b5 (Int.le_of_lt h)
        omega
      · rw [if_neg h]
        have := Int.mul_nonpos_of_nonneg_of_nonpos b5 (show more as pr i ≤ 0 by omega)
        omega
    rw [e, ← bsum_succ]
    exact svs_nil ⟨_, _, _, _, rfl, rfl⟩
  · rintro Γ' g ⟨s3, s4, s5, s6, rfl, rfl⟩
    rw [List.length_map, List.length_map]
    apply svs_retE
    refine EE.of (ev_name v2.r rfl) ?_
    exact fin_same hγ hP
theorem ok_bound_by {P : Program} {w : World} {K : PySem.W.Frag} {mg : Str → Option Value} {base : Heap} (g0 : G0 mg)
    {f : Addr} {fd : FuncData} (F : Fun K "bound_by" "bound_by" s_bound_by f fd) (hm : mg "bound_by" = some (.ref f)) : FnD P w K mg base "bound_by" 1 S_bound_by :=
  def_ok F sc_bound_by hm (F.binds (ps := ["arcs", "prices"]) fun _ _ _ _ _ _ us hl => match us, hl with | [_, _], _ => rfl) (fun args γ P h => len_bound_by h)
    fun X c args γ Po hγ hS => body_bound_by g0  c hγ hS
set_option maxHeartbeats 8000000 in
theorem body_bounded {P : Program} {w : World} {K : PySem.W.Frag} {mg : Str → Option Value} {base : Heap} (g0 : G0 mg)
    {X : Cx} (c : Ctx X P w K mg base N_bounded (defScope s_bounded) 0) {args : List Itm} {γ : Cells} {Po : EPost} (hγ : Clo γ) (hS : S_bounded args γ Po) :
    SVs X (slots0 N_bounded args) γ (defBody s_bounded) { nx := fun _ g => PL.Fin γ.length Po (.fz .none) g, rt := PL.Fin γ.length Po } := by
  have hX := c.ok
  have hp := c.po
  have v0 : Nm X "_law_arcs" 0 .local := c.nm 0 .local rfl (by decide +kernel) (.inl rfl) (by decide +kernel) (by decide +kernel)
  have v1 : Nm X "_law_prices" 1 .local := c.nm 1 .local rfl (by decide +kernel) (.inl rfl) (by decide +kernel) (by decide +kernel)
  have v2 : Nm X "_law_found" 2 .local := c.nm 2 .local rfl (by decide +kernel) (.inl rfl) (by decide +kernel) (by decide +kernel)
  have v3 : Nm X "_law_begin" 3 .local := c.nm 3 .local rfl (by decide +kernel) (.inl rfl) (by decide +kernel) (by decide +kernel)
  have v4 : Nm X "_law_end" 4 .local := c.nm 4 .local rfl (by decide +kernel) (.inl rfl) (by decide +kernel) (by decide +kernel)
  have v5 : Nm X "_law_room_here" 5 .local := c.nm 5 .local rfl (by decide +kernel) (.inl rfl) (by decide +kernel) (by decide +kernel)
  have v6 : Nm X "_law_own" 6 .local := c.nm 6 .local rfl (by decide +kernel) (.inl rfl) (by decide +kernel) (by decide +kernel)
  have v7 : Nm X "_law_more" 7 .local := c.nm 7 .local rfl (by decide +kernel) (.inl rfl) (by decide +kernel) (by decide +kernel)
  obtain ⟨many, as, pr, rfl, hN, hl, hB, hP⟩ := hS
  have hlen := hN.len
  apply svs_setE hX v2
  refine EE.of ev_int ?_
  refine svs_for hX hp (itv_list (ev_name v0.r rfl) (Rdb.fz _))
    (fun i Γ' g => ∃ s3 s4 s5 s6 s7, Γ' = [some (.fz (dArcs as)), some (.fz (.list (pr.map .int))), some (.fz (.int (bsum as pr i))), s3, s4, s5, s6, s7] ∧ g = γ) ⟨none, none, none, none, none, rfl, rfl⟩ (fun _ _ _ _ _ => Rdb.fz _) ?_ ?_
  · rintro i x Γ' g hx ⟨s3, s4, s5, s6, s7, rfl, rfl⟩
    obtain ⟨hi, rfl⟩ := arcs_it hx
    refine ⟨_, _, gv_tup (ds := [_, _, _, _]) hX (gvs_cons (gv_name hX v3) (gvs_cons (gv_name hX v4) (gvs_cons (gv_name hX v5) (gvs_cons (gv_name hX v6) gvs_nil)))) rfl, ?_⟩
    have hA := hN.all _ (ar_mem hi)
    have hs : (ar as i).1.toNat < pr.length := by have := hA.b0; have := hA.b1; omega
    have he : (ar as i).2.1.toNat < pr.length := by have := hA.e0; have := hA.e1; omega
    have b1 := at33 hB hs
    have b2 := at33 hB he
    have b3 := hA.w0
    have b4 := hA.w1
    have b5 := hA.r0
    have b6 := hA.r1
    rw [show (10 : Int) ^ 31 = 10000000000000000000000000000000 from by decide +kernel] at b6
    apply svs_setE hX v7
    refine EE.of (ev_add (ev_sub (ev_name v6.r rfl) (ev_ixL (ev_name v1.r rfl) (ev_name v3.r rfl) (Rdb.fz _) (atIntsI hA.b0 hs))) (ev_ixL (ev_name v1.r rfl) (ev_name v4.r rfl) (Rdb.fz _) (atIntsI hA.e0 he))) ?_
    have hmo : (ar as i).2.2.2 - pr.getD (ar as i).1.toNat 0 + pr.getD (ar as i).2.1.toNat 0 = more as pr i := rfl
    have hmb : (more as pr i).natAbs < 2 ^ 200 := by unfold more; omega
    rw [hmo]
    refine svs_if (tv_cmp (ev_name v7.r rfl) ev_int cmp_gt) (fun ht => ?_) (fun ht => svs_nil ?_)
    · have ht : more as pr i > 0 := of_decide_eq_true ht
      apply svs_setE hX v2
      refine EE.of (ev_add (ev_name v2.r rfl) (ev_mul (ev_name v5.r rfl) (ev_name v7.r rfl) (small_mul 200 200 (by omega) hmb))) ?_
      have e2 : bsum as pr (i + 1) = bsum as pr i + (ar as i).2.2.1 * more as pr i := by rw [bsum_succ, if_pos ht]
      rw [← e2]
      exact svs_nil (svs_nil ⟨_, _, _, _, _, rfl, rfl⟩)
    · have ht : ¬ more as pr i > 0 := of_decide_eq_false ht
      have e2 : bsum as pr (i + 1) = bsum as pr i := by rw [bsum_succ, if_neg ht, Int.add_zero]
      rw [← e2]
      exact svs_nil ⟨_, _, _, _, _, rfl, rfl⟩
  · rintro Γ' g ⟨s3, s4, s5, s6, s7, rfl, rfl⟩
    rw [List.length_map, List.length_map]
    apply svs_retE
    refine EE.of (ev_name v2.r rfl) ?_
    exact fin_same hγ hP
theorem ok_bounded {P : Program} {w : World} {K : PySem.W.Frag} {mg : Str → Option Value} {base : Heap} (g0 : G0 mg)
    {f : Addr} {fd : FuncData} (F : Fun K "_law_bounded" "_law_bounded" s_bounded f fd) (hm : mg "_law_bounded" = some (.ref f)) : FnD P w K mg base "_law_bounded" 1 S_bounded :=
  def_ok F sc_bounded hm (F.binds (ps := ["_law_arcs", "_law_prices"]) fun _ _ _ _ _ _ us hl => match us, hl with | [_, _], _ => rfl) (fun args γ P h => len_bounded h)
    fun X c args γ Po hγ hS => body_bounded g0  c hγ hS
end KK

namespace KK
open PySem PySem.Spec PyProof.Rows L2 PL M3
local macro_rules | `(tactic| tm_at "nm") => `(tactic| with_reducible first | assumption | exact Nm.r (by assumption))
local macro_rules | `(tactic| tm_at "bt") => `(tactic| with_reducible assumption)
local macro_rules | `(tactic| tm_at "asm") => `(tactic| assumption)
local macro_rules | `(tactic| tm_at "auto") => `(tactic| first | rfl | exact fun _ _ => rfl | (intro _; rfl) | decide | exact nomark _ | (with_unfolding_all rfl))
local macro_rules | `(tactic| tm_at "boot") => `(tactic| decide +kernel)
local macro_rules | `(tactic| tm_at "kit") => `(tactic| first | exact kit_int _ | exact kit_bool _ | exact kit_str _ | exact kit_list _ | exact kit_tuple _ | exact kit_dict _)
local macro_rules | `(tactic| tm_at "side") => `(tactic| first | assumption | decide | omega | (simp only [List.length_map, List.length_cons, List.length_nil, List.length_append]; omega) | (simp; done))
local macro_rules | `(tactic| tm_at "pos") => `(tactic| first | decide | assumption | exact Int.pow_pos (by decide) | omega)
local macro_rules | `(tactic| tm_at "mul") => `(tactic| first | assumption | (exact small_mul 200 200 (by omega) (by omega)))
local macro_rules | `(tactic| tm_at "div") => `(tactic| first | assumption | (exact wide_div (b := 200) (by omega) (by omega) (by decide) (by decide)))
local macro_rules | `(tactic| tm_at "pow") => `(tactic| (refine ⟨?_, ?_, ?_⟩ <;> decide))
local macro_rules | `(tactic| tm_at "rd") => `(tactic| first | exact Rdb.fz _ | exact Rdb.cl (by assumption) | exact Rdb.cl rfl)
local macro_rules | `(tactic| tm_at "rdl") => `(tactic| first | exact .inr rfl | exact .inl (by tm_at "rd"))
local macro_rules | `(tactic| tm_at "ix") => `(tactic| first | assumption | exact ix_0 | exact ix_1 | exact ix_2 | exact ix_3 | exact ix_4 | rfl)
local macro_rules | `(tactic| tm_at "cmp") => `(tactic| first | exact cmp_lt | exact cmp_le | exact cmp_gt | exact cmp_ge | exact cmp_eqI | exact cmp_neI | exact cmp_eqS | exact cmp_neS | exact cmp_isB | exact cmp_notB | exact cmp_isN | exact cmp_notN | exact cmp_eqB | exact cmp_neB)
local macro_rules | `(tactic| tm_at "intro") => `(tactic| (intro _; tm_at "e"))
local macro_rules | `(tactic| tm_at "introe") => `(tactic| (intro _; tm_at "e"))
local macro_rules | `(tactic| tm_at "introw") => `(tactic| (intro _; tm_at "w"))
local macro_rules | `(tactic| tm_at "a") => `(tactic| first
  | exact av_nil
  | (apply av_cons; (focus tm_at "e"); (focus tm_at "a"); (focus tm_at "auto")))
local macro_rules | `(tactic| tm_at "alli") => `(tactic| (repeat (first | exact all_nil | (refine all_cons ⟨_, rfl, ?_, ?_⟩ ?_; (focus omega); (focus omega)))))
local macro_rules | `(tactic| tm_at "afz") => `(tactic| first
  | exact av_nilF
  | (apply av_consF; (focus tm_at "e"); (focus tm_at "afz"); (focus tm_at "auto")))
local macro_rules | `(tactic| tm_at "o") => `(tactic| first
  | exact ov_none
  | (apply ov_some; (focus tm_at "e")))
local macro_rules | `(tactic| tm_at "e") => `(tactic| ((with_reducible show EV _ _ _ (Expr.Tuple _ _ _) _ _); first | (apply ev_tup; (focus tm_at "afz"); (focus tm_at "side"))))
local macro_rules | `(tactic| tm_at "e") => `(tactic| ((with_reducible show EV _ _ _ (Expr.List _ _) _ _); first | (apply ev_lst; (focus tm_at "afz"); (focus tm_at "side"))))
local macro_rules | `(tactic| tm_at "e") => `(tactic| ((with_reducible show EV _ _ _ (Expr.Call (Expr.Name _ _) _ _ _) _ _); first | (apply ev_lenL; (focus tm_at "bt"); (focus tm_at "e"); (focus tm_at "rd"); (focus tm_at "auto")) | (apply ev_lenC; (focus tm_at "bt"); (focus tm_at "e"); (focus tm_at "ix"); (focus tm_at "auto")) | (apply ev_lenT; (focus tm_at "bt"); (focus tm_at "e"); (focus tm_at "auto")) | (apply ev_lenS; (focus tm_at "bt"); (focus tm_at "e"); (focus tm_at "side"); (focus tm_at "auto")) | (apply ev_max2; (focus tm_at "asm"); (focus tm_at "bt"); (focus tm_at "e"); (focus tm_at "e"); (focus tm_at "auto"); (focus tm_at "auto"); (focus tm_at "auto")) | (apply ev_min2; (focus tm_at "asm"); (focus tm_at "bt"); (focus tm_at "e"); (focus tm_at "e"); (focus tm_at "auto"); (focus tm_at "auto"); (focus tm_at "auto")) | (apply ev_intB; (focus tm_at "bt"); (focus tm_at "e"); (focus tm_at "auto")) | (apply ev_intI; (focus tm_at "bt"); (focus tm_at "e"); (focus tm_at "auto")) | (apply ev_abs; (focus tm_at "bt"); (focus tm_at "e"); (focus tm_at "auto")) | (apply ev_sum; (focus tm_at "asm"); (focus tm_at "bt"); (focus tm_at "e"); (focus tm_at "rd"); (focus tm_at "auto")) | (apply ev_listF; (focus tm_at "bt"); (focus tm_at "e"); (focus tm_at "rdl"); (focus tm_at "auto")) | (apply ev_isi; (focus tm_at "bt"); (focus tm_at "bt"); (focus tm_at "boot"); (focus tm_at "e"); (focus tm_at "rd"); (focus tm_at "kit"); (focus tm_at "auto"); (focus tm_at "auto"); (focus tm_at "auto"); (focus tm_at "auto"); (focus tm_at "auto"))))
local macro_rules | `(tactic| tm_at "e") => `(tactic| ((with_reducible show EV _ _ _ (Expr.BoolOp BoolOp.Or _ _) _ _); first | (apply ev_or; (focus tm_at "e"); (focus tm_at "introe"))))
local macro_rules | `(tactic| tm_at "e") => `(tactic| ((with_reducible show EV _ _ _ (Expr.BoolOp BoolOp.And _ _) _ _); first | (apply ev_and; (focus tm_at "e"); (focus tm_at "introe"))))
local macro_rules | `(tactic| tm_at "e") => `(tactic| ((with_reducible show EV _ _ _ (Expr.BoolOp _ [_] _) _ _); first | (apply ev_one; (focus tm_at "e"))))
local macro_rules | `(tactic| tm_at "e") => `(tactic| ((with_reducible show EV _ _ _ (Expr.IfExp _ _ _ _) _ _); first | (apply ev_ifx; (focus tm_at "t"); (focus tm_at "intro"); (focus tm_at "intro"))))
local macro_rules | `(tactic| tm_at "e") => `(tactic| ((with_reducible show EV _ _ _ (Expr.Compare _ [_, _] [_, _] _) _ _); first | (apply ev_chain2; (focus tm_at "e"); (focus tm_at "e"); (focus tm_at "cmp"); (focus tm_at "e"); (focus tm_at "cmp"); (focus tm_at "auto"))))
local macro_rules | `(tactic| tm_at "e") => `(tactic| ((with_reducible show EV _ _ _ (Expr.Compare _ [_] [_] _) _ _); first | (apply ev_cmp; (focus tm_at "e"); (focus tm_at "e"); (focus tm_at "cmp"); (focus tm_at "auto"))))
local macro_rules | `(tactic| tm_at "e") => `(tactic| ((with_reducible show EV _ _ _ (Expr.UnaryOp UnaryOp.Not _ _) _ _); first | (apply ev_not; (focus tm_at "e"))))
local macro_rules | `(tactic| tm_at "e") => `(tactic| ((with_reducible show EV _ _ _ (Expr.UnaryOp UnaryOp.USub _ _) _ _); first | (apply ev_neg; (focus tm_at "e"))))
local macro_rules | `(tactic| tm_at "e") => `(tactic| ((with_reducible show EV _ _ _ (Expr.Subscript _ _ _) _ _); first | (apply ev_ixL; (focus tm_at "e"); (focus tm_at "e"); (focus tm_at "rd"); (focus tm_at "ix"); (focus tm_at "auto")) | (apply ev_ixT; (focus tm_at "e"); (focus tm_at "e"); (focus tm_at "ix"); (focus tm_at "auto")) | (apply ev_ixC; (focus tm_at "e"); (focus tm_at "e"); (focus tm_at "ix"); (focus tm_at "ix"); (focus tm_at "auto")) | (apply ev_ixP; (focus tm_at "e"); (focus tm_at "e"); (focus tm_at "ix"); (focus tm_at "auto"))))
local macro_rules | `(tactic| tm_at "e") => `(tactic| ((with_reducible show EV _ _ _ (Expr.Subscript _ (Expr.Slice _ _ _ _) _) _ _); first | (apply ev_slL; (focus tm_at "e"); (focus tm_at "o"); (focus tm_at "o"); (focus tm_at "rd")) | (apply ev_slT; (focus tm_at "e"); (focus tm_at "o"); (focus tm_at "o"); (focus tm_at "side"))))
local macro_rules | `(tactic| tm_at "e") => `(tactic| ((with_reducible show EV _ _ _ (Expr.BinOp _ Operator.Pow _ _) _ _); first | (apply ev_pow; (focus tm_at "e"); (focus tm_at "e"); (focus tm_at "pow"))))
local macro_rules | `(tactic| tm_at "e") => `(tactic| ((with_reducible show EV _ _ _ (Expr.BinOp _ Operator.FloorDiv _ _) _ _); first | (apply ev_div; (focus tm_at "e"); (focus tm_at "e"); (focus tm_at "div"))))
local macro_rules | `(tactic| tm_at "e") => `(tactic| ((with_reducible show EV _ _ _ (Expr.BinOp _ Operator.Mod _ _) _ _); first | (apply ev_mod; (focus tm_at "e"); (focus tm_at "e"); (focus tm_at "pos"))))
local macro_rules | `(tactic| tm_at "e") => `(tactic| ((with_reducible show EV _ _ _ (Expr.BinOp _ Operator.Mult _ _) _ _); first | (apply ev_mul; (focus tm_at "e"); (focus tm_at "e"); (focus tm_at "mul")) | (apply ev_repF; (focus tm_at "afz"); (focus tm_at "e"); (focus tm_at "side"); (focus tm_at "side"); (focus tm_at "side"))))
local macro_rules | `(tactic| tm_at "e") => `(tactic| ((with_reducible show EV _ _ _ (Expr.BinOp _ Operator.Sub _ _) _ _); first | (apply ev_sub; (focus tm_at "e"); (focus tm_at "e"))))
local macro_rules | `(tactic| tm_at "e") => `(tactic| ((with_reducible show EV _ _ _ (Expr.BinOp _ Operator.Add _ _) _ _); first | (apply ev_add; (focus tm_at "e"); (focus tm_at "e")) | (apply ev_catF; (focus tm_at "e"); (focus tm_at "e"); (focus tm_at "rd"); (focus tm_at "rd"); (focus tm_at "side")) | (apply ev_addS; (focus tm_at "e"); (focus tm_at "e"); (focus tm_at "side")) | (apply ev_catT; (focus tm_at "e"); (focus tm_at "e"); (focus tm_at "side"))))
local macro_rules | `(tactic| tm_at "e") => `(tactic| ((with_reducible show EV _ _ _ (Expr.Name _ _) _ _); first | (apply ev_name; (focus tm_at "nm"); (focus rfl))))
local macro_rules | `(tactic| tm_at "e") => `(tactic| ((with_reducible show EV _ _ _ (Expr.Constant _ _ _) _ _); first | exact ev_int | exact ev_bl | exact ev_str | exact ev_non))
local macro_rules | `(tactic| tm_at "t") => `(tactic| ((with_reducible show TV _ _ _ _ _ _); first | (apply tv_val; (focus tm_at "e"); (focus tm_at "auto")) | (apply tv_truthL; (focus tm_at "e"); (focus tm_at "rd"); (focus tm_at "auto")) | (apply tv_truthI; (focus tm_at "e"); (focus tm_at "auto"))))
local macro_rules | `(tactic| tm_at "t") => `(tactic| ((with_reducible show TV _ _ _ (Expr.BoolOp _ _ _) _ _); first | (apply tv_w; (focus tm_at "w"))))
local macro_rules | `(tactic| tm_at "t") => `(tactic| ((with_reducible show TV _ _ _ (Expr.UnaryOp UnaryOp.Not _ _) _ _); first | (apply tv_not; (focus tm_at "t"))))
local macro_rules | `(tactic| tm_at "t") => `(tactic| ((with_reducible show TV _ _ _ (Expr.Compare _ [_, _] [_, _] _) _ _); first | (apply tv_chain2; (focus tm_at "e"); (focus tm_at "e"); (focus tm_at "cmp"); (focus tm_at "e"); (focus tm_at "cmp"); (focus tm_at "auto"))))
local macro_rules | `(tactic| tm_at "t") => `(tactic| ((with_reducible show TV _ _ _ (Expr.Compare _ [_] [_] _) _ _); first | (apply tv_cmp; (focus tm_at "e"); (focus tm_at "e"); (focus tm_at "cmp"); (focus tm_at "auto"))))
local macro_rules | `(tactic| tm_at "w") => `(tactic| ((with_reducible show WV _ _ _ (Expr.BoolOp BoolOp.Or _ _) _ _); first | (apply wv_or; (focus tm_at "t"); (focus tm_at "introw"))))
local macro_rules | `(tactic| tm_at "w") => `(tactic| ((with_reducible show WV _ _ _ (Expr.BoolOp BoolOp.And _ _) _ _); first | (apply wv_and; (focus tm_at "t"); (focus tm_at "introw"))))
local macro_rules | `(tactic| tm_at "w") => `(tactic| ((with_reducible show WV _ _ _ (Expr.BoolOp BoolOp.Or [_] _) _ _); first | (apply wv_or1; (focus tm_at "t"))))
local macro_rules | `(tactic| tm_at "w") => `(tactic| ((with_reducible show WV _ _ _ (Expr.BoolOp BoolOp.And [_] _) _ _); first | (apply wv_and1; (focus tm_at "t"))))

abbrev B31 : Int := 10000000000000000000000000000000
theorem Bd.mono {B C : Int} {fs : List Int} (h : Bd B fs) (hc : B ≤ C) : Bd C fs := fun x hx => by
  have := h x hx; omega
theorem Bd.app {B : Int} {fs gs : List Int} (h : Bd B fs) (h2 : Bd B gs) : Bd B (fs ++ gs) := fun x hx => by
  rcases List.mem_append.mp hx with h3 | h3
  · exact h x h3
  · exact h2 x h3
theorem Bd.cut {B : Int} {fs : List Int} (h : Bd B fs) (lo hi : Option Int) : Bd B (PL.cutD fs lo hi) := fun x hx => by
  unfold PL.cutD at hx
  exact h x (List.mem_of_mem_drop (List.mem_of_mem_take hx))
theorem Bd.set {B : Int} {fs : List Int} {j : Nat} {x : Int} (h : Bd B fs) (hx : -B ≤ x ∧ x ≤ B) : Bd B (fs.set j x) := fun y hy => by
  rcases List.mem_or_eq_of_mem_set hy with h1 | h1
  · exact h y h1
  · rw [h1]; exact hx
theorem cut_len2 (fs : List Int) (j : Nat) (hj : j < fs.length) : (PL.cutD fs none (some (j : Int)) ++ PL.cutD fs (some ((j : Int) + 1)) none).length = fs.length - 1 := by
  unfold PL.cutD
  rw [List.length_append, List.length_take, List.length_take, List.length_drop, List.length_drop]
  rw [HT.sIx_none, HT.sIx_none, HT.sIx_nat, show (j : Int) + 1 = ((j + 1 : Nat) : Int) by omega, HT.sIx_nat]
  omega
def S_bent : PSpec := fun args γ P => ∃ a c γ0 k m fs, args = [a, .cl c, .fz (.list (fs.map .int))] ∧ isScript a ∧ γ = at_ γ0 c k ∧ c < γ0.length ∧ 0 ≤ k ∧ k ≤ m ∧ m ≤ 900000 ∧ fs.length ≤ 63 ∧ Bd B31 fs ∧ ∀ (bs : List Int) (k' : Int), bs.length ≤ 64 → Bd B33 bs → 0 ≤ k' → k' ≤ m + 10 → P (.fz (.list (bs.map .int))) (at_ γ0 c k')
theorem len_bent {args γ P} (h : S_bent args γ P) : args.length = 3 := by obtain ⟨a, c, γ0, k, m, fs, rfl, _⟩ := h; rfl
theorem natOf {d : Int} {n : Nat} (h : 0 < n) : ∃ j : Nat, d % (n : Int) = (j : Int) ∧ j < n := ⟨(d % (n : Int)).toNat, by have := Int.emod_nonneg d (show (n : Int) ≠ 0 by omega); omega, by
  have := Int.emod_nonneg d (show (n : Int) ≠ 0 by omega)
  have := Int.emod_lt_of_pos d (show 0 < (n : Int) by omega); omega⟩
set_option maxHeartbeats 8000000 in
theorem body_bent {P : Program} {w : World} {K : PySem.W.Frag} {mg : Str → Option Value} {base : Heap} (g0 : G0 mg)
    (D_drawn : FnD P w K mg base "_law_drawn" 1 S_drawn)
    {X : Cx} (c : Ctx X P w K mg base N_bent (defScope s_bent) 1) {args : List Itm} {γ : Cells} {Po : EPost} (hγ : Clo γ) (hS : S_bent args γ Po) :
    SVs X (slots0 N_bent args) γ (defBody s_bent) { nx := fun _ g => PL.Fin γ.length Po (.fz .none) g, rt := PL.Fin γ.length Po } := by
  have hX := c.ok
  have hp := c.po
  have v0 : Nm X "_law_script" 0 .local := c.nm 0 .local rfl (by decide +kernel) (.inl rfl) (by decide +kernel) (by decide +kernel)
  have v1 : Nm X "_law_at" 1 .local := c.nm 1 .local rfl (by decide +kernel) (.inl rfl) (by decide +kernel) (by decide +kernel)
  have v2 : Nm X "_law_flows_here" 2 .local := c.nm 2 .local rfl (by decide +kernel) (.inl rfl) (by decide +kernel) (by decide +kernel)
  have v3 : Nm X "_law_found" 3 .local := c.nm 3 .local rfl (by decide +kernel) (.inl rfl) (by decide +kernel) (by decide +kernel)
  have v4 : Nm X "_law_way" 4 .local := c.nm 4 .local rfl (by decide +kernel) (.inl rfl) (by decide +kernel) (by decide +kernel)
  have v5 : Nm X "_law_spot" 5 .local := c.nm 5 .local rfl (by decide +kernel) (.inl rfl) (by decide +kernel) (by decide +kernel)
  have v6 : Nm X "_law_turn" 6 .local := c.nm 6 .local rfl (by decide +kernel) (.inl rfl) (by decide +kernel) (by decide +kernel)
  have b_list : Bt X "list" := c.bt (by decide +kernel) g0.b_list
  have k_drawn : Cal X "_law_drawn" S_drawn := c.cal D_drawn (by decide) (by decide +kernel) (by decide +kernel)
  have b_len : Bt X "len" := c.bt (by decide +kernel) g0.b_len
  have b_range : Bt X "range" := c.bt (by decide +kernel) g0.b_range
  obtain ⟨a, cc, γ0, k, m, fs, rfl, ⟨ns, rfl, hn⟩, rfl, hc, hk0, hkm, hm, hfl, hB, hP⟩ := hS
  have hF : ∀ (bs : List Int) (k' : Int) (o : Cell), bs.length ≤ 64 → Bd B33 bs → 0 ≤ k' → k' ≤ m + 10 → PL.Fin (at_ γ0 cc k).length Po (.fz (.list (bs.map .int))) (at_ (γ0 ++ [o]) cc k') := fun bs k' o h1 h2 h3 h4 => fin_at_junk hc hγ (hP bs k' h1 h2 h3 h4)
  rw [at_len] at hF
  have hF' : ∀ (bs : List Int) (k' : Int) (o : Cell), bs.length ≤ 64 → Bd B33 bs → 0 ≤ k' → k' ≤ m + 10 → PL.Fin (at_ γ0 cc k).length Po (.fz (.list (bs.map .int))) (at_ (γ0 ++ [o]) cc k') := by rw [at_len]; exact hF
  apply svs_setE hX v3
  refine EE.of (ev_listC b_list (ev_name v2.r rfl) (.inl (Rdb.fz _))) ?_
  rw [show (at_ γ0 cc k ++ [Cell.lst ((fs.map PyData.int).map Itm.fz)]) = at_ (γ0 ++ [Cell.lst ((fs.map PyData.int).map Itm.fz)]) cc k from at_app hc k _]
  have hlc : (at_ γ0 cc k).length = γ0.length := at_len ..
  have hcc : ∀ o : Cell, cc < (γ0 ++ [o]).length := fun o => by rw [List.length_append]; omega
  have hlast : ∀ (gs : List Int) (k' : Int), (at_ (γ0 ++ [Cell.lst ((gs.map PyData.int).map Itm.fz)]) cc k')[(at_ γ0 cc k).length]? = some (.lst ((gs.map PyData.int).map Itm.fz)) := fun gs k' => by rw [hlc]; exact at_last hc k' _
  have hsetl : ∀ (o o' : Cell) (k' : Int), (at_ (γ0 ++ [o]) cc k').set (at_ γ0 cc k).length o' = at_ (γ0 ++ [o']) cc k' := fun o o' k' => by rw [hlc]; exact at_setl hc k' o o'
  apply svs_setE hX v4
  refine ee_mod (ee_call' k_drawn (AE.of (γ1 := at_ _ cc k) (rs := [.fz (.list (ns.map .int)), .cl cc]) (by tm_at "a") (use_drawn m hn (hcc _) hk0 hkm (by omega) fun d k1 hd0 hd1 h10 h11 => ⟨d, rfl, ?_⟩)))
  refine EE.of (γ1 := at_ _ cc k1) (r := .fz (.int 6)) (by tm_at "e") ⟨6, rfl, by decide, ?_⟩
  generalize d % 6 = way
  refine svs_if (tv_w (wv_or (tv_cmp (ev_name v4.r rfl) ev_int cmp_eqI) fun _ => wv_or1 (tv_cmp (ev_name v3.r rfl) (ev_lst (ds := []) av_nil) (cmp_eqD hX (Rdb.cl (hlast _ _)) (Rdb.fz _) (shp_ints fs).shaped (shp_ints []).shaped)))) (fun h => ?_) (fun h => svs_nil ?_)
  · apply svs_retE
    refine EE.of (ev_catF (ds := fs.map PyData.int) (es' := [0].map PyData.int) (ev_name v3.r rfl) (ev_lst (ds := [.int 0]) (by tm_at "afz")) (Rdb.cl (hlast _ _)) (Rdb.fz _) (by simp; omega)) ?_
    rw [← List.map_append]
    exact hF' _ k1 _ (by simp; omega) (Bd.app (hB.mono (by decide)) (fun x hx => by have : x = 0 := by simpa using hx
                                                                                    subst this; decide)) h10 (by omega)
  · have hne : fs ≠ [] := fun e => by
      subst e
      rw [Bool.or_eq_false_iff] at h
      have := h.2
      simp [PyData.eqv, PyData.eqvAll] at this
    have hpos : 0 < fs.length := List.length_pos_iff.mpr hne
    apply svs_setE hX v5
    refine ee_mod (ee_call' k_drawn (AE.of (γ1 := at_ _ cc k1) (rs := [.fz (.list (ns.map .int)), .cl cc]) (by tm_at "a") (use_drawn (m + 1) hn (hcc _) h10 h11 (by omega) fun d k2 hd0 hd1 h20 h21 => ⟨d, rfl, ?_⟩)))
    refine EE.of (ev_lenC b_len (ev_name v3.r rfl) (hlast _ _)) ⟨_, rfl, by simp; omega, ?_⟩
    rw [List.length_map, List.length_map]
    obtain ⟨j, hj, hjl⟩ := natOf (d := d) hpos
    rw [hj]
    refine svs_if (tv_cmp (ev_name v4.r rfl) ev_int cmp_eqI) (fun h => ?_) (fun h => svs_nil ?_)
    · apply svs_retE
      refine EE.of (ev_catF (ds := PL.cutD (fs.map PyData.int) none (some (j : Int))) (es' := PL.cutD (fs.map PyData.int) (some ((j : Int) + 1)) none) (ev_slL (ev_name v3.r rfl) ov_none (ov_some (ev_name v5.r rfl)) (Rdb.cl (hlast _ _))) (ev_slL (ev_name v3.r rfl) (ov_some (ev_add (ev_name v5.r rfl) ev_int)) ov_none (Rdb.cl (hlast _ _))) (Rdb.fz _) (Rdb.fz _) ?_) ?_
      · have h1 := cutD_length (fs.map PyData.int) none (some (j : Int))
        have h2 := cutD_length (fs.map PyData.int) (some ((j : Int) + 1)) none
        simp only [List.length_map] at h1 h2
        omega
      · rw [cutD_map, cutD_map, ← List.map_append]
        refine hF' _ k2 _ ?_ (Bd.app ((hB.cut _ _).mono (by decide)) ((hB.cut _ _).mono (by decide))) h20 (by omega)
        rw [cut_len2 fs j hjl]; omega
    · refine svs_forE hX hp (ite_range1 b_range (ee_add (EE.of (γ1 := at_ _ cc k2) (r := .fz (.int 1)) ev_int ⟨1, rfl, ?_⟩)))
      refine ee_mod (ee_call' k_drawn (AE.of (γ1 := at_ _ cc k2) (rs := [.fz (.list (ns.map .int)), .cl cc]) (by tm_at "a") (use_drawn (m + 2) hn (hcc _) h20 (by omega) (by omega) fun d k3 hd0 hd1 h30 h31 => ⟨d, rfl, ?_⟩)))
      refine EE.of (γ1 := at_ _ cc k3) (r := .fz (.int 2)) ev_int ⟨2, rfl, by decide, _, rfl, _, rfl, by omega, by omega, ?_⟩
      refine ⟨fun i Γ' g => ∃ (gs : List Int) (k : Int) (s5 s6 : Option Itm), Γ' = [some (.fz (.list (ns.map .int))), some (.cl cc), some (.fz (.list (fs.map .int))), some (.cl γ0.length), some (.fz (.int way)), s5, s6] ∧ g = at_ (γ0 ++ [.lst ((gs.map PyData.int).map Itm.fz)]) cc k ∧ gs.length = fs.length ∧ Bd (10000000000000000000000000000000 + (i : Int) * 100000000000000000000000000000000) gs ∧ 0 ≤ k ∧ k ≤ m + 3 + 2 * (i : Int), ?_, fun _ _ _ _ _ => trivial, ?_, ?_⟩
      · rw [hlc]
        exact ⟨fs, k3, _, _, rfl, rfl, rfl, hB.mono (by decide), h30, by omega⟩
      · rintro i x Γ' g hx ⟨gs, k4, s5, s6, rfl, rfl, hgl, hgB, h40, h41⟩
        obtain ⟨hi, rfl⟩ := rngL_get hx
        have hi : i < 2 := by omega
        refine ⟨_, _, gv_name hX v6, ?_⟩
        apply svs_setE hX v5
        refine ee_mod (ee_call' k_drawn (AE.of (γ1 := at_ _ cc k4) (rs := [.fz (.list (ns.map .int)), .cl cc]) (by tm_at "a") (use_drawn (m + 3 + 2 * (i : Int)) hn (hcc _) h40 h41 (by omega) fun d k5 hd0 hd1 h50 h51 => ⟨d, rfl, ?_⟩)))
        refine EE.of (ev_lenC b_len (ev_name v3.r rfl) (at_last hc k5 _)) ⟨_, rfl, by simp; omega, ?_⟩
        rw [List.length_map, List.length_map]
        obtain ⟨j, hj, hjl⟩ := natOf (d := d) (show 0 < gs.length by omega)
        rw [hj]
        refine svs_setitemE ?_
        refine ee_add (EE.of (γ1 := at_ _ cc k5) (ev_ixC (ev_name v3.r rfl) (ev_name v5.r rfl) (at_last hc k5 _) (atIntsF hjl)) ⟨_, rfl, ?_⟩)
        refine ee_ixL (EE.of (γ1 := at_ _ cc k5) (r := .fz (.list [.int 1, .int (0 - 1), .int (10 ^ (32 : Int).toNat), .int (0 - 10 ^ (31 : Int).toNat)])) (by tm_at "e") ?_)
        refine ee_mod (ee_call' k_drawn (AE.of (γ1 := at_ _ cc k5) (rs := [.fz (.list (ns.map .int)), .cl cc]) (by tm_at "a") (use_drawn (m + 4 + 2 * (i : Int)) hn (hcc _) h50 (by omega) (by omega) fun d6 k6 hd60 hd61 h60 h61 => ⟨d6, rfl, ?_⟩)))
        refine EE.of (γ1 := at_ _ cc k6) (r := .fz (.int 4)) (by tm_at "e") ⟨4, rfl, by decide, ?_⟩
        have e32 : (10 : Int) ^ (32 : Int).toNat = 100000000000000000000000000000000 := by decide +kernel
        have e31 : (10 : Int) ^ (31 : Int).toNat = 10000000000000000000000000000000 := by decide +kernel
        rw [e32, e31]
        refine pick_go (iB (-100000000000000000000000000000000) 100000000000000000000000000000000) (by omega) (by simp only [List.length_cons, List.length_nil]; omega) (by tm_at "alli") ?_
        rintro _ ⟨y, rfl, hy0, hy1⟩
        refine ⟨_, rfl, γ0.length, (j : Int), j, _, _, _, ev_name v3.r rfl, ev_name v5.r rfl, at_last hc k6 _, ?_, ?_⟩
        · rw [List.length_map, List.length_map]; unfold ixN; simp; omega
        · rw [at_setl hc, intsSet]
          refine svs_nil ⟨_, k6, _, _, rfl, rfl, by rw [List.length_set, hgl], Bd.set (hgB.mono ?_) ?_, h60, by omega⟩
          · rw [show ((i + 1 : Nat) : Int) = (i : Int) + 1 by omega]; omega
          · have := hgB.at hjl
            rw [show ((i + 1 : Nat) : Int) = (i : Int) + 1 by omega]; omega
      · rintro Γ' g ⟨gs, k4, s5, s6, rfl, rfl, hgl, hgB, h40, h41⟩
        rw [rngL_length] at hgB h41
        refine SVs.freeze (i := 3) (c := γ0.length) (ds := gs.map PyData.int) rfl (at_last hc k4 _) ?_
        rw [at_setl hc]
        apply svs_retE
        refine EE.of (ev_name v3.r rfl) ?_
        refine hF' gs k4 _ (by omega) (hgB.mono ?_) h40 (by omega)
        show _ ≤ (1000000000000000000000000000000000 : Int)
        omega
theorem ok_bent {P : Program} {w : World} {K : PySem.W.Frag} {mg : Str → Option Value} {base : Heap} (g0 : G0 mg)
    (D_drawn : FnD P w K mg base "_law_drawn" 1 S_drawn)
    {f : Addr} {fd : FuncData} (F : Fun K "_law_bent" "_law_bent" s_bent f fd) (hm : mg "_law_bent" = some (.ref f)) : FnD P w K mg base "_law_bent" 2 S_bent :=
  def_ok F sc_bent hm (F.binds (ps := ["_law_script", "_law_at", "_law_flows_here"]) fun _ _ _ _ _ _ us hl => match us, hl with | [_, _, _], _ => rfl) (fun args γ P h => len_bent h)
    fun X c args γ Po hγ hS => body_bent g0 D_drawn c hγ hS
end KK

namespace KK
open PySem PySem.Spec PyProof.Rows L2 PL M3
local macro_rules | `(tactic| tm_at "nm") => `(tactic| with_reducible first | assumption | exact Nm.r (by assumption))
local macro_rules | `(tactic| tm_at "bt") => `(tactic| with_reducible assumption)
local macro_rules | `(tactic| tm_at "asm") => `(tactic| assumption)
local macro_rules | `(tactic| tm_at "auto") => `(tactic| first | rfl | exact fun _ _ => rfl | (intro _; rfl) | decide | exact nomark _ | (with_unfolding_all rfl))
local macro_rules | `(tactic| tm_at "boot") => `(tactic| decide +kernel)
local macro_rules | `(tactic| tm_at "kit") => `(tactic| first | exact kit_int _ | exact kit_bool _ | exact kit_str _ | exact kit_list _ | exact kit_tuple _ | exact kit_dict _)
local macro_rules | `(tactic| tm_at "side") => `(tactic| first | assumption | decide | omega | (simp only [List.length_map, List.length_cons, List.length_nil, List.length_append]; omega) | (simp; done))
local macro_rules | `(tactic| tm_at "pos") => `(tactic| first | decide | assumption | exact Int.pow_pos (by decide) | omega)
local macro_rules | `(tactic| tm_at "mul") => `(tactic| first | assumption | (exact small_mul 200 200 (by omega) (by omega)))
local macro_rules | `(tactic| tm_at "div") => `(tactic| first | assumption | (exact wide_div (b := 200) (by omega) (by omega) (by decide) (by decide)))
local macro_rules | `(tactic| tm_at "pow") => `(tactic| (refine ⟨?_, ?_, ?_⟩ <;> decide))
local macro_rules | `(tactic| tm_at "rd") => `(tactic| first | exact Rdb.fz _ | exact Rdb.cl (by assumption) | exact Rdb.cl rfl)
local macro_rules | `(tactic| tm_at "rdl") => `(tactic| first | exact .inr rfl | exact .inl (by tm_at "rd"))
local macro_rules | `(tactic| tm_at "ix") => `(tactic| first | assumption | exact ix_0 | exact ix_1 | exact ix_2 | exact ix_3 | exact ix_4 | rfl)
local macro_rules | `(tactic| tm_at "cmp") => `(tactic| first | exact cmp_lt | exact cmp_le | exact cmp_gt | exact cmp_ge | exact cmp_eqI | exact cmp_neI | exact cmp_eqS | exact cmp_neS | exact cmp_isB | exact cmp_notB | exact cmp_isN | exact cmp_notN | exact cmp_eqB | exact cmp_neB)
local macro_rules | `(tactic| tm_at "intro") => `(tactic| (intro _; tm_at "e"))
local macro_rules | `(tactic| tm_at "introe") => `(tactic| (intro _; tm_at "e"))
local macro_rules | `(tactic| tm_at "introw") => `(tactic| (intro _; tm_at "w"))
local macro_rules | `(tactic| tm_at "a") => `(tactic| first
  | exact av_nil
  | (apply av_cons; (focus tm_at "e"); (focus tm_at "a"); (focus tm_at "auto")))
local macro_rules | `(tactic| tm_at "alli") => `(tactic| (repeat (first | exact all_nil | (refine all_cons ⟨_, rfl, ?_, ?_⟩ ?_; (focus omega); (focus omega)))))
local macro_rules | `(tactic| tm_at "afz") => `(tactic| first
  | exact av_nilF
  | (apply av_consF; (focus tm_at "e"); (focus tm_at "afz"); (focus tm_at "auto")))
local macro_rules | `(tactic| tm_at "o") => `(tactic| first
  | exact ov_none
  | (apply ov_some; (focus tm_at "e")))
local macro_rules | `(tactic| tm_at "e") => `(tactic| ((with_reducible show EV _ _ _ (Expr.Tuple _ _ _) _ _); first | (apply ev_tup; (focus tm_at "afz"); (focus tm_at "side"))))
local macro_rules | `(tactic| tm_at "e") => `(tactic| ((with_reducible show EV _ _ _ (Expr.List _ _) _ _); first | (apply ev_lst; (focus tm_at "afz"); (focus tm_at "side"))))
local macro_rules | `(tactic| tm_at "e") => `(tactic| ((with_reducible show EV _ _ _ (Expr.Call (Expr.Name _ _) _ _ _) _ _); first | (apply ev_lenL; (focus tm_at "bt"); (focus tm_at "e"); (focus tm_at "rd"); (focus tm_at "auto")) | (apply ev_lenC; (focus tm_at "bt"); (focus tm_at "e"); (focus tm_at "ix"); (focus tm_at "auto")) | (apply ev_lenT; (focus tm_at "bt"); (focus tm_at "e"); (focus tm_at "auto")) | (apply ev_lenS; (focus tm_at "bt"); (focus tm_at "e"); (focus tm_at "side"); (focus tm_at "auto")) | (apply ev_max2; (focus tm_at "asm"); (focus tm_at "bt"); (focus tm_at "e"); (focus tm_at "e"); (focus tm_at "auto"); (focus tm_at "auto"); (focus tm_at "auto")) | (apply ev_min2; (focus tm_at "asm"); (focus tm_at "bt"); (focus tm_at "e"); (focus tm_at "e"); (focus tm_at "auto"); (focus tm_at "auto"); (focus tm_at "auto")) | (apply ev_intB; (focus tm_at "bt"); (focus tm_at "e"); (focus tm_at "auto")) | (apply ev_intI; (focus tm_at "bt"); (focus tm_at "e"); (focus tm_at "auto")) | (apply ev_abs; (focus tm_at "bt"); (focus tm_at "e"); (focus tm_at "auto")) | (apply ev_sum; (focus tm_at "asm"); (focus tm_at "bt"); (focus tm_at "e"); (focus tm_at "rd"); (focus tm_at "auto")) | (apply ev_listF; (focus tm_at "bt"); (focus tm_at "e"); (focus tm_at "rdl"); (focus tm_at "auto")) | (apply ev_isi; (focus tm_at "bt"); (focus tm_at "bt"); (focus tm_at "boot"); (focus tm_at "e"); (focus tm_at "rd"); (focus tm_at "kit"); (focus tm_at "auto"); (focus tm_at "auto"); (focus tm_at "auto"); (focus tm_at "auto"); (focus tm_at "auto"))))
local macro_rules | `(tactic| tm_at "e") => `(tactic| ((with_reducible show EV _ _ _ (Expr.BoolOp BoolOp.Or _ _) _ _); first | (apply ev_or; (focus tm_at "e"); (focus tm_at "introe"))))
local macro_rules | `(tactic| tm_at "e") => `(tactic| ((with_reducible show EV _ _ _ (Expr.BoolOp BoolOp.And _ _) _ _); first | (apply ev_and; (focus tm_at "e"); (focus tm_at "introe"))))
local macro_rules | `(tactic| tm_at "e") => `(tactic| ((with_reducible show EV _ _ _ (Expr.BoolOp _ [_] _) _ _); first | (apply ev_one; (focus tm_at "e"))))
local macro_rules | `(tactic| tm_at "e") => `(tactic| ((with_reducible show EV _ _ _ (Expr.IfExp _ _ _ _) _ _); first | (apply ev_ifx; (focus tm_at "t"); (focus tm_at "intro"); (focus tm_at "intro"))))
local macro_rules | `(tactic| tm_at "e") => `(tactic| ((with_reducible show EV _ _ _ (Expr.Compare _ [_, _] [_, _] _) _ _); first | (apply ev_chain2; (focus tm_at "e"); (focus tm_at "e"); (focus tm_at "cmp"); (focus tm_at "e"); (focus tm_at "cmp"); (focus tm_at "auto"))))
local macro_rules | `(tactic| tm_at "e") => `(tactic| ((with_reducible show EV _ _ _ (Expr.Compare _ [_] [_] _) _ _); first | (apply ev_cmp; (focus tm_at "e"); (focus tm_at "e"); (focus tm_at "cmp"); (focus tm_at "auto"))))
local macro_rules | `(tactic| tm_at "e") => `(tactic| ((with_reducible show EV _ _ _ (Expr.UnaryOp UnaryOp.Not _ _) _ _); first | (apply ev_not; (focus tm_at "e"))))
local macro_rules | `(tactic| tm_at "e") => `(tactic| ((with_reducible show EV _ _ _ (Expr.UnaryOp UnaryOp.USub _ _) _ _); first | (apply ev_neg; (focus tm_at "e"))))
local macro_rules | `(tactic| tm_at "e") => `(tactic| ((with_reducible show EV _ _ _ (Expr.Subscript _ _ _) _ _); first | (apply ev_ixL; (focus tm_at "e"); (focus tm_at "e"); (focus tm_at "rd"); (focus tm_at "ix"); (focus tm_at "auto")) | (apply ev_ixT; (focus tm_at "e"); (focus tm_at "e"); (focus tm_at "ix"); (focus tm_at "auto")) | (apply ev_ixC; (focus tm_at "e"); (focus tm_at "e"); (focus tm_at "ix"); (focus tm_at "ix"); (focus tm_at "auto")) | (apply ev_ixP; (focus tm_at "e"); (focus tm_at "e"); (focus tm_at "ix"); (focus tm_at "auto"))))
local macro_rules | `(tactic| tm_at "e") => `(tactic| ((with_reducible show EV _ _ _ (Expr.Subscript _ (Expr.Slice _ _ _ _) _) _ _); first | (apply ev_slL; (focus tm_at "e"); (focus tm_at "o"); (focus tm_at "o"); (focus tm_at "rd")) | (apply ev_slT; (focus tm_at "e"); (focus tm_at "o"); (focus tm_at "o"); (focus tm_at "side"))))
local macro_rules | `(tactic| tm_at "e") => `(tactic| ((with_reducible show EV _ _ _ (Expr.BinOp _ Operator.Pow _ _) _ _); first | (apply ev_pow; (focus tm_at "e"); (focus tm_at "e"); (focus tm_at "pow"))))
local macro_rules | `(tactic| tm_at "e") => `(tactic| ((with_reducible show EV _ _ _ (Expr.BinOp _ Operator.FloorDiv _ _) _ _); first | (apply ev_div; (focus tm_at "e"); (focus tm_at "e"); (focus tm_at "div"))))
local macro_rules | `(tactic| tm_at "e") => `(tactic| ((with_reducible show EV _ _ _ (Expr.BinOp _ Operator.Mod _ _) _ _); first | (apply ev_mod; (focus tm_at "e"); (focus tm_at "e"); (focus tm_at "pos"))))
local macro_rules | `(tactic| tm_at "e") => `(tactic| ((with_reducible show EV _ _ _ (Expr.BinOp _ Operator.Mult _ _) _ _); first | (apply ev_mul; (focus tm_at "e"); (focus tm_at "e"); (focus tm_at "mul")) | (apply ev_repF; (focus tm_at "afz"); (focus tm_at "e"); (focus tm_at "side"); (focus tm_at "side"); (focus tm_at "side"))))
local macro_rules | `(tactic| tm_at "e") => `(tactic| ((with_reducible show EV _ _ _ (Expr.BinOp _ Operator.Sub _ _) _ _); first | (apply ev_sub; (focus tm_at "e"); (focus tm_at "e"))))
local macro_rules | `(tactic| tm_at "e") => `(tactic| ((with_reducible show EV _ _ _ (Expr.BinOp _ Operator.Add _ _) _ _); first | (apply ev_add; (focus tm_at "e"); (focus tm_at "e")) | (apply ev_catF; (focus tm_at "e"); (focus tm_at "e"); (focus tm_at "rd"); (focus tm_at "rd"); (focus tm_at "side")) | (apply ev_addS; (focus tm_at "e"); (focus tm_at "e"); (focus tm_at "side")) | (apply ev_catT; (focus tm_at "e"); (focus tm_at "e"); (focus tm_at "side"))))
local macro_rules | `(tactic| tm_at "e") => `(tactic| ((with_reducible show EV _ _ _ (Expr.Name _ _) _ _); first | (apply ev_name; (focus tm_at "nm"); (focus rfl))))
local macro_rules | `(tactic| tm_at "e") => `(tactic| ((with_reducible show EV _ _ _ (Expr.Constant _ _ _) _ _); first | exact ev_int | exact ev_bl | exact ev_str | exact ev_non))
local macro_rules | `(tactic| tm_at "t") => `(tactic| ((with_reducible show TV _ _ _ _ _ _); first | (apply tv_val; (focus tm_at "e"); (focus tm_at "auto")) | (apply tv_truthL; (focus tm_at "e"); (focus tm_at "rd"); (focus tm_at "auto")) | (apply tv_truthI; (focus tm_at "e"); (focus tm_at "auto"))))
local macro_rules | `(tactic| tm_at "t") => `(tactic| ((with_reducible show TV _ _ _ (Expr.BoolOp _ _ _) _ _); first | (apply tv_w; (focus tm_at "w"))))
local macro_rules | `(tactic| tm_at "t") => `(tactic| ((with_reducible show TV _ _ _ (Expr.UnaryOp UnaryOp.Not _ _) _ _); first | (apply tv_not; (focus tm_at "t"))))
local macro_rules | `(tactic| tm_at "t") => `(tactic| ((with_reducible show TV _ _ _ (Expr.Compare _ [_, _] [_, _] _) _ _); first | (apply tv_chain2; (focus tm_at "e"); (focus tm_at "e"); (focus tm_at "cmp"); (focus tm_at "e"); (focus tm_at "cmp"); (focus tm_at "auto"))))
local macro_rules | `(tactic| tm_at "t") => `(tactic| ((with_reducible show TV _ _ _ (Expr.Compare _ [_] [_] _) _ _); first | (apply tv_cmp; (focus tm_at "e"); (focus tm_at "e"); (focus tm_at "cmp"); (focus tm_at "auto"))))
local macro_rules | `(tactic| tm_at "w") => `(tactic| ((with_reducible show WV _ _ _ (Expr.BoolOp BoolOp.Or _ _) _ _); first | (apply wv_or; (focus tm_at "t"); (focus tm_at "introw"))))
local macro_rules | `(tactic| tm_at "w") => `(tactic| ((with_reducible show WV _ _ _ (Expr.BoolOp BoolOp.And _ _) _ _); first | (apply wv_and; (focus tm_at "t"); (focus tm_at "introw"))))
local macro_rules | `(tactic| tm_at "w") => `(tactic| ((with_reducible show WV _ _ _ (Expr.BoolOp BoolOp.Or [_] _) _ _); first | (apply wv_or1; (focus tm_at "t"))))
local macro_rules | `(tactic| tm_at "w") => `(tactic| ((with_reducible show WV _ _ _ (Expr.BoolOp BoolOp.And [_] _) _ _); first | (apply wv_and1; (focus tm_at "t"))))

theorem zip_range (as : List Arc) (fs : List Int) (h : fs.length = as.length) : as.zip fs = (List.range as.length).map fun i => (ar as i, fs.getD i 0) := by
  apply List.ext_getElem
  · simp [h]
  · intro i h1 h2
    have hi : i < as.length := by simpa using h2
    have hj : i < fs.length := by omega
    simp [ar, hi, hj]
theorem sE_inn (as : List Arc) (fs : List Int) (p : Int) (h : fs.length = as.length) : sE as fs p = inn as fs p as.length := by
  unfold sE
  rw [zip_range as fs h, List.map_map]
  have : ∀ n, ((List.range n).map ((fun q : Arc × Int => if q.1.2.1 = p then q.2 else 0) ∘ fun i => (ar as i, fs.getD i 0))).sum = inn as fs p n := by
    intro n
    induction n with
    | zero => rfl
    | succ n ih => rw [List.range_succ, List.map_append, List.sum_append, ih, inn_succ]; simp
  exact this _
theorem sB_out (as : List Arc) (fs : List Int) (p : Int) (h : fs.length = as.length) : sB as fs p = out as fs p as.length := by
  unfold sB
  rw [zip_range as fs h, List.map_map]
  have : ∀ n, ((List.range n).map ((fun q : Arc × Int => if q.1.1 = p then q.2 else 0) ∘ fun i => (ar as i, fs.getD i 0))).sum = out as fs p n := by
    intro n
    induction n with
    | zero => rfl
    | succ n ih => rw [List.range_succ, List.map_append, List.sum_append, ih, out_succ]; simp
  exact this _
theorem circ_P {many as fs} (h : Circ as fs) : CircP many as fs := ⟨h.len, fun t ht => ⟨h.lo t ht, h.hi t ht⟩, fun p _ => by rw [← sE_inn _ _ _ h.len, ← sB_out _ _ _ h.len]; exact h.bal _⟩
theorem circ_bd {many as fs} (h : Circ as fs) (hN : Net many as) : Bd B31 fs := fun x hx => by
  obtain ⟨i, hi, rfl⟩ := List.mem_iff_getElem.mp hx
  have hj : i < as.length := by rw [← h.len]; exact hi
  have h1 := h.lo i hj
  have h2 := h.hi i hj
  have h3 := (hN.all _ (ar_mem hj)).r1
  rw [show (10 : Int) ^ 31 = 10000000000000000000000000000000 from by decide +kernel] at h3
  have e : fs.getD i 0 = fs[i] := by simp [hi]
  rw [e] at h1 h2
  show -10000000000000000000000000000000 ≤ _ ∧ _ ≤ (10000000000000000000000000000000 : Int)
  omega
def S_law : PSpec := fun args γ P => ∃ ns : List Int, args = [.fz (.list (ns.map .int))] ∧ γ = [] ∧ ns.length ≤ 63 ∧ P (.fz (.bool true)) []
theorem len_law {args γ P} (h : S_law args γ P) : args.length = 1 := by obtain ⟨a, rfl, _⟩ := h; rfl
abbrev D0 : Cells := [.dead]
def dL (b : List Int) : PyData := .list (b.map .int)
def GoodL (b : List Int) : Prop := b.length ≤ 64 ∧ Bd B33 b
set_option maxHeartbeats 16000000 in
theorem body_law {P : Program} {w : World} {K : PySem.W.Frag} {mg : Str → Option Value} {base : Heap} (g0 : G0 mg)
    (D_is_circling : FnD P w K mg base "is_circling" 2 S_is_circling)
    (D_worth : FnD P w K mg base "worth" 1 S_worth)
    (D_bound_by : FnD P w K mg base "bound_by" 1 S_bound_by)
    (D_drawn : FnD P w K mg base "_law_drawn" 1 S_drawn)
    (D_net : FnD P w K mg base "_law_net" 3 S_net)
    (D_flows : FnD P w K mg base "_law_flows" 2 S_flows)
    (D_bent : FnD P w K mg base "_law_bent" 2 S_bent)
    (D_circling : FnD P w K mg base "_law_circling" 1 S_circling)
    (D_bounded : FnD P w K mg base "_law_bounded" 1 S_bounded)
    (D_sum : FnD P w K mg base "_law_sum" 1 S_sum)
    {X : Cx} (c : Ctx X P w K mg base N_law (defScope s_law) 3) {args : List Itm} {γ : Cells} {Po : EPost} (hγ : Clo γ) (hS : S_law args γ Po) :
    SVs X (slots0 N_law args) γ (defBody s_law) { nx := fun _ g => PL.Fin γ.length Po (.fz .none) g, rt := PL.Fin γ.length Po } := by
  have hX := c.ok
  have hp := c.po
  have v0 : Nm X "_law_script" 0 .cell := c.nm 0 .cell rfl (by decide +kernel) (.inr rfl) (by decide +kernel) (by decide +kernel)
  have v1 : Nm X "_law_at" 1 .cell := c.nm 1 .cell rfl (by decide +kernel) (.inr rfl) (by decide +kernel) (by decide +kernel)
  have v2 : Nm X "_law_many" 2 .local := c.nm 2 .local rfl (by decide +kernel) (.inl rfl) (by decide +kernel) (by decide +kernel)
  have v3 : Nm X "_law_arcs" 3 .local := c.nm 3 .local rfl (by decide +kernel) (.inl rfl) (by decide +kernel) (by decide +kernel)
  have v4 : Nm X "_law_held" 4 .local := c.nm 4 .local rfl (by decide +kernel) (.inl rfl) (by decide +kernel) (by decide +kernel)
  have v5 : Nm X "_law_flows_here" 5 .cell := c.nm 5 .cell rfl (by decide +kernel) (.inr rfl) (by decide +kernel) (by decide +kernel)
  have v6 : Nm X "_law_turn" 6 .local := c.nm 6 .local rfl (by decide +kernel) (.inl rfl) (by decide +kernel) (by decide +kernel)
  have v7 : Nm X "_law_some" 7 .local := c.nm 7 .local rfl (by decide +kernel) (.inl rfl) (by decide +kernel) (by decide +kernel)
  have v8 : Nm X "_law_handed" 8 .local := c.nm 8 .local rfl (by decide +kernel) (.inl rfl) (by decide +kernel) (by decide +kernel)
  have v9 : Nm X "_law_due" 9 .local := c.nm 9 .local rfl (by decide +kernel) (.inl rfl) (by decide +kernel) (by decide +kernel)
  have v10 : Nm X "_law_wide" 10 .cell := c.nm 10 .cell rfl (by decide +kernel) (.inr rfl) (by decide +kernel) (by decide +kernel)
  have v11 : Nm X "_law_prices" 11 .local := c.nm 11 .local rfl (by decide +kernel) (.inl rfl) (by decide +kernel) (by decide +kernel)
  have k_net : Cal X "_law_net" S_net := c.cal D_net (by decide) (by decide +kernel) (by decide +kernel)
  have b_list : Bt X "list" := c.bt (by decide +kernel) g0.b_list
  have k_flows : Cal X "_law_flows" S_flows := c.cal D_flows (by decide) (by decide +kernel) (by decide +kernel)
  have k_is_circling : Cal X "is_circling" S_is_circling := c.cal D_is_circling (by decide) (by decide +kernel) (by decide +kernel)
  have k_circling : Cal X "_law_circling" S_circling := c.cal D_circling (by decide) (by decide +kernel) (by decide +kernel)
  have b_range : Bt X "range" := c.bt (by decide +kernel) g0.b_range
  have b_isinstance : Bt X "isinstance" := c.bt (by decide +kernel) g0.b_isinstance
  have b_bool : Bt X "bool" := c.bt (by decide +kernel) g0.b_bool
  have b_len : Bt X "len" := c.bt (by decide +kernel) g0.b_len
  have k_worth : Cal X "worth" S_worth := c.cal D_worth (by decide) (by decide +kernel) (by decide +kernel)
  have k_sum : Cal X "_law_sum" S_sum := c.cal D_sum (by decide) (by decide +kernel) (by decide +kernel)
  have k_drawn : Cal X "_law_drawn" S_drawn := c.cal D_drawn (by decide) (by decide +kernel) (by decide +kernel)
  have k_bound_by : Cal X "bound_by" S_bound_by := c.cal D_bound_by (by decide) (by decide +kernel) (by decide +kernel)
  have k_bounded : Cal X "_law_bounded" S_bounded := c.cal D_bounded (by decide) (by decide +kernel) (by decide +kernel)
  obtain ⟨ns, rfl, rfl, hn, hP⟩ := hS
  have hFin : ∀ junk : Cells, PL.Fin 0 Po (.fz (.bool true)) junk := fun junk => fin_junk (γ := []) hγ hP
  have h0 : 0 < D0.length := by decide
  apply svs_setE hX v1
  refine EE.of (ev_lstC (av_cons ev_int av_nil)) ?_
  rw [show ([] : Cells) ++ [Cell.lst [.fz (.int 0)]] = at_ D0 0 0 from rfl]
  -- the net
  refine svs_asgE (ee_call' k_net (AE.of (γ1 := at_ D0 0 0) (rs := [.fz (.list (ns.map .int)), .cl 0]) (by tm_at "a") ⟨_, 0, D0, 0, 0, rfl, ⟨ns, rfl, hn⟩, rfl, h0, by decide, by decide, by decide, fun many as k1 hG h10 h11 => ⟨_, _, gv_tup (ds := [_, _]) hX (gvs_cons (gv_name hX v2) (gvs_cons (gv_name hX v3) gvs_nil)) rfl, ?_⟩⟩))
  have hN := hG.net
  have hlen := hN.len
  apply svs_setE hX v4
  refine EE.of (ev_listF (ds := as.map dArc) b_list (ev_name v3.r rfl) (.inl (Rdb.fz _))) ?_
  apply svs_setE hX v5
  refine ee_call' k_flows (AE.of (γ1 := at_ D0 0 k1) (rs := [.fz (.list (ns.map .int)), .cl 0, .fz (.int many), .fz (dArcs as)]) (by tm_at "a") ⟨_, 0, D0, k1, 1000, many, as, rfl, ⟨ns, rfl, hn⟩, rfl, h0, h10, by omega, by decide, hG, fun fs k2 hC h20 h21 => ?_⟩)
  have hfl : fs.length ≤ 63 := by rw [hC.len]; exact hlen
  have hCP : CircP many as fs := circ_P hC
  have hBf := circ_bd hC hN
  refine svs_if (tv_w (wv_or (tv_cmp (ev_call k_is_circling (av_cons (ev_name v2.r rfl) (av_cons (ev_name v3.r rfl) (av_cons (ev_name v5.r rfl) av_nil))) ⟨many, as, fs, rfl, hN, by omega, rfl, rfl⟩) ev_bl cmp_notB) fun _ => wv_or1 (tv_not (tv_val (ev_call k_circling (av_cons (ev_name v2.r rfl) (av_cons (ev_name v3.r rfl) (av_cons (ev_name v5.r rfl) av_nil))) ⟨many, as, fs, rfl, hN, by omega, rfl, rfl⟩))))) (fun h => ?_) (fun h => svs_nil ?_)
  · rw [decide_eq_true hCP] at h; cases h
  -- flows as they are, and bent
  refine svs_forE hX hp (ite_list (ee_catF (EE.of (ev_lst (ds := [dL fs]) (av_cons (ev_name v5.r rfl) av_nil)) ?_)))
  refine EE.imp (ee_lcFN (w := 6) hX (by rw [c.N, c.sc]; exact ⟨rfl, by decide +kernel, by decide +kernel, by decide +kernel, by decide +kernel⟩) (fun X' hB => ⟨hB.cok hX rfl, hB.own (by rw [c.N]; rfl) (by decide +kernel) (by decide +kernel) (by decide +kernel)⟩) (itv_range1 b_range ev_int (by decide) (by decide))
    (fun i acc g => ∃ (bss : List (List Int)) (k : Int), acc = (bss.map dL).map Itm.fz ∧ (∀ b ∈ bss, GoodL b) ∧ bss.length = i ∧ g = at_ D0 0 k ∧ 0 ≤ k ∧ k ≤ 1010 + 10 * (i : Int))
    ⟨[], k2, rfl, by simp, rfl, rfl, h20, by omega⟩ (fun _ _ _ _ _ => trivial) ?_ (by decide) ?_ ?_) ?_
  · rintro i acc g ⟨bss, k, rfl, _, hb, rfl, _⟩
    exact ⟨by rw [at_len, at_len], by simp; omega⟩
  · rintro acc g ⟨bss, k, rfl, _, hb, rfl, _⟩
    exact ⟨⟨_, rfl⟩, fun q => at_clo k q⟩
  · rintro i x acc g hx ⟨bss, k, rfl, hb, hbl, rfl, hk0, hk1⟩ X' hB
    obtain ⟨hi, rfl⟩ := rngL_get hx
    have hi : i < 4 := hi
    have hX_X' := hB.cok hX rfl
    have w6_X' : Nm X' "_law_turn" 6 .local := hB.own (by rw [c.N]; rfl) (by decide +kernel) (by decide +kernel) (by decide +kernel)
    have k_bent_X' : Cal X' "_law_bent" S_bent := hB.calC c D_bent (by decide) (by decide +kernel) (by decide +kernel)
    have w1_X' : Nr X' "_law_at" 1 .cell := hB.cap hX v1.r (by decide +kernel)
    have w5_X' : Nr X' "_law_flows_here" 5 .cell := hB.cap hX v5.r (by decide +kernel)
    have w0_X' : Nr X' "_law_script" 0 .cell := hB.cap hX v0.r (by decide +kernel)
    rw [at_app h0]
    refine ee_call' k_bent_X' (AE.of (γ1 := at_ _ 0 k) (rs := [.fz (.list (ns.map .int)), .cl 0, .fz (.list (fs.map .int))]) (by tm_at "a") ⟨_, 0, _, k, 1010 + 10 * (i : Int), fs, rfl, ⟨ns, rfl, hn⟩, rfl, by rw [List.length_append]; omega, hk0, hk1, by omega, hfl, hBf, fun bs k' h1 h2 h3 h4 => ⟨at_ D0 0 k', (at_app h0 k' _).symm, bss ++ [bs], k', by simp [dL], ?_, by simp [hbl], rfl, h3, by omega⟩⟩)
    intro b hbm
    rcases List.mem_append.mp hbm with h | h
    · exact hb b h
    · have : b = bs := by simpa using h
      subst this; exact ⟨h1, h2⟩
  rintro r g ⟨ds, rfl, bss, k3, hds, hb, hbl, rfl, h30, h31⟩
  obtain rfl := fz_inj hds
  rw [rngL_length] at hbl h31
  refine ⟨_, _, Rdb.fz _, Rdb.fz _, by simp; omega, _, Rdb.fz _, ?_⟩
  have hall : ∀ b ∈ fs :: bss, GoodL b := fun b hbm => by
    rcases List.mem_cons.mp hbm with h | h
    · subst h; exact ⟨by omega, hBf.mono (by decide)⟩
    · exact hb b h
  rw [show ([dL fs] ++ bss.map dL) = (fs :: bss).map dL from rfl]
  refine ⟨fun i Γ' g => ∃ s6 s7 s8 s9, Γ' = [some (.fz (.list (ns.map .int))), some (.cl 0), some (.fz (.int many)), some (.fz (dArcs as)), some (.fz (dArcs as)), some (.fz (.list (fs.map .int))), s6, s7, s8, s9, none, none, none] ∧ g = at_ D0 0 k3, ⟨_, _, _, _, rfl, rfl⟩, fun _ _ _ _ _ => Rdb.fz _, ?_, ?_⟩
  · rintro i x Γ' g hx ⟨s6, s7, s8, s9, rfl, rfl⟩
    rw [List.map_map, List.getElem?_map] at hx
    cases hbs : (fs :: bss)[i]? with
    | none => rw [hbs] at hx; cases hx
    | some bs =>
      rw [hbs] at hx
      obtain rfl : Itm.fz (.list (bs.map .int)) = x := Option.some.inj hx
      obtain ⟨hbl1, hbB⟩ := hall bs (List.mem_of_getElem? hbs)
      refine ⟨_, _, gv_name hX v7, ?_⟩
      apply svs_setE hX v8
      refine EE.of (ev_listF (ds := bs.map PyData.int) b_list (ev_name v7.r rfl) (.inl (Rdb.fz _))) ?_
      apply svs_setE hX v9
      refine EE.of (ev_call k_circling (av_cons (ev_name v2.r rfl) (av_cons (ev_name v3.r rfl) (av_cons (ev_name v7.r rfl) av_nil))) ⟨many, as, bs, rfl, hN, by omega, rfl, rfl⟩) ?_
      refine svs_for hX hp (itv_range1 b_range ev_int (by decide) (by decide)) (fun i Γ' g => ∃ s6, Γ' = [some (.fz (.list (ns.map .int))), some (.cl 0), some (.fz (.int many)), some (.fz (dArcs as)), some (.fz (dArcs as)), some (.fz (.list (fs.map .int))), s6, some (.fz (.list (bs.map .int))), some (.fz (.list (bs.map .int))), some (.fz (.bool (decide (CircP many as bs)))), none, none, none] ∧ g = at_ D0 0 k3)
        ⟨_, rfl, rfl⟩ (fun _ _ _ _ _ => trivial) ?_ ?_
      · rintro t x Γ' g hx ⟨s6, rfl, rfl⟩
        refine ⟨_, _, gv_name hX v6, ?_⟩
        refine svs_if (tv_w (wv_or (tv_cmp (ev_call k_is_circling (av_cons (ev_name v2.r rfl) (av_cons (ev_name v3.r rfl) (av_cons (ev_name v8.r rfl) av_nil))) ⟨many, as, bs, rfl, hN, by omega, rfl, rfl⟩) (ev_name v9.r rfl) cmp_neB) fun _ => wv_or1 (tv_not (tv_val (ev_isi b_isinstance b_bool (by decide +kernel) (ev_call k_is_circling (av_cons (ev_name v2.r rfl) (av_cons (ev_name v3.r rfl) (av_cons (ev_name v8.r rfl) av_nil))) ⟨many, as, bs, rfl, hN, by omega, rfl, rfl⟩) (Rdb.fz _) (kit_bool _)))))) (fun h => ?_) (fun h => svs_nil (svs_nil ⟨_, rfl, rfl⟩))
        simp [isB] at h
      · rintro Γ' g ⟨s6, rfl, rfl⟩
        refine svs_if (k := false) (tv_w (by
          have e : (false : Bool) = (decide (((bs.map PyData.int).length : Int) = ((as.map dArc).length : Int)) && false) := by simp
          rw [e]
          refine wv_and (tv_cmp (ev_lenL b_len (ev_name v7.r rfl) (Rdb.fz _)) (ev_lenL b_len (ev_name v3.r rfl) (Rdb.fz _)) cmp_eqI) fun hl => wv_and1 ?_
          have hl : bs.length = as.length := by
            have := of_decide_eq_true hl
            rw [List.length_map, List.length_map] at this; omega
          have e2 : (false : Bool) = !decide (wsum as bs as.length = wsum as bs as.length) := by simp
          rw [e2]
          exact tv_cmp (ev_call k_worth (av_cons (ev_name v3.r rfl) (av_cons (ev_name v8.r rfl) av_nil)) ⟨many, as, bs, rfl, hN, hl, hbB, rfl, rfl⟩) (ev_call k_sum (av_cons (ev_name v3.r rfl) (av_cons (ev_name v7.r rfl) av_nil)) ⟨many, as, bs, rfl, hN, hl, hbB, rfl, rfl⟩) cmp_neI)) (fun h => by cases h) (fun h => svs_nil ?_)
        refine svs_if (tv_w (wv_or (tv_cmp (ev_name v8.r rfl) (ev_name v7.r rfl) (cmp_neD hX (Rdb.fz _) (Rdb.fz _) (shp_ints bs).shaped (shp_ints bs).shaped)) fun _ => wv_or1 (tv_cmp (ev_name v3.r rfl) (ev_name v4.r rfl) (cmp_neD hX (Rdb.fz _) (Rdb.fz _) (shp_arcs as).shaped (shp_arcs as).shaped)))) (fun h => ?_) (fun h => svs_nil (svs_nil ⟨_, _, _, _, rfl, rfl⟩))
        rw [eqv_ints, eqv_arcs] at h
        simp at h
  · rintro Γ' g ⟨s6, s7, s8, s9, rfl, rfl⟩
    refine svs_for hX hp (itv_range1 b_range ev_int (by decide) (by decide)) (fun i Γ' g => ∃ (k : Int) (s6 s8 s10 s11 : Option Itm), Γ' = [some (.fz (.list (ns.map .int))), some (.cl 0), some (.fz (.int many)), some (.fz (dArcs as)), some (.fz (dArcs as)), some (.fz (.list (fs.map .int))), s6, s7, s8, s9, s10, s11, none] ∧ g = at_ D0 0 k ∧ 0 ≤ k ∧ k ≤ 1050 + 100 * (i : Int))
      ⟨k3, _, _, _, _, rfl, rfl, h30, by omega⟩ (fun _ _ _ _ _ => trivial) ?_ ?_
    · rintro i x Γ' g hx ⟨k4, s6, s8, s10, s11, rfl, rfl, h40, h41⟩
      obtain ⟨hi, rfl⟩ := rngL_get hx
      have hi : i < 3 := hi
      refine ⟨_, _, gv_name hX v6, ?_⟩
      apply svs_setE hX v10
      refine ee_ixL (EE.of (γ1 := at_ D0 0 k4) (r := .fz (.list [.int 1, .int 7, .int 2001, .int (10 ^ (30 : Int).toNat)])) (by tm_at "e") ?_)
      refine ee_mod (ee_call' k_drawn (AE.of (γ1 := at_ D0 0 k4) (rs := [.fz (.list (ns.map .int)), .cl 0]) (by tm_at "a") (use_drawn (1050 + 100 * (i : Int)) hn h0 h40 h41 (by omega) fun d k5 hd0 hd1 h50 h51 => ⟨d, rfl, ?_⟩)))
      refine EE.of (γ1 := at_ D0 0 k5) (r := .fz (.int 4)) ev_int ⟨4, rfl, by decide, ?_⟩
      have e30 : (10 : Int) ^ (30 : Int).toNat = 1000000000000000000000000000000 := by decide +kernel
      rw [e30]
      refine pick_go (iB 1 1000000000000000000000000000000) (by omega) (by simp only [List.length_cons, List.length_nil]; omega) (by tm_at "alli") ?_
      rintro _ ⟨wd, rfl, hw0, hw1⟩
      have hm0 := hG.m0
      have hm1 := hG.m1
      refine svs_setLcFN (w := 12) hX v11 rfl (by decide +kernel) (by rw [c.N, c.sc]; exact ⟨rfl, by decide +kernel, by decide +kernel, by decide +kernel, by decide +kernel⟩) (fun X' hB => ⟨hB.cok hX rfl, hB.own (by rw [c.N]; rfl) (by decide +kernel) (by decide +kernel) (by decide +kernel)⟩) (itv_range1 b_range (ev_name v2.r rfl) (by omega) (by omega))
        (fun j acc g => ∃ (ps : List Int) (k : Int), acc = (ps.map PyData.int).map Itm.fz ∧ ps.length = j ∧ Bd B33 ps ∧ g = at_ D0 0 k ∧ 0 ≤ k ∧ k ≤ 1051 + 100 * (i : Int) + 2 * (j : Int))
        ⟨[], k5, rfl, rfl, (fun x hx => by simp at hx), rfl, h50, by omega⟩ (fun _ _ _ _ _ => trivial) ?_ (by rw [rngL_length]; omega) ?_ ?_ ?_
      · rintro j acc g ⟨ps, k, rfl, hb, _, rfl, _⟩
        exact ⟨by rw [at_len, at_len], by simp; omega⟩
      · rintro acc g ⟨ps, k, rfl, hb, _, rfl, _⟩
        exact ⟨⟨_, rfl⟩, fun q => at_clo k q⟩
      · rintro j x acc g hx ⟨ps, k, rfl, hpl, hpB, rfl, hk0, hk1⟩ X' hB
        obtain ⟨hj, rfl⟩ := rngL_get hx
        have hj : j < 30 := by omega
        have hX_X' := hB.cok hX rfl
        have w12_X' : Nm X' "_law_place" 12 .local := hB.own (by rw [c.N]; rfl) (by decide +kernel) (by decide +kernel) (by decide +kernel)
        have k_drawn_X' : Cal X' "_law_drawn" S_drawn := hB.calC c D_drawn (by decide) (by decide +kernel) (by decide +kernel)
        have w1_X' : Nr X' "_law_at" 1 .cell := hB.cap hX v1.r (by decide +kernel)
        have w0_X' : Nr X' "_law_script" 0 .cell := hB.cap hX v0.r (by decide +kernel)
        have w10_X' : Nr X' "_law_wide" 10 .cell := hB.cap hX v10.r (by decide +kernel)
        rw [at_app h0]
        refine ee_sub (ee_mod (ee_mul (ee_call' k_drawn_X' (AE.of (γ1 := at_ _ 0 k) (rs := [.fz (.list (ns.map .int)), .cl 0]) (by tm_at "a") (use_drawn (1051 + 100 * (i : Int) + 2 * (j : Int)) hn (by rw [List.length_append]; omega) hk0 hk1 (by omega) fun d k' hd0 hd1 hk0' hk1' => ⟨d, rfl, ?_⟩)))))
        refine ee_call' k_drawn_X' (AE.of (γ1 := at_ _ 0 k') (rs := [.fz (.list (ns.map .int)), .cl 0]) (by tm_at "a") (use_drawn (1052 + 100 * (i : Int) + 2 * (j : Int)) hn (by rw [List.length_append]; omega) hk0' (by omega) (by omega) fun d' k'' hd0' hd1' hk0'' hk1'' => ⟨d', rfl, small_mul 200 200 (by omega) (by omega), _, rfl, ?_⟩))
        refine EE.of (γ1 := at_ _ 0 k'') (ev_mul ev_int (ev_name w10_X' rfl) (small_mul 200 200 (by decide) (by omega))) ⟨_, rfl, by omega, _, rfl, ?_⟩
        refine EE.of (γ1 := at_ _ 0 k'') (ev_name w10_X' rfl) ⟨_, rfl, ?_⟩
        refine ⟨at_ D0 0 k'', (at_app h0 k'' _).symm, ps ++ [d * d' % (2 * wd) - wd], k'', by simp, by simp [hpl], Bd.app hpB (fun y hy => ?_), rfl, hk0'', by omega⟩
        have hy : y = d * d' % (2 * wd) - wd := by simpa using hy
        have g1 := Int.emod_nonneg (d * d') (show 2 * wd ≠ 0 by omega)
        have g2 := Int.emod_lt_of_pos (d * d') (show 0 < 2 * wd by omega)
        rw [hy]
        show -1000000000000000000000000000000000 ≤ _ ∧ _ ≤ (1000000000000000000000000000000000 : Int)
        omega
      · rintro ds g ⟨ps, k6, hds, hpl, hpB, rfl, h60, h61⟩
        obtain rfl := fz_inj hds
        rw [rngL_length] at hpl h61
        apply svs_setE hX v8
        refine EE.of (ev_listF (ds := ps.map PyData.int) b_list (ev_name v11.r rfl) (.inl (Rdb.fz _))) ?_
        refine svs_if (tv_w (wv_or (tv_cmp (ev_call k_bound_by (av_cons (ev_name v3.r rfl) (av_cons (ev_name v8.r rfl) av_nil)) ⟨many, as, ps, rfl, hN, hpl, hpB, rfl, rfl⟩) (ev_call k_bounded (av_cons (ev_name v3.r rfl) (av_cons (ev_name v11.r rfl) av_nil)) ⟨many, as, ps, rfl, hN, hpl, hpB, rfl, rfl⟩) cmp_neI) fun _ => wv_or (tv_cmp (ev_name v8.r rfl) (ev_name v11.r rfl) (cmp_neD hX (Rdb.fz _) (Rdb.fz _) (shp_ints ps).shaped (shp_ints ps).shaped)) fun _ => wv_or1 (tv_cmp (ev_name v3.r rfl) (ev_name v4.r rfl) (cmp_neD hX (Rdb.fz _) (Rdb.fz _) (shp_arcs as).shaped (shp_arcs as).shaped)))) (fun h => ?_) (fun h => svs_nil (svs_nil ⟨k6, _, _, _, _, rfl, rfl, h60, by omega⟩))
        rw [eqv_ints, eqv_arcs] at h
        simp at h
    · rintro Γ' g ⟨k4, s6, s8, s10, s11, rfl, rfl, h40, h41⟩
      have hN1 : Net 1 [] := ⟨by decide, by decide, by decide, fun a ha => by simp at ha⟩
      have hB0 : Bd B33 [] := fun x hx => by simp at hx
      have hB1 : Bd B33 [0] := fun x hx => by
        have : x = 0 := by simpa using hx
        subst this; decide
      have hC1 : decide (CircP 1 [] []) = true := by decide
      apply svs_retE
      refine EE.of (γ1 := at_ D0 0 k4) (r := .fz (if (decide (CircP 1 [] []) == true) = true then (if decide (wsum [] [] 0 = 0) = true then .bool (decide (bsum [] [0] 0 = 0)) else .bool false) else .bool false)) (ev_and (ev_cmp (ev_call k_is_circling (av_cons ev_int (av_cons (ev_lst (ds := []) av_nil) (av_cons (ev_lst (ds := []) av_nil) av_nil))) ⟨1, [], [], rfl, hN1, by decide, rfl, rfl⟩) ev_bl cmp_isB) fun _ => ev_and (ev_cmp (ev_call k_worth (av_cons (ev_lst (ds := []) av_nil) (av_cons (ev_lst (ds := []) av_nil) av_nil)) ⟨1, [], [], rfl, hN1, rfl, hB0, rfl, rfl⟩) ev_int cmp_eqI) fun _ => ev_one (ev_cmp (ev_call k_bound_by (av_cons (ev_lst (ds := []) av_nil) (av_cons (ev_lst (ds := [.int 0]) (by tm_at "afz")) av_nil)) ⟨1, [], [0], rfl, hN1, rfl, hB1, rfl, rfl⟩) ev_int cmp_eqI)) ?_
      rw [hC1]
      exact hFin _
theorem ok_law {P : Program} {w : World} {K : PySem.W.Frag} {mg : Str → Option Value} {base : Heap} (g0 : G0 mg)
    (D_is_circling : FnD P w K mg base "is_circling" 2 S_is_circling)
    (D_worth : FnD P w K mg base "worth" 1 S_worth)
    (D_bound_by : FnD P w K mg base "bound_by" 1 S_bound_by)
    (D_drawn : FnD P w K mg base "_law_drawn" 1 S_drawn)
    (D_net : FnD P w K mg base "_law_net" 3 S_net)
    (D_flows : FnD P w K mg base "_law_flows" 2 S_flows)
    (D_bent : FnD P w K mg base "_law_bent" 2 S_bent)
    (D_circling : FnD P w K mg base "_law_circling" 1 S_circling)
    (D_bounded : FnD P w K mg base "_law_bounded" 1 S_bounded)
    (D_sum : FnD P w K mg base "_law_sum" 1 S_sum)
    {f : Addr} {fd : FuncData} (F : Fun K "law" "law" s_law f fd) (hm : mg "law" = some (.ref f)) : FnD P w K mg base "law" 4 S_law :=
  def_ok F sc_law hm (F.binds (ps := ["_law_script"]) fun _ _ _ _ _ _ us hl => match us, hl with | [_], _ => rfl) (fun args γ P h => len_law h)
    fun X c args γ Po hγ hS => body_law g0 D_is_circling D_worth D_bound_by D_drawn D_net D_flows D_bent D_circling D_bounded D_sum c hγ hS
end KK

namespace KK
open PySem PySem.Spec PyProof.Rows L2 PL M3
def spLaw (K : PySem.W.Frag) : Sp := fun vs H Q _ => ∃ (a : Addr) (ns : List Int), vs = [.ref a] ∧ SqL K H a (ns.map V.int) ∧ ns.length ≤ 63 ∧ ∀ H', Q (.bl true) H'
theorem dp_ints {K : PySem.W.Frag} {F : Hp} : ∀ ns : List Int, DpAll K F (ns.map V.int) (ns.map PyData.int)
  | [] => .nil
  | n :: ns => .cons (.int n) (dp_ints ns)
theorem law_sp {K : PySem.W.Frag} (vs : List V) (H : Hp) (Q : VK) (E : XK) (h : spLaw K vs H Q E) : spPL K S_law vs H Q E := by
  obtain ⟨a, ns, rfl, hS, hl, hq⟩ := h
  refine ⟨H, [], [], [.fz (.list (ns.map .int))], fun r g => r = .fz (.bool true), ⟨fun _ _ h => h, by simp, rfl, by simp, fun c o h => by simp at h⟩, .cons (itm_lst.mpr ⟨a, ns.map V.int, rfl, hS, dp_ints ns⟩) .nil, ⟨ns, rfl, rfl, hl, rfl⟩, ?_⟩
  rintro v r g F' as' H' rfl x R i
  rw [itm_bl.mp i]
  exact hq H'
theorem law_fn {P : Program} {w : World} {K : PySem.W.Frag} {mg : Str → Option Value} {base : Heap} {qual x : Str} {st : Stmt} {f : Addr} {fd : FuncData} {N ps : List Str} {k : Nat} {S : PSpec} {sp : Sp} (F : Fun K x qual st f fd) (SC : FnScope N ps (defScope st))
    (len : ∀ args γ P, S args γ P → args.length = ps.length)
    (body : ∀ X : Cx, PL.Ctx X P w K mg base N (defScope st) k → ∀ args γ Po, Clo γ → S args γ Po → SVs X (slots0 N args) γ (defBody st) { nx := fun _ g => PL.Fin γ.length Po (.fz .none) g, rt := PL.Fin γ.length Po })
    (hsp : ∀ vs H Q E, sp vs H Q E → spPL K S vs H Q E) : FnOk P w K mg base CX0 (k + 1) f fd ps sp := by
  refine FnOk.imp (sp := spPL K S) (F.ok SC (fun vs H Q E h => ?_) (fun cdv A outer s H vs Q E hr h => ?_)) hsp
  · obtain ⟨F, as, γ, args, Po, R, i, hs, _⟩ := h
    rw [← itms_length i]
    exact len _ _ _ hs
  · obtain ⟨F', as, γ, args, Po, R, i, hs, q⟩ := h
    refine ⟨_, pss_wp, ?_⟩
    have c : PL.Ctx (cxOf CX0 P w K mg base N qual (defScope st) f cdv A outer s H E).nox P w K mg base N (defScope st) k :=
      ⟨rfl, rfl, rfl, rfl, rfl, rfl, rfl, rfl, ⟨rfl, SC.nd, SC.kind, by have := hr.un; show (A.deeper (envOfC qual (defScope st) s.heap.objs.size f cdv)).units + 100 < cLine; omega⟩, hr, PassesOwn.never⟩
    refine body _ c args γ Po R.clo hs F' as (start N vs) H _ R (env_start i) ⟨fun Γ' g F1 as1 σ1 H1 hn x1 R1 E1 => ?_, fun r g F1 as1 v H1 hn x1 R1 i1 => ?_, fun _ _ _ _ _ _ z => z.elim, fun _ _ _ _ _ _ z => z.elim⟩
    · obtain ⟨g', junk, rfl, hl, hc, hi, hp⟩ := hn
      refine q _ _ g' F1 (as1.take g'.length) H1 hp ⟨x1.1, ?_⟩ (R1.cut hc) (itm_non.mpr rfl)
      obtain ⟨_, t, rfl⟩ := x1
      rw [List.take_append, List.take_of_length_le (by rw [R.len]; exact hl)]
      exact ⟨_, rfl⟩
    · obtain ⟨g', junk, rfl, hl, hc, hi, hp⟩ := hn
      refine q _ _ g' F1 (as1.take g'.length) H1 hp ⟨x1.1, ?_⟩ (R1.cut hc) (itm_cut i1 hi)
      obtain ⟨_, t, rfl⟩ := x1
      rw [List.take_append, List.take_of_length_le (by rw [R.len]; exact hl)]
      exact ⟨_, rfl⟩
theorem all_mk {l : PySem.W.OpenLaw} {w : World} {K : PySem.W.Frag} {h : Heap} {mg : Str → Option Value} {fa f0 f1 f2 f3 f4 f5 f6 f7 f8 f9 f10 f11 f12 f13 f14 : Addr} (X : K.In h) (G : h.Ns mainGlobals mg) (hfa : mg "law" = some (.ref fa))
    {od0 an0 od1 an1 od2 an2 od3 an3 od4 an4 od5 an5 od6 an6 od7 an7 od8 an8 od9 an9 od10 an10 od11 an11 od12 an12 od13 an13 od14 an14 : Option Addr} {sl0 sl1 sl2 sl3 sl4 sl5 sl6 sl7 sl8 sl9 sl10 sl11 sl12 sl13 sl14 : Array (Option Value)} {oc0 kV0 dc0 pm0 cd0 ct0 oc1 kV1 dc1 pm1 cd1 ct1 oc2 kV2 dc2 pm2 cd2 ct2 oc3 kV3 dc3 pm3 cd3 ct3 oc4 kV4 dc4 pm4 cd4 ct4 oc5 kV5 dc5 pm5 cd5 ct5 oc6 kV6 dc6 pm6 cd6 ct6 oc7 kV7 dc7 pm7 cd7 ct7 oc8 kV8 dc8 pm8 cd8 ct8 oc9 kV9 dc9 pm9 cd9 ct9 oc10 kV10 dc10 pm10 cd10 ct10 oc11 kV11 dc11 pm11 cd11 ct11 oc12 kV12 dc12 pm12 cd12 ct12 oc13 kV13 dc13 pm13 cd13 ct13 oc14 kV14 dc14 pm14 cd14 ct14 : Value}
    (a0 : PySem.W.nsIn K mainGlobals "is_whole" = some (some (.ref f0))) (l0 : K.lookup f0 = some ⟨oc0, od0, .func (PySem.W.fnOf "is_whole" "is_whole" (defArgs s_is_whole) (defBody s_is_whole) (defScope s_is_whole) .none kV0 dc0 pm0 an0 cd0 ct0), sl0⟩) (c0 : PySem.W.codeIn K cd0 "is_whole" = true) (k0 : PySem.W.keepIn K (.ref f0) = true)
    (a1 : PySem.W.nsIn K mainGlobals "is_circling" = some (some (.ref f1))) (l1 : K.lookup f1 = some ⟨oc1, od1, .func (PySem.W.fnOf "is_circling" "is_circling" (defArgs s_is_circling) (defBody s_is_circling) (defScope s_is_circling) .none kV1 dc1 pm1 an1 cd1 ct1), sl1⟩) (c1 : PySem.W.codeIn K cd1 "is_circling" = true) (k1 : PySem.W.keepIn K (.ref f1) = true)
    (a2 : PySem.W.nsIn K mainGlobals "worth" = some (some (.ref f2))) (l2 : K.lookup f2 = some ⟨oc2, od2, .func (PySem.W.fnOf "worth" "worth" (defArgs s_worth) (defBody s_worth) (defScope s_worth) .none kV2 dc2 pm2 an2 cd2 ct2), sl2⟩) (c2 : PySem.W.codeIn K cd2 "worth" = true) (k2 : PySem.W.keepIn K (.ref f2) = true)
    (a3 : PySem.W.nsIn K mainGlobals "bound_by" = some (some (.ref f3))) (l3 : K.lookup f3 = some ⟨oc3, od3, .func (PySem.W.fnOf "bound_by" "bound_by" (defArgs s_bound_by) (defBody s_bound_by) (defScope s_bound_by) .none kV3 dc3 pm3 an3 cd3 ct3), sl3⟩) (c3 : PySem.W.codeIn K cd3 "bound_by" = true) (k3 : PySem.W.keepIn K (.ref f3) = true)
    (a4 : PySem.W.nsIn K mainGlobals "_law_drawn" = some (some (.ref f4))) (l4 : K.lookup f4 = some ⟨oc4, od4, .func (PySem.W.fnOf "_law_drawn" "_law_drawn" (defArgs s_drawn) (defBody s_drawn) (defScope s_drawn) .none kV4 dc4 pm4 an4 cd4 ct4), sl4⟩) (c4 : PySem.W.codeIn K cd4 "_law_drawn" = true) (k4 : PySem.W.keepIn K (.ref f4) = true)
    (a5 : PySem.W.nsIn K mainGlobals "_law_room" = some (some (.ref f5))) (l5 : K.lookup f5 = some ⟨oc5, od5, .func (PySem.W.fnOf "_law_room" "_law_room" (defArgs s_room) (defBody s_room) (defScope s_room) .none kV5 dc5 pm5 an5 cd5 ct5), sl5⟩) (c5 : PySem.W.codeIn K cd5 "_law_room" = true) (k5 : PySem.W.keepIn K (.ref f5) = true)
    (a6 : PySem.W.nsIn K mainGlobals "_law_worth" = some (some (.ref f6))) (l6 : K.lookup f6 = some ⟨oc6, od6, .func (PySem.W.fnOf "_law_worth" "_law_worth" (defArgs s_l_worth) (defBody s_l_worth) (defScope s_l_worth) .none kV6 dc6 pm6 an6 cd6 ct6), sl6⟩) (c6 : PySem.W.codeIn K cd6 "_law_worth" = true) (k6 : PySem.W.keepIn K (.ref f6) = true)
    (a7 : PySem.W.nsIn K mainGlobals "_law_net" = some (some (.ref f7))) (l7 : K.lookup f7 = some ⟨oc7, od7, .func (PySem.W.fnOf "_law_net" "_law_net" (defArgs s_net) (defBody s_net) (defScope s_net) .none kV7 dc7 pm7 an7 cd7 ct7), sl7⟩) (c7 : PySem.W.codeIn K cd7 "_law_net" = true) (k7 : PySem.W.keepIn K (.ref f7) = true)
    (a8 : PySem.W.nsIn K mainGlobals "_law_way_back" = some (some (.ref f8))) (l8 : K.lookup f8 = some ⟨oc8, od8, .func (PySem.W.fnOf "_law_way_back" "_law_way_back" (defArgs s_way_back) (defBody s_way_back) (defScope s_way_back) .none kV8 dc8 pm8 an8 cd8 ct8), sl8⟩) (c8 : PySem.W.codeIn K cd8 "_law_way_back" = true) (k8 : PySem.W.keepIn K (.ref f8) = true)
    (a9 : PySem.W.nsIn K mainGlobals "_law_flows" = some (some (.ref f9))) (l9 : K.lookup f9 = some ⟨oc9, od9, .func (PySem.W.fnOf "_law_flows" "_law_flows" (defArgs s_flows) (defBody s_flows) (defScope s_flows) .none kV9 dc9 pm9 an9 cd9 ct9), sl9⟩) (c9 : PySem.W.codeIn K cd9 "_law_flows" = true) (k9 : PySem.W.keepIn K (.ref f9) = true)
    (a10 : PySem.W.nsIn K mainGlobals "_law_bent" = some (some (.ref f10))) (l10 : K.lookup f10 = some ⟨oc10, od10, .func (PySem.W.fnOf "_law_bent" "_law_bent" (defArgs s_bent) (defBody s_bent) (defScope s_bent) .none kV10 dc10 pm10 an10 cd10 ct10), sl10⟩) (c10 : PySem.W.codeIn K cd10 "_law_bent" = true) (k10 : PySem.W.keepIn K (.ref f10) = true)
    (a11 : PySem.W.nsIn K mainGlobals "_law_circling" = some (some (.ref f11))) (l11 : K.lookup f11 = some ⟨oc11, od11, .func (PySem.W.fnOf "_law_circling" "_law_circling" (defArgs s_circling) (defBody s_circling) (defScope s_circling) .none kV11 dc11 pm11 an11 cd11 ct11), sl11⟩) (c11 : PySem.W.codeIn K cd11 "_law_circling" = true) (k11 : PySem.W.keepIn K (.ref f11) = true)
    (a12 : PySem.W.nsIn K mainGlobals "_law_bounded" = some (some (.ref f12))) (l12 : K.lookup f12 = some ⟨oc12, od12, .func (PySem.W.fnOf "_law_bounded" "_law_bounded" (defArgs s_bounded) (defBody s_bounded) (defScope s_bounded) .none kV12 dc12 pm12 an12 cd12 ct12), sl12⟩) (c12 : PySem.W.codeIn K cd12 "_law_bounded" = true) (k12 : PySem.W.keepIn K (.ref f12) = true)
    (a13 : PySem.W.nsIn K mainGlobals "_law_sum" = some (some (.ref f13))) (l13 : K.lookup f13 = some ⟨oc13, od13, .func (PySem.W.fnOf "_law_sum" "_law_sum" (defArgs s_sum) (defBody s_sum) (defScope s_sum) .none kV13 dc13 pm13 an13 cd13 ct13), sl13⟩) (c13 : PySem.W.codeIn K cd13 "_law_sum" = true) (k13 : PySem.W.keepIn K (.ref f13) = true)
    (a14 : PySem.W.nsIn K mainGlobals "law" = some (some (.ref f14))) (l14 : K.lookup f14 = some ⟨oc14, od14, .func (PySem.W.fnOf "law" "law" (defArgs s_law) (defBody s_law) (defScope s_law) .none kV14 dc14 pm14 an14 cd14 ct14), sl14⟩) (c14 : PySem.W.codeIn K cd14 "law" = true) (k14 : PySem.W.keepIn K (.ref f14) = true)
    (z_any : PySem.W.nsIn K mainGlobals "any" = some none)
    (z_bool : PySem.W.nsIn K mainGlobals "bool" = some none)
    (z_enumerate : PySem.W.nsIn K mainGlobals "enumerate" = some none)
    (z_int : PySem.W.nsIn K mainGlobals "int" = some none)
    (z_isinstance : PySem.W.nsIn K mainGlobals "isinstance" = some none)
    (z_len : PySem.W.nsIn K mainGlobals "len" = some none)
    (z_list : PySem.W.nsIn K mainGlobals "list" = some none)
    (z_max : PySem.W.nsIn K mainGlobals "max" = some none)
    (z_min : PySem.W.nsIn K mainGlobals "min" = some none)
    (z_range : PySem.W.nsIn K mainGlobals "range" = some none)
    (z_sum : PySem.W.nsIn K mainGlobals "sum" = some none)
    (z_zip : PySem.W.nsIn K mainGlobals "zip" = some none)
    : ∃ fd : FuncData, (∀ (s : Shared) (v : Value), BindsTo s fd ⟨[v], []⟩ [("_law_script", v)]) ∧ ∀ base : Heap, K.In base → base.Ns mainGlobals mg → FnOk l.prog w K mg base CX0 4 fa fd ["_law_script"] (spLaw K) := by
  have e := hfa.symm.trans (PySem.W.mg_of X G a14)
  cases e
  have g0 : G0 mg := ⟨PySem.W.mg_none_of X G z_any, PySem.W.mg_none_of X G z_bool, PySem.W.mg_none_of X G z_enumerate, PySem.W.mg_none_of X G z_int, PySem.W.mg_none_of X G z_isinstance, PySem.W.mg_none_of X G z_len, PySem.W.mg_none_of X G z_list, PySem.W.mg_none_of X G z_max, PySem.W.mg_none_of X G z_min, PySem.W.mg_none_of X G z_range, PySem.W.mg_none_of X G z_sum, PySem.W.mg_none_of X G z_zip⟩
  refine ⟨PySem.W.fnOf "law" "law" (defArgs s_law) (defBody s_law) (defScope s_law) .none kV14 dc14 pm14 an14 cd14 ct14, fun s v => .of_eq rfl, fun base _ _ => ?_⟩
  have D_is_whole : FnD l.prog w K mg base "is_whole" 1 S_is_whole := ok_is_whole g0  (fun_mk (st := s_is_whole) l0 c0 k0) (PySem.W.mg_of X G a0)
  have D_is_circling : FnD l.prog w K mg base "is_circling" 2 S_is_circling := ok_is_circling g0 D_is_whole (fun_mk (st := s_is_circling) l1 c1 k1) (PySem.W.mg_of X G a1)
  have D_worth : FnD l.prog w K mg base "worth" 1 S_worth := ok_worth g0  (fun_mk (st := s_worth) l2 c2 k2) (PySem.W.mg_of X G a2)
  have D_bound_by : FnD l.prog w K mg base "bound_by" 1 S_bound_by := ok_bound_by g0  (fun_mk (st := s_bound_by) l3 c3 k3) (PySem.W.mg_of X G a3)
  have D_drawn : FnD l.prog w K mg base "_law_drawn" 1 S_drawn := ok_drawn g0  (fun_mk (st := s_drawn) l4 c4 k4) (PySem.W.mg_of X G a4)
  have D_room : FnD l.prog w K mg base "_law_room" 2 S_room := ok_room g0 D_drawn (fun_mk (st := s_room) l5 c5 k5) (PySem.W.mg_of X G a5)
  have D_l_worth : FnD l.prog w K mg base "_law_worth" 2 S_l_worth := ok_l_worth g0 D_drawn (fun_mk (st := s_l_worth) l6 c6 k6) (PySem.W.mg_of X G a6)
  have D_net : FnD l.prog w K mg base "_law_net" 3 S_net := ok_net g0 D_drawn D_room D_l_worth (fun_mk (st := s_net) l7 c7 k7) (PySem.W.mg_of X G a7)
  have D_way_back : FnD l.prog w K mg base "_law_way_back" 1 S_way_back := ok_way_back g0  (fun_mk (st := s_way_back) l8 c8 k8) (PySem.W.mg_of X G a8)
  have D_flows : FnD l.prog w K mg base "_law_flows" 2 S_flows := ok_flows g0 D_drawn D_way_back (fun_mk (st := s_flows) l9 c9 k9) (PySem.W.mg_of X G a9)
  have D_bent : FnD l.prog w K mg base "_law_bent" 2 S_bent := ok_bent g0 D_drawn (fun_mk (st := s_bent) l10 c10 k10) (PySem.W.mg_of X G a10)
  have D_circling : FnD l.prog w K mg base "_law_circling" 1 S_circling := ok_circling g0  (fun_mk (st := s_circling) l11 c11 k11) (PySem.W.mg_of X G a11)
  have D_bounded : FnD l.prog w K mg base "_law_bounded" 1 S_bounded := ok_bounded g0  (fun_mk (st := s_bounded) l12 c12 k12) (PySem.W.mg_of X G a12)
  have D_sum : FnD l.prog w K mg base "_law_sum" 1 S_sum := ok_sum g0  (fun_mk (st := s_sum) l13 c13 k13) (PySem.W.mg_of X G a13)
  exact law_fn (F := fun_mk (st := s_law) l14 c14 k14) sc_law (fun args γ P h => len_law h) (fun X c args γ Po hγ hS => body_law g0 D_is_circling D_worth D_bound_by D_drawn D_net D_flows D_bent D_circling D_bounded D_sum c hγ hS) law_sp
end KK
open PySem PySem.W PyProof.Rows in
set_option maxRecDepth 100000 in
set_option maxHeartbeats 0 in
theorem PySem.Challenge.cw_hourring_k03_flows_and_sums_holds : PySem.Challenge.rw_hourring_k03_flows_and_sums.Holds := by
  w_on; o_law; k_head; (case hw => w_witness2)
  k_fill
  refine L2.walk_of (l := PySem.Challenge.rw_hourring_k03_flows_and_sums) (n := 63) (k := 4) (x := "_law_script") (CX := fun _ => L2.CX0) (sp := fun w => KK.spLaw _) rfl (by decide) rfl ⟨rfl, by decide, by decide⟩ (fun w h Y => PySem.W.kIn_of Y) ?F (fun _ _ a ns hl _ hS => ⟨a, ns, rfl, hS, hl, fun _ => rfl⟩) (fun _ _ _ _ _ h => h)
  case F =>
    intro w mg fa h KX G hmg
    refine' KK.all_mk KX G hmg ?a0 ?l0 ?c0 ?k0 ?a1 ?l1 ?c1 ?k1 ?a2 ?l2 ?c2 ?k2 ?a3 ?l3 ?c3 ?k3 ?a4 ?l4 ?c4 ?k4 ?a5 ?l5 ?c5 ?k5 ?a6 ?l6 ?c6 ?k6 ?a7 ?l7 ?c7 ?k7 ?a8 ?l8 ?c8 ?k8 ?a9 ?l9 ?c9 ?k9 ?a10 ?l10 ?c10 ?k10 ?a11 ?l11 ?c11 ?k11 ?a12 ?l12 ?c12 ?k12 ?a13 ?l13 ?c13 ?k13 ?a14 ?l14 ?c14 ?k14 ?z_any ?z_bool ?z_enumerate ?z_int ?z_isinstance ?z_len ?z_list ?z_max ?z_min ?z_range ?z_sum ?z_zip
    (case a0 => k_is)
    (case l0 => k_is)
    (case c0 => k_is)
    (case k0 => k_is)
    (case a1 => k_is)
    (case l1 => k_is)
    (case c1 => k_is)
    (case k1 => k_is)
    (case a2 => k_is)
    (case l2 => k_is)
    (case c2 => k_is)
    (case k2 => k_is)
    (case a3 => k_is)
    (case l3 => k_is)
    (case c3 => k_is)
    (case k3 => k_is)
    (case a4 => k_is)
    (case l4 => k_is)
    (case c4 => k_is)
    (case k4 => k_is)
    (case a5 => k_is)
    (case l5 => k_is)
    (case c5 => k_is)
    (case k5 => k_is)
    (case a6 => k_is)
    (case l6 => k_is)
    (case c6 => k_is)
    (case k6 => k_is)
    (case a7 => k_is)
    (case l7 => k_is)
    (case c7 => k_is)
    (case k7 => k_is)
    (case a8 => k_is)
    (case l8 => k_is)
    (case c8 => k_is)
    (case k8 => k_is)
    (case a9 => k_is)
    (case l9 => k_is)
    (case c9 => k_is)
    (case k9 => k_is)
    (case a10 => k_is)
    (case l10 => k_is)
    (case c10 => k_is)
    (case k10 => k_is)
    (case a11 => k_is)
    (case l11 => k_is)
    (case c11 => k_is)
    (case k11 => k_is)
    (case a12 => k_is)
    (case l12 => k_is)
    (case c12 => k_is)
    (case k12 => k_is)
    (case a13 => k_is)
    (case l13 => k_is)
    (case c13 => k_is)
    (case k13 => k_is)
    (case a14 => k_is)
    (case l14 => k_is)
    (case c14 => k_is)
    (case k14 => k_is)
    (case z_any => k_is)
    (case z_bool => k_is)
    (case z_enumerate => k_is)
    (case z_int => k_is)
    (case z_isinstance => k_is)
    (case z_len => k_is)
    (case z_list => k_is)
    (case z_max => k_is)
    (case z_min => k_is)
    (case z_range => k_is)
    (case z_sum => k_is)
    (case z_zip => k_is)

