import PyProof.Rows.All
import Wide.All
import OpenK.AllK
import Wide.FinOn
import HandS.ForMost
import HandS.ForExc
import HandS.Wide
import HandS.Flow
import HandS.Deep
import HandS.IsInst
import HandS.Style
import HandS.SortInts
import HandS.TupSets
import HandS.DictComp
import HandS.SetBool
import HandS.SetKeys
import HandS.TryOnly
import KE.KDictZip
import PySem.Challenge.RW_hourring_k09_givers_and_takers_paired
set_option Elab.async false
set_option linter.all false
set_option maxRecDepth 100000
namespace PL
open PySem PySem.Spec PyProof.Rows L2

/-! ### data, items, cells -/
inductive Itm where
  | fz (d : PyData)
  | cl (c : Nat)
  | tp (xs : List Itm)
inductive Cell where
  | lst (xs : List Itm)
  | dic (kvs : List (Key × Itm))
  | dit (kvs : List (List Key × Itm))
  | ins (C : Addr) (fs : List (Str × Itm))
  | raw (f : Addr → HO)
  | dead
abbrev Slots := List (Option Itm)
abbrev Cells := List Cell
abbrev EPost := Itm → Cells → Prop

section
variable {K : PySem.W.Frag}
theorem same_rd {F F' : Hp} {a : Addr} {u : HO} (e : Same F F') (h : Rd F a u) : Rd F' a u := by
  rcases h with h | ⟨o, h⟩
  · exact .inl (e a _ h)
  · exact .inr ⟨o, e a _ h⟩
theorem same_l {F F' : Hp} {a : Addr} {xs : List V} (e : Same F F') (h : SqL K F a xs) : SqL K F' a xs := h.imp (same_rd e) id
theorem same_t {F F' : Hp} {a : Addr} {xs : List V} (e : Same F F') (h : SqT K F a xs) : SqT K F' a xs := h.imp (same_rd e) id
mutual
/-- data that lies in the heap: its tuples are ones that no one froze; one empty dict -/
inductive Dq (K : PySem.W.Frag) (H : Hp) : V → PyData → Prop
  | non : Dq K H .non .none
  | bl (b : Bool) : Dq K H (.bl b) (.bool b)
  | int (i : Int) : Dq K H (.int i) (.int i)
  | str (x : Str) : Dq K H (.str x) (.str x)
  | lst {a : Addr} {vs : List V} {ds : List PyData} : SqL K H a vs → DqAll K H vs ds → Dq K H (.ref a) (.list ds)
  | tup {a : Addr} {vs : List V} {ds : List PyData} : H a = some (.tup vs) → DqAll K H vs ds → Dq K H (.ref a) (.tuple ds)
  | emp {a : Addr} : H a = some (.dK []) → Dq K H (.ref a) (.dict [])
inductive DqAll (K : PySem.W.Frag) (H : Hp) : List V → List PyData → Prop
  | nil : DqAll K H [] []
  | cons {v : V} {d : PyData} {vs : List V} {ds : List PyData} : Dq K H v d → DqAll K H vs ds → DqAll K H (v :: vs) (d :: ds)
end
mutual
theorem Dq.dp {H : Hp} : ∀ {v : V} {d : PyData}, Dq K H v d → d.canLay0 = true → Dp K H v d
  | _, _, .non, _ => .non
  | _, _, .bl b, _ => .bl b
  | _, _, .int i, _ => .int i
  | _, _, .str x, _ => .str x
  | _, _, .lst h r, l => .lst h (r.dp (by simpa [PyData.canLay0] using l))
  | _, _, .tup h r, l => .tup (SqT.of h) (r.dp (by simpa [PyData.canLay0] using l))
  | _, _, .emp h, l => by simp [PyData.canLay0] at l
theorem DqAll.dp {H : Hp} : ∀ {vs : List V} {ds : List PyData}, DqAll K H vs ds → PyData.canLayAll0 ds = true → DpAll K H vs ds
  | _, _, .nil, _ => .nil
  | _, _, .cons h r, l => by
    simp only [PyData.canLayAll0, Bool.and_eq_true] at l
    exact .cons (h.dp l.1) (r.dp l.2)
end
theorem shaped_lay {d : PyData} (h : SeqAt.shaped d = true) : d.canLay0 = true := by
  have h' : (d.canLay0 && decide (d.depth ≤ 64)) = true := h
  rw [Bool.and_eq_true] at h'
  exact h'.1
mutual
theorem dp_mono {F F' : Hp} (e : Same F F') : ∀ {v : V} {d : PyData}, Dq K F v d → Dq K F' v d
  | _, _, .non => .non
  | _, _, .bl b => .bl b
  | _, _, .int i => .int i
  | _, _, .str x => .str x
  | _, _, .lst h r => .lst (same_l e h) (dpAll_mono e r)
  | _, _, .tup h r => .tup (e _ _ h) (dpAll_mono e r)
  | _, _, .emp h => .emp (e _ _ h)
theorem dpAll_mono {F F' : Hp} (e : Same F F') : ∀ {vs : List V} {ds : List PyData}, DqAll K F vs ds → DqAll K F' vs ds
  | _, _, .nil => .nil
  | _, _, .cons h r => .cons (dp_mono e h) (dpAll_mono e r)
end
end

mutual
inductive ItmR (K : PySem.W.Frag) (F : Hp) (as : List Addr) : Itm → V → Prop
  | fz {d : PyData} {v : V} : Dq K F v d → ItmR K F as (.fz d) v
  | cl {c : Nat} {a : Addr} : as[c]? = some a → ItmR K F as (.cl c) (.ref a)
  | tp {a : Addr} {vs : List V} {xs : List Itm} : F a = some (.tup vs) → ItmsR K F as xs vs → ItmR K F as (.tp xs) (.ref a)
inductive ItmsR (K : PySem.W.Frag) (F : Hp) (as : List Addr) : List Itm → List V → Prop
  | nil : ItmsR K F as [] []
  | cons {x : Itm} {v : V} {xs : List Itm} {vs : List V} : ItmR K F as x v → ItmsR K F as xs vs → ItmsR K F as (x :: xs) (v :: vs)
end
def Ext (F : Hp) (as : List Addr) (F' : Hp) (as' : List Addr) : Prop := Same F F' ∧ ∃ t, as' = as ++ t
theorem Ext.refl (F : Hp) (as : List Addr) : Ext F as F as := ⟨Same.refl F, [], by simp⟩
theorem Ext.trans {F as F1 as1 F2 as2} (a : Ext F as F1 as1) (b : Ext F1 as1 F2 as2) : Ext F as F2 as2 := by
  obtain ⟨s1, t1, rfl⟩ := a
  obtain ⟨s2, t2, rfl⟩ := b
  exact ⟨s1.trans s2, t1 ++ t2, by simp⟩
theorem Ext.get {F as F' as'} (e : Ext F as F' as') {c : Nat} {a : Addr} (h : as[c]? = some a) : as'[c]? = some a := by
  obtain ⟨_, t, rfl⟩ := e
  have := (List.getElem?_eq_some_iff.mp h).1
  rw [List.getElem?_append_left this]
  exact h
section
variable {K : PySem.W.Frag} {F F' : Hp} {as as' : List Addr}
mutual
theorem itm_mono (e : Ext F as F' as') : ∀ {x : Itm} {v : V}, ItmR K F as x v → ItmR K F' as' x v
  | _, _, .fz h => .fz (dp_mono e.1 h)
  | _, _, .cl h => .cl (e.get h)
  | _, _, .tp h r => .tp (e.1 _ _ h) (itms_mono e r)
theorem itms_mono (e : Ext F as F' as') : ∀ {xs : List Itm} {vs : List V}, ItmsR K F as xs vs → ItmsR K F' as' xs vs
  | _, _, .nil => .nil
  | _, _, .cons h r => .cons (itm_mono e h) (itms_mono e r)
end
def SlotR (K : PySem.W.Frag) (F : Hp) (as : List Addr) : Option Itm → Option V → Prop
  | none, _ => True
  | some i, o => ∃ v, o = some v ∧ ItmR K F as i v
theorem slot_mono (e : Ext F as F' as') {x : Option Itm} {o : Option V} (h : SlotR K F as x o) : SlotR K F' as' x o := by
  cases x with
  | none => trivial
  | some i => obtain ⟨v, h1, h2⟩ := h; exact ⟨v, h1, itm_mono e h2⟩
def CellR (K : PySem.W.Frag) (F : Hp) (as : List Addr) (H : Hp) (a : Addr) : Cell → Prop
  | .lst xs => ∃ vs, H a = some (.lst vs) ∧ ItmsR K F as xs vs
  | .dic kvs => ∃ ks, H a = some (.dK ks) ∧ Paired (fun (p : Key × Itm) (q : Key × V) => p.1 = q.1 ∧ ItmR K F as p.2 q.2) kvs ks
  | .dit kvs => ∃ ks, H a = some (.dT ks) ∧ Paired (fun (p : List Key × Itm) (q : List Key × V) => p.1 = q.1 ∧ ItmR K F as p.2 q.2) kvs ks
  | .ins C fs => ∃ dx gs, H a = some (.ins C dx gs) ∧ Paired (fun (p : Str × Itm) (q : Str × V) => p.1 = q.1 ∧ ItmR K F as p.2 q.2) fs gs
  | .raw f => H a = some (f a)
  | .dead => True
theorem paired_mono {α : Type} (e : Ext F as F' as') : ∀ {xs : List (α × Itm)} {ys : List (α × V)}, Paired (fun (p : α × Itm) (q : α × V) => p.1 = q.1 ∧ ItmR K F as p.2 q.2) xs ys → Paired (fun (p : α × Itm) (q : α × V) => p.1 = q.1 ∧ ItmR K F' as' p.2 q.2) xs ys
  | _, _, .nil => .nil
  | _, _, .cons h r => .cons ⟨h.1, itm_mono e h.2⟩ (paired_mono e r)
theorem cell_mono (e : Ext F as F' as') {H H' : Hp} {a : Addr} {o : Cell} (hH : o ≠ .dead → H' a = H a) (h : CellR K F as H a o) : CellR K F' as' H' a o := by
  cases o with
  | lst xs => obtain ⟨vs, h1, h2⟩ := h; exact ⟨vs, by rw [hH (by simp)]; exact h1, itms_mono e h2⟩
  | dic xs => obtain ⟨vs, h1, h2⟩ := h; exact ⟨vs, by rw [hH (by simp)]; exact h1, paired_mono e h2⟩
  | dit xs => obtain ⟨vs, h1, h2⟩ := h; exact ⟨vs, by rw [hH (by simp)]; exact h1, paired_mono e h2⟩
  | ins C xs => obtain ⟨dx, vs, h1, h2⟩ := h; exact ⟨dx, vs, by rw [hH (by simp)]; exact h1, paired_mono e h2⟩
  | raw f => have h : H a = some (f a) := h; exact (by show H' a = some (f a); rw [hH (by simp)]; exact h)
  | dead => trivial
end

/-- the abstract heap H: F frozen, the cells γ at the addresses as -/
structure Rep (K : PySem.W.Frag) (F : Hp) (as : List Addr) (γ : Cells) (H : Hp) : Prop where
  fr : Same F H
  nd : as.Nodup
  len : as.length = γ.length
  th : ∀ a ∈ as, ∃ o, H a = some o
  at_ : ∀ (c : Nat) (o : Cell), γ[c]? = some o → ∃ a, as[c]? = some a ∧ (o ≠ .dead → F a = none) ∧ CellR K F as H a o
def EnvR (K : PySem.W.Frag) (F : Hp) (as : List Addr) (Γ : Slots) (σ : L2.St) : Prop := Γ.length = σ.length ∧ ∀ (i : Nat) (x : Itm), Γ[i]? = some (some x) → ∃ v, σ[i]? = some (some v) ∧ ItmR K F as x v
section
variable {K : PySem.W.Frag} {F F' : Hp} {as as' : List Addr} {γ γ' : Cells} {H H' : Hp} {Γ : Slots} {σ : L2.St}
theorem EnvR.mono (h : EnvR K F as Γ σ) (e : Ext F as F' as') : EnvR K F' as' Γ σ := ⟨h.1, fun i x q => let ⟨v, a, b⟩ := h.2 i x q; ⟨v, a, itm_mono e b⟩⟩
theorem EnvR.set (h : EnvR K F as Γ σ) {i : Nat} {x : Itm} {v : V} (r : ItmR K F as x v) : EnvR K F as (Γ.set i (some x)) (σ.set i (some v)) := by
  refine ⟨by simpa using h.1, fun j y q => ?_⟩
  by_cases hj : i = j
  · subst hj
    by_cases hl : i < Γ.length
    · rw [List.getElem?_set_self hl] at q
      obtain rfl : x = y := by simpa using q
      exact ⟨v, by rw [List.getElem?_set_self (h.1 ▸ hl)], r⟩
    · rw [List.getElem?_eq_none (by simpa using hl)] at q
      cases q
  · rw [List.getElem?_set_ne hj] at q
    obtain ⟨w, a, b⟩ := h.2 j y q
    exact ⟨w, by rw [List.getElem?_set_ne hj]; exact a, b⟩
theorem EnvR.unset (h : EnvR K F as Γ σ) {i : Nat} : EnvR K F as (Γ.set i none) (σ.set i none) := by
  refine ⟨by simpa using h.1, fun j y q => ?_⟩
  by_cases hj : i = j
  · subst hj
    by_cases hl : i < Γ.length
    · rw [List.getElem?_set_self hl] at q; cases q
    · rw [List.getElem?_eq_none (by simpa using hl)] at q; cases q
  · rw [List.getElem?_set_ne hj] at q
    obtain ⟨w, a, b⟩ := h.2 j y q
    exact ⟨w, by rw [List.getElem?_set_ne hj]; exact a, b⟩
/-- forgetting what a slot holds -/
theorem EnvR.weak (h : EnvR K F as Γ σ) {Γ' : Slots} (hl : Γ'.length = Γ.length) (w : ∀ (i : Nat) (x : Itm), Γ'[i]? = some (some x) → Γ[i]? = some (some x)) : EnvR K F as Γ' σ := ⟨hl.trans h.1, fun i x q => h.2 i x (w i x q)⟩
theorem ne_none_of {a : Addr} {o : HO} (h : F a = some o) (h' : F a = none) : False := by rw [h] at h'; cases h'
/-- a frozen object more -/
theorem Rep.new (R : Rep K F as γ H) {p : Addr} (o : HO) (hp : H p = none) : Rep K (upd F p o) as γ (upd H p o) := by
  have hF : F p = none := by
    cases q : F p with
    | none => rfl
    | some u => rw [R.fr p u q] at hp; cases hp
  have sm : Same F (upd F p o) := fun b u e => by rw [upd_ne (ne_of_none e hF)]; exact e
  refine ⟨fun b u e => ?_, R.nd, R.len, fun a ha => ?_, fun c cell q => ?_⟩
  · by_cases hb : b = p
    · subst hb; rw [upd_same] at e ⊢; exact e
    · rw [upd_ne hb] at e ⊢; exact R.fr b u e
  · obtain ⟨o', h'⟩ := R.th a ha
    exact ⟨o', by rw [upd_ne (ne_of_none h' hp)]; exact h'⟩
  · obtain ⟨a, h1, h2, h3⟩ := R.at_ c cell q
    have hne : cell ≠ .dead → a ≠ p := fun hd e => by
      subst e
      cases cell with
      | dead => exact hd rfl
      | lst xs => obtain ⟨vs, h4, _⟩ := h3; exact ne_none_of h4 hp
      | dic xs => obtain ⟨vs, h4, _⟩ := h3; exact ne_none_of h4 hp
      | dit xs => obtain ⟨vs, h4, _⟩ := h3; exact ne_none_of h4 hp
      | ins C xs => obtain ⟨dx, vs, h4, _⟩ := h3; exact ne_none_of h4 hp
      | raw f => have h4 : H a = some (f a) := h3; exact ne_none_of h4 hp
    exact ⟨a, h1, fun hd => by rw [upd_ne (hne hd)]; exact h2 hd, cell_mono ⟨sm, [], by simp⟩ (fun hd => upd_ne (hne hd)) h3⟩
theorem Rep.sameNew (R : Rep K F as γ H) {p : Addr} (o : HO) (hp : H p = none) : Same F (upd F p o) := fun b u e => by
  have hF : F p = none := by
    cases q : F p with
    | none => rfl
    | some u => rw [R.fr p u q] at hp; cases hp
  rw [upd_ne (ne_of_none e hF)]; exact e
/-- a cell more -/
theorem Rep.newCell (R : Rep K F as γ H) {p : Addr} {o : HO} {cell : Cell} (hp : H p = none) (hc : CellR K F (as ++ [p]) (upd H p o) p cell) : Rep K F (as ++ [p]) (γ ++ [cell]) (upd H p o) := by
  have hF : F p = none := by
    cases q : F p with
    | none => rfl
    | some u => rw [R.fr p u q] at hp; cases hp
  have hnd : p ∉ as := fun hm => by
    obtain ⟨o', h'⟩ := R.th p hm
    exact ne_none_of h' hp
  refine ⟨fun b u e => by rw [upd_ne (ne_of_none e hF)]; exact R.fr b u e, List.nodup_append.mpr ⟨R.nd, by simp, fun a ha b hb e => hnd (by simp at hb; rw [← hb, ← e]; exact ha)⟩, by simp [R.len], fun a ha => ?_, fun c cl q => ?_⟩
  · rcases List.mem_append.mp ha with ha | ha
    · obtain ⟨o', h'⟩ := R.th a ha
      exact ⟨o', by rw [upd_ne (ne_of_none h' hp)]; exact h'⟩
    · obtain rfl : a = p := by simpa using ha
      exact ⟨o, upd_same⟩
  by_cases hl : c < γ.length
  · rw [List.getElem?_append_left hl] at q
    obtain ⟨a, h1, h2, h3⟩ := R.at_ c cl q
    have hap : a ≠ p := fun e => hnd (e ▸ List.mem_of_getElem? h1)
    exact ⟨a, Ext.get (F := F) (F' := F) ⟨Same.refl F, [p], rfl⟩ h1, h2, cell_mono ⟨Same.refl F, [p], rfl⟩ (fun _ => upd_ne hap) h3⟩
  · have hc' : c = γ.length := by
      have h := (List.getElem?_eq_some_iff.mp q).1
      simp at h
      omega
    subst hc'
    rw [List.getElem?_append_right (Nat.le_refl _)] at q
    simp at q
    subst q
    refine ⟨p, by rw [← R.len, List.getElem?_append_right (Nat.le_refl _)]; simp, fun _ => hF, hc⟩
/-- a cell's object is changed -/
theorem Rep.write (R : Rep K F as γ H) {c : Nat} {a : Addr} {old cell : Cell} {o : HO} (hg : γ[c]? = some old) (hd : old ≠ .dead) (ha : as[c]? = some a) (hc : CellR K F as (upd H a o) a cell) : Rep K F as (γ.set c cell) (upd H a o) := by
  obtain ⟨a', h1, h2, _⟩ := R.at_ c old hg
  rw [ha] at h1
  cases h1
  have hF := h2 hd
  refine ⟨fun b u e => by rw [upd_ne (ne_of_none e hF)]; exact R.fr b u e, R.nd, by simpa using R.len, fun b hb => ?_, fun c' cl q => ?_⟩
  · by_cases hba : b = a
    · exact ⟨o, by rw [hba]; exact upd_same⟩
    · rw [upd_ne hba]; exact R.th b hb
  by_cases hcc : c = c'
  · subst hcc
    rw [List.getElem?_set_self (List.getElem?_eq_some_iff.mp hg).1] at q
    cases q
    exact ⟨a, ha, fun _ => hF, hc⟩
  · rw [List.getElem?_set_ne hcc] at q
    obtain ⟨b, h1, h2, h3⟩ := R.at_ c' cl q
    have hne : b ≠ a := fun e => by
      subst e
      obtain ⟨p1, e1⟩ := List.getElem?_eq_some_iff.mp ha
      obtain ⟨p2, e2⟩ := List.getElem?_eq_some_iff.mp h1
      exact hcc ((List.getElem_inj R.nd).mp (e1.trans e2.symm))
    exact ⟨b, h1, h2, cell_mono (Ext.refl F as) (fun _ => upd_ne hne) h3⟩
/-- a cell is frozen: it is never written again -/
theorem Rep.freeze (R : Rep K F as γ H) {c : Nat} {a : Addr} {old : Cell} {o : HO} (hg : γ[c]? = some old) (hd : old ≠ .dead) (ha : as[c]? = some a) (ho : H a = some o) : Rep K (upd F a o) as (γ.set c .dead) H ∧ Same F (upd F a o) := by
  obtain ⟨a', h1, h2, _⟩ := R.at_ c old hg
  rw [ha] at h1
  cases h1
  have hF := h2 hd
  have sm : Same F (upd F a o) := fun b u e => by rw [upd_ne (ne_of_none e hF)]; exact e
  refine ⟨⟨fun b u e => ?_, R.nd, by simpa using R.len, R.th, fun c' cl q => ?_⟩, sm⟩
  · by_cases hb : b = a
    · subst hb; rw [upd_same] at e; rw [← e]; exact ho
    · rw [upd_ne hb] at e; exact R.fr b u e
  · by_cases hcc : c = c'
    · subst hcc
      rw [List.getElem?_set_self (List.getElem?_eq_some_iff.mp hg).1] at q
      cases q
      exact ⟨a, ha, fun z => (z rfl).elim, trivial⟩
    · rw [List.getElem?_set_ne hcc] at q
      obtain ⟨b, h1, h2, h3⟩ := R.at_ c' cl q
      have hne : b ≠ a := fun e => by
        subst e
        obtain ⟨p1, e1⟩ := List.getElem?_eq_some_iff.mp ha
        obtain ⟨p2, e2⟩ := List.getElem?_eq_some_iff.mp h1
        exact hcc ((List.getElem_inj R.nd).mp (e1.trans e2.symm))
      exact ⟨b, h1, fun z => by rw [upd_ne hne]; exact h2 z, cell_mono ⟨sm, [], by simp⟩ (fun _ => rfl) h3⟩
theorem Rep.cellAt (R : Rep K F as γ H) {c : Nat} {o : Cell} (hg : γ[c]? = some o) : ∃ a, as[c]? = some a ∧ CellR K F as H a o := let ⟨a, h1, _, h3⟩ := R.at_ c o hg; ⟨a, h1, h3⟩
end
/-! ### values of frozen data -/
section
variable {K : PySem.W.Frag} {F : Hp} {as : List Addr} {v : V}
theorem itm_int {i : Int} : ItmR K F as (.fz (.int i)) v ↔ v = .int i := ⟨fun h => by cases h with | fz h => cases h; rfl, fun h => h ▸ .fz (.int i)⟩
theorem itm_bl {b : Bool} : ItmR K F as (.fz (.bool b)) v ↔ v = .bl b := ⟨fun h => by cases h with | fz h => cases h; rfl, fun h => h ▸ .fz (.bl b)⟩
theorem itm_str {x : Str} : ItmR K F as (.fz (.str x)) v ↔ v = .str x := ⟨fun h => by cases h with | fz h => cases h; rfl, fun h => h ▸ .fz (.str x)⟩
theorem itm_non : ItmR K F as (.fz .none) v ↔ v = .non := ⟨fun h => by cases h with | fz h => cases h; rfl, fun h => h ▸ .fz .non⟩
theorem itm_lst {ds : List PyData} : ItmR K F as (.fz (.list ds)) v ↔ ∃ a vs, v = .ref a ∧ SqL K F a vs ∧ DqAll K F vs ds :=
  ⟨fun h => by cases h with | fz h => cases h with | lst h r => exact ⟨_, _, rfl, h, r⟩, fun ⟨a, vs, e, h, r⟩ => e ▸ .fz (.lst h r)⟩
theorem itm_tup {ds : List PyData} : ItmR K F as (.fz (.tuple ds)) v ↔ ∃ a vs, v = .ref a ∧ F a = some (.tup vs) ∧ DqAll K F vs ds :=
  ⟨fun h => by cases h with | fz h => cases h with | tup h r => exact ⟨_, _, rfl, h, r⟩, fun ⟨a, vs, e, h, r⟩ => e ▸ .fz (.tup h r)⟩
theorem itm_cl {c : Nat} : ItmR K F as (.cl c) v ↔ ∃ a, as[c]? = some a ∧ v = .ref a := ⟨fun h => by cases h with | cl h => exact ⟨_, h, rfl⟩, fun ⟨a, h, e⟩ => e ▸ .cl h⟩
theorem itm_fz {d : PyData} : ItmR K F as (.fz d) v ↔ Dq K F v d := ⟨fun h => by cases h with | fz h => exact h, .fz⟩
theorem dpAll_length : ∀ {vs : List V} {ds : List PyData}, DqAll K F vs ds → vs.length = ds.length
  | _, _, .nil => rfl
  | _, _, .cons _ r => by simp [dpAll_length r]
theorem dpAll_get : ∀ {vs : List V} {ds : List PyData} {i : Nat} {d : PyData}, DqAll K F vs ds → ds[i]? = some d → ∃ v, vs[i]? = some v ∧ Dq K F v d
  | _, _, _, _, .nil, e => by simp at e
  | _, _, 0, _, .cons h _, e => by simp at e; subst e; exact ⟨_, rfl, h⟩
  | _, _, i + 1, d, .cons _ r, e => by
    obtain ⟨v, h1, h2⟩ := dpAll_get (i := i) (d := d) r (by simpa using e)
    exact ⟨v, by simpa using h1, h2⟩
theorem dpAll_get' : ∀ {vs : List V} {ds : List PyData} {i : Nat} {v : V}, DqAll K F vs ds → vs[i]? = some v → ∃ d, ds[i]? = some d ∧ Dq K F v d
  | _, _, _, _, .nil, e => by simp at e
  | _, _, 0, _, .cons h _, e => by simp at e; subst e; exact ⟨_, rfl, h⟩
  | _, _, i + 1, v, .cons _ r, e => by
    obtain ⟨d, h1, h2⟩ := dpAll_get' (i := i) (v := v) r (by simpa using e)
    exact ⟨d, by simpa using h1, h2⟩
theorem dpAll_append : ∀ {vs ws : List V} {ds es : List PyData}, DqAll K F vs ds → DqAll K F ws es → DqAll K F (vs ++ ws) (ds ++ es)
  | _, _, _, _, .nil, s => s
  | _, _, _, _, .cons h r, s => .cons h (dpAll_append r s)
theorem dpAll_ints : ∀ ns : List Int, DqAll K F (ns.map V.int) (ns.map PyData.int)
  | [] => .nil
  | n :: ns => .cons (.int n) (dpAll_ints ns)
theorem dpAll_ints_inv : ∀ {ns : List Int} {vs : List V}, DqAll K F vs (ns.map PyData.int) → vs = ns.map V.int
  | [], _, h => by cases h; rfl
  | n :: ns, _, h => by
    cases h with
    | cons h r => cases h; rw [dpAll_ints_inv r]; rfl
theorem itms_fz : ∀ {vs : List V} {ds : List PyData}, ItmsR K F as (ds.map Itm.fz) vs → DqAll K F vs ds
  | vs, [], h => by cases h; exact .nil
  | vs, d :: ds, h => by
    cases h with
    | cons h r => exact .cons (itm_fz.mp h) (itms_fz r)
theorem itms_of_dp : ∀ {vs : List V} {ds : List PyData}, DqAll K F vs ds → ItmsR K F as (ds.map Itm.fz) vs
  | _, _, .nil => .nil
  | _, _, .cons h r => .cons (.fz h) (itms_of_dp r)
theorem itms_length : ∀ {xs : List Itm} {vs : List V}, ItmsR K F as xs vs → xs.length = vs.length
  | _, _, .nil => rfl
  | _, _, .cons _ r => by simp [itms_length r]
theorem itms_get : ∀ {xs : List Itm} {vs : List V} {i : Nat} {x : Itm}, ItmsR K F as xs vs → xs[i]? = some x → ∃ v, vs[i]? = some v ∧ ItmR K F as x v
  | _, _, _, _, .nil, e => by simp at e
  | _, _, 0, _, .cons h _, e => by simp at e; subst e; exact ⟨_, rfl, h⟩
  | _, _, i + 1, x, .cons _ r, e => by
    obtain ⟨v, h1, h2⟩ := itms_get (i := i) (x := x) r (by simpa using e)
    exact ⟨v, by simpa using h1, h2⟩
theorem itms_set : ∀ {xs : List Itm} {vs : List V} {x : Itm} {v : V} (i : Nat), ItmsR K F as xs vs → ItmR K F as x v → ItmsR K F as (xs.set i x) (vs.set i v)
  | _, _, _, _, _, .nil, _ => .nil
  | _, _, _, _, 0, .cons _ r, h => .cons h r
  | _, _, _, _, i + 1, .cons q r, h => .cons q (itms_set i r h)
theorem itms_append : ∀ {xs ys : List Itm} {vs ws : List V}, ItmsR K F as xs vs → ItmsR K F as ys ws → ItmsR K F as (xs ++ ys) (vs ++ ws)
  | _, _, _, _, .nil, s => s
  | _, _, _, _, .cons h r, s => .cons h (itms_append r s)
end

/-! ### data that can be read now: frozen, or a list of such in a cell -/
inductive Rdb (γ : Cells) : Itm → PyData → Prop
  | fz (d : PyData) : Rdb γ (.fz d) d
  | cl {c : Nat} {ds : List PyData} : γ[c]? = some (.lst (ds.map Itm.fz)) → Rdb γ (.cl c) (.list ds)
theorem Rdb.dp {K : PySem.W.Frag} {F H : Hp} {as : List Addr} {γ : Cells} {x : Itm} {d : PyData} {v : V} (r : Rdb γ x d) (R : Rep K F as γ H) (h : ItmR K F as x v) : Dq K H v d := by
  cases r with
  | fz => exact dp_mono R.fr (itm_fz.mp h)
  | cl hc =>
    obtain ⟨a, ha, rfl⟩ := itm_cl.mp h
    obtain ⟨a', h1, h2⟩ := R.cellAt hc
    rw [ha] at h1
    cases h1
    obtain ⟨vs, hv, hs⟩ := h2
    exact .lst (SqL.of hv) (dpAll_mono R.fr (itms_fz hs))
/-- its value is a list at an address: the items' values -/
theorem Rdb.list {K : PySem.W.Frag} {F H : Hp} {as : List Addr} {γ : Cells} {x : Itm} {ds : List PyData} {v : V} (r : Rdb γ x (.list ds)) (R : Rep K F as γ H) (h : ItmR K F as x v) : ∃ a vs, v = .ref a ∧ SqL K H a vs ∧ DqAll K F vs ds := by
  cases r with
  | fz => obtain ⟨a, vs, e, h1, h2⟩ := itm_lst.mp h; exact ⟨a, vs, e, same_l R.fr h1, h2⟩
  | cl hc =>
    obtain ⟨a, ha, rfl⟩ := itm_cl.mp h
    obtain ⟨a', h1, h2⟩ := R.cellAt hc
    rw [ha] at h1
    cases h1
    obtain ⟨vs, hv, hs⟩ := h2
    exact ⟨a, vs, rfl, SqL.of hv, itms_fz hs⟩
theorem Rdb.tuple {K : PySem.W.Frag} {F H : Hp} {as : List Addr} {γ : Cells} {x : Itm} {ds : List PyData} {v : V} (r : Rdb γ x (.tuple ds)) (R : Rep K F as γ H) (h : ItmR K F as x v) : ∃ a vs, v = .ref a ∧ F a = some (.tup vs) ∧ DqAll K F vs ds := by
  cases r with
  | fz => exact itm_tup.mp h
end PL

namespace PL
open PySem PySem.Spec PyProof.Rows L2

/-! ### the readings that take any derivation -/
section
variable (X : Cx)
def wpE (e : Expr) : TE := fun σ H Q => ∃ t, PE X e t ∧ t σ H Q
def wpT (e : Expr) : TT := fun σ H Q => ∃ t, PT X e t ∧ t σ H Q
def wpW (e : Expr) : TT := fun σ H Q => ∃ t, PW X e t ∧ t σ H Q
def wpA (es : List Expr) : TA := fun σ H Q => ∃ t, PA X es t ∧ t σ H Q
def wpS (s : Stmt) : TS := fun D σ H => ∃ t, PS X s t ∧ t D σ H
def wpSs (ss : List Stmt) : TS := fun D σ H => ∃ t, PSs X ss t ∧ t D σ H
def wpG (e : Expr) : TG := fun v σ H Q => ∃ t, PG X e t ∧ t v σ H Q
end
section
variable {X : Cx}
theorem pe_wp {e : Expr} : PE X e (wpE X e) := ⟨fun pins s σ H Q I ⟨t, h, q⟩ => h.run pins s σ H Q I q⟩
theorem pt_wp {e : Expr} : PT X e (wpT X e) := ⟨fun pins s σ H Q I ⟨t, h, q⟩ => h.run pins s σ H Q I q⟩
theorem pw_wp {e : Expr} : PW X e (wpW X e) := ⟨fun whole pins s σ H Q I ⟨t, h, q⟩ => h.run whole pins s σ H Q I q⟩
theorem pa_wp {es : List Expr} : PA X es (wpA X es) := ⟨fun pos pins s σ H Q I ⟨t, h, q⟩ => h.run pos pins s σ H Q I q⟩
theorem ps_wp {st : Stmt} : PS X st (wpS X st) := ⟨fun pins s σ H D I ⟨t, h, q⟩ => h.run pins s σ H D I q⟩
theorem pss_wp {ss : List Stmt} : PSs X ss (wpSs X ss) := ⟨fun pins s σ H D I ⟨t, h, q⟩ => h.run pins s σ H D I q⟩
theorem pg_wp {e : Expr} : PG X e (wpG X e) := ⟨fun pins s σ H v u Q I r ⟨t, h, q⟩ => h.run pins s σ H v u Q I r q⟩
end

/-! ### what is known of the context -/
structure Cok (X : Cx) : Prop where
  calm : X.calm = true
  nd : X.N.Nodup
  kind : X.env.scope.kind = .function
  hu : X.A.units + 100 < cLine
/-- the name x stands in slot i: to be read -/
structure Nr (X : Cx) (x : Str) (i : Nat) (k : NameKind) : Prop where
  ix : X.N[i]? = some x
  kd : X.env.scope.names.lookup x = some k
  vis : k = .local ∨ k = .cell
  d1 : (x == ("__debug__" : Str)) = false
  d2 : (x == ("__classdict__" : Str)) = false
/-- .. and to be stored -/
structure Nm (X : Cx) (x : Str) (i : Nat) (k : NameKind) : Prop where
  r : Nr X x i k
  fn : X.fn x = true ∨ k = .local
/-- x is a built-in's name here -/
structure Bt (X : Cx) (x : Str) : Prop where
  gl : Gl X x
  mg : X.mg x = none
theorem Nr.vs {X : Cx} {x : Str} {i : Nat} {k : NameKind} (h : Nr X x i k) : Vis X.env.scope x := by
  rcases h.vis with e | e
  · exact .inl (e ▸ h.kd)
  · exact .inr (.inl (e ▸ h.kd))
theorem Nr.loc {X : Cx} {x : Str} {i : Nat} {k : NameKind} (h : Nr X x i k) : Loc X.env.scope x := by
  rcases h.vis with e | e
  · exact .inl (e ▸ h.kd)
  · exact .inr (e ▸ h.kd)
theorem Nm.hf {X : Cx} {x : Str} {i : Nat} {k : NameKind} (h : Nm X x i k) : X.fn x = true ∨ X.env.scope.names.lookup x = some .local := h.fn.imp id fun e => by rw [h.r.kd, e]
theorem Nm.ix {X : Cx} {x : Str} {i : Nat} {k : NameKind} (h : Nm X x i k) : X.N[i]? = some x := h.r.ix
theorem Nm.loc {X : Cx} {x : Str} {i : Nat} {k : NameKind} (h : Nm X x i k) : Loc X.env.scope x := h.r.loc

/-! ### the judgements -/
section
variable (X : Cx) (Γ : Slots) (γ : Cells)
def EE (e : Expr) (P : EPost) : Prop :=
  ∀ (F : Hp) (as : List Addr) (σ : L2.St) (H : Hp), Rep X.K F as γ H → EnvR X.K F as Γ σ → ∀ Q : VK,
    (∀ v r γ' F' as' H', P r γ' → Ext F as F' as' → Rep X.K F' as' γ' H' → ItmR X.K F' as' r v → Q v H') → wpE X e σ H Q
def EV (e : Expr) (r : Itm) (γ' : Cells) : Prop := EE X Γ γ e fun r' g => r' = r ∧ g = γ'
def TV (e : Expr) (b : Bool) (γ' : Cells) : Prop :=
  ∀ (F : Hp) (as : List Addr) (σ : L2.St) (H : Hp), Rep X.K F as γ H → EnvR X.K F as Γ σ → ∀ Q : Bool → Hp → Prop,
    (∀ F' as' H', Ext F as F' as' → Rep X.K F' as' γ' H' → Q b H') → wpT X e σ H Q
def WV (e : Expr) (b : Bool) (γ' : Cells) : Prop :=
  ∀ (F : Hp) (as : List Addr) (σ : L2.St) (H : Hp), Rep X.K F as γ H → EnvR X.K F as Γ σ → ∀ Q : Bool → Hp → Prop,
    (∀ F' as' H', Ext F as F' as' → Rep X.K F' as' γ' H' → Q b H') → wpW X e σ H Q
def AV (es : List Expr) (rs : List Itm) (γ' : Cells) : Prop :=
  ∀ (F : Hp) (as : List Addr) (σ : L2.St) (H : Hp), Rep X.K F as γ H → EnvR X.K F as Γ σ → ∀ Q : List V → Hp → Prop,
    (∀ vs F' as' H', Ext F as F' as' → Rep X.K F' as' γ' H' → ItmsR X.K F' as' rs vs → Q vs H') → wpA X es σ H Q
end
structure SE where
  nx : Slots → Cells → Prop
  rt : Itm → Cells → Prop
  bk : Slots → Cells → Prop := fun _ _ => False
  ct : Slots → Cells → Prop := fun _ _ => False
structure Cov (K : PySem.W.Frag) (F : Hp) (as : List Addr) (R : SE) (D : Ends) : Prop where
  nx : ∀ Γ' γ' F' as' σ' H', R.nx Γ' γ' → Ext F as F' as' → Rep K F' as' γ' H' → EnvR K F' as' Γ' σ' → D.nx σ' H'
  rt : ∀ r γ' F' as' v H', R.rt r γ' → Ext F as F' as' → Rep K F' as' γ' H' → ItmR K F' as' r v → D.rt v H'
  bk : ∀ Γ' γ' F' as' σ' H', R.bk Γ' γ' → Ext F as F' as' → Rep K F' as' γ' H' → EnvR K F' as' Γ' σ' → D.bk σ' H'
  ct : ∀ Γ' γ' F' as' σ' H', R.ct Γ' γ' → Ext F as F' as' → Rep K F' as' γ' H' → EnvR K F' as' Γ' σ' → D.ct σ' H'
def SV (X : Cx) (Γ : Slots) (γ : Cells) (s : Stmt) (R : SE) : Prop := ∀ F as σ H D, Rep X.K F as γ H → EnvR X.K F as Γ σ → Cov X.K F as R D → wpS X s D σ H
def SVs (X : Cx) (Γ : Slots) (γ : Cells) (ss : List Stmt) (R : SE) : Prop := ∀ F as σ H D, Rep X.K F as γ H → EnvR X.K F as Γ σ → Cov X.K F as R D → wpSs X ss D σ H
theorem Cov.mono {K F as F1 as1 R D} (h : Cov K F as R D) (e : Ext F as F1 as1) : Cov K F1 as1 R D :=
  ⟨fun _ _ _ _ _ _ r x => h.nx _ _ _ _ _ _ r (e.trans x), fun _ _ _ _ _ _ r x => h.rt _ _ _ _ _ _ r (e.trans x), fun _ _ _ _ _ _ r x => h.bk _ _ _ _ _ _ r (e.trans x), fun _ _ _ _ _ _ r x => h.ct _ _ _ _ _ _ r (e.trans x)⟩
section
variable {X : Cx} {Γ : Slots} {γ γ1 γ2 γ3 γ' : Cells} {e a b c : Expr} {r ra rb : Itm} {pos : Pos}
theorem EV.go (h : EV X Γ γ e r γ') {F as σ H} (R : Rep X.K F as γ H) (E : EnvR X.K F as Γ σ) {Q : VK} (k : ∀ v F' as' H', Ext F as F' as' → Rep X.K F' as' γ' H' → ItmR X.K F' as' r v → Q v H') : wpE X e σ H Q :=
  h F as σ H R E Q fun v r' g F' as' H' ⟨e1, e2⟩ x R' i => by subst e1 e2; exact k v F' as' H' x R' i
theorem EV.mk (h : ∀ F as σ H, Rep X.K F as γ H → EnvR X.K F as Γ σ → ∀ Q : VK, (∀ v F' as' H', Ext F as F' as' → Rep X.K F' as' γ' H' → ItmR X.K F' as' r v → Q v H') → wpE X e σ H Q) : EV X Γ γ e r γ' :=
  fun F as σ H R E Q k => h F as σ H R E Q fun v F' as' H' x R' i => k v r γ' F' as' H' ⟨rfl, rfl⟩ x R' i
theorem EV.cast {r' : Itm} {g' : Cells} (h : EV X Γ γ e r γ') (e1 : r = r') (e2 : γ' = g') : EV X Γ γ e r' g' := by subst e1 e2; exact h
theorem EV.is {d d' : PyData} (h : EV X Γ γ e (.fz d) γ') (e1 : d = d') : EV X Γ γ e (.fz d') γ' := by subst e1; exact h
theorem TV.is {b b' : Bool} (h : TV X Γ γ e b γ') (e1 : b = b') : TV X Γ γ e b' γ' := by subst e1; exact h
theorem EE.imp {P P' : EPost} (h : EE X Γ γ e P) (k : ∀ r g, P r g → P' r g) : EE X Γ γ e P' := fun F as σ H R E Q q => h F as σ H R E Q fun v r g F' as' H' p => q v r g F' as' H' (k r g p)

/-! ### names, constants -/
theorem ev_name {x : Str} {i : Nat} {k : NameKind} (n : Nr X x i k) (h : Γ[i]? = some (some r)) : EV X Γ γ (.Name x pos) r γ := .mk fun F as σ H R E Q q => by
  obtain ⟨v, hv, hr⟩ := E.2 i r h
  exact ⟨_, pe_var n.ix n.vs n.d1 n.d2, v, hv, q v F as H (Ext.refl F as) R hr⟩
theorem ev_int {i : Int} {j} : EV X Γ γ (.Constant (.int i) j pos) (.fz (.int i)) γ := .mk fun F as σ H R E Q q => ⟨_, pe_int, q _ F as H (Ext.refl F as) R (itm_int.mpr rfl)⟩
theorem ev_bl {i : Bool} {j} : EV X Γ γ (.Constant (.bool i) j pos) (.fz (.bool i)) γ := .mk fun F as σ H R E Q q => ⟨_, pe_bl, q _ F as H (Ext.refl F as) R (itm_bl.mpr rfl)⟩
theorem ev_str {i : Str} {j} : EV X Γ γ (.Constant (.str i) j pos) (.fz (.str i)) γ := .mk fun F as σ H R E Q q => ⟨_, pe_str, q _ F as H (Ext.refl F as) R (itm_str.mpr rfl)⟩
theorem ev_non {j} : EV X Γ γ (.Constant .none j pos) (.fz .none) γ := .mk fun F as σ H R E Q q => ⟨_, pe_non, q _ F as H (Ext.refl F as) R (itm_non.mpr rfl)⟩

/-! ### arithmetic -/
theorem ev_op {op : Operator} {t : R2} (ho : OpR X (binaryOp op) t) (ha : EV X Γ γ a ra γ1) (hb : EV X Γ γ1 b rb γ2)
    (hr : ∀ F as H x y, Rep X.K F as γ2 H → ItmR X.K F as ra x → ItmR X.K F as rb y → ∀ Q : VK, (∀ v F' as' H', Ext F as F' as' → Rep X.K F' as' γ3 H' → ItmR X.K F' as' r v → Q v H') → t x y H Q) : EV X Γ γ (.BinOp a op b pos) r γ3 := .mk fun F as σ H R E Q q => by
  refine ⟨_, pe_op ho pe_wp pe_wp, ?_⟩
  refine ha.go R E fun v F1 as1 H1 x1 R1 i1 => ?_
  refine hb.go R1 (E.mono x1) fun u F2 as2 H2 x2 R2 i2 => ?_
  exact hr F2 as2 H2 v u R2 (itm_mono x2 i1) i2 Q fun w F3 as3 H3 x3 R3 i3 => q w F3 as3 H3 ((x1.trans x2).trans x3) R3 i3
theorem ev_opI {op : Operator} {C : Int → Int → Prop} {g : Int → Int → Int} {i j : Int} (ho : OpR X (binaryOp op) (rI C fun i j => .int (g i j))) (ha : EV X Γ γ a (.fz (.int i)) γ1) (hb : EV X Γ γ1 b (.fz (.int j)) γ2) (hc : C i j) : EV X Γ γ (.BinOp a op b pos) (.fz (.int (g i j))) γ2 :=
  ev_op ho ha hb fun F as H x y R hx hy Q q => ⟨i, j, itm_int.mp hx, itm_int.mp hy, hc, q _ F as H (Ext.refl F as) R (itm_int.mpr rfl)⟩
theorem ev_opI0 {op : Operator} {g : Int → Int → Int} {i j : Int} (ho : OpR X (binaryOp op) (rI0 fun i j => .int (g i j))) (ha : EV X Γ γ a (.fz (.int i)) γ1) (hb : EV X Γ γ1 b (.fz (.int j)) γ2) : EV X Γ γ (.BinOp a op b pos) (.fz (.int (g i j))) γ2 :=
  ev_op ho ha hb fun F as H x y R hx hy Q q => ⟨i, j, itm_int.mp hx, itm_int.mp hy, q _ F as H (Ext.refl F as) R (itm_int.mpr rfl)⟩
variable {i j : Int}
theorem ev_add (ha : EV X Γ γ a (.fz (.int i)) γ1) (hb : EV X Γ γ1 b (.fz (.int j)) γ2) : EV X Γ γ (.BinOp a .Add b pos) (.fz (.int (i + j))) γ2 := ev_opI0 op_add ha hb
theorem ev_sub (ha : EV X Γ γ a (.fz (.int i)) γ1) (hb : EV X Γ γ1 b (.fz (.int j)) γ2) : EV X Γ γ (.BinOp a .Sub b pos) (.fz (.int (i - j))) γ2 := ev_opI0 op_sub ha hb
theorem ev_mul (ha : EV X Γ γ a (.fz (.int i)) γ1) (hb : EV X Γ γ1 b (.fz (.int j)) γ2) (hc : CMulW i j) : EV X Γ γ (.BinOp a .Mult b pos) (.fz (.int (i * j))) γ2 := ev_opI op_mulW ha hb hc
theorem ev_mod (ha : EV X Γ γ a (.fz (.int i)) γ1) (hb : EV X Γ γ1 b (.fz (.int j)) γ2) (hc : 0 < j) : EV X Γ γ (.BinOp a .Mod b pos) (.fz (.int (i % j))) γ2 := ev_opI op_mod ha hb hc
theorem ev_div (ha : EV X Γ γ a (.fz (.int i)) γ1) (hb : EV X Γ γ1 b (.fz (.int j)) γ2) (hc : CDivW i j) : EV X Γ γ (.BinOp a .FloorDiv b pos) (.fz (.int (i / j))) γ2 := ev_opI op_fdivW ha hb hc
theorem ev_pow (ha : EV X Γ γ a (.fz (.int i)) γ1) (hb : EV X Γ γ1 b (.fz (.int j)) γ2) (hc : CPow i j) : EV X Γ γ (.BinOp a .Pow b pos) (.fz (.int (i ^ j.toNat))) γ2 := ev_opI op_pow ha hb hc
theorem ev_neg (ha : EV X Γ γ a (.fz (.int i)) γ1) : EV X Γ γ (.UnaryOp .USub a pos) (.fz (.int (-i))) γ1 := .mk fun F as σ H R E Q q =>
  ⟨_, pe_un un_neg pe_wp, ha.go R E fun v F1 as1 H1 x1 R1 i1 => ⟨i, itm_int.mp i1, q _ F1 as1 H1 x1 R1 (itm_int.mpr rfl)⟩⟩

/-! ### comparisons -/
def CmpR (X : Cx) (op : CmpOp) (γ : Cells) (ra rb : Itm) (k : Bool) : Prop :=
  ∃ t : R2, OpR X (compareOp op) t ∧ ∀ F as H x y, Rep X.K F as γ H → ItmR X.K F as ra x → ItmR X.K F as rb y → ∀ Q : VK, Q (.bl k) H → t x y H Q
variable {op op' : CmpOp} {k k' : Bool}
theorem ev_cmp (ha : EV X Γ γ a ra γ1) (hb : EV X Γ γ1 b rb γ2) (hc : CmpR X op γ2 ra rb k) (hm : behindInMarks op b = false := by first | exact nomark _ | rfl) : EV X Γ γ (.Compare a [op] [b] pos) (.fz (.bool k)) γ2 := .mk fun F as σ H R E Q q => by
  obtain ⟨t, ho, hr⟩ := hc
  refine ⟨_, pe_cmpR ho pe_wp pe_wp hm, ?_⟩
  refine ha.go R E fun v F1 as1 H1 x1 R1 i1 => ?_
  refine hb.go R1 (E.mono x1) fun u F2 as2 H2 x2 R2 i2 => ?_
  exact hr F2 as2 H2 v u R2 (itm_mono x2 i1) i2 Q (q _ F2 as2 H2 (x1.trans x2) R2 (itm_bl.mpr rfl))
theorem tv_cmp (ha : EV X Γ γ a ra γ1) (hb : EV X Γ γ1 b rb γ2) (hc : CmpR X op γ2 ra rb k) (hm : behindInMarks op b = false := by first | exact nomark _ | rfl) : TV X Γ γ (.Compare a [op] [b] pos) k γ2 := fun F as σ H R E Q q => by
  obtain ⟨t, ho, hr⟩ := hc
  refine ⟨_, pt_cmpR ho pe_wp pe_wp hm, ?_⟩
  refine ha.go R E fun v F1 as1 H1 x1 R1 i1 => ?_
  refine hb.go R1 (E.mono x1) fun u F2 as2 H2 x2 R2 i2 => ?_
  exact hr F2 as2 H2 v u R2 (itm_mono x2 i1) i2 _ ⟨k, rfl, q F2 as2 H2 (x1.trans x2) R2⟩
theorem ev_chain {rc : Itm} (ha : EV X Γ γ a ra γ1) (hb : EV X Γ γ1 b rb γ2) (hc : CmpR X op γ2 ra rb k) (hd : k = true → EV X Γ γ2 c rc γ2) (he : k = true → CmpR X op' γ2 rb rc k') (hm : ∃ t : R2, OpR X (compareOp op') t) : True := trivial
theorem cmp_lt : CmpR X .Lt γ (.fz (.int i)) (.fz (.int j)) (decide (i < j)) := ⟨_, op_lt, fun F as H x y R hx hy Q q => ⟨i, j, itm_int.mp hx, itm_int.mp hy, q⟩⟩
theorem cmp_le : CmpR X .LtE γ (.fz (.int i)) (.fz (.int j)) (decide (i ≤ j)) := ⟨_, op_le, fun F as H x y R hx hy Q q => ⟨i, j, itm_int.mp hx, itm_int.mp hy, q⟩⟩
theorem cmp_gt : CmpR X .Gt γ (.fz (.int i)) (.fz (.int j)) (decide (j < i)) := ⟨_, op_gt, fun F as H x y R hx hy Q q => ⟨i, j, itm_int.mp hx, itm_int.mp hy, q⟩⟩
theorem cmp_ge : CmpR X .GtE γ (.fz (.int i)) (.fz (.int j)) (decide (j ≤ i)) := ⟨_, op_ge, fun F as H x y R hx hy Q q => ⟨i, j, itm_int.mp hx, itm_int.mp hy, q⟩⟩
theorem cmp_eqI : CmpR X .Eq γ (.fz (.int i)) (.fz (.int j)) (decide (i = j)) := ⟨_, op_eq, fun F as H x y R hx hy Q q => by
  cases itm_int.mp hx; cases itm_int.mp hy
  exact ⟨rfl, by rw [show decide (V.int i = V.int j) = decide (i = j) by simp]; exact q⟩⟩
theorem cmp_neI : CmpR X .NotEq γ (.fz (.int i)) (.fz (.int j)) (!decide (i = j)) := ⟨_, op_ne, fun F as H x y R hx hy Q q => by
  cases itm_int.mp hx; cases itm_int.mp hy
  exact ⟨rfl, by rw [show decide (V.int i = V.int j) = decide (i = j) by simp]; exact q⟩⟩
theorem cmp_eqS {i j : Str} : CmpR X .Eq γ (.fz (.str i)) (.fz (.str j)) (decide (i = j)) := ⟨_, op_eq, fun F as H x y R hx hy Q q => by
  cases itm_str.mp hx; cases itm_str.mp hy
  exact ⟨rfl, by rw [show decide (V.str i = V.str j) = decide (i = j) by simp]; exact q⟩⟩
theorem cmp_neS {i j : Str} : CmpR X .NotEq γ (.fz (.str i)) (.fz (.str j)) (!decide (i = j)) := ⟨_, op_ne, fun F as H x y R hx hy Q q => by
  cases itm_str.mp hx; cases itm_str.mp hy
  exact ⟨rfl, by rw [show decide (V.str i = V.str j) = decide (i = j) by simp]; exact q⟩⟩
theorem cmp_eqB {i j : Bool} : CmpR X .Eq γ (.fz (.bool i)) (.fz (.bool j)) (i == j) := ⟨_, op_eq, fun F as H x y R hx hy Q q => by
  cases itm_bl.mp hx; cases itm_bl.mp hy
  exact ⟨rfl, by rw [dec_bl]; exact q⟩⟩
theorem cmp_neB {i j : Bool} : CmpR X .NotEq γ (.fz (.bool i)) (.fz (.bool j)) (i != j) := ⟨_, op_ne, fun F as H x y R hx hy Q q => by
  cases itm_bl.mp hx; cases itm_bl.mp hy
  exact ⟨rfl, by rw [dec_bl]; exact q⟩⟩
/-- == of data of any depth -/
theorem cmp_eqD {d e : PyData} (hX : Cok X) (h1 : Rdb γ ra d) (h2 : Rdb γ rb e) (s1 : SeqAt.shaped d = true) (s2 : SeqAt.shaped e = true) : CmpR X .Eq γ ra rb (PyData.eqv d e) :=
  ⟨_, op_eqD (by have := hX.hu; omega), fun F as H x y R hx hy Q q => ⟨d, e, (h1.dp R hx).dp (shaped_lay s1), (h2.dp R hy).dp (shaped_lay s2), s1, s2, q⟩⟩
theorem cmp_neD {d e : PyData} (hX : Cok X) (h1 : Rdb γ ra d) (h2 : Rdb γ rb e) (s1 : SeqAt.shaped d = true) (s2 : SeqAt.shaped e = true) : CmpR X .NotEq γ ra rb (!PyData.eqv d e) :=
  ⟨_, op_neD (by have := hX.hu; omega), fun F as H x y R hx hy Q q => ⟨d, e, (h1.dp R hx).dp (shaped_lay s1), (h2.dp R hy).dp (shaped_lay s2), s1, s2, q⟩⟩
theorem cmp_inD {d : PyData} {ds : List PyData} (hX : Cok X) (h1 : Rdb γ ra d) (h2 : Rdb γ rb (.list ds)) (s1 : SeqAt.shaped d = true) (s2 : SeqAt.shaped (.list ds) = true) : CmpR X .In γ ra rb (ds.any fun z => PyData.eqv z d) :=
  ⟨_, op_inD (by have := hX.hu; omega), fun F as H x y R hx hy Q q => ⟨d, ds, (h1.dp R hx).dp (shaped_lay s1), (h2.dp R hy).dp (shaped_lay s2), s1, s2, q⟩⟩
theorem cmp_notInD {d : PyData} {ds : List PyData} (hX : Cok X) (h1 : Rdb γ ra d) (h2 : Rdb γ rb (.list ds)) (s1 : SeqAt.shaped d = true) (s2 : SeqAt.shaped (.list ds) = true) : CmpR X .NotIn γ ra rb (!ds.any fun z => PyData.eqv z d) :=
  ⟨_, op_notInD (by have := hX.hu; omega), fun F as H x y R hx hy Q q => ⟨d, ds, (h1.dp R hx).dp (shaped_lay s1), (h2.dp R hy).dp (shaped_lay s2), s1, s2, q⟩⟩
def dNone : PyData → Bool
  | .none => true
  | _ => false
theorem dp_none {K F v d} (h : Dq K F v d) : decide (v = V.non) = dNone d := by cases h <;> simp [dNone]
theorem cmp_isN {d : PyData} : CmpR X .Is γ (.fz d) (.fz .none) (dNone d) := ⟨_, op_isN, fun F as H x y R hx hy Q q => ⟨itm_non.mp hy, by rw [dp_none (itm_fz.mp hx)]; exact q⟩⟩
theorem cmp_notN {d : PyData} : CmpR X .IsNot γ (.fz d) (.fz .none) (!dNone d) := ⟨_, op_notN, fun F as H x y R hx hy Q q => ⟨itm_non.mp hy, by rw [dp_none (itm_fz.mp hx)]; exact q⟩⟩

/-! ### tests: and, or, not; values True, False -/
theorem tv_val (h : EV X Γ γ e (.fz (.bool k)) γ1) (he : ∀ whole, isTrue e X.env whole = (do let v ← whole; standAt e.pos; holding [v] (truthy v)) := by intro _; rfl) : TV X Γ γ e k γ1 := fun F as σ H R E Q q =>
  ⟨_, pt_val pe_wp he, h.go R E fun v F1 as1 H1 x1 R1 i1 => ⟨k, itm_bl.mp i1, q F1 as1 H1 x1 R1⟩⟩
theorem tv_not (h : TV X Γ γ a k γ1) : TV X Γ γ (.UnaryOp .Not a pos) (!k) γ1 := fun F as σ H R E Q q =>
  ⟨_, pt_not pt_wp, h F as σ H R E _ fun F1 as1 H1 x1 R1 => q F1 as1 H1 x1 R1⟩
theorem tv_w (h : WV X Γ γ e k γ1) : TV X Γ γ e k γ1 := fun F as σ H R E Q q => ⟨_, pw_wp.pt, h F as σ H R E Q q⟩
theorem wv_and1 (h : TV X Γ γ a k γ1) : WV X Γ γ (.BoolOp .And [a] pos) k γ1 := fun F as σ H R E Q q => ⟨_, pw_and1 pt_wp, h F as σ H R E Q q⟩
theorem wv_or1 (h : TV X Γ γ a k γ1) : WV X Γ γ (.BoolOp .Or [a] pos) k γ1 := fun F as σ H R E Q q => ⟨_, pw_or1 pt_wp, h F as σ H R E Q q⟩
variable {rest : List Expr}
theorem wv_and (h1 : TV X Γ γ a k γ1) (h2 : k = true → WV X Γ γ1 (.BoolOp .And (b :: rest) pos) k' γ1) : WV X Γ γ (.BoolOp .And (a :: b :: rest) pos) (k && k') γ1 := fun F as σ H R E Q q =>
  ⟨_, pw_and pt_wp pw_wp, h1 F as σ H R E _ fun F1 as1 H1 x1 R1 => by
    cases k with
    | true => exact iteT (h2 rfl F1 as1 σ H1 R1 (E.mono x1) Q fun F2 as2 H2 x2 R2 => q F2 as2 H2 (x1.trans x2) R2)
    | false => exact iteF (q F1 as1 H1 x1 R1)⟩
theorem wv_or (h1 : TV X Γ γ a k γ1) (h2 : k = false → WV X Γ γ1 (.BoolOp .Or (b :: rest) pos) k' γ1) : WV X Γ γ (.BoolOp .Or (a :: b :: rest) pos) (k || k') γ1 := fun F as σ H R E Q q =>
  ⟨_, pw_or pt_wp pw_wp, h1 F as σ H R E _ fun F1 as1 H1 x1 R1 => by
    cases k with
    | true => exact iteT (q F1 as1 H1 x1 R1)
    | false => exact iteF (h2 rfl F1 as1 σ H1 R1 (E.mono x1) Q fun F2 as2 H2 x2 R2 => q F2 as2 H2 (x1.trans x2) R2)⟩
theorem ev_not (h : EV X Γ γ a (.fz (.bool k)) γ1) : EV X Γ γ (.UnaryOp .Not a pos) (.fz (.bool (!k))) γ1 := .mk fun F as σ H R E Q q =>
  ⟨_, pe_not pe_wp, h.go R E fun v F1 as1 H1 x1 R1 i1 => ⟨k, itm_bl.mp i1, q _ F1 as1 H1 x1 R1 (itm_bl.mpr rfl)⟩⟩
theorem ev_one {o} (h : EV X Γ γ a r γ1) : EV X Γ γ (.BoolOp o [a] pos) r γ1 := .mk fun F as σ H R E Q q => ⟨_, pe_one pe_wp, h.go R E q⟩
theorem ev_and {d : PyData} (h1 : EV X Γ γ a (.fz (.bool k)) γ1) (h2 : k = true → EV X Γ γ1 (.BoolOp .And (b :: rest) pos) (.fz d) γ1) : EV X Γ γ (.BoolOp .And (a :: b :: rest) pos) (.fz (if k then d else .bool false)) γ1 := .mk fun F as σ H R E Q q =>
  ⟨_, pe_and pe_wp pe_wp, h1.go R E fun v F1 as1 H1 x1 R1 i1 => ⟨k, itm_bl.mp i1, by
    cases k with
    | true => exact iteT ((h2 rfl).go R1 (E.mono x1) fun u F2 as2 H2 x2 R2 i2 => q u F2 as2 H2 (x1.trans x2) R2 i2)
    | false => exact iteF (q _ F1 as1 H1 x1 R1 (itm_bl.mpr rfl))⟩⟩
theorem ev_or {d : PyData} (h1 : EV X Γ γ a (.fz (.bool k)) γ1) (h2 : k = false → EV X Γ γ1 (.BoolOp .Or (b :: rest) pos) (.fz d) γ1) : EV X Γ γ (.BoolOp .Or (a :: b :: rest) pos) (.fz (if k then .bool true else d)) γ1 := .mk fun F as σ H R E Q q =>
  ⟨_, pe_or pe_wp pe_wp, h1.go R E fun v F1 as1 H1 x1 R1 i1 => ⟨k, itm_bl.mp i1, by
    cases k with
    | true => exact iteT (q _ F1 as1 H1 x1 R1 (itm_bl.mpr rfl))
    | false => exact iteF ((h2 rfl).go R1 (E.mono x1) fun u F2 as2 H2 x2 R2 i2 => q u F2 as2 H2 (x1.trans x2) R2 i2)⟩⟩
theorem ev_ifx {r : Itm} {γ2 : Cells} (h : TV X Γ γ c k γ1) (h1 : k = true → EV X Γ γ1 a r γ2) (h2 : k = false → EV X Γ γ1 b r γ2) : EV X Γ γ (.IfExp c a b pos) r γ2 := .mk fun F as σ H R E Q q =>
  ⟨_, pe_ifExp pt_wp pe_wp pe_wp, h F as σ H R E _ fun F1 as1 H1 x1 R1 => by
    cases k with
    | true => exact iteT ((h1 rfl).go R1 (E.mono x1) fun u F2 as2 H2 x2 R2 i2 => q u F2 as2 H2 (x1.trans x2) R2 i2)
    | false => exact iteF ((h2 rfl).go R1 (E.mono x1) fun u F2 as2 H2 x2 R2 i2 => q u F2 as2 H2 (x1.trans x2) R2 i2)⟩

/-! ### argument lists, displays -/
variable {es : List Expr} {rs : List Itm}
theorem AV.go (h : AV X Γ γ es rs γ') {F as σ H} (R : Rep X.K F as γ H) (E : EnvR X.K F as Γ σ) {Q : List V → Hp → Prop} (k : ∀ vs F' as' H', Ext F as F' as' → Rep X.K F' as' γ' H' → ItmsR X.K F' as' rs vs → Q vs H') : wpA X es σ H Q := h F as σ H R E Q k
theorem av_nil : AV X Γ γ [] [] γ := fun F as σ H R E Q q => ⟨_, pa_nil, q [] F as H (Ext.refl F as) R .nil⟩
theorem av_cons (h : EV X Γ γ e r γ1) (hr : AV X Γ γ1 es rs γ2) (hs : starEach (e :: es) X.env = (false, eval e X.env) :: starEach es X.env := by rfl) : AV X Γ γ (e :: es) (r :: rs) γ2 := fun F as σ H R E Q q =>
  ⟨_, pa_cons pe_wp pa_wp hs, h.go R E fun v F1 as1 H1 x1 R1 i1 => hr.go R1 (E.mono x1) fun vs F2 as2 H2 x2 R2 i2 => q _ F2 as2 H2 (x1.trans x2) R2 (.cons (itm_mono x2 i1) i2)⟩
theorem itms_fz' {K : PySem.W.Frag} {F : Hp} {as : List Addr} {ds : List PyData} {vs : List V} (h : ItmsR K F as (ds.map Itm.fz) vs) : DqAll K F vs ds := itms_fz h
/-- a tuple of frozen things -/
theorem ev_tup {ds : List PyData} {kk : Nat} (h : AV X Γ γ es (ds.map Itm.fz) γ1) (hl : ds.length ≤ 1000 := by first | decide | simp) : EV X Γ γ (.Tuple es kk pos) (.fz (.tuple ds)) γ1 := .mk fun F as σ H R E Q q => by
  refine ⟨_, pe_tup pa_wp, ?_⟩
  refine h.go R E fun vs F1 as1 H1 x1 R1 i1 => ?_
  have l : vs.length = ds.length := by have := itms_length i1; simpa using this.symm
  refine ⟨by rw [l]; exact Nat.le_of_lt (small1000 hl), fun p hp => q _ (upd F1 p (.tup vs)) as1 _ ?_ (R1.new _ hp) ?_⟩
  · exact x1.trans ⟨R1.sameNew _ hp, [], by simp⟩
  · exact itm_tup.mpr ⟨p, vs, rfl, upd_same, dpAll_mono (R1.sameNew _ hp) (itms_fz i1)⟩
theorem ev_lst {ds : List PyData} (h : AV X Γ γ es (ds.map Itm.fz) γ1) (hl : ds.length ≤ 1000 := by first | decide | simp) : EV X Γ γ (.List es pos) (.fz (.list ds)) γ1 := .mk fun F as σ H R E Q q => by
  refine ⟨_, pe_lst pa_wp, ?_⟩
  refine h.go R E fun vs F1 as1 H1 x1 R1 i1 => ?_
  have l : vs.length = ds.length := by have := itms_length i1; simpa using this.symm
  refine ⟨by rw [l]; exact Nat.le_of_lt (small1000 hl), fun p hp => q _ (upd F1 p (.lst vs)) as1 _ ?_ (R1.new _ hp) ?_⟩
  · exact x1.trans ⟨R1.sameNew _ hp, [], by simp⟩
  · exact itm_lst.mpr ⟨p, vs, rfl, SqL.of upd_same, dpAll_mono (R1.sameNew _ hp) (itms_fz i1)⟩
end
end PL

namespace PL
open PySem PySem.Spec PyProof.Rows L2

/-! ### chains -/
section
variable {X : Cx} {Γ : Slots} {γ γ1 γ2 γ3 γ' : Cells} {e a b c : Expr} {r ra rb rc : Itm} {pos : Pos} {op op' : CmpOp} {k k' : Bool}
theorem ev_chain2 (ha : EV X Γ γ a ra γ1) (hb : EV X Γ γ1 b rb γ2) (hc : CmpR X op γ2 ra rb k) (hd : EV X Γ γ2 c rc γ2) (he : CmpR X op' γ2 rb rc k')
    (hm : lastMarks [op, op'] [b, c] = false := by with_unfolding_all rfl) : EV X Γ γ (.Compare a [op, op'] [b, c] pos) (.fz (.bool (k && k'))) γ2 := .mk fun F as σ H R E Q q => by
  obtain ⟨t, ho, hr⟩ := hc
  obtain ⟨t', ho', hr'⟩ := he
  refine ⟨_, pe_chain ho ho' pe_wp pe_wp pe_wp hm, ?_⟩
  refine ha.go R E fun v F1 as1 H1 x1 R1 i1 => ?_
  refine hb.go R1 (E.mono x1) fun u F2 as2 H2 x2 R2 i2 => ?_
  refine hr F2 as2 H2 v u R2 (itm_mono x2 i1) i2 _ ⟨k, rfl, ?_⟩
  cases k with
  | false => exact iteF (q _ F2 as2 H2 (x1.trans x2) R2 (itm_bl.mpr rfl))
  | true =>
    refine iteT (hd.go R2 (E.mono (x1.trans x2)) fun w F3 as3 H3 x3 R3 i3 => ?_)
    exact hr' F3 as3 H3 u w R3 (itm_mono x3 i2) i3 Q (q _ F3 as3 H3 ((x1.trans x2).trans x3) R3 (itm_bl.mpr rfl))
theorem tv_chain2 (ha : EV X Γ γ a ra γ1) (hb : EV X Γ γ1 b rb γ2) (hc : CmpR X op γ2 ra rb k) (hd : EV X Γ γ2 c rc γ2) (he : CmpR X op' γ2 rb rc k')
    (hm : lastMarks [op, op'] [b, c] = false := by with_unfolding_all rfl) : TV X Γ γ (.Compare a [op, op'] [b, c] pos) (k && k') γ2 := fun F as σ H R E Q q => by
  obtain ⟨t, ho, hr⟩ := hc
  obtain ⟨t', ho', hr'⟩ := he
  refine ⟨_, pt_chain ho ho' pe_wp pe_wp pe_wp hm, ?_⟩
  refine ha.go R E fun v F1 as1 H1 x1 R1 i1 => ?_
  refine hb.go R1 (E.mono x1) fun u F2 as2 H2 x2 R2 i2 => ?_
  refine hr F2 as2 H2 v u R2 (itm_mono x2 i1) i2 _ ⟨k, rfl, ?_⟩
  cases k with
  | false => exact iteF ⟨false, rfl, q F2 as2 H2 (x1.trans x2) R2⟩
  | true =>
    refine iteT (hd.go R2 (E.mono (x1.trans x2)) fun w F3 as3 H3 x3 R3 i3 => ?_)
    exact hr' F3 as3 H3 u w R3 (itm_mono x3 i2) i3 _ ⟨k', rfl, q F3 as3 H3 ((x1.trans x2).trans x3) R3⟩
end

/-! ### targets -/
/-- σ' is σ but for the slots ws -/
def But (ws : List Nat) (σ σ' : L2.St) : Prop := σ'.length = σ.length ∧ ∀ j, j ∉ ws → σ'[j]? = σ[j]?
def GV (X : Cx) (γ : Cells) (Γ : Slots) (tg : Expr) (r : Itm) (Γ' : Slots) (ws : List Nat) : Prop :=
  ∀ F as σ H v, Rep X.K F as γ H → EnvR X.K F as Γ σ → ItmR X.K F as r v → ∀ Q : L2.St → Hp → Prop, (∀ σ', EnvR X.K F as Γ' σ' → But ws σ σ' → Q σ' H) → wpG X tg v σ H Q
def wpGs (X : Cx) (es : List Expr) : TGs := fun vs σ H Q => ∃ t, PGs X es t ∧ t vs σ H Q
def GVs (X : Cx) (γ : Cells) (Γ : Slots) (es : List Expr) (rs : List Itm) (Γ' : Slots) (ws : List Nat) : Prop :=
  ∀ F as σ H vs, Rep X.K F as γ H → EnvR X.K F as Γ σ → ItmsR X.K F as rs vs → ∀ Q : L2.St → Hp → Prop, (∀ σ', EnvR X.K F as Γ' σ' → But ws σ σ' → Q σ' H) → wpGs X es vs σ H Q
section
variable {X : Cx} {Γ Γ1 Γ' : Slots} {γ γ1 : Cells} {e : Expr} {es : List Expr} {r : Itm} {rs : List Itm} {pos : Pos} {ws ws' : List Nat}
theorem pgs_wp : PGs X es (wpGs X es) := ⟨fun pins s σ H vs us Q I r ⟨t, h, q⟩ => h.run pins s σ H vs us Q I r q⟩
theorem gv_name {x : Str} {i : Nat} {k : NameKind} (hX : Cok X) (n : Nm X x i k) : GV X γ Γ (.Name x pos) r (Γ.set i (some r)) [i] := fun F as σ H v R E I Q q =>
  ⟨_, pg_name (i := i) hX.nd n.ix n.loc n.hf, q _ (E.set I) ⟨by simp, fun j hj => List.getElem?_set_ne (by simpa [eq_comm] using hj)⟩⟩
theorem gvs_nil : GVs X γ Γ [] [] Γ [] := fun F as σ H vs R E I Q q => by
  cases I
  exact ⟨_, pgs_nil, rfl, q _ E ⟨rfl, fun _ _ => rfl⟩⟩
theorem gvs_cons (h1 : GV X γ Γ e r Γ1 ws) (h2 : GVs X γ Γ1 es rs Γ' ws') (hs : (assignEach (e :: es) X.env).map (·.2) = assign e X.env :: (assignEach es X.env).map (·.2) := by rfl) : GVs X γ Γ (e :: es) (r :: rs) Γ' (ws ++ ws') := fun F as σ H vs R E I Q q => by
  cases I with
  | cons i1 i2 => exact ⟨_, pgs_cons pg_wp pgs_wp hs, _, _, rfl, h1 F as σ H _ R E i1 _ fun σ1 E1 b1 => h2 F as σ1 H _ R E1 i2 Q fun σ2 E2 b2 => q σ2 E2 ⟨b2.1.trans b1.1, fun j hj => by
      rw [List.mem_append, not_or] at hj
      exact (b2.2 j hj.2).trans (b1.2 j hj.1)⟩⟩
theorem gv_tup {ds : List PyData} {kk n : Nat} (hX : Cok X) (h : GVs X γ Γ es (ds.map Itm.fz) Γ' ws) (hl : ds.length = n) (hn : (assignEach es X.env).length = n := by rfl) (hst : (assignEach es X.env).findIdx? (·.1) = none := by rfl) :
    GV X γ Γ (.Tuple es kk pos) (.fz (.tuple ds)) Γ' ws := fun F as σ H v R E I Q q => by
  obtain ⟨a, vs, rfl, h1, h2⟩ := itm_tup.mp I
  exact ⟨_, pg_tup (n := n) hX.calm pgs_wp hn hst, a, vs, rfl, (SqT.of (R.fr _ _ h1)), (dpAll_length h2).trans hl, h F as σ H vs R E (itms_of_dp h2) Q q⟩
theorem gv_tp {xs : List Itm} {kk n : Nat} (hX : Cok X) (h : GVs X γ Γ es xs Γ' ws) (hl : xs.length = n) (hn : (assignEach es X.env).length = n := by rfl) (hst : (assignEach es X.env).findIdx? (·.1) = none := by rfl) :
    GV X γ Γ (.Tuple es kk pos) (.tp xs) Γ' ws := fun F as σ H v R E I Q q => by
  cases I with
  | tp h1 h2 => exact ⟨_, pg_tup (n := n) hX.calm pgs_wp hn hst, _, _, rfl, (SqT.of (R.fr _ _ h1)), (itms_length h2).symm.trans hl, h F as σ H _ R E h2 Q q⟩
end

/-! ### statements -/
section
variable {X : Cx} {Γ Γ1 Γ' : Slots} {γ γ1 γ2 : Cells} {e c o : Expr} {r : Itm} {pos : Pos} {R : SE} {rest sa sb : List Stmt} {s : Stmt} {P : EPost}
def SE.then (R : SE) (X : Cx) (rest : List Stmt) : SE := { R with nx := fun Γ γ => SVs X Γ γ rest R }
theorem svs_nil (h : R.nx Γ γ) : SVs X Γ γ [] R := fun F as σ H D Rp E C => ⟨_, pss_nil, C.nx _ _ _ _ _ _ h (Ext.refl F as) Rp E⟩
theorem svs_cons (h : SV X Γ γ s (R.then X rest)) : SVs X Γ γ (s :: rest) R := fun F as σ H D Rp E C =>
  ⟨_, pss_cons ps_wp pss_wp, h F as σ H _ Rp E ⟨fun Γ' γ' F' as' σ' H' hn x R' E' => hn F' as' σ' H' D R' E' (C.mono x), C.rt, C.bk, C.ct⟩⟩
theorem sv_asg {tg : Expr} (he : EE X Γ γ e P) (hg : ∀ r g, P r g → ∃ Γ' ws, GV X g Γ tg r Γ' ws ∧ R.nx Γ' g) (hs : swapsWithSole [tg] e pos.line X.env = pure false := by rfl) (hw : swappedStores [tg] e X.env = pure none := by rfl)
    (h1 : (assignEach [tg] X.env).map (·.2) = [assign tg X.env] := by rfl) : SV X Γ γ (.Assign [tg] e pos) R := fun F as σ H D Rp E C =>
  ⟨_, ps_asg pe_wp pg_wp hs hw h1, he F as σ H Rp E _ fun v r g F' as' H' hp x R' i => by
    obtain ⟨Γ', ws, hG, hn⟩ := hg r g hp
    exact hG F' as' σ H' v R' (E.mono x) i _ fun σ' E' _ => C.nx _ _ _ _ _ _ hn x R' E'⟩
theorem sv_set {x : Str} {i : Nat} {k : NameKind} {p' : Pos} (hX : Cok X) (n : Nm X x i k) (he : EE X Γ γ e P) (hg : ∀ r g, P r g → R.nx (Γ.set i (some r)) g) (hs : swapsWith e (some (.Name x p')) pos.line X.env = pure false := by rfl) : SV X Γ γ (.Assign [.Name x p'] e pos) R := fun F as σ H D Rp E C =>
  ⟨_, ps_set (i := i) hX.nd n.ix n.loc pe_wp hs n.hf, he F as σ H Rp E _ fun v r g F' as' H' hp x R' i => C.nx _ _ _ _ _ _ (hg r g hp) x R' ((E.mono x).set i)⟩
/-- x = e, then the rest -/
theorem svs_set {x : Str} {i : Nat} {k : NameKind} {p' : Pos} (hX : Cok X) (n : Nm X x i k) (he : EV X Γ γ e r γ1) (h : SVs X (Γ.set i (some r)) γ1 rest R) (hs : swapsWith e (some (.Name x p')) pos.line X.env = pure false := by rfl) : SVs X Γ γ (.Assign [.Name x p'] e pos :: rest) R :=
  svs_cons (sv_set hX n he (fun r' g ⟨e1, e2⟩ => by subst e1 e2; exact h) hs)
theorem svs_setP {x : Str} {i : Nat} {k : NameKind} {p' : Pos} (hX : Cok X) (n : Nm X x i k) (he : EE X Γ γ e P) (h : ∀ r g, P r g → SVs X (Γ.set i (some r)) g rest R) (hs : swapsWith e (some (.Name x p')) pos.line X.env = pure false := by rfl) : SVs X Γ γ (.Assign [.Name x p'] e pos :: rest) R :=
  svs_cons (sv_set hX n he h hs)
theorem svs_asg {tg : Expr} (he : EV X Γ γ e r γ1) {ws : List Nat} (hG : GV X γ1 Γ tg r Γ' ws) (h : SVs X Γ' γ1 rest R) (hs : swapsWithSole [tg] e pos.line X.env = pure false := by rfl) (hw : swappedStores [tg] e X.env = pure none := by rfl)
    (h1 : (assignEach [tg] X.env).map (·.2) = [assign tg X.env] := by rfl) : SVs X Γ γ (.Assign [tg] e pos :: rest) R :=
  svs_cons (sv_asg he (fun r' g ⟨e1, e2⟩ => by subst e1 e2; exact ⟨Γ', ws, hG, h⟩) hs hw h1)
theorem svs_if {k : Bool} (hc : TV X Γ γ c k γ1) (h1 : k = true → SVs X Γ γ1 sa (R.then X rest)) (h2 : k = false → SVs X Γ γ1 sb (R.then X rest)) : SVs X Γ γ (.If c sa sb pos :: rest) R :=
  svs_cons fun F as σ H D Rp E C => ⟨_, ps_if pt_wp pss_wp pss_wp, hc F as σ H Rp E _ fun F1 as1 H1 x1 R1 => by
    cases k with
    | true => exact iteT (h1 rfl F1 as1 σ H1 D R1 (E.mono x1) (C.mono x1))
    | false => exact iteF (h2 rfl F1 as1 σ H1 D R1 (E.mono x1) (C.mono x1))⟩
theorem svs_ret (he : EE X Γ γ e P) (h : ∀ r g, P r g → R.rt r g) : SVs X Γ γ (.Return (some e) pos :: rest) R :=
  svs_cons fun F as σ H D Rp E C => ⟨_, ps_ret pe_wp, he F as σ H Rp E _ fun v r g F' as' H' hp x R' i => C.rt _ _ _ _ _ _ (h r g hp) x R' i⟩
theorem svs_retv (he : EV X Γ γ e r γ1) (h : R.rt r γ1) : SVs X Γ γ (.Return (some e) pos :: rest) R := svs_ret he fun r' g ⟨e1, e2⟩ => by subst e1 e2; exact h
theorem svs_retN (h : R.rt (.fz .none) γ) : SVs X Γ γ (.Return none pos :: rest) R :=
  svs_cons fun F as σ H D Rp E C => ⟨_, ps_retN, C.rt _ _ _ _ _ _ h (Ext.refl F as) Rp (itm_non.mpr rfl)⟩
theorem svs_expr (he : EE X Γ γ e P) (h : ∀ r g, P r g → SVs X Γ g rest R) (hs : swapsWith e none pos.line X.env = pure false := by rfl) : SVs X Γ γ (.Expr e pos :: rest) R :=
  svs_cons fun F as σ H D Rp E C => ⟨_, ps_expr pe_wp hs, he F as σ H Rp E _ fun v r g F' as' H' hp x R' i => C.nx _ _ _ _ _ _ (h r g hp) x R' (E.mono x)⟩
theorem svs_doc {x j p'} (h : SVs X Γ γ rest R) : SVs X Γ γ (.Expr (.Constant (.str x) j p') pos :: rest) R :=
  svs_cons fun F as σ H D Rp E C => ⟨_, ps_doc, C.nx _ _ _ _ _ _ h (Ext.refl F as) Rp E⟩
theorem svs_break (h : R.bk Γ γ) : SVs X Γ γ (.Break pos :: rest) R := svs_cons fun F as σ H D Rp E C => ⟨_, ps_break, C.bk _ _ _ _ _ _ h (Ext.refl F as) Rp E⟩
theorem svs_continue (h : R.ct Γ γ) : SVs X Γ γ (.Continue pos :: rest) R := svs_cons fun F as σ H D Rp E C => ⟨_, ps_continue, C.ct _ _ _ _ _ _ h (Ext.refl F as) Rp E⟩
/-- x op= e, ints -/
theorem svs_augI {x : Str} {i : Nat} {k : NameKind} {p' : Pos} {op : Operator} {f : Int → Int → Int} {n m : Int} (hX : Cok X) (nm : Nm X x i k) (hi : Γ[i]? = some (some (.fz (.int n)))) (hop : PIp X op (ipI f)) (he : EV X Γ γ e (.fz (.int m)) γ1)
    (h : SVs X (Γ.set i (some (.fz (.int (f n m))))) γ1 rest R) : SVs X Γ γ (.AugAssign (.Name x p') op e pos :: rest) R :=
  svs_cons fun F as σ H D Rp E C => by
    obtain ⟨v, hv, hr⟩ := E.2 i _ hi
    refine ⟨_, ps_aug (i := i) hX.nd nm.ix nm.loc pe_wp hop nm.hf, v, hv, he.go Rp E fun u F1 as1 H1 x1 R1 i1 => ?_⟩
    refine ⟨n, m, itm_int.mp hr, itm_int.mp i1, ?_⟩
    exact C.nx _ _ _ _ _ _ h x1 R1 ((E.mono x1).set (itm_int.mpr rfl))
/-- a weaker state ahead -/
theorem SVs.weak (h : SVs X Γ' γ rest R) (hl : Γ'.length = Γ.length) (w : ∀ (i : Nat) (x : Itm), Γ'[i]? = some (some x) → Γ[i]? = some (some x)) : SVs X Γ γ rest R := fun F as σ H D Rp E C => h F as σ H D Rp (E.weak hl w) C
theorem SVs.imp {R' : SE} (h : SVs X Γ γ rest R') (n : ∀ a b, R'.nx a b → R.nx a b) (t : ∀ a b, R'.rt a b → R.rt a b) (k : ∀ a b, R'.bk a b → R.bk a b) (l : ∀ a b, R'.ct a b → R.ct a b) : SVs X Γ γ rest R := fun F as σ H D Rp E C =>
  h F as σ H D Rp E ⟨fun _ _ _ _ _ _ q => C.nx _ _ _ _ _ _ (n _ _ q), fun _ _ _ _ _ _ q => C.rt _ _ _ _ _ _ (t _ _ q), fun _ _ _ _ _ _ q => C.bk _ _ _ _ _ _ (k _ _ q), fun _ _ _ _ _ _ q => C.ct _ _ _ _ _ _ (l _ _ q)⟩
/-- the cell c, a list of frozen things, is frozen; slot i holds it -/
theorem SVs.freeze {i c : Nat} {ds : List PyData} (hi : Γ[i]? = some (some (.cl c))) (hc : γ[c]? = some (.lst (ds.map Itm.fz))) (h : SVs X (Γ.set i (some (.fz (.list ds)))) (γ.set c .dead) rest R) : SVs X Γ γ rest R := fun F as σ H D Rp E C => by
  obtain ⟨v, hv, hr⟩ := E.2 i _ hi
  obtain ⟨a, ha, rfl⟩ := itm_cl.mp hr
  obtain ⟨a', h1, vs, h2, h3⟩ := Rp.cellAt hc
  rw [ha] at h1
  cases h1
  obtain ⟨R', sm⟩ := Rp.freeze hc (by simp) ha h2
  have x : Ext F as (upd F a (.lst vs)) as := ⟨sm, [], by simp⟩
  refine h _ as σ H D R' ?_ (C.mono x)
  have E2 := (E.mono x).set (i := i) (v := .ref a) (itm_lst.mpr ⟨a, vs, rfl, SqL.of upd_same, dpAll_mono sm (itms_fz h3)⟩)
  have es : σ.set i (some (.ref a)) = σ := by
    apply List.ext_getElem?
    intro j
    by_cases hj : i = j
    · subst hj
      rw [List.getElem?_set_self (List.getElem?_eq_some_iff.mp hv).1, hv]
    · rw [List.getElem?_set_ne hj]
  rw [es] at E2
  exact E2
end

/-! ### loops -/
def wpI (X : Cx) (tg it : Expr) : TI := fun σ H R => ∃ t, PI X tg it t ∧ t σ H R
/-- an iterator J that gives xs, while the cells are as stab says -/
def JOk (K : PySem.W.Frag) (F : Hp) (as : List Addr) (xs : List Itm) (stab : Cells → Prop) (J : It) : Prop :=
  ∀ i F' as' γ' H', Ext F as F' as' → Rep K F' as' γ' H' → stab γ' → (xs.length ≤ i → J.stop i H') ∧ (∀ x, xs[i]? = some x → J.go i H' ∧ ∀ v H'', J.yld i H' v H'' → ∃ F'', Ext F' as' F'' as' ∧ Rep K F'' as' γ' H'' ∧ ItmR K F'' as' x v)
def ITV (X : Cx) (Γ : Slots) (γ : Cells) (tg it : Expr) (xs : List Itm) (stab : Cells → Prop) (γ1 : Cells) : Prop :=
  ∀ F as σ H, Rep X.K F as γ H → EnvR X.K F as Γ σ → ∀ Q : It → Hp → Prop, (∀ J F' as' H', Ext F as F' as' → Rep X.K F' as' γ1 H' → JOk X.K F' as' xs stab J → Q J H') → wpI X tg it σ H Q
section
variable {X : Cx} {Γ Γ1 Γ' : Slots} {γ γ1 γ2 : Cells} {e c o it tg : Expr} {r : Itm} {pos : Pos} {R : SE} {rest sa sb body : List Stmt} {s : Stmt} {P : EPost} {xs : List Itm} {stab : Cells → Prop}
theorem pi_wp : PI X tg it (wpI X tg it) := ⟨fun pins s σ H R I ⟨t, h, q⟩ => h.run pins s σ H R I q⟩
theorem svs_for (hX : Cok X) (hp : PassesOwn (model X.prog X.w) X.A X.env X.xe) (hi : ITV X Γ γ tg it xs stab γ1) (Inv : Nat → Slots → Cells → Prop) (h0 : Inv 0 Γ γ1)
    (hst : ∀ i Γ' γ', i ≤ xs.length → Inv i Γ' γ' → stab γ')
    (hb : ∀ i x Γ' γ', xs[i]? = some x → Inv i Γ' γ' → ∃ Γ2 ws, GV X γ' Γ' tg x Γ2 ws ∧ SVs X Γ2 γ' body { nx := Inv (i + 1), ct := Inv (i + 1), bk := fun a b => SVs X a b rest R, rt := R.rt })
    (hd : ∀ Γ' γ', Inv xs.length Γ' γ' → SVs X Γ' γ' rest R)
    (hs : ∀ x, foldedSetIterable it X.env x = pure x := by intro _; rfl) : SVs X Γ γ (.For tg it body [] pos :: rest) R := by
  refine svs_cons fun F as σ H D Rp E C => ⟨_, ps_for hp hX.calm pi_wp pg_wp pss_wp hs, hi F as σ H Rp E _ fun J F1 as1 H1 x1 R1 hJ => ?_⟩
  refine ⟨fun i m σ' H' => m = xs.length - i ∧ i ≤ xs.length ∧ ∃ Γ' γ' F' as', Ext F1 as1 F' as' ∧ Rep X.K F' as' γ' H' ∧ EnvR X.K F' as' Γ' σ' ∧ Inv i Γ' γ', ⟨xs.length, by simp, Nat.zero_le _, Γ, γ1, F1, as1, Ext.refl _ _, R1, E.mono x1, h0⟩, ?_⟩
  rintro i m σ' H' ⟨rfl, hle, Γ', γ', F', as', x', R', E', inv⟩
  obtain ⟨j1, j2⟩ := hJ i F' as' γ' H' x' R' (hst i Γ' γ' hle inv)
  by_cases hlt : i < xs.length
  · obtain ⟨g1, g2⟩ := j2 xs[i] (List.getElem?_eq_getElem hlt)
    refine .inr ⟨g1, fun σ' H' => ∃ Γ' γ' F' as', Ext F1 as1 F' as' ∧ Rep X.K F' as' γ' H' ∧ EnvR X.K F' as' Γ' σ' ∧ Inv (i + 1) Γ' γ', fun σ' H' q => ⟨xs.length - (i + 1), by omega, rfl, hlt, q⟩, fun v H'' y => ?_⟩
    obtain ⟨F'', x'', R'', i''⟩ := g2 v H'' y
    obtain ⟨Γ2, ws, hG, hB⟩ := hb i xs[i] Γ' γ' (List.getElem?_eq_getElem hlt) inv
    refine hG F'' as' σ' H'' v R'' (E'.mono x'') i'' _ fun σ2 E2 _ => ?_
    have xx := (x1.trans x').trans x''
    refine hB F'' as' σ2 H'' _ R'' E2 ⟨fun Γ3 γ3 F3 as3 σ3 H3 n x3 R3 E3 => ⟨Γ3, γ3, F3, as3, (x'.trans x'').trans x3, R3, E3, n⟩, fun a b c d e f g x3 => (C.mono xx).rt a b c d e f g x3,
      fun Γ3 γ3 F3 as3 σ3 H3 n x3 R3 E3 => (C.mono xx).nx Γ3 γ3 F3 as3 σ3 H3 n x3 R3 E3, fun Γ3 γ3 F3 as3 σ3 H3 n x3 R3 E3 => ⟨Γ3, γ3, F3, as3, (x'.trans x'').trans x3, R3, E3, n⟩⟩
  · have e : i = xs.length := by omega
    subst e
    exact .inl ⟨j1 (Nat.le_refl _), C.nx Γ' γ' F' as' σ' H' (hd Γ' γ' inv) (x1.trans x') R' E'⟩
/-- over a list of data: frozen, or a cell -/
theorem itv_list {ds : List PyData} (h : EV X Γ γ it r γ1) (hr : Rdb γ1 r (.list ds)) : ITV X Γ γ tg it (ds.map Itm.fz) (fun g => Rdb g r (.list ds)) γ1 := fun F as σ H R E Q q => by
  refine ⟨_, pi_list pe_wp, h.go R E fun v F1 as1 H1 x1 R1 i1 => ?_⟩
  obtain ⟨a, vs, rfl, h1, h2⟩ := hr.list R1 i1
  refine ⟨a, rfl, ⟨vs, h1⟩, q _ F1 as1 H1 x1 R1 fun i F' as' γ' H' x' R' st => ?_⟩
  obtain ⟨a', vs', e, h1', h2'⟩ := st.list R' (itm_mono x' i1)
  cases e
  refine ⟨fun hl => ⟨vs', h1', by rw [dpAll_length h2']; simpa using hl⟩, fun x hx => ?_⟩
  rw [List.getElem?_map] at hx
  cases hd : ds[i]? with
  | none => rw [hd] at hx; cases hx
  | some d =>
    rw [hd] at hx
    cases hx
    obtain ⟨u, hu, hdp⟩ := dpAll_get h2' hd
    refine ⟨⟨vs', u, h1', hu⟩, fun v H'' y => ?_⟩
    obtain ⟨rfl, y⟩ := y
    cases hu.symm.trans (y vs' h1')
    exact ⟨F', Ext.refl _ _, R', .fz hdp⟩
theorem itv_tup {ds : List PyData} (h : EV X Γ γ it (.fz (.tuple ds)) γ1) : ITV X Γ γ tg it (ds.map Itm.fz) (fun _ => True) γ1 := fun F as σ H R E Q q => by
  refine ⟨_, pi_tup pe_wp, h.go R E fun v F1 as1 H1 x1 R1 i1 => ?_⟩
  obtain ⟨a, vs, rfl, h1, h2⟩ := itm_tup.mp i1
  refine ⟨a, rfl, ⟨vs, (SqT.of (R1.fr _ _ h1))⟩, q _ F1 as1 H1 x1 R1 fun i F' as' γ' H' x' R' st => ?_⟩
  have h1' : SqT X.K H' a vs := (SqT.of (R'.fr _ _ (x'.1 _ _ h1)))
  have h2' := dpAll_mono x'.1 h2
  refine ⟨fun hl => ⟨vs, h1', by rw [dpAll_length h2']; simpa using hl⟩, fun x hx => ?_⟩
  rw [List.getElem?_map] at hx
  cases hd : ds[i]? with
  | none => rw [hd] at hx; cases hx
  | some d =>
    rw [hd] at hx
    cases hx
    obtain ⟨u, hu, hdp⟩ := dpAll_get h2' hd
    refine ⟨⟨vs, u, h1', hu⟩, fun v H'' y => ?_⟩
    obtain ⟨rfl, y⟩ := y
    cases hu.symm.trans (y vs h1')
    exact ⟨F', Ext.refl _ _, R', .fz hdp⟩
def rngL (lo : Int) (n : Nat) : List Itm := (List.range n).map fun (i : Nat) => Itm.fz (.int (lo + (i : Int)))
theorem rngL_length (lo : Int) (n : Nat) : (rngL lo n).length = n := by simp [rngL]
theorem rngL_get {lo : Int} {n i : Nat} {x : Itm} (h : (rngL lo n)[i]? = some x) : i < n ∧ x = .fz (.int (lo + i)) := by
  unfold rngL at h
  rw [List.getElem?_map] at h
  cases hd : (List.range n)[i]? with
  | none => rw [hd] at h; cases h
  | some d =>
    rw [hd] at h
    obtain ⟨h1, h2⟩ := List.getElem?_eq_some_iff.mp hd
    simp at h1 h2
    subst h2
    exact ⟨h1, (Option.some.inj h).symm⟩
theorem jok_range {K : PySem.W.Frag} {F : Hp} {as : List Addr} {lo : Int} {n : Nat} : JOk K F as (rngL lo n) (fun _ => True) (Itr lo n) := fun i F' as' γ' H' x' R' st =>
  ⟨fun hl => by rw [rngL_length] at hl; exact hl, fun x hx => by
    obtain ⟨h1, rfl⟩ := rngL_get hx
    refine ⟨h1, fun v H'' y => ?_⟩
    obtain ⟨rfl, rfl⟩ := y
    exact ⟨F', Ext.refl _ _, R', itm_int.mpr rfl⟩⟩
theorem itv_range1 {a : Expr} {p : Pos} {n : Int} (b : Bt X "range") (h : EV X Γ γ a (.fz (.int n)) γ1) (hn : n < 2 ^ 62) (hn' : -(2 ^ 62) ≤ n) (hs : starEach [a] X.env = [(false, eval a X.env)] := by rfl) : ITV X Γ γ tg (.Call (.Name "range" p) [a] [] pos) (rngL 0 n.toNat) (fun _ => True) γ1 := fun F as σ H R E Q q =>
  ⟨_, pi_range1 b.gl b.mg (pa_cons pe_wp pa_nil hs) hs, h.go R E fun v F1 as1 H1 x1 R1 i1 => ⟨n, by rw [itm_int.mp i1], hn', hn, q _ F1 as1 H1 x1 R1 jok_range⟩⟩
theorem itv_range2 {a b : Expr} {p : Pos} {lo n : Int} (bt : Bt X "range") (h : EV X Γ γ a (.fz (.int lo)) γ1) (h' : EV X Γ γ1 b (.fz (.int n)) γ2) (hn : -(2 ^ 62) ≤ lo ∧ lo < 2 ^ 62 ∧ -(2 ^ 62) ≤ n ∧ n < 2 ^ 62) (hs : starEach [a, b] X.env = [(false, eval a X.env), (false, eval b X.env)] := by rfl) (hs2 : starEach [b] X.env = [(false, eval b X.env)] := by rfl) :
    ITV X Γ γ tg (.Call (.Name "range" p) [a, b] [] pos) (rngL lo (n - lo).toNat) (fun _ => True) γ2 := fun F as σ H R E Q q =>
  ⟨_, pi_range2 bt.gl bt.mg (pa_cons pe_wp (pa_cons pe_wp pa_nil hs2) (by rw [hs, hs2])) hs hs2, h.go R E fun v F1 as1 H1 x1 R1 i1 => h'.go R1 (E.mono x1) fun u F2 as2 H2 x2 R2 i2 => ⟨lo, n, by rw [itm_int.mp i1, itm_int.mp i2], hn, q _ F2 as2 H2 (x1.trans x2) R2 jok_range⟩⟩
/-- while -/
theorem svs_while (hp : PassesOwn (model X.prog X.w) X.A X.env X.xe) (Inv : Nat → Slots → Cells → Prop) (m0 : Nat) (h0 : Inv m0 Γ γ)
    (hb : ∀ m Γ' γ', Inv m Γ' γ' → ∃ k γ2, TV X Γ' γ' c k γ2 ∧ (k = true → SVs X Γ' γ2 body { nx := fun a b => ∃ m', m' < m ∧ Inv m' a b, ct := fun a b => ∃ m', m' < m ∧ Inv m' a b, bk := fun a b => SVs X a b rest R, rt := R.rt }) ∧ (k = false → SVs X Γ' γ2 rest R)) :
    SVs X Γ γ (.While c body [] pos :: rest) R := by
  refine svs_cons fun F as σ H D Rp E C => ⟨_, ps_while hp pt_wp pss_wp, ?_⟩
  refine ⟨fun m σ' H' => ∃ Γ' γ' F' as', Ext F as F' as' ∧ Rep X.K F' as' γ' H' ∧ EnvR X.K F' as' Γ' σ' ∧ Inv m Γ' γ', ⟨m0, Γ, γ, F, as, Ext.refl _ _, Rp, E, h0⟩, ?_⟩
  rintro m σ' H' ⟨Γ', γ', F', as', x', R', E', inv⟩
  obtain ⟨k, γ2, ht, hy, hn⟩ := hb m Γ' γ' inv
  refine ht F' as' σ' H' R' E' _ fun F1 as1 H1 x1 R1 => ?_
  have xx := x'.trans x1
  cases k with
  | true =>
    refine iteT ⟨fun σ3 H3 => ∃ m', m' < m ∧ ∃ Γ' γ' F' as', Ext F as F' as' ∧ Rep X.K F' as' γ' H3 ∧ EnvR X.K F' as' Γ' σ3 ∧ Inv m' Γ' γ', fun σ3 H3 q => q, ?_⟩
    refine hy rfl F1 as1 σ' H1 _ R1 (E'.mono x1) ⟨fun Γ3 γ3 F3 as3 σ3 H3 n x3 R3 E3 => ?_, fun a b c d e f g x3 => (C.mono xx).rt a b c d e f g x3, fun Γ3 γ3 F3 as3 σ3 H3 n x3 R3 E3 => (C.mono xx).nx Γ3 γ3 F3 as3 σ3 H3 n x3 R3 E3, fun Γ3 γ3 F3 as3 σ3 H3 n x3 R3 E3 => ?_⟩
    · obtain ⟨m', hm, n⟩ := n
      exact ⟨m', hm, Γ3, γ3, F3, as3, xx.trans x3, R3, E3, n⟩
    · obtain ⟨m', hm, n⟩ := n
      exact ⟨m', hm, Γ3, γ3, F3, as3, xx.trans x3, R3, E3, n⟩
  | false => exact iteF (C.nx _ _ _ _ _ _ (hn rfl) xx R1 (E'.mono x1))
end
end PL

namespace PL
open PySem PySem.Spec PyProof.Rows L2

/-! ### items below n -/
inductive ILt (n : Nat) : Itm → Prop
  | fz (d : PyData) : ILt n (.fz d)
  | cl {c : Nat} (h : c < n) : ILt n (.cl c)
  | tp {xs : List Itm} (h : ∀ x ∈ xs, ILt n x) : ILt n (.tp xs)
def CLt (n : Nat) : Cell → Prop
  | .lst xs => ∀ x ∈ xs, ILt n x
  | .dic kvs => ∀ p ∈ kvs, ILt n p.2
  | .dit kvs => ∀ p ∈ kvs, ILt n p.2
  | .ins _ fs => ∀ p ∈ fs, ILt n p.2
  | .raw _ => True
  | .dead => True
def Clo (γ : Cells) : Prop := ∀ o ∈ γ, CLt γ.length o
section
variable {K : PySem.W.Frag} {F : Hp} {as : List Addr} {n : Nat}
mutual
theorem itm_lt : ∀ {x : Itm} {v : V}, ItmR K F as x v → ILt as.length x
  | _, _, .fz _ => .fz _
  | _, _, .cl h => .cl (List.getElem?_eq_some_iff.mp h).1
  | _, _, .tp _ r => .tp (itms_lt r)
theorem itms_lt : ∀ {xs : List Itm} {vs : List V}, ItmsR K F as xs vs → ∀ x ∈ xs, ILt as.length x
  | _, _, .nil, _, h => by simp at h
  | _, _, .cons h r, x, hm => by
    rcases List.mem_cons.mp hm with e | hm
    · rw [e]; exact itm_lt h
    · exact itms_lt r x hm
end
theorem paired_lt {α : Type} : ∀ {xs : List (α × Itm)} {ys : List (α × V)}, Paired (fun (p : α × Itm) (q : α × V) => p.1 = q.1 ∧ ItmR K F as p.2 q.2) xs ys → ∀ p ∈ xs, ILt as.length p.2
  | _, _, .nil, _, h => by simp at h
  | _, _, .cons h r, x, hm => by
    rcases List.mem_cons.mp hm with e | hm
    · rw [e]; exact itm_lt h.2
    · exact paired_lt r x hm
theorem cell_lt {H : Hp} {a : Addr} {o : Cell} (h : CellR K F as H a o) : CLt as.length o := by
  cases o with
  | lst xs => obtain ⟨vs, h1, h2⟩ := h; exact itms_lt h2
  | dic xs => obtain ⟨vs, h1, h2⟩ := h; exact paired_lt h2
  | dit xs => obtain ⟨vs, h1, h2⟩ := h; exact paired_lt h2
  | ins C xs => obtain ⟨dx, vs, h1, h2⟩ := h; exact paired_lt h2
  | raw f => trivial
  | dead => trivial
theorem Rep.clo {γ : Cells} {H : Hp} (R : Rep K F as γ H) : Clo γ := fun o ho => by
  obtain ⟨c, hc⟩ := List.getElem?_of_mem ho
  obtain ⟨a, h1, h2⟩ := R.cellAt hc
  rw [← R.len]
  exact cell_lt h2
mutual
theorem itm_cut : ∀ {x : Itm} {v : V}, ItmR K F as x v → ILt n x → ItmR K F (as.take n) x v
  | _, _, .fz h, _ => .fz h
  | _, _, .cl h, l => by
    cases l with
    | cl l => exact .cl (by rw [List.getElem?_take_of_lt l]; exact h)
  | _, _, .tp h r, l => by
    cases l with
    | tp l => exact .tp h (itms_cut r l)
theorem itms_cut : ∀ {xs : List Itm} {vs : List V}, ItmsR K F as xs vs → (∀ x ∈ xs, ILt n x) → ItmsR K F (as.take n) xs vs
  | _, _, .nil, _ => .nil
  | _, _, .cons h r, l => .cons (itm_cut h (l _ List.mem_cons_self)) (itms_cut r fun x hx => l x (List.mem_cons_of_mem _ hx))
end
theorem paired_cut {α : Type} : ∀ {xs : List (α × Itm)} {ys : List (α × V)}, Paired (fun (p : α × Itm) (q : α × V) => p.1 = q.1 ∧ ItmR K F as p.2 q.2) xs ys → (∀ p ∈ xs, ILt n p.2) → Paired (fun (p : α × Itm) (q : α × V) => p.1 = q.1 ∧ ItmR K F (as.take n) p.2 q.2) xs ys
  | _, _, .nil, _ => .nil
  | _, _, .cons h r, l => .cons ⟨h.1, itm_cut h.2 (l _ List.mem_cons_self)⟩ (paired_cut r fun x hx => l x (List.mem_cons_of_mem _ hx))
theorem cell_cut {H : Hp} {a : Addr} {o : Cell} (h : CellR K F as H a o) (l : CLt n o) : CellR K F (as.take n) H a o := by
  cases o with
  | lst xs => obtain ⟨vs, h1, h2⟩ := h; exact ⟨vs, h1, itms_cut h2 l⟩
  | dic xs => obtain ⟨vs, h1, h2⟩ := h; exact ⟨vs, h1, paired_cut h2 l⟩
  | dit xs => obtain ⟨vs, h1, h2⟩ := h; exact ⟨vs, h1, paired_cut h2 l⟩
  | ins C xs => obtain ⟨dx, vs, h1, h2⟩ := h; exact ⟨dx, vs, h1, paired_cut h2 l⟩
  | raw f => exact h
  | dead => trivial
/-- the last cells are forgotten -/
theorem Rep.cut {γ junk : Cells} {H : Hp} (R : Rep K F as (γ ++ junk) H) (c : Clo γ) : Rep K F (as.take γ.length) γ H := by
  have hl : γ.length ≤ as.length := by rw [R.len]; simp
  refine ⟨R.fr, (List.take_sublist _ _).nodup R.nd, by simp [Nat.min_eq_left hl], fun a ha => R.th a (List.mem_of_mem_take ha), fun i o h => ?_⟩
  have hi := (List.getElem?_eq_some_iff.mp h).1
  obtain ⟨a, h1, h2, h3⟩ := R.at_ i o (by rw [List.getElem?_append_left hi]; exact h)
  exact ⟨a, by rw [List.getElem?_take_of_lt hi]; exact h1, h2, cell_cut h3 (c o (List.mem_of_getElem? h))⟩
end

/-! ### what a def promises -/
abbrev PSpec := List Itm → Cells → EPost → Prop
/-- at a def's end: the cells without the last ones, which nothing names -/
def Fin (n : Nat) (P : EPost) (r : Itm) (g : Cells) : Prop := ∃ g' junk, g = g' ++ junk ∧ n ≤ g'.length ∧ Clo g' ∧ ILt g'.length r ∧ P r g'
def spPL (K : PySem.W.Frag) (S : PSpec) : Sp := fun vs H Q _ => ∃ F as γ args P, Rep K F as γ H ∧ ItmsR K F as args vs ∧ S args γ P ∧
  ∀ v r γ' F' as' H', P r γ' → Ext F as F' as' → Rep K F' as' γ' H' → ItmR K F' as' r v → Q v H'
structure FnD (P : Program) (w : World) (K : PySem.W.Frag) (mg : Str → Option Value) (base : Heap) (x : Str) (k : Nat) (S : PSpec) : Prop where
  ex : ∃ f fd ps, FnOk P w K mg base CX0 k f fd ps (spPL K S) ∧ mg x = some (.ref f) ∧ PySem.W.keepIn K (.ref f) = true ∧ Binds K fd ps []
/-- the def x may be called here -/
structure Cal (X : Cx) (x : Str) (S : PSpec) : Prop where
  ex : ∃ k, FnD X.prog X.w X.K X.mg X.base x k S ∧ Room k X.A
  gl : Gl X x
  d1 : (x == ("__debug__" : Str)) = false
section
variable {X : Cx} {Γ : Slots} {γ γ1 : Cells} {e : Expr} {es : List Expr} {rs : List Itm} {r : Itm} {pos p : Pos} {x : Str} {S : PSpec} {P : EPost}
theorem ee_call (h : Cal X x S) (ha : AV X Γ γ (e :: es) rs γ1) (hs : S rs γ1 P) (he : starEach (e :: es) X.env = (false, eval e X.env) :: starEach es X.env := by rfl) (hpl : (backTo pos (starEach es X.env)).any (·.1) = false := by rfl) :
    EE X Γ γ (.Call (.Name x p) (e :: es) [] pos) P := fun F as σ H R E Q q => by
  obtain ⟨k, ⟨f, fd, ps, G, hm, hk, hb⟩, hr⟩ := h.ex
  refine ⟨_, pe_call G hr h.gl hm hk hb .nil pass0 pa_wp h.d1 he hpl, ?_⟩
  refine ha.go R E fun vs F1 as1 H1 x1 R1 i1 => ?_
  show spPL X.K S (vs ++ []) H1 Q E0
  rw [List.append_nil]
  exact ⟨F1, as1, γ1, rs, P, R1, i1, hs, fun v r g F2 as2 H2 hp x2 R2 i2 => q v r g F2 as2 H2 hp (x1.trans x2) R2 i2⟩
theorem ev_call {γ2 : Cells} (h : Cal X x S) (ha : AV X Γ γ (e :: es) rs γ1) (hs : S rs γ1 fun r' g => r' = r ∧ g = γ2) (he : starEach (e :: es) X.env = (false, eval e X.env) :: starEach es X.env := by rfl) (hpl : (backTo pos (starEach es X.env)).any (·.1) = false := by rfl) :
    EV X Γ γ (.Call (.Name x p) (e :: es) [] pos) r γ2 := ee_call h ha hs he hpl
end
/-- the context of a def's body -/
structure Ctx (X : Cx) (P : Program) (w : World) (K : PySem.W.Frag) (mg : Str → Option Value) (base : Heap) (N : List Str) (sc : Scope) (k : Nat) : Prop where
  prog : X.prog = P
  w : X.w = w
  K : X.K = K
  mg : X.mg = mg
  base : X.base = base
  N : X.N = N
  sc : X.env.scope = sc
  fn : X.fn = fun _ => true
  ok : Cok X
  room : Room k X.A
  po : PassesOwn (model X.prog X.w) X.A X.env X.xe
section
variable {P : Program} {w : World} {K : PySem.W.Frag} {mg : Str → Option Value} {base : Heap} {N : List Str} {sc : Scope} {X : Cx} {x : Str} {k : Nat} {S : PSpec}
theorem Ctx.nm (c : Ctx X P w K mg base N sc k) (i : Nat) (kd : NameKind) (h1 : N[i]? = some x) (h2 : sc.names.lookup x = some kd) (hv : kd = .local ∨ kd = .cell) (d1 : (x == ("__debug__" : Str)) = false) (d2 : (x == ("__classdict__" : Str)) = false) : Nm X x i kd :=
  ⟨⟨by rw [c.N]; exact h1, by rw [c.sc]; exact h2, hv, d1, d2⟩, .inl (by rw [c.fn])⟩
theorem Ctx.bt (c : Ctx X P w K mg base N sc k) (h1 : sc.names.lookup x = some .globalImplicit) (h2 : mg x = none) : Bt X x := ⟨by show X.env.scope.names.lookup x = _; rw [c.sc]; exact h1, by rw [c.mg]; exact h2⟩
theorem Ctx.cal {j : Nat} (c : Ctx X P w K mg base N sc k) (F : FnD P w K mg base x j S) (hj : j ≤ k) (h1 : sc.names.lookup x = some .globalImplicit) (d1 : (x == ("__debug__" : Str)) = false) : Cal X x S :=
  ⟨⟨j, by rw [c.prog, c.w, c.K, c.mg, c.base]; exact F, c.room.mono hj⟩, by show X.env.scope.names.lookup x = _; rw [c.sc]; exact h1, d1⟩
def slots0 (N : List Str) (args : List Itm) : Slots := args.map some ++ List.replicate (N.length - args.length) none
theorem env_start {F : Hp} {as : List Addr} {args : List Itm} {vs : List V} (h : ItmsR K F as args vs) : EnvR K F as (slots0 N args) (start N vs) := by
  have l := itms_length h
  refine ⟨by simp [slots0, L2.start, l], fun i x hx => ?_⟩
  unfold slots0 at hx
  by_cases hi : i < args.length
  · rw [List.getElem?_append_left (by simpa using hi), List.getElem?_map] at hx
    cases hd : args[i]? with
    | none => rw [hd] at hx; cases hx
    | some y =>
      rw [hd] at hx
      obtain rfl : y = x := by simpa using hx
      obtain ⟨v, h1, h2⟩ := itms_get h hd
      refine ⟨v, ?_, h2⟩
      unfold L2.start
      rw [List.getElem?_append_left (by simp; omega), List.getElem?_map, h1]
      rfl
  · rw [List.getElem?_append_right (by simp; omega)] at hx
    have := List.mem_of_getElem? hx
    simp at this
/-- THE RULE for a def -/
theorem def_ok {qual : Str} {st : Stmt} {f : Addr} {fd : FuncData} {ps : List Str} (F : Fun K x qual st f fd) (SC : FnScope N ps (defScope st)) (hm : mg x = some (.ref f)) (hb : Binds K fd ps [])
    (len : ∀ args γ P, S args γ P → args.length = ps.length)
    (body : ∀ X : Cx, Ctx X P w K mg base N (defScope st) k → ∀ args γ Po, Clo γ → S args γ Po → SVs X (slots0 N args) γ (defBody st) { nx := fun _ g => Fin γ.length Po (.fz .none) g, rt := Fin γ.length Po }) : FnD P w K mg base x (k + 1) S := by
  refine ⟨f, fd, ps, F.ok SC (fun vs H Q E h => ?_) (fun cdv A outer s H vs Q E hr h => ?_), hm, F.kp, hb⟩
  · obtain ⟨F, as, γ, args, Po, R, i, hs, _⟩ := h
    rw [← itms_length i]
    exact len _ _ _ hs
  · obtain ⟨F', as, γ, args, Po, R, i, hs, q⟩ := h
    refine ⟨_, pss_wp, ?_⟩
    have c : Ctx (cxOf CX0 P w K mg base N qual (defScope st) f cdv A outer s H E).nox P w K mg base N (defScope st) k :=
      ⟨rfl, rfl, rfl, rfl, rfl, rfl, rfl, rfl, ⟨rfl, SC.nd, SC.kind, by have := hr.un; show (A.deeper (envOfC qual (defScope st) s.heap.objs.size f cdv)).units + 100 < cLine; omega⟩, hr, PassesOwn.never⟩
    refine body _ c args γ Po R.clo hs F' as (start N vs) H _ R (env_start i) ⟨fun Γ' g F1 as1 σ1 H1 hn x1 R1 E1 => ?_, fun r g F1 as1 v H1 hn x1 R1 i1 => ?_, fun _ _ _ _ _ _ z => z.elim, fun _ _ _ _ _ _ z => z.elim⟩
    · obtain ⟨g', junk, rfl, hl, hc, hi, hp⟩ := hn
      refine q _ _ g' F1 (as1.take g'.length) H1 hp ⟨x1.1, ?_⟩ (R1.cut hc) (itm_non.mpr rfl)
      obtain ⟨_, t, rfl⟩ := x1
      rw [List.take_append, List.take_of_length_le (by rw [R.len]; exact hl)]
      exact ⟨_, rfl⟩
    · obtain ⟨g', junk, rfl, hl, hc, hi, hp⟩ := hn
      refine q _ _ g' F1 (as1.take g'.length) H1 hp ⟨x1.1, ?_⟩ (R1.cut hc) (itm_cut i1 hi)
      obtain ⟨_, t, rfl⟩ := x1
      rw [List.take_append, List.take_of_length_le (by rw [R.len]; exact hl)]
      exact ⟨_, rfl⟩
theorem clo_set {γ : Cells} {c : Nat} {o : Cell} (h : Clo γ) (ho : CLt γ.length o) : Clo (γ.set c o) := fun q hq => by
  rw [List.length_set]
  rcases List.mem_or_eq_of_mem_set hq with hq | e
  · exact h q hq
  · rw [e]; exact ho
theorem clt_fz {n : Nat} (ds : List PyData) : CLt n (.lst (ds.map Itm.fz)) := fun x hx => by
  obtain ⟨d, _, rfl⟩ := List.mem_map.mp hx
  exact .fz d
theorem fin_same {P : EPost} {d : PyData} {γ : Cells} (h : Clo γ) (hp : P (.fz d) γ) : Fin γ.length P (.fz d) γ := ⟨γ, [], by simp, Nat.le_refl _, h, .fz d, hp⟩
theorem fin_junk {P : EPost} {d : PyData} {γ junk : Cells} (h : Clo γ) (hp : P (.fz d) γ) : Fin γ.length P (.fz d) (γ ++ junk) := ⟨γ, junk, rfl, Nat.le_refl _, h, .fz d, hp⟩
theorem fin_of {P : EPost} {d : PyData} {γ g g' junk : Cells} (e : g = g' ++ junk) (hl : γ.length = g'.length) (h : Clo g') (hp : P (.fz d) g') : Fin γ.length P (.fz d) g := ⟨g', junk, e, Nat.le_of_eq hl, h, .fz d, hp⟩
end
end PL

namespace PL
open PySem PySem.Spec PyProof.Rows L2

/-! ### own rules at the value level -/
section
variable {X : Cx}
/-- list + list, both only read -/
def rCatS (K : PySem.W.Frag) : R2 := fun x y H Q => ∃ l b xs zs, x = .ref l ∧ y = .ref b ∧ SqL K H l xs ∧ SqL K H b zs ∧ xs.length + zs.length ≤ sizeLine ∧ ∀ p, H p = none → Q (.ref p) (upd H p (.lst (xs ++ zs)))
theorem op_catS : OpR X (binaryOp .Add) (rCatS X.K) := by
  intro pins s σ H x y v u Q I rx ry h
  obtain ⟨l, b, xs, zs, rfl, rfl, hH, hB, hz, q⟩ := h
  cases rx
  cases ry
  obtain ⟨its, r, pl, _⟩ := I.list hH
  obtain ⟨its2, r2, pl2, _⟩ := I.list hB
  obtain ⟨⟨cls, dd, data, sl⟩, n, ho, hc, hd0, hd⟩ := pl
  obtain ⟨⟨cls2, dd2, data2, sl2⟩, n2, ho2, hc2, hd02, hd2⟩ := pl2
  simp only at hc hd hc2 hd2
  subst hc hd hc2 hd2
  have l1 := r.length
  have l2 := r2.length
  have e : its.toArray ++ its2.toArray = (its ++ its2).toArray := by simp
  refine concat_meets ⟨_, ho, rfl⟩ ⟨_, ho2, rfl⟩ noFill_list_add seq_list_add PySem.F.slot_list_add PySem.F.entry_list_add (PySem.F.args_list_add_2 _ _) (PyProof.Rows.list_addW l b its.toArray its2.toArray n n2 dd dd2 sl sl2 (by simp; omega)) ⟨ho, ho2, ?_⟩
  rw [e]
  exact ⟨.ref _, _, I.lnew (t' := s.toks) (r.append r2) (by rw [List.length_append]; omega), rfl, q _ I.fresh⟩
/-- any, all of a list of ints -/
theorem truth_ints {prog : Program} {w : World} {A : Around} {ns : List Int} {its : List Value} (e : IntsAre its ns) :
    TruthOf prog w A (fun i v => its.toArray[i]? = some v) (fun i => (ns.map (· != 0)).getD i false) := fun i v s Q E hv hq => by
  have hv' : its[i]? = some v := by simpa using hv
  have key : ∀ (its : List Value) (ns : List Int) (i : Nat), IntsAre its ns → its[i]? = some v → ∃ n t, v = Value.int n t ∧ ns[i]? = some n := by
    intro its ns i e
    induction e generalizing i with
    | nil => intro h; simp at h
    | cons n t r ih =>
      intro h
      cases i with
      | zero => simp at h; exact ⟨n, t, h.symm, by simp⟩
      | succ i => simp at h; obtain ⟨m, t', h1, h2⟩ := ih i h; exact ⟨m, t', h1, by simpa using h2⟩
  obtain ⟨n, t, rfl, hn⟩ := key its ns i e hv'
  have hg : (ns.map (· != 0)).getD i false = (n != 0) := by rw [List.getD_eq_getElem?_getD, List.getElem?_map, hn] <;> rfl
  have hq' : Q ((ns.map (· != 0)).getD i false) s := hq
  rw [hg] at hq'
  exact PySem.P.truthy_int hq'
def rAnyI (K : PySem.W.Frag) : List V → Hp → VK → Prop := fun vs H Q => ∃ (a : Addr) (ns : List Int), vs = [V.ref a] ∧ SqL K H a (ns.map V.int) ∧ Q (.bl (ns.any (· != 0))) H
theorem cr_anyI (hc : X.calm = true) : CallR X (.builtin "any") (rAnyI X.K) := by
  intro pins s σ H vs us Q I r h
  obtain ⟨a, bs, rfl, hs, q⟩ := h
  obtain ⟨its, rv, hl, _⟩ := I.list hs
  rw [Vals.ref1 r]
  have hb := rv.ints
  refine call_any_walk (iter_any hl.isList fun s₂ e2 st hne => ?_)
  subst e2
  refine ⟨_, _, _, _, _, _, _, rfl, Walks.list (A := X.A.in1) (I.ok.hd hc) _ a hne its.toArray, st, truth_ints hb, fun h' tk hk => ?_⟩
  refine ⟨.bl _, H, I.kept fun b o eo => hk b o (fun hmem => ?_) (Heap.get?_push_of_some _ eo), ?_, q⟩
  · rcases List.mem_cons.mp hmem with e1 | hmem
    · exact absurd (e1 ▸ Heap.lt_size eo) (Nat.lt_irrefl _)
    · cases hmem
  · show Value.bool _ = Value.bool _
    have e : its.toArray.size = (bs.map (· != 0)).length := by rw [List.size_toArray, List.length_map, hb.length]
    rw [e, L2.any_range, List.any_map]
    rfl
/-- o[i] by values, a list -/
theorem get_list : PGet X (fun x y H Q => ∃ (p : Addr) (xs : List V) (j : Nat) (v : V), x = .ref p ∧ y = .int j ∧ SqL X.K H p xs ∧ xs[j]? = some v ∧ Q v H) := by
  intro pins s σ H x y v u Q I rx ry h
  obtain ⟨p, xs, j, z, rfl, rfl, hq, he, q⟩ := h
  cases rx
  obtain ⟨t, rfl⟩ := ry
  obtain ⟨its, r, pl, hz⟩ := I.list hq
  obtain ⟨w, ew, rw'⟩ := r.get he
  have hl := r.length
  have hn := line63
  have hj := (List.getElem?_eq_some_iff.mp he).1
  exact wpAny_getItem_list pl.isList (by omega) (by omega) (by simpa using ew) ⟨z, H, I, rw', q⟩
end

/-! ### built-in calls -/
section
variable {X : Cx} {Γ : Slots} {γ γ1 γ2 γ3 : Cells} {e a b o c : Expr} {es : List Expr} {rs : List Itm} {r ra rb : Itm} {pos p : Pos} {x : Str} {R : SE} {rest : List Stmt} {k : Bool} {i j n : Int} {ds es' : List PyData} {d : PyData}
theorem ev_callB {id : String} {t : List V → Hp → VK → Prop} (hc : CallR X (.builtin id) t) (bt : Bt X x) (hv : bootBuiltins x = some (.builtin id)) (ha : AV X Γ γ (e :: es) rs γ1)
    (hr : ∀ F as H vs, Rep X.K F as γ1 H → ItmsR X.K F as rs vs → ∀ Q : VK, (∀ v F' as' H', Ext F as F' as' → Rep X.K F' as' γ2 H' → ItmR X.K F' as' r v → Q v H') → t vs H Q)
    (hn : x ≠ "__name__" := by decide) (hdb : (x == ("__debug__" : Str)) = false := by decide)
    (he : starEach (e :: es) X.env = (false, eval e X.env) :: starEach es X.env := by rfl) (hpl : (backTo pos (starEach es X.env)).any (·.1) = false := by rfl) : EV X Γ γ (.Call (.Name x p) (e :: es) [] pos) r γ2 := .mk fun F as σ H R E Q q => by
  refine ⟨_, pe_callB hc bt.gl bt.mg hv pa_wp hn hdb he hpl, ?_⟩
  refine ha.go R E fun vs F1 as1 H1 x1 R1 i1 => ?_
  exact hr F1 as1 H1 vs R1 i1 Q fun v F2 as2 H2 x2 R2 i2 => q v F2 as2 H2 (x1.trans x2) R2 i2
theorem ev_callTy {T : String} {t : List V → Hp → VK → Prop} (hc : CallR X (.type T) t) (bt : Bt X x) (hv : bootBuiltins x = some (.type T)) (ha : AV X Γ γ (e :: es) rs γ1)
    (hr : ∀ F as H vs, Rep X.K F as γ1 H → ItmsR X.K F as rs vs → ∀ Q : VK, (∀ v F' as' H', Ext F as F' as' → Rep X.K F' as' γ2 H' → ItmR X.K F' as' r v → Q v H') → t vs H Q)
    (hn : x ≠ "__name__" := by decide) (hdb : (x == ("__debug__" : Str)) = false := by decide)
    (he : starEach (e :: es) X.env = (false, eval e X.env) :: starEach es X.env := by rfl) (hpl : (backTo pos (starEach es X.env)).any (·.1) = false := by rfl) : EV X Γ γ (.Call (.Name x p) (e :: es) [] pos) r γ2 := .mk fun F as σ H R E Q q => by
  refine ⟨_, pe_callTy hc bt.gl bt.mg hv pa_wp hn hdb he hpl, ?_⟩
  refine ha.go R E fun vs F1 as1 H1 x1 R1 i1 => ?_
  exact hr F1 as1 H1 vs R1 i1 Q fun v F2 as2 H2 x2 R2 i2 => q v F2 as2 H2 (x1.trans x2) R2 i2
theorem itms1 {K F as} {x : Itm} {vs : List V} (h : ItmsR K F as [x] vs) : ∃ v, vs = [v] ∧ ItmR K F as x v := by
  cases h with
  | cons h r => cases r; exact ⟨_, rfl, h⟩
theorem itms2 {K F as} {x y : Itm} {vs : List V} (h : ItmsR K F as [x, y] vs) : ∃ v u, vs = [v, u] ∧ ItmR K F as x v ∧ ItmR K F as y u := by
  cases h with
  | cons h r =>
    obtain ⟨u, rfl, h2⟩ := itms1 r
    exact ⟨_, _, rfl, h, h2⟩
/-- len of a list, of a tuple, of a text -/
theorem ev_lenL (bt : Bt X "len") (ha : EV X Γ γ a r γ1) (hr : Rdb γ1 r (.list ds)) (hs : starEach [a] X.env = (false, eval a X.env) :: starEach [] X.env := by rfl) : EV X Γ γ (.Call (.Name "len" p) [a] [] pos) (.fz (.int (ds.length : Int))) γ1 :=
  ev_callB call_len_seq bt PySem.boot_len (av_cons ha av_nil hs) (fun F as H vs R i Q q => by
    obtain ⟨v, rfl, h⟩ := itms1 i
    obtain ⟨l, us, rfl, h1, h2⟩ := hr.list R h
    exact ⟨l, us, rfl, .inl h1, by rw [dpAll_length h2]; exact q _ F as H (Ext.refl F as) R (itm_int.mpr rfl)⟩) (he := hs)
theorem ev_lenC {cc : Nat} {xs : List Itm} (bt : Bt X "len") (ha : EV X Γ γ a (.cl cc) γ1) (hr : γ1[cc]? = some (.lst xs)) (hs : starEach [a] X.env = (false, eval a X.env) :: starEach [] X.env := by rfl) : EV X Γ γ (.Call (.Name "len" p) [a] [] pos) (.fz (.int (xs.length : Int))) γ1 :=
  ev_callB call_len_seq bt PySem.boot_len (av_cons ha av_nil hs) (fun F as H vs R i Q q => by
    obtain ⟨v, rfl, h⟩ := itms1 i
    obtain ⟨l, hl, rfl⟩ := itm_cl.mp h
    obtain ⟨l', h1, us, h2, h3⟩ := R.cellAt hr
    rw [hl] at h1
    cases h1
    exact ⟨l, us, rfl, .inl (SqL.of h2), by rw [← itms_length h3]; exact q _ F as H (Ext.refl F as) R (itm_int.mpr rfl)⟩) (he := hs)
theorem ev_lenT (bt : Bt X "len") (ha : EV X Γ γ a (.fz (.tuple ds)) γ1) (hs : starEach [a] X.env = (false, eval a X.env) :: starEach [] X.env := by rfl) : EV X Γ γ (.Call (.Name "len" p) [a] [] pos) (.fz (.int (ds.length : Int))) γ1 :=
  ev_callB call_len_seq bt PySem.boot_len (av_cons ha av_nil hs) (fun F as H vs R i Q q => by
    obtain ⟨v, rfl, h⟩ := itms1 i
    obtain ⟨l, us, rfl, h1, h2⟩ := itm_tup.mp h
    exact ⟨l, us, rfl, .inr ((SqT.of (R.fr _ _ h1))), by rw [dpAll_length h2]; exact q _ F as H (Ext.refl F as) R (itm_int.mpr rfl)⟩) (he := hs)
theorem ev_lenS {z : Str} (bt : Bt X "len") (ha : EV X Γ γ a (.fz (.str z)) γ1) (hz : z.length ≤ sizeLine) (hs : starEach [a] X.env = (false, eval a X.env) :: starEach [] X.env := by rfl) : EV X Γ γ (.Call (.Name "len" p) [a] [] pos) (.fz (.int (z.length : Int))) γ1 :=
  ev_callB call_len_str bt PySem.boot_len (av_cons ha av_nil hs) (fun F as H vs R i Q q => by
    obtain ⟨v, rfl, h⟩ := itms1 i
    obtain rfl := itm_str.mp h
    exact ⟨z, rfl, hz, q _ F as H (Ext.refl F as) R (itm_int.mpr rfl)⟩) (he := hs)
theorem ev_max2 (hX : Cok X) (bt : Bt X "max") (ha : EV X Γ γ a (.fz (.int i)) γ1) (hb : EV X Γ γ1 b (.fz (.int j)) γ2) (hs : starEach [a, b] X.env = (false, eval a X.env) :: starEach [b] X.env := by rfl) (hs2 : starEach [b] X.env = (false, eval b X.env) :: starEach [] X.env := by rfl) (hpl : (backTo pos (starEach [b] X.env)).any (·.1) = false := by rfl) :
    EV X Γ γ (.Call (.Name "max" p) [a, b] [] pos) (.fz (.int (max i j))) γ2 :=
  ev_callB (call_max2 hX.calm) bt (by decide +kernel) (av_cons ha (av_cons hb av_nil hs2) hs) (fun F as H vs R i' Q q => by
    obtain ⟨v, u, rfl, h, h'⟩ := itms2 i'
    refine ⟨i, j, by rw [itm_int.mp h, itm_int.mp h'], ?_⟩
    have e : (if j > i then j else i) = max i j := by omega
    rw [e]
    exact q _ F as H (Ext.refl F as) R (itm_int.mpr rfl)) (he := hs) (hpl := hpl)
theorem ev_min2 (hX : Cok X) (bt : Bt X "min") (ha : EV X Γ γ a (.fz (.int i)) γ1) (hb : EV X Γ γ1 b (.fz (.int j)) γ2) (hs : starEach [a, b] X.env = (false, eval a X.env) :: starEach [b] X.env := by rfl) (hs2 : starEach [b] X.env = (false, eval b X.env) :: starEach [] X.env := by rfl) (hpl : (backTo pos (starEach [b] X.env)).any (·.1) = false := by rfl) :
    EV X Γ γ (.Call (.Name "min" p) [a, b] [] pos) (.fz (.int (min i j))) γ2 :=
  ev_callB (call_min2 hX.calm) bt (by decide +kernel) (av_cons ha (av_cons hb av_nil hs2) hs) (fun F as H vs R i' Q q => by
    obtain ⟨v, u, rfl, h, h'⟩ := itms2 i'
    refine ⟨i, j, by rw [itm_int.mp h, itm_int.mp h'], ?_⟩
    have e : (if j < i then j else i) = min i j := by omega
    rw [e]
    exact q _ F as H (Ext.refl F as) R (itm_int.mpr rfl)) (he := hs) (hpl := hpl)
def intsD (ns : List Int) : PyData := .list (ns.map .int)
def boolsD (bs : List Bool) : PyData := .list (bs.map .bool)
theorem dpAll_bools_inv {K F} : ∀ {ns : List Bool} {vs : List V}, DqAll K F vs (ns.map PyData.bool) → vs = ns.map V.bl
  | [], _, h => by cases h; rfl
  | n :: ns, _, h => by
    cases h with
    | cons h r => cases h; rw [dpAll_bools_inv r]; rfl
theorem Rdb.ints {K F H as γ v} {ns : List Int} (r : Rdb γ ra (.list (ns.map .int))) (R : Rep K F as γ H) (h : ItmR K F as ra v) : ∃ l, v = .ref l ∧ SqL K H l (ns.map V.int) := by
  obtain ⟨l, vs, e, h1, h2⟩ := r.list R h
  rw [dpAll_ints_inv h2] at h1
  exact ⟨l, e, h1⟩
theorem Rdb.bools {K F H as γ v} {ns : List Bool} (r : Rdb γ ra (.list (ns.map .bool))) (R : Rep K F as γ H) (h : ItmR K F as ra v) : ∃ l, v = .ref l ∧ SqL K H l (ns.map V.bl) := by
  obtain ⟨l, vs, e, h1, h2⟩ := r.list R h
  rw [dpAll_bools_inv h2] at h1
  exact ⟨l, e, h1⟩
theorem ev_sum {ns : List Int} (hX : Cok X) (bt : Bt X "sum") (ha : EV X Γ γ a r γ1) (hr : Rdb γ1 r (.list (ns.map .int))) (hs : starEach [a] X.env = (false, eval a X.env) :: starEach [] X.env := by rfl) : EV X Γ γ (.Call (.Name "sum" p) [a] [] pos) (.fz (.int ns.sum)) γ1 :=
  ev_callB (cr_sum hX.calm) bt (by decide +kernel) (av_cons ha av_nil hs) (fun F as H vs R i Q q => by
    obtain ⟨v, rfl, h⟩ := itms1 i
    obtain ⟨l, rfl, h1⟩ := hr.ints R h
    exact ⟨l, ns, rfl, h1, q _ F as H (Ext.refl F as) R (itm_int.mpr rfl)⟩) (he := hs)
theorem ev_anyB {ns : List Bool} (hX : Cok X) (bt : Bt X "any") (ha : EV X Γ γ a r γ1) (hr : Rdb γ1 r (.list (ns.map .bool))) (hs : starEach [a] X.env = (false, eval a X.env) :: starEach [] X.env := by rfl) : EV X Γ γ (.Call (.Name "any" p) [a] [] pos) (.fz (.bool (ns.any id))) γ1 :=
  ev_callB (cr_any hX.calm) bt (by decide +kernel) (av_cons ha av_nil hs) (fun F as H vs R i Q q => by
    obtain ⟨v, rfl, h⟩ := itms1 i
    obtain ⟨l, rfl, h1⟩ := hr.bools R h
    exact ⟨l, ns, rfl, h1, q _ F as H (Ext.refl F as) R (itm_bl.mpr rfl)⟩) (he := hs)
theorem ev_allB {ns : List Bool} (hX : Cok X) (bt : Bt X "all") (ha : EV X Γ γ a r γ1) (hr : Rdb γ1 r (.list (ns.map .bool))) (hs : starEach [a] X.env = (false, eval a X.env) :: starEach [] X.env := by rfl) : EV X Γ γ (.Call (.Name "all" p) [a] [] pos) (.fz (.bool (ns.all id))) γ1 :=
  ev_callB (cr_all hX.calm) bt (by decide +kernel) (av_cons ha av_nil hs) (fun F as H vs R i Q q => by
    obtain ⟨v, rfl, h⟩ := itms1 i
    obtain ⟨l, rfl, h1⟩ := hr.bools R h
    exact ⟨l, ns, rfl, h1, q _ F as H (Ext.refl F as) R (itm_bl.mpr rfl)⟩) (he := hs)
theorem ev_anyI {ns : List Int} (hX : Cok X) (bt : Bt X "any") (ha : EV X Γ γ a r γ1) (hr : Rdb γ1 r (.list (ns.map .int))) (hs : starEach [a] X.env = (false, eval a X.env) :: starEach [] X.env := by rfl) : EV X Γ γ (.Call (.Name "any" p) [a] [] pos) (.fz (.bool (ns.any (· != 0)))) γ1 :=
  ev_callB (cr_anyI hX.calm) bt (by decide +kernel) (av_cons ha av_nil hs) (fun F as H vs R i Q q => by
    obtain ⟨v, rfl, h⟩ := itms1 i
    obtain ⟨l, rfl, h1⟩ := hr.ints R h
    exact ⟨l, ns, rfl, h1, q _ F as H (Ext.refl F as) R (itm_bl.mpr rfl)⟩) (he := hs)
/-- max, min of a list of ints -/
def lmax : List Int → Int
  | [] => 0
  | [x] => x
  | x :: y :: r => max x (lmax (y :: r))
def lmin : List Int → Int
  | [] => 0
  | [x] => x
  | x :: y :: r => min x (lmin (y :: r))
theorem lmax_mem : ∀ {ns : List Int}, ns ≠ [] → lmax ns ∈ ns
  | [x], _ => by simp [lmax]
  | x :: y :: r, _ => by
    have h := lmax_mem (ns := y :: r) (by simp)
    simp only [lmax]
    rcases Int.le_total x (lmax (y :: r)) with q | q
    · rw [Int.max_eq_right q]; exact List.mem_cons_of_mem _ h
    · rw [Int.max_eq_left q]; exact List.mem_cons_self
theorem lmax_ge : ∀ {ns : List Int} {y : Int}, y ∈ ns → y ≤ lmax ns
  | [x], y, h => by simp at h; simp [lmax, h]
  | x :: z :: r, y, h => by
    simp only [lmax]
    rcases List.mem_cons.mp h with e | h
    · omega
    · have := lmax_ge h; omega
theorem lmin_mem : ∀ {ns : List Int}, ns ≠ [] → lmin ns ∈ ns
  | [x], _ => by simp [lmin]
  | x :: y :: r, _ => by
    have h := lmin_mem (ns := y :: r) (by simp)
    simp only [lmin]
    rcases Int.le_total x (lmin (y :: r)) with q | q
    · rw [Int.min_eq_left q]; exact List.mem_cons_self
    · rw [Int.min_eq_right q]; exact List.mem_cons_of_mem _ h
theorem lmin_le : ∀ {ns : List Int} {y : Int}, y ∈ ns → lmin ns ≤ y
  | [x], y, h => by simp at h; simp [lmin, h]
  | x :: z :: r, y, h => by
    simp only [lmin]
    rcases List.mem_cons.mp h with e | h
    · omega
    · have := lmin_le h; omega
theorem ev_minL {ns : List Int} (hX : Cok X) (bt : Bt X "min") (ha : EV X Γ γ a r γ1) (hr : Rdb γ1 r (.list (ns.map .int))) (hne : ns ≠ []) (hs : starEach [a] X.env = (false, eval a X.env) :: starEach [] X.env := by rfl) : EV X Γ γ (.Call (.Name "min" p) [a] [] pos) (.fz (.int (lmin ns))) γ1 :=
  ev_callB (cr_min hX.calm) bt (by decide +kernel) (av_cons ha av_nil hs) (fun F as H vs R i Q q => by
    obtain ⟨v, rfl, h⟩ := itms1 i
    obtain ⟨l, rfl, h1⟩ := hr.ints R h
    refine ⟨l, ns, rfl, h1, List.length_pos_iff.mpr hne, fun m hm hle => ?_⟩
    have e : m = lmin ns := Int.le_antisymm (hle _ (lmin_mem hne)) (lmin_le hm)
    rw [e]
    exact q _ F as H (Ext.refl F as) R (itm_int.mpr rfl)) (he := hs)
theorem ev_maxL {ns : List Int} (hX : Cok X) (bt : Bt X "max") (ha : EV X Γ γ a r γ1) (hr : Rdb γ1 r (.list (ns.map .int))) (hne : ns ≠ []) (hs : starEach [a] X.env = (false, eval a X.env) :: starEach [] X.env := by rfl) : EV X Γ γ (.Call (.Name "max" p) [a] [] pos) (.fz (.int (lmax ns))) γ1 :=
  ev_callB (cr_max hX.calm) bt (by decide +kernel) (av_cons ha av_nil hs) (fun F as H vs R i Q q => by
    obtain ⟨v, rfl, h⟩ := itms1 i
    obtain ⟨l, rfl, h1⟩ := hr.ints R h
    refine ⟨l, ns, rfl, h1, List.length_pos_iff.mpr hne, fun m hm hle => ?_⟩
    have e : m = lmax ns := Int.le_antisymm (lmax_ge hm) (hle _ (lmax_mem hne))
    rw [e]
    exact q _ F as H (Ext.refl F as) R (itm_int.mpr rfl)) (he := hs)
theorem ev_intB (bt : Bt X "int") (ha : EV X Γ γ a (.fz (.bool k)) γ1) (hs : starEach [a] X.env = (false, eval a X.env) :: starEach [] X.env := by rfl) : EV X Γ γ (.Call (.Name "int" p) [a] [] pos) (.fz (.int (if k then 1 else 0))) γ1 :=
  ev_callTy call_int1 bt (by decide +kernel) (av_cons ha av_nil hs) (fun F as H vs R i Q q => by
    obtain ⟨v, rfl, h⟩ := itms1 i
    exact .inr ⟨k, by rw [itm_bl.mp h], q _ F as H (Ext.refl F as) R (itm_int.mpr rfl)⟩) (he := hs)
theorem ev_intI (bt : Bt X "int") (ha : EV X Γ γ a (.fz (.int i)) γ1) (hs : starEach [a] X.env = (false, eval a X.env) :: starEach [] X.env := by rfl) : EV X Γ γ (.Call (.Name "int" p) [a] [] pos) (.fz (.int i)) γ1 :=
  ev_callTy call_int1 bt (by decide +kernel) (av_cons ha av_nil hs) (fun F as H vs R i Q q => by
    obtain ⟨v, rfl, h⟩ := itms1 i
    exact .inl ⟨_, by rw [itm_int.mp h], q _ F as H (Ext.refl F as) R (itm_int.mpr rfl)⟩) (he := hs)
theorem ev_abs (bt : Bt X "abs") (ha : EV X Γ γ a (.fz (.int i)) γ1) (hs : starEach [a] X.env = (false, eval a X.env) :: starEach [] X.env := by rfl) : EV X Γ γ (.Call (.Name "abs" p) [a] [] pos) (.fz (.int (i.natAbs : Int))) γ1 :=
  ev_callB call_abs bt (by decide +kernel) (av_cons ha av_nil hs) (fun F as H vs R i' Q q => by
    obtain ⟨v, rfl, h⟩ := itms1 i'
    refine ⟨i, by rw [itm_int.mp h], ?_⟩
    have e : (if i < 0 then -i else i) = (i.natAbs : Int) := by split <;> omega
    rw [e]
    exact q _ F as H (Ext.refl F as) R (itm_int.mpr rfl)) (he := hs)
/-- list(x): a copy, frozen or a cell -/
theorem ev_listF (bt : Bt X "list") (ha : EV X Γ γ a r γ1) (hr : Rdb γ1 r (.list ds) ∨ r = .fz (.tuple ds)) (hs : starEach [a] X.env = (false, eval a X.env) :: starEach [] X.env := by rfl) : EV X Γ γ (.Call (.Name "list" p) [a] [] pos) (.fz (.list ds)) γ1 :=
  ev_callTy call_list_of bt (by decide +kernel) (av_cons ha av_nil hs) (fun F as H vs R i Q q => by
    obtain ⟨v, rfl, h⟩ := itms1 i
    have fin : ∀ us, DqAll X.K F us ds → ∀ l, H l = none → Q (.ref l) (upd H l (.lst us)) := fun us h2 l hl => q _ (upd F l (.lst us)) as _ ⟨R.sameNew _ hl, [], by simp⟩ (R.new _ hl) (itm_lst.mpr ⟨l, us, rfl, SqL.of upd_same, dpAll_mono (R.sameNew _ hl) h2⟩)
    rcases hr with hr | rfl
    · obtain ⟨l, us, rfl, h1, h2⟩ := hr.list R h
      exact ⟨l, us, rfl, .inl h1, fin us h2⟩
    · obtain ⟨l, us, rfl, h1, h2⟩ := itm_tup.mp h
      exact ⟨l, us, rfl, .inr ((SqT.of (R.fr _ _ h1))), fin us h2⟩) (he := hs)
theorem newCellL {K F as γ H} (R : Rep K F as γ H) {xs : List Itm} {us : List V} (h : ItmsR K F as xs us) {l : Addr} (hl : H l = none) : Rep K F (as ++ [l]) (γ ++ [.lst xs]) (upd H l (.lst us)) ∧ ItmR K F (as ++ [l]) (.cl γ.length) (.ref l) := by
  refine ⟨R.newCell hl ⟨us, upd_same, itms_mono ⟨Same.refl F, [l], rfl⟩ h⟩, itm_cl.mpr ⟨l, ?_, rfl⟩⟩
  rw [← R.len, List.getElem?_append_right (Nat.le_refl _)]
  simp
theorem ev_listC (bt : Bt X "list") (ha : EV X Γ γ a r γ1) (hr : Rdb γ1 r (.list ds) ∨ r = .fz (.tuple ds)) (hs : starEach [a] X.env = (false, eval a X.env) :: starEach [] X.env := by rfl) : EV X Γ γ (.Call (.Name "list" p) [a] [] pos) (.cl γ1.length) (γ1 ++ [.lst (ds.map Itm.fz)]) :=
  ev_callTy call_list_of bt (by decide +kernel) (av_cons ha av_nil hs) (fun F as H vs R i Q q => by
    obtain ⟨v, rfl, h⟩ := itms1 i
    have fin : ∀ us, DqAll X.K F us ds → ∀ l, H l = none → Q (.ref l) (upd H l (.lst us)) := fun us h2 l hl => by
      obtain ⟨R', i'⟩ := newCellL R (itms_of_dp h2) hl
      exact q _ F (as ++ [l]) _ ⟨Same.refl F, [l], rfl⟩ R' i'
    rcases hr with hr | rfl
    · obtain ⟨l, us, rfl, h1, h2⟩ := hr.list R h
      exact ⟨l, us, rfl, .inl h1, fin us h2⟩
    · obtain ⟨l, us, rfl, h1, h2⟩ := itm_tup.mp h
      exact ⟨l, us, rfl, .inr ((SqT.of (R.fr _ _ h1))), fin us h2⟩) (he := hs)
/-- [a, b, ..] that will be changed -/
theorem ev_lstC (h : AV X Γ γ es rs γ1) (hl : rs.length ≤ 1000 := by first | decide | simp) : EV X Γ γ (.List es pos) (.cl γ1.length) (γ1 ++ [.lst rs]) := .mk fun F as σ H R E Q q => by
  refine ⟨_, pe_lst pa_wp, ?_⟩
  refine h.go R E fun vs F1 as1 H1 x1 R1 i1 => ?_
  refine ⟨by rw [← itms_length i1]; exact Nat.le_of_lt (small1000 hl), fun p hp => ?_⟩
  obtain ⟨R', i'⟩ := newCellL R1 i1 hp
  exact q _ F1 (as1 ++ [p]) _ (x1.trans ⟨Same.refl F1, [p], rfl⟩) R' i'
/-- + and * of lists -/
theorem ev_catF (ha : EV X Γ γ a ra γ1) (hb : EV X Γ γ1 b rb γ2) (h1 : Rdb γ2 ra (.list ds)) (h2 : Rdb γ2 rb (.list es')) (hz : ds.length + es'.length ≤ 1000000) : EV X Γ γ (.BinOp a .Add b pos) (.fz (.list (ds ++ es'))) γ2 :=
  ev_op op_catS ha hb fun F as H x y R hx hy Q q => by
    obtain ⟨l, us, rfl, p1, p2⟩ := h1.list R hx
    obtain ⟨l', us', rfl, p1', p2'⟩ := h2.list R hy
    have e := dpAll_length p2
    have e' := dpAll_length p2'
    exact ⟨l, l', us, us', rfl, rfl, p1, p1', by rw [sizeLine_eq]; omega, fun p hp => q _ (upd F p (.lst (us ++ us'))) as _ ⟨R.sameNew _ hp, [], by simp⟩ (R.new _ hp) (itm_lst.mpr ⟨p, us ++ us', rfl, SqL.of upd_same, dpAll_mono (R.sameNew _ hp) (dpAll_append p2 p2')⟩)⟩
theorem ev_catC (ha : EV X Γ γ a ra γ1) (hb : EV X Γ γ1 b rb γ2) (h1 : Rdb γ2 ra (.list ds)) (h2 : Rdb γ2 rb (.list es')) (hz : ds.length + es'.length ≤ 1000000) : EV X Γ γ (.BinOp a .Add b pos) (.cl γ2.length) (γ2 ++ [.lst ((ds ++ es').map Itm.fz)]) :=
  ev_op op_catS ha hb fun F as H x y R hx hy Q q => by
    obtain ⟨l, us, rfl, p1, p2⟩ := h1.list R hx
    obtain ⟨l', us', rfl, p1', p2'⟩ := h2.list R hy
    have e := dpAll_length p2
    have e' := dpAll_length p2'
    refine ⟨l, l', us, us', rfl, rfl, p1, p1', by rw [sizeLine_eq]; omega, fun p hp => ?_⟩
    obtain ⟨R', i'⟩ := newCellL R (itms_of_dp (dpAll_append p2 p2')) hp
    exact q _ F (as ++ [p]) _ ⟨Same.refl F, [p], rfl⟩ R' i'
end
end PL

namespace PL
open PySem PySem.Spec PyProof.Rows L2

/-! ### kinds of data -/
def tyD : PyData → String
  | .none => "NoneType"
  | .bool _ => "bool"
  | .int _ => "int"
  | .str _ => "str"
  | .list _ => "list"
  | .tuple _ => "tuple"
  | .dict _ => "dict"
def isI : PyData → Bool
  | .int _ => true
  | .bool _ => true
  | _ => false
def isB : PyData → Bool
  | .bool _ => true
  | _ => false
def isS : PyData → Bool
  | .str _ => true
  | _ => false
def isL : PyData → Bool
  | .list _ => true
  | _ => false
def isT : PyData → Bool
  | .tuple _ => true
  | _ => false
def isD : PyData → Bool
  | .dict _ => true
  | _ => false
theorem kit_int (d : PyData) : kitB (tyD d) "int" = some (isI d) := by cases d <;> (simp only [tyD, isI]; decide +kernel)
theorem kit_bool (d : PyData) : kitB (tyD d) "bool" = some (isB d) := by cases d <;> (simp only [tyD, isB]; decide +kernel)
theorem kit_str (d : PyData) : kitB (tyD d) "str" = some (isS d) := by cases d <;> (simp only [tyD, isS]; decide +kernel)
theorem kit_list (d : PyData) : kitB (tyD d) "list" = some (isL d) := by cases d <;> (simp only [tyD, isL]; decide +kernel)
theorem kit_tuple (d : PyData) : kitB (tyD d) "tuple" = some (isT d) := by cases d <;> (simp only [tyD, isT]; decide +kernel)
theorem kit_dict (d : PyData) : kitB (tyD d) "dict" = some (isD d) := by cases d <;> (simp only [tyD, isD]; decide +kernel)
theorem dp_ty {K : PySem.W.Frag} {H : Hp} {v : V} {d : PyData} (h : Dq K H v d) : TyX K H v (.type (tyD d)) := by
  cases h with
  | non => exact .base .non
  | bl b => exact .base (.bl b)
  | int i => exact .base (.int i)
  | str x => exact .base (.str x)
  | lst h r =>
    rcases h with (h | ⟨o, h⟩) | ⟨o, its, n, h1, h2, _⟩
    · exact .base (.lst h)
    · exact .base (.frz h)
    · exact .kList h1 h2
  | tup h r => exact .base (.tup h)
  | emp h => exact .base (.dK h)
section
variable {X : Cx} {Γ : Slots} {γ γ1 γ2 γ3 : Cells} {e a b o c : Expr} {es : List Expr} {rs : List Itm} {r ra rb : Itm} {pos p p2 pos' : Pos} {x : Str} {R : SE} {rest : List Stmt} {k : Bool} {i j n : Int} {ds es' : List PyData} {d : PyData}
theorem ev_isi {T : String} {Tn : Str} {q : Pos} (bt : Bt X "isinstance") (bT : Bt X Tn) (hv : bootBuiltins Tn = some (.type T)) (ha : EV X Γ γ a r γ1) (hr : Rdb γ1 r d) (hk : kitB (tyD d) T = some k)
    (hn : Tn ≠ "__name__" := by decide) (hd : (Tn == ("__debug__" : Str)) = false := by decide)
    (hs : starEach [a, .Name Tn q] X.env = (false, eval a X.env) :: starEach [.Name Tn q] X.env := by rfl) (hs2 : starEach [.Name Tn q] X.env = (false, eval (.Name Tn q) X.env) :: starEach [] X.env := by rfl) (hpl : (backTo pos (starEach [.Name Tn q] X.env)).any (·.1) = false := by rfl) :
    EV X Γ γ (.Call (.Name "isinstance" p) [a, .Name Tn q] [] pos) (.fz (.bool k)) γ1 := .mk fun F as σ H R E Q q' => by
  refine ⟨_, pe_callB call_isi bt.gl bt.mg (by decide +kernel) (pa_cons pe_wp (pa_cons (pe_bltn (v := .ty T) bT.gl bT.mg hv rfl hn hd) pa_nil hs2) hs) (by decide) (by decide) hs hpl, ?_⟩
  refine ha.go R E fun v F1 as1 H1 x1 R1 i1 => ?_
  exact ⟨v, .ty T, _, _, k, rfl, .ty T, dp_ty (hr.dp R1 i1), kit_ty hk, q' _ F1 as1 H1 x1 R1 (itm_bl.mpr rfl)⟩
/-- is True, is False -/
theorem cmp_isB {b1 b2 : Bool} : CmpR X .Is γ (.fz (.bool b1)) (.fz (.bool b2)) (b1 == b2) := ⟨_, op_isBl, fun F as H x y R hx hy Q q => ⟨b1, b2, itm_bl.mp hx, itm_bl.mp hy, by
  rw [show decide (b1 = b2) = (b1 == b2) from by cases b1 <;> cases b2 <;> rfl]; exact q⟩⟩
theorem cmp_notB {b1 b2 : Bool} : CmpR X .IsNot γ (.fz (.bool b1)) (.fz (.bool b2)) (b1 != b2) := ⟨_, op_notBl, fun F as H x y R hx hy Q q => ⟨b1, b2, itm_bl.mp hx, itm_bl.mp hy, by
  rw [show (!decide (b1 = b2)) = (b1 != b2) from by cases b1 <;> cases b2 <;> rfl]; exact q⟩⟩
/-- a list's truth -/
theorem tv_truthL (ha : EV X Γ γ a r γ1) (hr : Rdb γ1 r (.list ds)) (he : ∀ whole, isTrue a X.env whole = (do let v ← whole; standAt a.pos; holding [v] (truthy v)) := by intro _; rfl) : TV X Γ γ a (!ds.isEmpty) γ1 := fun F as σ H R E Q q => by
  refine ⟨_, pt_truth pe_wp he, ha.go R E fun v F1 as1 H1 x1 R1 i1 => ?_⟩
  obtain ⟨l, us, rfl, h1, h2⟩ := hr.list R1 i1
  have e := dpAll_length h2
  have e2 : (!us.isEmpty) = (!ds.isEmpty) := by cases us <;> cases ds <;> simp_all
  exact ⟨_, .inl ⟨us, h1, rfl⟩, by rw [e2]; exact q F1 as1 H1 x1 R1⟩
theorem tv_truthI (ha : EV X Γ γ a (.fz (.int i)) γ1) (he : ∀ whole, isTrue a X.env whole = (do let v ← whole; standAt a.pos; holding [v] (truthy v)) := by intro _; rfl) : TV X Γ γ a (i != 0) γ1 := fun F as σ H R E Q q => by
  refine ⟨_, pt_truth pe_wp he, ha.go R E fun v F1 as1 H1 x1 R1 i1 => ?_⟩
  cases itm_int.mp i1
  exact ⟨_, rfl, q F1 as1 H1 x1 R1⟩

/-! ### items -/
theorem atI_lt {α : Type} {xs : List α} {i : Int} {v : α} (h : atI xs i = some v) : ∃ j, xs[j]? = some v ∧ ixN xs.length i = some j := by
  unfold atI at h
  cases q : ixN xs.length i with
  | none => rw [q] at h; cases h
  | some j => rw [q] at h; exact ⟨j, h, rfl⟩
theorem atI_of {α β : Type} {xs : List α} {ys : List β} {i : Int} {j : Nat} {v : β} (hl : ys.length = xs.length) (hi : ixN xs.length i = some j) (h : ys[j]? = some v) : atI ys i = some v := by
  unfold atI
  rw [hl, hi]
  exact h
theorem ev_ixL (ha : EV X Γ γ a ra γ1) (hb : EV X Γ γ1 b (.fz (.int i)) γ2) (hr : Rdb γ2 ra (.list ds)) (hi : atI ds i = some d) (hs : PlainIx b := by exact fun _ _ => rfl) : EV X Γ γ (.Subscript a b pos) (.fz d) γ2 := .mk fun F as σ H R E Q q => by
  refine ⟨_, pe_ix ix_list pe_wp pe_wp hs, ha.go R E fun v F1 as1 H1 x1 R1 i1 => hb.go R1 (E.mono x1) fun u F2 as2 H2 x2 R2 i2 => ?_⟩
  obtain ⟨l, us, rfl, h1, h2⟩ := hr.list R2 (itm_mono x2 i1)
  obtain ⟨j, hj, hx⟩ := atI_lt hi
  obtain ⟨w, hw, hd⟩ := dpAll_get h2 hj
  exact ⟨l, us, i, w, rfl, itm_int.mp i2, h1, atI_of (dpAll_length h2) hx hw, q _ F2 as2 H2 (x1.trans x2) R2 (.fz hd)⟩
theorem ev_ixC {cc : Nat} {xs : List Itm} (ha : EV X Γ γ a (.cl cc) γ1) (hb : EV X Γ γ1 b (.fz (.int i)) γ2) (hr : γ2[cc]? = some (.lst xs)) (hi : atI xs i = some r) (hs : PlainIx b := by exact fun _ _ => rfl) : EV X Γ γ (.Subscript a b pos) r γ2 := .mk fun F as σ H R E Q q => by
  refine ⟨_, pe_ix ix_list pe_wp pe_wp hs, ha.go R E fun v F1 as1 H1 x1 R1 i1 => hb.go R1 (E.mono x1) fun u F2 as2 H2 x2 R2 i2 => ?_⟩
  obtain ⟨l, hl, rfl⟩ := itm_cl.mp (itm_mono x2 i1)
  obtain ⟨l', h1, us, h2, h3⟩ := R2.cellAt hr
  rw [hl] at h1
  cases h1
  obtain ⟨j, hj, hx⟩ := atI_lt hi
  obtain ⟨w, hw, hd⟩ := itms_get h3 hj
  exact ⟨l, us, i, w, rfl, itm_int.mp i2, SqL.of h2, atI_of (itms_length h3).symm hx hw, q _ F2 as2 H2 (x1.trans x2) R2 hd⟩
theorem ev_ixT (ha : EV X Γ γ a (.fz (.tuple ds)) γ1) (hb : EV X Γ γ1 b (.fz (.int i)) γ2) (hi : atI ds i = some d) (hs : PlainIx b := by exact fun _ _ => rfl) : EV X Γ γ (.Subscript a b pos) (.fz d) γ2 := .mk fun F as σ H R E Q q => by
  refine ⟨_, pe_ix ix_tup pe_wp pe_wp hs, ha.go R E fun v F1 as1 H1 x1 R1 i1 => hb.go R1 (E.mono x1) fun u F2 as2 H2 x2 R2 i2 => ?_⟩
  obtain ⟨l, us, rfl, h1, h2⟩ := itm_tup.mp (itm_mono x2 i1)
  obtain ⟨j, hj, hx⟩ := atI_lt hi
  obtain ⟨w, hw, hd⟩ := dpAll_get h2 hj
  exact ⟨l, us, i, w, rfl, itm_int.mp i2, (SqT.of (R2.fr _ _ h1)), atI_of (dpAll_length h2) hx hw, q _ F2 as2 H2 (x1.trans x2) R2 (.fz hd)⟩
theorem ev_ixP {xs : List Itm} (ha : EV X Γ γ a (.tp xs) γ1) (hb : EV X Γ γ1 b (.fz (.int i)) γ2) (hi : atI xs i = some r) (hs : PlainIx b := by exact fun _ _ => rfl) : EV X Γ γ (.Subscript a b pos) r γ2 := .mk fun F as σ H R E Q q => by
  refine ⟨_, pe_ix ix_tup pe_wp pe_wp hs, ha.go R E fun v F1 as1 H1 x1 R1 i1 => hb.go R1 (E.mono x1) fun u F2 as2 H2 x2 R2 i2 => ?_⟩
  cases itm_mono x2 i1 with
  | tp h1 h2 =>
    obtain ⟨j, hj, hx⟩ := atI_lt hi
    obtain ⟨w, hw, hd⟩ := itms_get h2 hj
    exact ⟨_, _, i, w, rfl, itm_int.mp i2, (SqT.of (R2.fr _ _ h1)), atI_of (itms_length h2).symm hx hw, q _ F2 as2 H2 (x1.trans x2) R2 hd⟩
theorem ev_ixS {z : Str} {cp : Nat} (ha : EV X Γ γ a (.fz (.str z)) γ1) (hb : EV X Γ γ1 b (.fz (.int i)) γ2) (hz : z.length ≤ sizeLine) (hi : atI z.cps.toList i = some cp) (hs : PlainIx b := by exact fun _ _ => rfl) : EV X Γ γ (.Subscript a b pos) (.fz (.str ⟨#[cp]⟩)) γ2 := .mk fun F as σ H R E Q q => by
  refine ⟨_, pe_ix ix_str pe_wp pe_wp hs, ha.go R E fun v F1 as1 H1 x1 R1 i1 => hb.go R1 (E.mono x1) fun u F2 as2 H2 x2 R2 i2 => ?_⟩
  exact ⟨z, i, cp, itm_str.mp (itm_mono x2 i1), itm_int.mp i2, hz, hi, q _ F2 as2 H2 (x1.trans x2) R2 (itm_str.mpr rfl)⟩

/-! ### slices of lists, of tuples -/
def cutD {α : Type} (xs : List α) (lo hi : Option Int) : List α := (xs.drop (HT.sIx xs.length 0 lo)).take (HT.sIx xs.length xs.length hi - HT.sIx xs.length 0 lo)
theorem dpAll_drop {K F} : ∀ {vs : List V} {ds : List PyData} (n : Nat), DqAll K F vs ds → DqAll K F (vs.drop n) (ds.drop n)
  | _, _, 0, h => h
  | _, _, _ + 1, .nil => .nil
  | _, _, n + 1, .cons _ r => dpAll_drop n r
theorem dpAll_take {K F} : ∀ {vs : List V} {ds : List PyData} (n : Nat), DqAll K F vs ds → DqAll K F (vs.take n) (ds.take n)
  | _, _, 0, _ => .nil
  | _, _, _ + 1, .nil => .nil
  | _, _, n + 1, .cons h r => .cons h (dpAll_take n r)
theorem dpAll_cut {K F} {vs : List V} {ds : List PyData} (h : DqAll K F vs ds) (lo hi : Option Int) : DqAll K F (cutV vs lo hi) (cutD ds lo hi) := by
  unfold cutV cutD
  rw [dpAll_length h]
  exact dpAll_take _ (dpAll_drop _ h)
/-- a slice's part -/
def wpO (X : Cx) (e : Option Expr) : TO := fun σ H Q => ∃ t, PO X e t ∧ t σ H Q
theorem po_wp {e : Option Expr} : PO X e (wpO X e) := ⟨fun pins s σ H Q I ⟨t, h, q⟩ => h.run pins s σ H Q I q⟩
def OV (X : Cx) (Γ : Slots) (γ : Cells) (e : Option Expr) (o : Option Int) (γ' : Cells) : Prop :=
  ∀ F as σ H, Rep X.K F as γ H → EnvR X.K F as Γ σ → ∀ Q : Option Int → Hp → Prop, (∀ F' as' H', Ext F as F' as' → Rep X.K F' as' γ' H' → Q o H') → wpO X e σ H Q
theorem ov_none : OV X Γ γ none none γ := fun F as σ H R E Q q => ⟨_, po_none, q F as H (Ext.refl F as) R⟩
theorem ov_some (h : EV X Γ γ e (.fz (.int i)) γ1) : OV X Γ γ (some e) (some i) γ1 := fun F as σ H R E Q q => ⟨_, po_some pe_wp, h.go R E fun v F1 as1 H1 x1 R1 i1 => ⟨i, itm_int.mp i1, q F1 as1 H1 x1 R1⟩⟩
variable {lo hi : Option Expr} {ol oh : Option Int}
theorem ev_slL (ha : EV X Γ γ a ra γ1) (h1 : OV X Γ γ1 lo ol γ2) (h2 : OV X Γ γ2 hi oh γ3) (hr : Rdb γ3 ra (.list ds)) : EV X Γ γ (.Subscript a (.Slice lo hi none p2) pos) (.fz (.list (cutD ds ol oh))) γ3 := .mk fun F as σ H R E Q q => by
  refine ⟨_, pe_slice sl_list pe_wp po_wp po_wp, ha.go R E fun v F1 as1 H1 x1 R1 i1 => h1 F1 as1 σ H1 R1 (E.mono x1) _ fun F2 as2 H2 x2 R2 => h2 F2 as2 σ H2 R2 (E.mono (x1.trans x2)) _ fun F3 as3 H3 x3 R3 => ?_⟩
  obtain ⟨l, us, rfl, p1, p2⟩ := hr.list R3 (itm_mono (x2.trans x3) i1)
  exact ⟨l, us, rfl, p1, fun p hp => q _ (upd F3 p (.lst (cutV us ol oh))) as3 _ (((x1.trans x2).trans x3).trans ⟨R3.sameNew _ hp, [], by simp⟩) (R3.new _ hp) (itm_lst.mpr ⟨p, _, rfl, SqL.of upd_same, dpAll_mono (R3.sameNew _ hp) (dpAll_cut p2 ol oh)⟩)⟩
theorem ev_slT (ha : EV X Γ γ a (.fz (.tuple ds)) γ1) (h1 : OV X Γ γ1 lo ol γ2) (h2 : OV X Γ γ2 hi oh γ3) (hw : ¬ (HT.sIx ds.length 0 ol = 0 ∧ HT.sIx ds.length ds.length oh = ds.length)) : EV X Γ γ (.Subscript a (.Slice lo hi none p2) pos) (.fz (.tuple (cutD ds ol oh))) γ3 := .mk fun F as σ H R E Q q => by
  refine ⟨_, pe_slice sl_tup pe_wp po_wp po_wp, ha.go R E fun v F1 as1 H1 x1 R1 i1 => h1 F1 as1 σ H1 R1 (E.mono x1) _ fun F2 as2 H2 x2 R2 => h2 F2 as2 σ H2 R2 (E.mono (x1.trans x2)) _ fun F3 as3 H3 x3 R3 => ?_⟩
  obtain ⟨l, us, rfl, p1, p2⟩ := itm_tup.mp (itm_mono (x2.trans x3) i1)
  exact ⟨l, us, rfl, (SqT.of (R3.fr _ _ p1)), by rw [dpAll_length p2]; exact hw, fun p hp => q _ (upd F3 p (.tup (cutV us ol oh))) as3 _ (((x1.trans x2).trans x3).trans ⟨R3.sameNew _ hp, [], by simp⟩) (R3.new _ hp) (itm_tup.mpr ⟨p, _, rfl, upd_same, dpAll_mono (R3.sameNew _ hp) (dpAll_cut p2 ol oh)⟩)⟩

/-! ### a list times a number -/
def repD {α : Type} (xs : List α) (k : Int) : List α := (List.replicate k.toNat xs).flatten
theorem itms_rep {K F as} {xs : List Itm} {vs : List V} (h : ItmsR K F as xs vs) : ∀ k : Nat, ItmsR K F as (List.replicate k xs).flatten (List.replicate k vs).flatten
  | 0 => .nil
  | k + 1 => by
    rw [List.replicate_succ, List.replicate_succ, List.flatten_cons, List.flatten_cons]
    exact itms_append h (itms_rep h k)
/-- [..] * k, a display times a number: frozen, a cell -/
theorem ev_repC {k : Int} (ha : AV X Γ γ es rs γ1) (hb : EV X Γ γ1 b (.fz (.int k)) γ2) (hl : rs.length ≤ 1000) (hk : rs.length * k.toNat ≤ 1000000) (hk2 : -(2 ^ 63) ≤ k ∧ k < 2 ^ 63) : EV X Γ γ (.BinOp (.List es p) .Mult b pos) (.cl γ2.length) (γ2 ++ [.lst (repD rs k)]) := .mk fun F as σ H R E Q q => by
  refine ⟨_, pe_op op_rep (pe_lst pa_wp) pe_wp, ha.go R E fun vs F1 as1 H1 x1 R1 i1 => ?_⟩
  have l := itms_length i1
  refine ⟨by rw [← l]; exact Nat.le_of_lt (small1000 hl), fun t ht => ?_⟩
  have x2 : Ext F1 as1 (upd F1 t (.lst vs)) as1 := ⟨R1.sameNew _ ht, [], by simp⟩
  refine hb.go (R1.new _ ht) (E.mono (x1.trans x2)) fun u F3 as3 H3 x3 R3 i3 => ?_
  refine ⟨t, k, vs, rfl, itm_int.mp i3, R3.fr t _ (x3.1 t _ upd_same), hk2.1, hk2.2, by rw [← l, sizeLine_eq]; omega, fun p' hp => ?_⟩
  obtain ⟨R', i'⟩ := newCellL R3 (itms_rep (itms_mono (x2.trans x3) i1) k.toNat) hp
  exact q _ F3 (as3 ++ [p']) _ (((x1.trans x2).trans x3).trans ⟨Same.refl F3, [p'], rfl⟩) R' i'
theorem ev_repF {k : Int} (ha : AV X Γ γ es (ds.map Itm.fz) γ1) (hb : EV X Γ γ1 b (.fz (.int k)) γ2) (hl : ds.length ≤ 1000) (hk : ds.length * k.toNat ≤ 1000000) (hk2 : -(2 ^ 63) ≤ k ∧ k < 2 ^ 63) : EV X Γ γ (.BinOp (.List es p) .Mult b pos) (.fz (.list (repD ds k))) γ2 := .mk fun F as σ H R E Q q => by
  refine ⟨_, pe_op op_rep (pe_lst pa_wp) pe_wp, ha.go R E fun vs F1 as1 H1 x1 R1 i1 => ?_⟩
  have l := itms_length i1
  rw [List.length_map] at l
  refine ⟨by rw [← l]; exact Nat.le_of_lt (small1000 hl), fun t ht => ?_⟩
  have x2 : Ext F1 as1 (upd F1 t (.lst vs)) as1 := ⟨R1.sameNew _ ht, [], by simp⟩
  refine hb.go (R1.new _ ht) (E.mono (x1.trans x2)) fun u F3 as3 H3 x3 R3 i3 => ?_
  refine ⟨t, k, vs, rfl, itm_int.mp i3, R3.fr t _ (x3.1 t _ upd_same), hk2.1, hk2.2, by rw [← l, sizeLine_eq]; omega, fun p' hp => ?_⟩
  have hrep := itms_rep (itms_mono (x2.trans x3) i1) k.toNat
  have e : (List.replicate k.toNat (ds.map Itm.fz)).flatten = (repD ds k).map Itm.fz := by
    unfold repD
    rw [List.map_flatten, List.map_replicate]
  rw [e] at hrep
  exact q _ (upd F3 p' _) as3 _ (((x1.trans x2).trans x3).trans ⟨R3.sameNew _ hp, [], by simp⟩) (R3.new _ hp) (itm_lst.mpr ⟨p', _, rfl, SqL.of upd_same, dpAll_mono (R3.sameNew _ hp) (itms_fz hrep)⟩)

/-! ### stores into a list -/
theorem ev_append {apos : Pos} {cc : Nat} {xs : List Itm} (ho : EV X Γ γ o (.cl cc) γ1) (he : EV X Γ γ1 e r γ2) (h1 : ∃ ys, γ1[cc]? = some (.lst ys)) (h2 : γ2[cc]? = some (.lst xs)) (hl : xs.length ≤ 1000000)
    (hbase : attributeBase o "append" X.env (eval o X.env) = eval o X.env := by rfl)
    (hfew : ((backTo pos (starEach [e] X.env)).all (fun x => !x.1) && (backToKw pos (keywordEach [] X.env)).all (fun x => x.1.isSome) && decide ([e].length + ([] : List Keyword).length + (if ([] : List Keyword).isEmpty then 0 else 1) < 30)) = true := by rfl)
    (hline : (apos.endLine == pos.line) = true := by rfl) (hs : starEach [e] X.env = (false, eval e X.env) :: starEach [] X.env := by rfl) :
    EV X Γ γ (.Call (.Attribute o "append" apos) [e] [] pos) (.fz .none) (γ2.set cc (.lst (xs ++ [r]))) := .mk fun F as σ H R E Q q => by
  refine ⟨_, pe_bm PySem.F.plainAttrs_list PySem.F.slot_list_append PySem.F.type_list_append mt_append pe_wp (pa_cons pe_wp pa_nil hs) hbase hfew hline hs rfl, ?_⟩
  refine ho.go R E fun v F1 as1 H1 x1 R1 i1 => ?_
  obtain ⟨l, hl1, rfl⟩ := itm_cl.mp i1
  obtain ⟨ys, h1⟩ := h1
  obtain ⟨l1, k1, us, k2, k3⟩ := R1.cellAt h1
  rw [hl1] at k1
  cases k1
  refine ⟨.inl ⟨rfl, us, SqL.of k2⟩, ?_⟩
  refine he.go R1 (E.mono x1) fun u F2 as2 H2 x2 R2 i2 => ?_
  have hl2 := x2.get hl1
  obtain ⟨l2, k1, us2, k4, k5⟩ := R2.cellAt h2
  rw [hl2] at k1
  cases k1
  have e := itms_length k5
  refine ⟨l, us2, u, rfl, rfl, k4, by rw [← e, sizeLine_eq]; omega, ?_⟩
  refine q _ F2 as2 _ (x1.trans x2) (R2.write h2 (by simp) hl2 ⟨_, upd_same, itms_append k5 (.cons i2 .nil)⟩) (itm_non.mpr rfl)
theorem sv_setitem {cc : Nat} {xs : List Itm} {i : Int} {jj : Nat} (he : EV X Γ γ e r γ1) (ho : EV X Γ γ1 o (.cl cc) γ2) (hi : EV X Γ γ2 b (.fz (.int i)) γ3) (hc : γ3[cc]? = some (.lst xs)) (hj : ixN xs.length i = some jj) (h : SVs X Γ (γ3.set cc (.lst (xs.set jj r))) rest R)
    (hs : swapsWithSole [.Subscript o b p] e pos.line X.env = pure false := by rfl) (hw : swappedStores [.Subscript o b p] e X.env = pure none := by rfl)
    (h1 : (assignEach [.Subscript o b p] X.env).map (·.2) = [assign (.Subscript o b p) X.env] := by rfl)
    (ha : ∀ v, assign (.Subscript o b p) X.env v = (do
      let ov ← holding [v] (eval o X.env)
      let iv ← holding [v, ov] (eval b X.env)
      standAt p
      holding [v, ov, iv] (setItem ov iv v)
      release [v, ov, iv] []) := by intro _; rfl) : SVs X Γ γ (.Assign [.Subscript o b p] e pos :: rest) R :=
  svs_cons fun F as σ H D Rp E C => ⟨_, ps_asg pe_wp (pg_sub pe_wp pe_wp set_list ha) hs hw h1, he.go Rp E fun v F1 as1 H1 x1 R1 i1 => ho.go R1 (E.mono x1) fun u F2 as2 H2 x2 R2 i2 => hi.go R2 (E.mono (x1.trans x2)) fun w F3 as3 H3 x3 R3 i3 => by
    obtain ⟨l, hl, rfl⟩ := itm_cl.mp (itm_mono x3 i2)
    obtain ⟨l', k1, us, k2, k3⟩ := R3.cellAt hc
    rw [hl] at k1
    cases k1
    refine ⟨l, us, i, jj, rfl, itm_int.mp i3, k2, by rw [← itms_length k3]; exact hj, ?_⟩
    exact C.nx _ _ _ _ _ _ h ((x1.trans x2).trans x3) (R3.write hc (by simp) hl ⟨_, upd_same, itms_set jj k3 (itm_mono (x2.trans x3) i1)⟩) (E.mono ((x1.trans x2).trans x3))⟩
/-- xs[i] += e: ints -/
theorem sv_augitem {cc jj : Nat} {xs : List Itm} {op : Operator} {f : Int → Int → Int} {m : Int} (ho : EV X Γ γ o (.cl cc) γ1) (hi : EV X Γ γ1 b (.fz (.int (jj : Int))) γ2) (hc : γ2[cc]? = some (.lst xs)) (hx : xs[jj]? = some (.fz (.int n))) (he : EV X Γ γ2 e (.fz (.int m)) γ3) (hc' : γ3[cc]? = some (.lst xs)) (hop : PIp X op (ipI f))
    (h : SVs X Γ (γ3.set cc (.lst (xs.set jj (.fz (.int (f n m)))))) rest R)
    (ha : ∀ ov iv new, augStore b ov iv new = (do holding [new, ov, iv] (setItem ov iv new); release [new, ov, iv] []; pure .next) := by intros; rfl) : SVs X Γ γ (.AugAssign (.Subscript o b p) op e pos :: rest) R :=
  svs_cons fun F as σ H D Rp E C => ⟨_, ps_augS pe_wp pe_wp get_list pe_wp hop set_list ha, ho.go Rp E fun v F1 as1 H1 x1 R1 i1 => hi.go R1 (E.mono x1) fun u F2 as2 H2 x2 R2 i2 => by
    obtain ⟨l, hl, rfl⟩ := itm_cl.mp (itm_mono x2 i1)
    obtain ⟨l', k1, us, k2, k3⟩ := R2.cellAt hc
    rw [hl] at k1
    cases k1
    obtain ⟨w, hw, hd⟩ := itms_get k3 hx
    obtain rfl := itm_int.mp hd
    refine ⟨l, us, jj, .int n, rfl, itm_int.mp i2, SqL.of k2, hw, ?_⟩
    refine he.go R2 (E.mono (x1.trans x2)) fun w F3 as3 H3 x3 R3 i3 => ?_
    have hl3 := x3.get hl
    obtain ⟨l', k1, us3, k4, k5⟩ := R3.cellAt hc'
    rw [hl3] at k1
    cases k1
    refine ⟨n, m, rfl, itm_int.mp i3, l, us3, (jj : Int), jj, rfl, itm_int.mp i2, k4, ?_, ?_⟩
    · have hj := (List.getElem?_eq_some_iff.mp hx).1
      unfold ixN
      rw [if_pos (by omega), if_pos (by rw [← itms_length k5]; omega), Int.toNat_natCast]
    · exact C.nx _ _ _ _ _ _ h ((x1.trans x2).trans x3) (R3.write hc' (by simp) hl3 ⟨_, upd_same, itms_set jj k5 (itm_int.mpr rfl)⟩) (E.mono ((x1.trans x2).trans x3))⟩
end

/-! ### zip, enumerate -/
section
variable {X : Cx} {Γ : Slots} {γ γ1 γ2 : Cells} {e a b : Expr} {r ra rb : Itm} {pos p tpos : Pos} {ds es' : List PyData} {elts : List Expr} {kk : Nat}
def zipD (ds es : List PyData) : List Itm := (ds.zip es).map fun q => .fz (.tuple [q.1, q.2])
theorem itv_zip (bt : Bt X "zip") (ha : EV X Γ γ a ra γ1) (hb : EV X Γ γ1 b rb γ2) (h1 : Rdb γ2 ra (.list ds)) (h2 : Rdb γ2 rb (.list es')) (hs : starEach [a, b] X.env = (false, eval a X.env) :: starEach [b] X.env := by rfl) (hs2 : starEach [b] X.env = (false, eval b X.env) :: starEach [] X.env := by rfl) (hpl : (backTo pos (starEach [b] X.env)).any (·.1) = false := by rfl) :
    ITV X Γ γ (.Tuple elts kk tpos) (.Call (.Name "zip" p) [a, b] [] pos) (zipD ds es') (fun g => Rdb g ra (.list ds) ∧ Rdb g rb (.list es')) γ2 := fun F as σ H R E Q q => by
  refine ⟨_, pi_zip bt.gl bt.mg (pa_cons pe_wp (pa_cons pe_wp pa_nil hs2) hs) hs hpl, ha.go R E fun v F1 as1 H1 x1 R1 i1 => hb.go R1 (E.mono x1) fun u F2 as2 H2 x2 R2 i2 => ?_⟩
  have i1' := itm_mono x2 i1
  obtain ⟨l, us, rfl, p1, p2⟩ := h1.list R2 i1'
  obtain ⟨l', us', rfl, p1', p2'⟩ := h2.list R2 i2
  refine ⟨l, l', us, us', rfl, p1, p1', q _ F2 as2 H2 (x1.trans x2) R2 fun i F' as' γ' H' x' R' st => ?_⟩
  obtain ⟨m, ws, e1, q1, q2⟩ := st.1.list R' (itm_mono x' i1')
  obtain ⟨m', ws', e2, q1', q2'⟩ := st.2.list R' (itm_mono x' i2)
  cases e1
  cases e2
  have l1 := dpAll_length q2
  have l2 := dpAll_length q2'
  refine ⟨fun hl => ?_, fun x hx => ?_⟩
  · refine ⟨ws, ws', q1, q1', ?_⟩
    unfold zipD at hl
    simp at hl
    omega
  · unfold zipD at hx
    rw [List.getElem?_map] at hx
    cases hd : (ds.zip es')[i]? with
    | none => rw [hd] at hx; cases hx
    | some d =>
      rw [hd] at hx
      cases hx
      obtain ⟨d1, d2⟩ := d
      rw [List.getElem?_zip_eq_some] at hd
      obtain ⟨w1, hw1, hp1⟩ := dpAll_get q2 hd.1
      obtain ⟨w2, hw2, hp2⟩ := dpAll_get q2' hd.2
      refine ⟨⟨ws, ws', w1, w2, q1, q1', hw1, hw2⟩, fun v H'' y => ?_⟩
      obtain ⟨T, y1, y2, rfl, nT, rfl, f1, f2⟩ := y
      cases hw1.symm.trans (f1 ws q1)
      cases hw2.symm.trans (f2 ws' q1')
      refine ⟨upd F' T (.tup [w1, w2]), ⟨R'.sameNew _ nT, [], by simp⟩, R'.new _ nT, itm_tup.mpr ⟨T, _, rfl, upd_same, ?_⟩⟩
      exact .cons (dp_mono (R'.sameNew _ nT) hp1) (.cons (dp_mono (R'.sameNew _ nT) hp2) .nil)
def enumD (ds : List PyData) : List Itm := ((List.range ds.length).zip ds).map fun q => .fz (.tuple [.int (q.1 : Nat), q.2])
theorem itv_enum (bt : Bt X "enumerate") (ha : EV X Γ γ a ra γ1) (h1 : Rdb γ1 ra (.list ds)) (hs : starEach [a] X.env = [(false, eval a X.env)] := by rfl) :
    ITV X Γ γ (.Tuple elts kk tpos) (.Call (.Name "enumerate" p) [a] [] pos) (enumD ds) (fun g => Rdb g ra (.list ds)) γ1 := fun F as σ H R E Q q => by
  refine ⟨_, pi_enum bt.gl bt.mg (pa_cons pe_wp pa_nil hs) hs, ha.go R E fun v F1 as1 H1 x1 R1 i1 => ?_⟩
  obtain ⟨l, us, rfl, p1, p2⟩ := h1.list R1 i1
  refine ⟨l, us, rfl, p1, q _ F1 as1 H1 x1 R1 fun i F' as' γ' H' x' R' st => ?_⟩
  obtain ⟨m, ws, e1, q1, q2⟩ := st.list R' (itm_mono x' i1)
  cases e1
  have l1 := dpAll_length q2
  refine ⟨fun hl => ?_, fun x hx => ?_⟩
  · refine ⟨ws, q1, ?_⟩
    unfold enumD at hl
    simp at hl
    omega
  · unfold enumD at hx
    rw [List.getElem?_map] at hx
    cases hd : ((List.range ds.length).zip ds)[i]? with
    | none => rw [hd] at hx; cases hx
    | some d =>
      rw [hd] at hx
      cases hx
      obtain ⟨d1, d2⟩ := d
      rw [List.getElem?_zip_eq_some] at hd
      have hi : d1 = i := by
        obtain ⟨_, h⟩ := List.getElem?_eq_some_iff.mp hd.1
        simp at h
        exact h.symm
      subst hi
      obtain ⟨w2, hw2, hp2⟩ := dpAll_get q2 hd.2
      refine ⟨⟨ws, w2, q1, hw2⟩, fun v H'' y => ?_⟩
      obtain ⟨T, y2, rfl, nT, rfl, f2⟩ := y
      cases hw2.symm.trans (f2 ws q1)
      refine ⟨upd F' T (.tup [.int (d1 : Nat), w2]), ⟨R'.sameNew _ nT, [], by simp⟩, R'.new _ nT, itm_tup.mpr ⟨T, _, rfl, upd_same, ?_⟩⟩
      exact .cons (.int _) (.cons (dp_mono (R'.sameNew _ nT) hp2) .nil)
end
end PL

namespace PL
open PySem PySem.Spec PyProof.Rows L2

/-! ### a comprehension's block -/
def Blk (X : Cx) (scope : Scope) (X' : Cx) : Prop := ∃ s H C cl fp, X' = X.blk s H scope (compEnvC scope cl C X.env) fp
theorem relabel_cap {env : Env} (hk : env.scope.kind = .function) : ∀ {names : List (Str × NameKind)} {x : Str}, names.lookup x = some .free → env.kindOf x = some .cell →
    (names.map fun (n, k) => if (k == NameKind.free && env.scope.kind == .function && env.kindOf n == some .cell) then (n, NameKind.cell) else (n, k)).lookup x = some .cell
  | [], _, h, _ => by simp at h
  | (n, k₀) :: r, x, h, hc => by
    have ih := @relabel_cap env hk r x
    show List.lookup x ((if (k₀ == NameKind.free && env.scope.kind == .function && env.kindOf n == some .cell) = true then (n, NameKind.cell) else (n, k₀)) :: (r.map _)) = some .cell
    cases hx : x == n with
    | true =>
      have e : x = n := by simpa using hx
      subst e
      simp only [List.lookup_cons, hx] at h
      cases h
      have : (NameKind.free == NameKind.free && env.scope.kind == .function && env.kindOf x == some .cell) = true := by rw [hk, hc]; rfl
      rw [if_pos this]
      simp only [List.lookup_cons, hx]
    | false =>
      simp only [List.lookup_cons, hx] at h
      by_cases hq : (k₀ == NameKind.free && env.scope.kind == .function && env.kindOf n == some .cell) = true
      · rw [if_pos hq]; simp only [List.lookup_cons, hx]; exact ih h hc
      · rw [if_neg hq]; simp only [List.lookup_cons, hx]; exact ih h hc
theorem relabel_keep {env : Env} {names : List (Str × NameKind)} {x : Str} {k : NameKind} (hk : k ≠ .free) (h : names.lookup x = some k) :
    (names.map fun (n, k) => if (k == NameKind.free && env.scope.kind == .function && env.kindOf n == some .cell) then (n, NameKind.cell) else (n, k)).lookup x = some k := by
  induction names with
  | nil => simp at h
  | cons a r ih =>
    obtain ⟨n, k₀⟩ := a
    show List.lookup x ((if (k₀ == NameKind.free && env.scope.kind == .function && env.kindOf n == some .cell) = true then (n, NameKind.cell) else (n, k₀)) :: (r.map _)) = some k
    cases hx : x == n with
    | true =>
      simp only [List.lookup_cons, hx] at h
      cases h
      have : ¬ (k == NameKind.free && env.scope.kind == .function && env.kindOf n == some .cell) = true := by simp [hk]
      rw [if_neg this]
      simp only [List.lookup_cons, hx]
    | false =>
      simp only [List.lookup_cons, hx] at h
      by_cases hq : (k₀ == NameKind.free && env.scope.kind == .function && env.kindOf n == some .cell) = true
      · rw [if_pos hq]; simp only [List.lookup_cons, hx]; exact ih h
      · rw [if_neg hq]; simp only [List.lookup_cons, hx]; exact ih h
section
variable {X X' : Cx} {scope : Scope} {x : Str} {i : Nat} {k : NameKind} {S : PSpec}
theorem Blk.cok (b : Blk X scope X') (h : Cok X) (hk : scope.kind = .function) : Cok X' := by
  obtain ⟨s, H, C, cl, fp, rfl⟩ := b
  exact ⟨h.calm, h.nd, hk, h.hu⟩
theorem Blk.own (b : Blk X scope X') (hi : X.N[i]? = some x) (h : scope.names.lookup x = some .local) (d1 : (x == ("__debug__" : Str)) = false) (d2 : (x == ("__classdict__" : Str)) = false) : Nm X' x i .local := by
  obtain ⟨s, H, C, cl, fp, rfl⟩ := b
  exact ⟨⟨hi, relabel_keep (by decide) h, .inl rfl, d1, d2⟩, .inr rfl⟩
theorem Blk.ownC (b : Blk X scope X') (hi : X.N[i]? = some x) (h : scope.names.lookup x = some .cell) (d1 : (x == ("__debug__" : Str)) = false) (d2 : (x == ("__classdict__" : Str)) = false) : Nm X' x i .cell := by
  obtain ⟨s, H, C, cl, fp, rfl⟩ := b
  exact ⟨⟨hi, relabel_keep (by decide) h, .inr rfl, d1, d2⟩, .inl (by show (scope.names.lookup x == some .cell) = true; rw [h]; rfl)⟩
theorem Blk.cap (b : Blk X scope X') (hX : Cok X) (n : Nr X x i .cell) (h : scope.names.lookup x = some .free) : Nr X' x i .cell := by
  obtain ⟨s, H, C, cl, fp, rfl⟩ := b
  exact ⟨n.ix, relabel_cap hX.kind h n.kd, .inr rfl, n.d1, n.d2⟩
theorem Blk.bt (b : Blk X scope X') (n : X.mg x = none) (h : scope.names.lookup x = some .globalImplicit) : Bt X' x := by
  obtain ⟨s, H, C, cl, fp, rfl⟩ := b
  exact ⟨relabel_keep (by decide) h, n⟩
theorem Blk.cal (b : Blk X scope X') (n : Cal X x S) (h : scope.names.lookup x = some .globalImplicit) : Cal X' x S := by
  obtain ⟨s, H, C, cl, fp, rfl⟩ := b
  exact ⟨n.ex, relabel_keep (by decide) h, n.d1⟩
end
/-- the slots of the block's own names forgotten -/
def wipeS (Γ : Slots) : List Nat → Slots
  | [] => Γ
  | v :: vs => (wipeS Γ vs).set v none
theorem env_wipe {K F as} {Γ : Slots} {σ : L2.St} (h : EnvR K F as Γ σ) : ∀ vs, EnvR K F as (wipeS Γ vs) (wipe σ vs)
  | [] => h
  | v :: vs => (env_wipe h vs).unset
theorem wipe_at (σ : L2.St) : ∀ (vs : List Nat) (j : Nat), (wipe σ vs)[j]? = if j ∈ vs ∧ j < σ.length then some none else σ[j]?
  | [], j => by simp [wipe]
  | v :: vs, j => by
    unfold wipe
    by_cases hj : v = j
    · subst hj
      by_cases hl : v < σ.length
      · rw [List.getElem?_set_self (by rw [wipe_length]; exact hl)]
        simp [hl]
      · rw [List.getElem?_eq_none (by rw [List.length_set, wipe_length]; omega), List.getElem?_eq_none (by omega)]
        simp [hl]
    · rw [List.getElem?_set_ne hj, wipe_at σ vs j]
      simp [Ne.symm hj]
theorem wipe_but {σ σ' : L2.St} {ws vs : List Nat} (b : But ws (wipe σ vs) σ') (h : ∀ j ∈ ws, j ∈ vs) : wipe σ' vs = wipe σ vs := by
  apply List.ext_getElem?
  intro j
  have hl := b.1
  rw [wipe_length] at hl
  rw [wipe_at, wipe_at, hl]
  by_cases hj : j ∈ vs ∧ j < σ.length
  · rw [if_pos hj, if_pos hj]
  · rw [if_neg hj, if_neg hj]
    by_cases hw : j ∈ ws
    · have : ¬ j < σ.length := fun q => hj ⟨h j hw, q⟩
      rw [List.getElem?_eq_none (by omega), List.getElem?_eq_none (by omega)]
    · rw [b.2 j hw, wipe_at, if_neg hj]

def wpTs (X : Cx) (ifs : List Expr) : TT := fun σ H Q => ∃ t, PTs X ifs t ∧ t σ H Q
def TVs (X : Cx) (Γ : Slots) (γ : Cells) (ifs : List Expr) (k : Bool) (γ' : Cells) : Prop :=
  ∀ F as σ H, Rep X.K F as γ H → EnvR X.K F as Γ σ → ∀ Q : Bool → Hp → Prop, (∀ F' as' H', Ext F as F' as' → Rep X.K F' as' γ' H' → Q k H') → wpTs X ifs σ H Q
section
variable {X : Cx} {Γ : Slots} {γ γ1 : Cells} {c : Expr} {k : Bool} {ifs : List Expr}
theorem pts_wp : PTs X ifs (wpTs X ifs) := ⟨fun pins s σ H Q I ⟨t, h, q⟩ => h.run pins s σ H Q I q⟩
theorem tvs_nil : TVs X Γ γ [] true γ := fun F as σ H R E Q q => ⟨_, pts_nil, q F as H (Ext.refl F as) R⟩
theorem tvs_one (h : TV X Γ γ c k γ1) : TVs X Γ γ [c] k γ1 := fun F as σ H R E Q q => ⟨_, pts_one pt_wp, h F as σ H R E Q q⟩
end
/-! ### list comprehensions -/
section
variable {X : Cx} {Γ : Slots} {γ γ1 : Cells} {tg it elt : Expr} {ifs : List Expr} {scope : Scope} {own : List (Str × Nat)} {pos : Pos} {xs : List Itm} {stab : Cells → Prop} {P : EPost}
/-- the block's readings, for every block -/
def wbE (X : Cx) (scope : Scope) (e : Expr) : TE := fun σ H Q => ∀ X', Blk X scope X' → wpE X' e σ H Q
def wbT (X : Cx) (scope : Scope) (e : List Expr) : TT := fun σ H Q => ∀ X', Blk X scope X' → wpTs X' e σ H Q
def wbG (X : Cx) (scope : Scope) (e : Expr) : TG := fun v σ H Q => ∀ X', Blk X scope X' → wpG X' e v σ H Q
theorem lc_reads (hi : ITV X Γ γ tg it xs stab γ1) (Pv : Nat → List Itm → Cells → Prop) (h0 : Pv 0 [] γ1) (hst : ∀ i acc g, i ≤ xs.length → Pv i acc g → stab (g ++ [.lst acc])) (hlen : ∀ i acc g, Pv i acc g → g.length = γ1.length ∧ acc.length ≤ i)
    (hsz : xs.length ≤ 1000000)
    (hb : ∀ i x acc g, xs[i]? = some x → Pv i acc g → ∃ Γ2 ws k g2, (∀ j ∈ ws, j ∈ own.map (·.2)) ∧ g2.length = γ1.length ∧ ∀ X', Blk X scope X' →
      GV X' (g ++ [.lst acc]) (wipeS Γ (own.map (·.2))) tg x Γ2 ws ∧ TVs X' Γ2 (g ++ [.lst acc]) ifs k (g2 ++ [.lst acc]) ∧ (k = false → Pv (i + 1) acc g2) ∧
      (k = true → EE X' Γ2 (g2 ++ [.lst acc]) elt fun r g3 => ∃ g', g3 = g' ++ [.lst acc] ∧ Pv (i + 1) (acc ++ [r]) g'))
    {F as σ H} (R : Rep X.K F as γ H) (E : EnvR X.K F as Γ σ) {Q : VK} (q : ∀ D acc g F' as' H', Clo γ1 → as.length ≤ γ1.length → Pv xs.length acc g → Ext F as F' as' → Rep X.K F' as' (g ++ [.lst acc]) H' → as'[γ1.length]? = some D → Q (.ref D) H') :
    tLc (wpI X tg it) (wbG X scope tg) (wbT X scope ifs) (wbE X scope elt) (own.map (·.2)) σ H Q := by
  refine hi F as σ H R E _ fun J F1 as1 H1 x1 R1 hJ D hD => ?_
  obtain ⟨R1', i1'⟩ := newCellL R1 .nil hD
  have l1 : as1.length = γ1.length := R1.len
  have hDat : (as1 ++ [D])[γ1.length]? = some D := by rw [← l1, List.getElem?_append_right (Nat.le_refl _)]; simp
  have x1' : Ext F1 as1 F1 (as1 ++ [D]) := ⟨Same.refl F1, [D], rfl⟩
  -- what holds at turn i
  refine ⟨fun i m H' => m = xs.length - i ∧ i ≤ xs.length ∧ ∃ acc g F' as', Pv i acc g ∧ Ext F1 (as1 ++ [D]) F' as' ∧ Rep X.K F' as' (g ++ [.lst acc]) H', ⟨xs.length, by simp, Nat.zero_le _, [], γ1, F1, as1 ++ [D], h0, Ext.refl _ _, R1'⟩, ?_⟩
  rintro i m H' ⟨rfl, hle, acc, g, F', as', hp, x', R'⟩
  obtain ⟨lg, la⟩ := hlen i acc g hp
  obtain ⟨j1, j2⟩ := hJ i F' as' _ H' (x1'.trans x') R' (hst i acc g hle hp)
  by_cases hlt : i < xs.length
  · obtain ⟨g1, g2⟩ := j2 xs[i] (List.getElem?_eq_getElem hlt)
    refine .inr ⟨g1, fun H'' => ∃ acc g F' as', Pv (i + 1) acc g ∧ Ext F1 (as1 ++ [D]) F' as' ∧ Rep X.K F' as' (g ++ [.lst acc]) H'', fun H'' n => ⟨xs.length - (i + 1), by omega, rfl, hlt, n⟩, fun v H'' y => ?_⟩
    obtain ⟨F'', x'', R'', i''⟩ := g2 v H'' y
    obtain ⟨Γ2, ws, k, c2, hws, lc2, hall⟩ := hb i xs[i] acc g (List.getElem?_eq_getElem hlt) hp
    intro X' hB
    have hK : X'.K = X.K := by obtain ⟨_, _, _, _, _, rfl⟩ := hB; rfl
    refine (hall X' hB).1 F'' as' (wipe σ _) H'' v (hK ▸ R'') (hK ▸ env_wipe (E.mono (((x1.trans x1').trans x').trans x'')) _) (hK ▸ i'') _ fun σ2 E2 b2 => ⟨wipe_but b2 hws, ?_⟩
    rw [hK] at E2
    intro X2 hB2
    have hK2 : X2.K = X.K := by obtain ⟨_, _, _, _, _, rfl⟩ := hB2; rfl
    refine (hall X2 hB2).2.1 F'' as' σ2 H'' (hK2 ▸ R'') (hK2 ▸ E2) _ fun F3 as3 H3 x3 R3 => ?_
    rw [hK2] at R3
    have xx := (x'.trans x'').trans x3
    cases k with
    | false => exact iteF ⟨acc, c2, F3, as3, (hall X2 hB2).2.2.1 rfl, xx, R3⟩
    | true =>
      refine iteT fun X3 hB3 => ?_
      have hK3 : X3.K = X.K := by obtain ⟨_, _, _, _, _, rfl⟩ := hB3; rfl
      refine (hall X3 hB3).2.2.2 rfl F3 as3 σ2 H3 (hK3 ▸ R3) (hK3 ▸ E2.mono x3) _ fun w r g3 F4 as4 H4 hg3 x4 R4 i4 => ?_
      rw [hK3] at R4 i4
      obtain ⟨g', rfl, hp'⟩ := hg3
      obtain ⟨lg', la'⟩ := hlen (i + 1) _ g' hp'
      have hDx : as4[γ1.length]? = some D := (xx.trans x4).get hDat
      have hc : (g' ++ [Cell.lst acc])[γ1.length]? = some (.lst acc) := by rw [← lg', List.getElem?_append_right (Nat.le_refl _)]; simp
      obtain ⟨D', k1, us, k2, k3⟩ := R4.cellAt hc
      rw [hDx] at k1
      cases k1
      have e := itms_length k3
      refine ⟨us, k2, by rw [← e, sizeLine_eq]; omega, acc ++ [r], g', F4, as4, hp', xx.trans x4, ?_⟩
      have R5 := R4.write (cell := .lst (acc ++ [r])) hc (by simp) hDx ⟨_, upd_same, itms_append k3 (.cons i4 .nil)⟩
      have es : (g' ++ [Cell.lst acc]).set γ1.length (.lst (acc ++ [r])) = g' ++ [.lst (acc ++ [r])] := by
        rw [List.set_append_right _ _ (by omega), lg', Nat.sub_self]
        rfl
      rw [es] at R5
      exact R5
  · have e : i = xs.length := by omega
    subst e
    exact .inl ⟨j1 (Nat.le_refl _), q D acc g F' as' H' R1.clo (by rw [← l1]; obtain ⟨_, t, rfl⟩ := x1; simp) hp ((x1.trans x1').trans x') R' (x'.get hDat)⟩
/-- as a value: a cell -/
theorem ee_lcC (hX : Cok X) (ok : BlkOk X.N X.env.scope scope own) (hi : ITV X Γ γ tg it xs stab γ1) (Pv : Nat → List Itm → Cells → Prop) (h0 : Pv 0 [] γ1) (hst : ∀ i acc g, i ≤ xs.length → Pv i acc g → stab (g ++ [.lst acc])) (hlen : ∀ i acc g, Pv i acc g → g.length = γ1.length ∧ acc.length ≤ i)
    (hsz : xs.length ≤ 1000000)
    (hb : ∀ i x acc g, xs[i]? = some x → Pv i acc g → ∃ Γ2 ws k g2, (∀ j ∈ ws, j ∈ own.map (·.2)) ∧ g2.length = γ1.length ∧ ∀ X', Blk X scope X' →
      GV X' (g ++ [.lst acc]) (wipeS Γ (own.map (·.2))) tg x Γ2 ws ∧ TVs X' Γ2 (g ++ [.lst acc]) ifs k (g2 ++ [.lst acc]) ∧ (k = false → Pv (i + 1) acc g2) ∧
      (k = true → EE X' Γ2 (g2 ++ [.lst acc]) elt fun r g3 => ∃ g', g3 = g' ++ [.lst acc] ∧ Pv (i + 1) (acc ++ [r]) g'))
    (hs : ∀ x, foldedSetIterable it X.env x = pure x := by intro _; rfl) :
    EE X Γ γ (.ListComp elt [⟨tg, it, ifs, 0⟩] scope pos) fun r g => r = .cl γ1.length ∧ ∃ acc g', Pv xs.length acc g' ∧ g = g' ++ [.lst acc] := fun F as σ H R E Q q => by
  refine ⟨_, pe_lc (own := own) (wi := wpI X tg it) (g := wbG X scope tg) (tt := wbT X scope ifs) (te := wbE X scope elt) hX.calm hX.nd pi_wp ok (fun s H C cl fp => ⟨fun pins s' σ H v u Q I r h => pg_wp.run pins s' σ H v u Q I r (h _ ⟨s, _, C, cl, fp, rfl⟩)⟩)
    (fun s H C cl fp => ⟨fun pins s' σ H Q I h => pts_wp.run pins s' σ H Q I (h _ ⟨s, _, C, cl, fp, rfl⟩)⟩) (fun s H C cl fp => ⟨fun pins s' σ H Q I h => pe_wp.run pins s' σ H Q I (h _ ⟨s, _, C, cl, fp, rfl⟩)⟩) hs, ?_⟩
  exact lc_reads hi Pv h0 hst hlen hsz hb R E fun D acc g F' as' H' _ _ hp x' R' hD => q (.ref D) (.cl γ1.length) _ F' as' H' ⟨rfl, acc, g, hp, rfl⟩ x' R' (itm_cl.mpr ⟨D, hD, rfl⟩)
/-- as a value: frozen -/
theorem ee_lcF (hX : Cok X) (ok : BlkOk X.N X.env.scope scope own) (hi : ITV X Γ γ tg it xs stab γ1) (Pv : Nat → List Itm → Cells → Prop) (h0 : Pv 0 [] γ1) (hst : ∀ i acc g, i ≤ xs.length → Pv i acc g → stab (g ++ [.lst acc])) (hlen : ∀ i acc g, Pv i acc g → g.length = γ1.length ∧ acc.length ≤ i)
    (hsz : xs.length ≤ 1000000)
    (hfz : ∀ acc g, Pv xs.length acc g → (∃ ds : List PyData, acc = ds.map Itm.fz) ∧ (Clo γ1 → Clo g))
    (hb : ∀ i x acc g, xs[i]? = some x → Pv i acc g → ∃ Γ2 ws k g2, (∀ j ∈ ws, j ∈ own.map (·.2)) ∧ g2.length = γ1.length ∧ ∀ X', Blk X scope X' →
      GV X' (g ++ [.lst acc]) (wipeS Γ (own.map (·.2))) tg x Γ2 ws ∧ TVs X' Γ2 (g ++ [.lst acc]) ifs k (g2 ++ [.lst acc]) ∧ (k = false → Pv (i + 1) acc g2) ∧
      (k = true → EE X' Γ2 (g2 ++ [.lst acc]) elt fun r g3 => ∃ g', g3 = g' ++ [.lst acc] ∧ Pv (i + 1) (acc ++ [r]) g'))
    (hs : ∀ x, foldedSetIterable it X.env x = pure x := by intro _; rfl) :
    EE X Γ γ (.ListComp elt [⟨tg, it, ifs, 0⟩] scope pos) fun r g => ∃ ds : List PyData, r = .fz (.list ds) ∧ Pv xs.length (ds.map Itm.fz) g := fun F as σ H R E Q q => by
  refine ⟨_, pe_lc (own := own) (wi := wpI X tg it) (g := wbG X scope tg) (tt := wbT X scope ifs) (te := wbE X scope elt) hX.calm hX.nd pi_wp ok (fun s H C cl fp => ⟨fun pins s' σ H v u Q I r h => pg_wp.run pins s' σ H v u Q I r (h _ ⟨s, _, C, cl, fp, rfl⟩)⟩)
    (fun s H C cl fp => ⟨fun pins s' σ H Q I h => pts_wp.run pins s' σ H Q I (h _ ⟨s, _, C, cl, fp, rfl⟩)⟩) (fun s H C cl fp => ⟨fun pins s' σ H Q I h => pe_wp.run pins s' σ H Q I (h _ ⟨s, _, C, cl, fp, rfl⟩)⟩) hs, ?_⟩
  refine lc_reads hi Pv h0 hst hlen hsz hb R E fun D acc g F' as' H' hclo hal hp x' R' hD => ?_
  obtain ⟨⟨ds, rfl⟩, hc⟩ := hfz acc g hp
  obtain ⟨lg, _⟩ := hlen _ _ _ hp
  have hcell : (g ++ [Cell.lst (ds.map Itm.fz)])[γ1.length]? = some (.lst (ds.map Itm.fz)) := by rw [← lg, List.getElem?_append_right (Nat.le_refl _)]; simp
  obtain ⟨D', k1, us, k2, k3⟩ := R'.cellAt hcell
  rw [hD] at k1
  cases k1
  obtain ⟨R2, sm⟩ := R'.freeze hcell (by simp) hD k2
  have es : (g ++ [Cell.lst (ds.map Itm.fz)]).set γ1.length .dead = g ++ [.dead] := by
    rw [List.set_append_right _ _ (by omega), lg, Nat.sub_self]
    rfl
  rw [es] at R2
  refine q (.ref D) _ g _ (as'.take g.length) H' ⟨ds, rfl, hp⟩ ⟨x'.1.trans sm, ?_⟩ (R2.cut (hc hclo)) (itm_lst.mpr ⟨D, us, rfl, SqL.of upd_same, dpAll_mono sm (itms_fz k3)⟩)
  obtain ⟨_, tt, rfl⟩ := x'
  rw [List.take_append, List.take_of_length_le (by omega)]
  exact ⟨_, rfl⟩
/-- name = [..], the name a local: the list is stored within the block's frame -/
theorem swf {y : Str} {py : Pos} {l : Nat} {env : Env} {gs : List Comprehension} (hy : env.scope.names.lookup y = some .cell) : swapsWith (.ListComp elt gs scope pos) (some (.Name y py)) l env = pure false := by
  have ky : env.kindOf y = some .cell := hy
  unfold swapsWith
  have e : (some NameKind.cell == some NameKind.local) = false := rfl
  simp only [ky, e, Bool.and_false, Bool.false_and]
theorem swf_line {y : Str} {py : Pos} {l : Nat} {env : Env} {gs : List Comprehension} (hl : (py.line == pos.line) = false) : swapsWith (.ListComp elt gs scope pos) (some (.Name y py)) l env = pure false := by
  unfold swapsWith
  simp only [Expr.pos, hl]
  simp
theorem svs_setLcC {i : Nat} {y : Str} {py spos : Pos} {rest : List Stmt} {R : SE} (hX : Cok X) (n : Nm X y i .local) (hl : (py.line == pos.line) = true) (hany : (scope.names.any fun (n, k) => n == y && (k == .local || k == .cell)) = false) (ok : BlkOk X.N X.env.scope scope own) (hi : ITV X Γ γ tg it xs stab γ1) (Pv : Nat → List Itm → Cells → Prop) (h0 : Pv 0 [] γ1) (hst : ∀ i acc g, i ≤ xs.length → Pv i acc g → stab (g ++ [.lst acc])) (hlen : ∀ i acc g, Pv i acc g → g.length = γ1.length ∧ acc.length ≤ i)
    (hsz : xs.length ≤ 1000000)
    (hb : ∀ i x acc g, xs[i]? = some x → Pv i acc g → ∃ Γ2 ws k g2, (∀ j ∈ ws, j ∈ own.map (·.2)) ∧ g2.length = γ1.length ∧ ∀ X', Blk X scope X' →
      GV X' (g ++ [.lst acc]) (wipeS Γ (own.map (·.2))) tg x Γ2 ws ∧ TVs X' Γ2 (g ++ [.lst acc]) ifs k (g2 ++ [.lst acc]) ∧ (k = false → Pv (i + 1) acc g2) ∧
      (k = true → EE X' Γ2 (g2 ++ [.lst acc]) elt fun r g3 => ∃ g', g3 = g' ++ [.lst acc] ∧ Pv (i + 1) (acc ++ [r]) g'))
    (h : ∀ acc g, Pv xs.length acc g → SVs X (Γ.set i (some (.cl γ1.length))) (g ++ [.lst acc]) rest R)
    (hs : ∀ x, foldedSetIterable it X.env x = pure x := by intro _; rfl) :
    SVs X Γ γ (.Assign [.Name y py] (.ListComp elt [⟨tg, it, ifs, 0⟩] scope pos) spos :: rest) R := svs_cons fun F as σ H D Rp E C => by
  refine ⟨_, ps_setLc (i := i) (own := own) (wi := wpI X tg it) (g := wbG X scope tg) (tt := wbT X scope ifs) (te := wbE X scope elt) hX.calm hX.nd n.ix n.r.kd (sw_true hX.kind n.r.kd hl hany) pi_wp ok (fun s H C cl fp => ⟨fun pins s' σ H v u Q I r h => pg_wp.run pins s' σ H v u Q I r (h _ ⟨s, _, C, cl, fp, rfl⟩)⟩)
    (fun s H C cl fp => ⟨fun pins s' σ H Q I h => pts_wp.run pins s' σ H Q I (h _ ⟨s, _, C, cl, fp, rfl⟩)⟩) (fun s H C cl fp => ⟨fun pins s' σ H Q I h => pe_wp.run pins s' σ H Q I (h _ ⟨s, _, C, cl, fp, rfl⟩)⟩) hs, ?_⟩
  refine lc_reads hi Pv h0 hst hlen hsz hb Rp E fun D' acc g F' as' H' _ _ hp x' R' hD => ?_
  exact C.nx _ _ _ _ _ _ (h acc g hp) x' R' ((E.mono x').set (itm_cl.mpr ⟨D', hD, rfl⟩))
theorem svs_setLcF {i : Nat} {y : Str} {py spos : Pos} {rest : List Stmt} {R : SE} (hX : Cok X) (n : Nm X y i .local) (hl : (py.line == pos.line) = true) (hany : (scope.names.any fun (n, k) => n == y && (k == .local || k == .cell)) = false) (ok : BlkOk X.N X.env.scope scope own) (hi : ITV X Γ γ tg it xs stab γ1) (Pv : Nat → List Itm → Cells → Prop) (h0 : Pv 0 [] γ1) (hst : ∀ i acc g, i ≤ xs.length → Pv i acc g → stab (g ++ [.lst acc])) (hlen : ∀ i acc g, Pv i acc g → g.length = γ1.length ∧ acc.length ≤ i)
    (hsz : xs.length ≤ 1000000)
    (hfz : ∀ acc g, Pv xs.length acc g → (∃ ds : List PyData, acc = ds.map Itm.fz) ∧ (Clo γ1 → Clo g))
    (hb : ∀ i x acc g, xs[i]? = some x → Pv i acc g → ∃ Γ2 ws k g2, (∀ j ∈ ws, j ∈ own.map (·.2)) ∧ g2.length = γ1.length ∧ ∀ X', Blk X scope X' →
      GV X' (g ++ [.lst acc]) (wipeS Γ (own.map (·.2))) tg x Γ2 ws ∧ TVs X' Γ2 (g ++ [.lst acc]) ifs k (g2 ++ [.lst acc]) ∧ (k = false → Pv (i + 1) acc g2) ∧
      (k = true → EE X' Γ2 (g2 ++ [.lst acc]) elt fun r g3 => ∃ g', g3 = g' ++ [.lst acc] ∧ Pv (i + 1) (acc ++ [r]) g'))
    (h : ∀ (ds : List PyData) g, Pv xs.length (ds.map Itm.fz) g → SVs X (Γ.set i (some (.fz (.list ds)))) g rest R)
    (hs : ∀ x, foldedSetIterable it X.env x = pure x := by intro _; rfl) :
    SVs X Γ γ (.Assign [.Name y py] (.ListComp elt [⟨tg, it, ifs, 0⟩] scope pos) spos :: rest) R := svs_cons fun F as σ H D Rp E C => by
  refine ⟨_, ps_setLc (i := i) (own := own) (wi := wpI X tg it) (g := wbG X scope tg) (tt := wbT X scope ifs) (te := wbE X scope elt) hX.calm hX.nd n.ix n.r.kd (sw_true hX.kind n.r.kd hl hany) pi_wp ok (fun s H C cl fp => ⟨fun pins s' σ H v u Q I r h => pg_wp.run pins s' σ H v u Q I r (h _ ⟨s, _, C, cl, fp, rfl⟩)⟩)
    (fun s H C cl fp => ⟨fun pins s' σ H Q I h => pts_wp.run pins s' σ H Q I (h _ ⟨s, _, C, cl, fp, rfl⟩)⟩) (fun s H C cl fp => ⟨fun pins s' σ H Q I h => pe_wp.run pins s' σ H Q I (h _ ⟨s, _, C, cl, fp, rfl⟩)⟩) hs, ?_⟩
  refine lc_reads hi Pv h0 hst hlen hsz hb Rp E fun D' acc g F' as' H' hclo hal hp x' R' hD => ?_
  obtain ⟨⟨ds, rfl⟩, hc⟩ := hfz acc g hp
  obtain ⟨lg, _⟩ := hlen _ _ _ hp
  have hcell : (g ++ [Cell.lst (ds.map Itm.fz)])[γ1.length]? = some (.lst (ds.map Itm.fz)) := by rw [← lg, List.getElem?_append_right (Nat.le_refl _)]; simp
  obtain ⟨D2, k1, us, k2, k3⟩ := R'.cellAt hcell
  rw [hD] at k1
  cases k1
  obtain ⟨R2, sm⟩ := R'.freeze hcell (by simp) hD k2
  have es : (g ++ [Cell.lst (ds.map Itm.fz)]).set γ1.length .dead = g ++ [.dead] := by
    rw [List.set_append_right _ _ (by omega), lg, Nat.sub_self]
    rfl
  rw [es] at R2
  have xx : Ext F as (upd F' D' (.lst us)) (as'.take g.length) := ⟨x'.1.trans sm, by
    obtain ⟨_, tt, rfl⟩ := x'
    rw [List.take_append, List.take_of_length_le (by omega)]
    exact ⟨_, rfl⟩⟩
  exact C.nx _ _ _ _ _ _ (h ds g hp) xx (R2.cut (hc hclo)) ((E.mono xx).set (itm_lst.mpr ⟨D', us, rfl, SqL.of upd_same, dpAll_mono sm (itms_fz k3)⟩))
end
end PL

namespace PL
open PySem PySem.Spec PyProof.Rows L2

/-! ### what follows, in the place of what comes out -/
def AE (X : Cx) (Γ : Slots) (γ : Cells) (es : List Expr) (P : List Itm → Cells → Prop) : Prop :=
  ∀ (F : Hp) (as : List Addr) (σ : L2.St) (H : Hp), Rep X.K F as γ H → EnvR X.K F as Γ σ → ∀ Q : List V → Hp → Prop,
    (∀ vs rs γ' F' as' H', P rs γ' → Ext F as F' as' → Rep X.K F' as' γ' H' → ItmsR X.K F' as' rs vs → Q vs H') → wpA X es σ H Q
def TP (X : Cx) (Γ : Slots) (γ : Cells) (e : Expr) (P : Bool → Cells → Prop) : Prop :=
  ∀ (F : Hp) (as : List Addr) (σ : L2.St) (H : Hp), Rep X.K F as γ H → EnvR X.K F as Γ σ → ∀ Q : Bool → Hp → Prop,
    (∀ k γ' F' as' H', P k γ' → Ext F as F' as' → Rep X.K F' as' γ' H' → Q k H') → wpT X e σ H Q
def wpC (X : Cx) (op : CmpOp) : R2 := fun x y H Q => ∃ t : R2, OpR X (compareOp op) t ∧ t x y H Q
theorem wpC_ok {X : Cx} {op : CmpOp} : OpR X (compareOp op) (wpC X op) := fun pins s σ H x y v u Q I rx ry ⟨t, h, q⟩ => h pins s σ H x y v u Q I rx ry q
section
variable {X : Cx} {Γ : Slots} {γ γ1 γ2 γ3 : Cells} {e a b o c : Expr} {es : List Expr} {rs : List Itm} {r ra rb : Itm} {pos p : Pos} {x : Str} {S : PSpec} {P : EPost} {R : SE} {rest sa sb : List Stmt} {k : Bool} {i j n : Int}
theorem EE.of (h : EV X Γ γ e r γ1) (hp : P r γ1) : EE X Γ γ e P := EE.imp h fun r' g ⟨e1, e2⟩ => by subst e1 e2; exact hp
theorem TP.of {P : Bool → Cells → Prop} (h : TV X Γ γ e k γ1) (hp : P k γ1) : TP X Γ γ e P := fun F as σ H R E Q q => h F as σ H R E Q fun F' as' H' x R' => q k γ1 F' as' H' hp x R'
theorem AE.of {P : List Itm → Cells → Prop} (h : AV X Γ γ es rs γ1) (hp : P rs γ1) : AE X Γ γ es P := fun F as σ H R E Q q => h F as σ H R E Q fun vs F' as' H' x R' i => q vs rs γ1 F' as' H' hp x R' i
theorem ae_nil {P : List Itm → Cells → Prop} (hp : P [] γ) : AE X Γ γ [] P := AE.of av_nil hp
theorem ae_cons {P : List Itm → Cells → Prop} (h : EE X Γ γ e fun r g => AE X Γ g es fun rs g' => P (r :: rs) g') (hs : starEach (e :: es) X.env = (false, eval e X.env) :: starEach es X.env := by rfl) : AE X Γ γ (e :: es) P := fun F as σ H R E Q q =>
  ⟨_, pa_cons pe_wp pa_wp hs, h F as σ H R E _ fun v r g F1 as1 H1 hp x1 R1 i1 => hp F1 as1 σ H1 R1 (E.mono x1) _ fun vs rs g' F2 as2 H2 hp2 x2 R2 i2 => q _ _ g' F2 as2 H2 hp2 (x1.trans x2) R2 (.cons (itm_mono x2 i1) i2)⟩
theorem ee_call' (h : Cal X x S) (ha : AE X Γ γ (e :: es) fun rs g => S rs g P) (he : starEach (e :: es) X.env = (false, eval e X.env) :: starEach es X.env := by rfl) (hpl : (backTo pos (starEach es X.env)).any (·.1) = false := by rfl) :
    EE X Γ γ (.Call (.Name x p) (e :: es) [] pos) P := fun F as σ H R E Q q => by
  obtain ⟨k, ⟨f, fd, ps, G, hm, hk, hb⟩, hr⟩ := h.ex
  refine ⟨_, pe_call G hr h.gl hm hk hb .nil pass0 pa_wp h.d1 he hpl, ?_⟩
  refine ha F as σ H R E _ fun vs rs g F1 as1 H1 hs x1 R1 i1 => ?_
  show spPL X.K S (vs ++ []) H1 Q E0
  rw [List.append_nil]
  exact ⟨F1, as1, g, rs, P, R1, i1, hs, fun v r g F2 as2 H2 hp x2 R2 i2 => q v r g F2 as2 H2 hp (x1.trans x2) R2 i2⟩
/-- two operands, then r -/
theorem ee_op {op : Operator} {t : R2} (ho : OpR X (binaryOp op) t)
    (h : EE X Γ γ a fun ra g1 => EE X Γ g1 b fun rb g2 => ∀ F as H x y, Rep X.K F as g2 H → ItmR X.K F as ra x → ItmR X.K F as rb y → ∀ Q : VK, (∀ v r g3 F' as' H', P r g3 → Ext F as F' as' → Rep X.K F' as' g3 H' → ItmR X.K F' as' r v → Q v H') → t x y H Q) :
    EE X Γ γ (.BinOp a op b pos) P := fun F as σ H R E Q q => by
  refine ⟨_, pe_op ho pe_wp pe_wp, ?_⟩
  refine h F as σ H R E _ fun v ra g1 F1 as1 H1 hp x1 R1 i1 => ?_
  refine hp F1 as1 σ H1 R1 (E.mono x1) _ fun u rb g2 F2 as2 H2 hp2 x2 R2 i2 => ?_
  exact hp2 F2 as2 H2 v u R2 (itm_mono x2 i1) i2 Q fun w r g3 F3 as3 H3 hp3 x3 R3 i3 => q w r g3 F3 as3 H3 hp3 ((x1.trans x2).trans x3) R3 i3
theorem ee_opI {op : Operator} {C : Int → Int → Prop} {f : Int → Int → Int} (ho : OpR X (binaryOp op) (rI C fun i j => .int (f i j)))
    (h : EE X Γ γ a fun ra g1 => ∃ i, ra = .fz (.int i) ∧ EE X Γ g1 b fun rb g2 => ∃ j, rb = .fz (.int j) ∧ C i j ∧ P (.fz (.int (f i j))) g2) : EE X Γ γ (.BinOp a op b pos) P :=
  ee_op ho (EE.imp h fun ra g1 ⟨i, e1, h2⟩ => EE.imp h2 fun rb g2 ⟨j, e2, hc, hp⟩ => fun F as H x y R hx hy Q q => by
    subst e1 e2
    exact ⟨i, j, itm_int.mp hx, itm_int.mp hy, hc, q _ _ _ F as H hp (Ext.refl F as) R (itm_int.mpr rfl)⟩)
theorem ee_opI0 {op : Operator} {f : Int → Int → Int} (ho : OpR X (binaryOp op) (rI0 fun i j => .int (f i j)))
    (h : EE X Γ γ a fun ra g1 => ∃ i, ra = .fz (.int i) ∧ EE X Γ g1 b fun rb g2 => ∃ j, rb = .fz (.int j) ∧ P (.fz (.int (f i j))) g2) : EE X Γ γ (.BinOp a op b pos) P :=
  ee_op ho (EE.imp h fun ra g1 ⟨i, e1, h2⟩ => EE.imp h2 fun rb g2 ⟨j, e2, hp⟩ => fun F as H x y R hx hy Q q => by
    subst e1 e2
    exact ⟨i, j, itm_int.mp hx, itm_int.mp hy, q _ _ _ F as H hp (Ext.refl F as) R (itm_int.mpr rfl)⟩)
theorem ee_add (h : EE X Γ γ a fun ra g1 => ∃ i, ra = .fz (.int i) ∧ EE X Γ g1 b fun rb g2 => ∃ j, rb = .fz (.int j) ∧ P (.fz (.int (i + j))) g2) : EE X Γ γ (.BinOp a .Add b pos) P := ee_opI0 op_add h
theorem ee_sub (h : EE X Γ γ a fun ra g1 => ∃ i, ra = .fz (.int i) ∧ EE X Γ g1 b fun rb g2 => ∃ j, rb = .fz (.int j) ∧ P (.fz (.int (i - j))) g2) : EE X Γ γ (.BinOp a .Sub b pos) P := ee_opI0 op_sub h
theorem ee_mul (h : EE X Γ γ a fun ra g1 => ∃ i, ra = .fz (.int i) ∧ EE X Γ g1 b fun rb g2 => ∃ j, rb = .fz (.int j) ∧ CMulW i j ∧ P (.fz (.int (i * j))) g2) : EE X Γ γ (.BinOp a .Mult b pos) P := ee_opI op_mulW h
theorem ee_mod (h : EE X Γ γ a fun ra g1 => ∃ i, ra = .fz (.int i) ∧ EE X Γ g1 b fun rb g2 => ∃ j, rb = .fz (.int j) ∧ 0 < j ∧ P (.fz (.int (i % j))) g2) : EE X Γ γ (.BinOp a .Mod b pos) P := ee_opI op_mod h
theorem ee_div (h : EE X Γ γ a fun ra g1 => ∃ i, ra = .fz (.int i) ∧ EE X Γ g1 b fun rb g2 => ∃ j, rb = .fz (.int j) ∧ CDivW i j ∧ P (.fz (.int (i / j))) g2) : EE X Γ γ (.BinOp a .FloorDiv b pos) P := ee_opI op_fdivW h
/-- an item of a list or a tuple of frozen things -/
theorem ee_ixL (h : EE X Γ γ a fun ra g1 => EE X Γ g1 b fun rb g2 => ∃ ds i d, Rdb g2 ra (.list ds) ∧ rb = .fz (.int i) ∧ atI ds i = some d ∧ P (.fz d) g2) (hs : PlainIx b := by exact fun _ _ => rfl) : EE X Γ γ (.Subscript a b pos) P := fun F as σ H R E Q q => by
  refine ⟨_, pe_ix ix_list pe_wp pe_wp hs, h F as σ H R E _ fun v ra g1 F1 as1 H1 hp x1 R1 i1 => hp F1 as1 σ H1 R1 (E.mono x1) _ fun u rb g2 F2 as2 H2 hp2 x2 R2 i2 => ?_⟩
  obtain ⟨ds, i, d, hr, rfl, hi, hp3⟩ := hp2
  obtain ⟨l, us, rfl, h1, h2⟩ := hr.list R2 (itm_mono x2 i1)
  obtain ⟨j, hj, hx⟩ := atI_lt hi
  obtain ⟨w, hw, hd⟩ := dpAll_get h2 hj
  exact ⟨l, us, i, w, rfl, itm_int.mp i2, h1, atI_of (dpAll_length h2) hx hw, q _ _ g2 F2 as2 H2 hp3 (x1.trans x2) R2 (.fz hd)⟩
theorem ee_ixT (h : EE X Γ γ a fun ra g1 => EE X Γ g1 b fun rb g2 => ∃ ds i d, ra = .fz (.tuple ds) ∧ rb = .fz (.int i) ∧ atI ds i = some d ∧ P (.fz d) g2) (hs : PlainIx b := by exact fun _ _ => rfl) : EE X Γ γ (.Subscript a b pos) P := fun F as σ H R E Q q => by
  refine ⟨_, pe_ix ix_tup pe_wp pe_wp hs, h F as σ H R E _ fun v ra g1 F1 as1 H1 hp x1 R1 i1 => hp F1 as1 σ H1 R1 (E.mono x1) _ fun u rb g2 F2 as2 H2 hp2 x2 R2 i2 => ?_⟩
  obtain ⟨ds, i, d, rfl, rfl, hi, hp3⟩ := hp2
  obtain ⟨l, us, rfl, h1, h2⟩ := itm_tup.mp (itm_mono x2 i1)
  obtain ⟨j, hj, hx⟩ := atI_lt hi
  obtain ⟨w, hw, hd⟩ := dpAll_get h2 hj
  exact ⟨l, us, i, w, rfl, itm_int.mp i2, (SqT.of (R2.fr _ _ h1)), atI_of (dpAll_length h2) hx hw, q _ _ g2 F2 as2 H2 hp3 (x1.trans x2) R2 (.fz hd)⟩
/-- displays -/
theorem ee_tup {kk : Nat} (h : AE X Γ γ es fun rs g => ∃ ds : List PyData, rs = ds.map Itm.fz ∧ ds.length ≤ 1000 ∧ P (.fz (.tuple ds)) g) : EE X Γ γ (.Tuple es kk pos) P := fun F as σ H R E Q q => by
  refine ⟨_, pe_tup pa_wp, ?_⟩
  refine h F as σ H R E _ fun vs rs g F1 as1 H1 hp x1 R1 i1 => ?_
  obtain ⟨ds, rfl, hl, hp⟩ := hp
  have l : vs.length = ds.length := by have := itms_length i1; simpa using this.symm
  refine ⟨by rw [l]; exact Nat.le_of_lt (small1000 hl), fun p hp' => q _ _ g (upd F1 p (.tup vs)) as1 _ hp ?_ (R1.new _ hp') ?_⟩
  · exact x1.trans ⟨R1.sameNew _ hp', [], by simp⟩
  · exact itm_tup.mpr ⟨p, vs, rfl, upd_same, dpAll_mono (R1.sameNew _ hp') (itms_fz i1)⟩
theorem ee_lst (h : AE X Γ γ es fun rs g => ∃ ds : List PyData, rs = ds.map Itm.fz ∧ ds.length ≤ 1000 ∧ P (.fz (.list ds)) g) : EE X Γ γ (.List es pos) P := fun F as σ H R E Q q => by
  refine ⟨_, pe_lst pa_wp, ?_⟩
  refine h F as σ H R E _ fun vs rs g F1 as1 H1 hp x1 R1 i1 => ?_
  obtain ⟨ds, rfl, hl, hp⟩ := hp
  have l : vs.length = ds.length := by have := itms_length i1; simpa using this.symm
  refine ⟨by rw [l]; exact Nat.le_of_lt (small1000 hl), fun p hp' => q _ _ g (upd F1 p (.lst vs)) as1 _ hp ?_ (R1.new _ hp') ?_⟩
  · exact x1.trans ⟨R1.sameNew _ hp', [], by simp⟩
  · exact itm_lst.mpr ⟨p, vs, rfl, SqL.of upd_same, dpAll_mono (R1.sameNew _ hp') (itms_fz i1)⟩
theorem ee_tupP {kk : Nat} (h : AE X Γ γ es fun rs g => rs.length ≤ 1000 ∧ P (.tp rs) g) : EE X Γ γ (.Tuple es kk pos) P := fun F as σ H R E Q q => by
  refine ⟨_, pe_tup pa_wp, ?_⟩
  refine h F as σ H R E _ fun vs rs g F1 as1 H1 hp x1 R1 i1 => ?_
  obtain ⟨hl, hp⟩ := hp
  have l := itms_length i1
  refine ⟨by rw [← l]; exact Nat.le_of_lt (small1000 hl), fun p hp' => ?_⟩
  have x2 : Ext F1 as1 (upd F1 p (.tup vs)) as1 := ⟨R1.sameNew _ hp', [], by simp⟩
  exact q _ _ g (upd F1 p (.tup vs)) as1 _ hp (x1.trans x2) (R1.new _ hp') (.tp upd_same (itms_mono x2 i1))
/-- append -/
theorem ee_append {apos : Pos} (h : EE X Γ γ o fun ro g1 => ∃ cc ys, ro = .cl cc ∧ g1[cc]? = some (.lst ys) ∧ EE X Γ g1 e fun r g2 => ∃ xs, g2[cc]? = some (.lst xs) ∧ xs.length ≤ 1000000 ∧ P (.fz .none) (g2.set cc (.lst (xs ++ [r]))))
    (hbase : attributeBase o "append" X.env (eval o X.env) = eval o X.env := by rfl)
    (hfew : ((backTo pos (starEach [e] X.env)).all (fun x => !x.1) && (backToKw pos (keywordEach [] X.env)).all (fun x => x.1.isSome) && decide ([e].length + ([] : List Keyword).length + (if ([] : List Keyword).isEmpty then 0 else 1) < 30)) = true := by rfl)
    (hline : (apos.endLine == pos.line) = true := by rfl) (hs : starEach [e] X.env = (false, eval e X.env) :: starEach [] X.env := by rfl) :
    EE X Γ γ (.Call (.Attribute o "append" apos) [e] [] pos) P := fun F as σ H R E Q q => by
  refine ⟨_, pe_bm PySem.F.plainAttrs_list PySem.F.slot_list_append PySem.F.type_list_append mt_append pe_wp (pa_cons pe_wp pa_nil hs) hbase hfew hline hs rfl, ?_⟩
  refine h F as σ H R E _ fun v ro g1 F1 as1 H1 hp x1 R1 i1 => ?_
  obtain ⟨cc, ys, rfl, h1, he⟩ := hp
  obtain ⟨l, hl1, rfl⟩ := itm_cl.mp i1
  obtain ⟨l1, k1, us, k2, k3⟩ := R1.cellAt h1
  rw [hl1] at k1
  cases k1
  refine ⟨.inl ⟨rfl, us, SqL.of k2⟩, ?_⟩
  refine he F1 as1 σ H1 R1 (E.mono x1) _ fun u r g2 F2 as2 H2 hp2 x2 R2 i2 => ?_
  obtain ⟨xs, h2, hl, hp⟩ := hp2
  have hl2 := x2.get hl1
  obtain ⟨l2, k1, us2, k4, k5⟩ := R2.cellAt h2
  rw [hl2] at k1
  cases k1
  have e := itms_length k5
  refine ⟨l, us2, u, rfl, rfl, k4, by rw [← e, sizeLine_eq]; omega, ?_⟩
  exact q _ _ _ F2 as2 _ hp (x1.trans x2) (R2.write h2 (by simp) hl2 ⟨_, upd_same, itms_append k5 (.cons i2 .nil)⟩) (itm_non.mpr rfl)
/-- comparisons, in tests -/
theorem tp_cmp {op : CmpOp} {P : Bool → Cells → Prop} (h : EE X Γ γ a fun ra g1 => EE X Γ g1 b fun rb g2 => ∃ k, CmpR X op g2 ra rb k ∧ P k g2) (hm : behindInMarks op b = false := by first | exact nomark _ | rfl) : TP X Γ γ (.Compare a [op] [b] pos) P := fun F as σ H R E Q q => by
  refine ⟨_, pt_cmpR (wpC_ok (X := X) (op := op)) pe_wp pe_wp hm, ?_⟩
  refine h F as σ H R E _ fun v ra g1 F1 as1 H1 hp x1 R1 i1 => ?_
  refine hp F1 as1 σ H1 R1 (E.mono x1) _ fun u rb g2 F2 as2 H2 hp2 x2 R2 i2 => ?_
  obtain ⟨k, ⟨t, ho, hr⟩, hp⟩ := hp2
  exact ⟨t, ho, hr F2 as2 H2 v u R2 (itm_mono x2 i1) i2 _ ⟨k, rfl, q k g2 F2 as2 H2 hp (x1.trans x2) R2⟩⟩
theorem ee_cmp {op : CmpOp} (h : EE X Γ γ a fun ra g1 => EE X Γ g1 b fun rb g2 => ∃ k, CmpR X op g2 ra rb k ∧ P (.fz (.bool k)) g2) (hm : behindInMarks op b = false := by first | exact nomark _ | rfl) : EE X Γ γ (.Compare a [op] [b] pos) P := fun F as σ H R E Q q => by
  refine ⟨_, pe_cmpR (wpC_ok (X := X) (op := op)) pe_wp pe_wp hm, ?_⟩
  refine h F as σ H R E _ fun v ra g1 F1 as1 H1 hp x1 R1 i1 => ?_
  refine hp F1 as1 σ H1 R1 (E.mono x1) _ fun u rb g2 F2 as2 H2 hp2 x2 R2 i2 => ?_
  obtain ⟨k, ⟨t, ho, hr⟩, hp⟩ := hp2
  exact ⟨t, ho, hr F2 as2 H2 v u R2 (itm_mono x2 i1) i2 _ (q _ _ g2 F2 as2 H2 hp (x1.trans x2) R2 (itm_bl.mpr rfl))⟩
/-- if, by what follows -/
theorem svs_ifP (h : TP X Γ γ c fun k g => (k = true → SVs X Γ g sa (R.then X rest)) ∧ (k = false → SVs X Γ g sb (R.then X rest))) : SVs X Γ γ (.If c sa sb pos :: rest) R :=
  svs_cons fun F as σ H D Rp E C => ⟨_, ps_if pt_wp pss_wp pss_wp, h F as σ H Rp E _ fun k g F1 as1 H1 hp x1 R1 => by
    cases k with
    | true => exact iteT (hp.1 rfl F1 as1 σ H1 D R1 (E.mono x1) (C.mono x1))
    | false => exact iteF (hp.2 rfl F1 as1 σ H1 D R1 (E.mono x1) (C.mono x1))⟩
theorem svs_setE {x : Str} {i : Nat} {k : NameKind} {p' : Pos} (hX : Cok X) (n : Nm X x i k) (he : EE X Γ γ e fun r g => SVs X (Γ.set i (some r)) g rest R) (hs : swapsWith e (some (.Name x p')) pos.line X.env = pure false := by rfl) : SVs X Γ γ (.Assign [.Name x p'] e pos :: rest) R :=
  svs_cons (sv_set hX n he (fun _ _ h => h) hs)
theorem svs_exprE (he : EE X Γ γ e fun _ g => SVs X Γ g rest R) (hs : swapsWith e none pos.line X.env = pure false := by rfl) : SVs X Γ γ (.Expr e pos :: rest) R := svs_expr he (fun _ _ h => h) hs
theorem svs_retE (he : EE X Γ γ e R.rt) : SVs X Γ γ (.Return (some e) pos :: rest) R := svs_ret he fun _ _ h => h
theorem svs_asgE {tg : Expr} (he : EE X Γ γ e fun r g => ∃ Γ' ws, GV X g Γ tg r Γ' ws ∧ SVs X Γ' g rest R) (hs : swapsWithSole [tg] e pos.line X.env = pure false := by rfl) (hw : swappedStores [tg] e X.env = pure none := by rfl)
    (h1 : (assignEach [tg] X.env).map (·.2) = [assign tg X.env] := by rfl) : SVs X Γ γ (.Assign [tg] e pos :: rest) R := svs_cons (sv_asg he (fun _ _ h => h) hs hw h1)
end
end PL

namespace PL
open PySem PySem.Spec PyProof.Rows L2

/-! ### dicts in cells, keys ints and texts -/
def keyD : PyData → Option Key
  | .int i => some (.inl i)
  | .str s => some (.inr s)
  | _ => none
theorem keyD_v {K F v d k} (h : keyD d = some k) (r : Dq K F v d) : v = kV k := by
  cases r <;> simp [keyD] at h <;> subst h <;> rfl
section
variable {κ : Type} [DecidableEq κ]
def valI (kvs : List (κ × Itm)) (k : κ) : Option Itm := (kvs.find? fun kv => decide (kv.1 = k)).map (·.2)
def putI (kvs : List (κ × Itm)) (k : κ) (v : Itm) : List (κ × Itm) :=
  if kvs.any (fun kv => decide (kv.1 = k)) then kvs.map fun kv => if kv.1 = k then (kv.1, v) else kv else kvs ++ [(k, v)]
def dropI (kvs : List (κ × Itm)) (k : κ) : List (κ × Itm) := kvs.filter fun kv => decide (kv.1 ≠ k)
variable {K : PySem.W.Frag} {F : Hp} {as : List Addr}
abbrev PrI (K : PySem.W.Frag) (F : Hp) (as : List Addr) (κ : Type) : List (κ × Itm) → List (κ × V) → Prop := Paired fun (p : κ × Itm) (q : κ × V) => p.1 = q.1 ∧ ItmR K F as p.2 q.2
theorem pr_val {k : κ} : ∀ {xs : List (κ × Itm)} {ys : List (κ × V)}, PrI K F as κ xs ys → (∀ r, valI xs k = some r → ∃ v, valV ys k = some v ∧ ItmR K F as r v) ∧ (valI xs k = none → valV ys k = none)
  | _, _, .nil => ⟨fun r h => by simp [valI] at h, fun _ => rfl⟩
  | (p1, p2) :: xs, (q1, q2) :: ys, .cons h t => by
    obtain ⟨e, i⟩ := h
    have e : p1 = q1 := e
    subst e
    have ih := pr_val (k := k) t
    unfold valI valV at ih ⊢
    by_cases hk : p1 = k
    · simp only [List.find?_cons, hk, decide_true, Option.map_some]
      exact ⟨fun r h => by cases h; exact ⟨q2, rfl, i⟩, fun h => by cases h⟩
    · simp only [List.find?_cons, hk, decide_false]
      exact ih
theorem pr_any {k : κ} : ∀ {xs : List (κ × Itm)} {ys : List (κ × V)}, PrI K F as κ xs ys → (xs.any fun kv => decide (kv.1 = k)) = ys.any fun kv => decide (kv.1 = k)
  | _, _, .nil => rfl
  | (p1, p2) :: xs, (q1, q2) :: ys, .cons h t => by
    have e : p1 = q1 := h.1
    subst e
    simp only [List.any_cons, pr_any (k := k) t]
theorem pr_map {k : κ} {r : Itm} {v : V} (hr : ItmR K F as r v) : ∀ {xs : List (κ × Itm)} {ys : List (κ × V)}, PrI K F as κ xs ys → PrI K F as κ (xs.map fun kv => if kv.1 = k then (kv.1, r) else kv) (ys.map fun kv => if kv.1 = k then (kv.1, v) else kv)
  | _, _, .nil => .nil
  | (p1, p2) :: xs, (q1, q2) :: ys, .cons h t => by
    have e : p1 = q1 := h.1
    subst e
    refine .cons ?_ (pr_map hr t)
    by_cases hk : p1 = k
    · show (if p1 = k then (p1, r) else (p1, p2)).1 = (if p1 = k then (p1, v) else (p1, q2)).1 ∧ ItmR K F as (if p1 = k then (p1, r) else (p1, p2)).2 (if p1 = k then (p1, v) else (p1, q2)).2
      rw [if_pos hk, if_pos hk]; exact ⟨rfl, hr⟩
    · show (if p1 = k then (p1, r) else (p1, p2)).1 = (if p1 = k then (p1, v) else (p1, q2)).1 ∧ ItmR K F as (if p1 = k then (p1, r) else (p1, p2)).2 (if p1 = k then (p1, v) else (p1, q2)).2
      rw [if_neg hk, if_neg hk]; exact ⟨rfl, h.2⟩
theorem pr_snoc {k : κ} {r : Itm} {v : V} (hr : ItmR K F as r v) : ∀ {xs : List (κ × Itm)} {ys : List (κ × V)}, PrI K F as κ xs ys → PrI K F as κ (xs ++ [(k, r)]) (ys ++ [(k, v)])
  | _, _, .nil => .cons ⟨rfl, hr⟩ .nil
  | _, _, .cons h t => .cons h (pr_snoc hr t)
theorem pr_put {k : κ} {r : Itm} {v : V} {xs : List (κ × Itm)} {ys : List (κ × V)} (h : PrI K F as κ xs ys) (hr : ItmR K F as r v) : PrI K F as κ (putI xs k r) (putK ys k v) := by
  unfold putI putK
  rw [pr_any h]
  split
  · exact pr_map hr h
  · exact pr_snoc hr h
theorem pr_drop {k : κ} : ∀ {xs : List (κ × Itm)} {ys : List (κ × V)}, PrI K F as κ xs ys → PrI K F as κ (dropI xs k) (dropK ys k)
  | _, _, .nil => .nil
  | (p1, p2) :: xs, (q1, q2) :: ys, .cons h t => by
    have e : p1 = q1 := h.1
    subst e
    have ih := pr_drop (k := k) t
    unfold dropI dropK at ih ⊢
    by_cases hk : p1 = k
    · simpa [List.filter_cons, hk] using ih
    · simp only [List.filter_cons, ne_eq, hk, not_false_eq_true, decide_true, if_true]
      exact .cons h ih
theorem pr_length {xs : List (κ × Itm)} {ys : List (κ × V)} (h : PrI K F as κ xs ys) : xs.length = ys.length := Paired.length h
end
section
variable {X : Cx} {Γ : Slots} {γ γ1 γ2 γ3 : Cells} {e a b o i c : Expr} {r ra rb : Itm} {pos p p' : Pos} {R : SE} {rest : List Stmt} {kvs : List (Key × Itm)} {k : Key} {d : PyData} {cc : Nat}
theorem Cok.hu1 (hX : Cok X) : X.A.units + 1 < cLine := by have := hX.hu; omega
/-- the dict at cell cc: what it has at a key -/
theorem dget_of {K F as H v y} (R : Rep K F as γ H) (hc : γ[cc]? = some (.dic kvs)) (iv : ItmR K F as (.cl cc) v) (iy : ItmR K F as (.fz d) y) (hk : keyD d = some k) : ∃ l ks, v = .ref l ∧ H l = some (.dK ks) ∧ DGet H l y (valV ks k) ∧ PrI K F as Key kvs ks := by
  obtain ⟨l, hl, rfl⟩ := itm_cl.mp iv
  obtain ⟨l', h1, ks, h2, h3⟩ := R.cellAt hc
  rw [hl] at h1
  cases h1
  rw [keyD_v hk (itm_fz.mp iy)]
  exact ⟨l, ks, rfl, h2, DGet.k h2, h3⟩
theorem ev_dget (hX : Cok X) (ho : EV X Γ γ o (.cl cc) γ1) (hi : EV X Γ γ1 i (.fz d) γ2) (hc : γ2[cc]? = some (.dic kvs)) (hk : keyD d = some k) (hv : valI kvs k = some r) (hs : NoSl i := by exact fun _ _ => rfl) : EV X Γ γ (.Subscript o i pos) r γ2 := .mk fun F as σ H R E Q q => by
  refine ⟨_, pe_dget hX.hu1 pe_wp pe_wp hs, ho.go R E fun v F1 as1 H1 x1 R1 i1 => hi.go R1 (E.mono x1) fun u F2 as2 H2 x2 R2 i2 => ?_⟩
  obtain ⟨l, ks, rfl, h1, h2, h3⟩ := dget_of R2 hc (itm_mono x2 i1) i2 hk
  obtain ⟨w, hw, hi⟩ := (pr_val h3).1 r hv
  rw [hw] at h2
  exact ⟨l, w, rfl, h2, q w F2 as2 H2 (x1.trans x2) R2 hi⟩
theorem isSome_of {K F as ks} (h3 : PrI K F as Key kvs ks) : (valV ks k).isSome = (valI kvs k).isSome := by
  cases hv : valI kvs k with
  | none => rw [(pr_val h3).2 hv]; rfl
  | some r => obtain ⟨w, hw, _⟩ := (pr_val h3).1 r hv; rw [hw]; rfl
theorem tv_din (hX : Cok X) (hi : EV X Γ γ i (.fz d) γ1) (ho : EV X Γ γ1 o (.cl cc) γ2) (hc : γ2[cc]? = some (.dic kvs)) (hk : keyD d = some k) (h1 : behindInMarks .In o = false := by rfl) : TV X Γ γ (.Compare i [.In] [o] pos) (valI kvs k).isSome γ2 := fun F as σ H R E Q q => by
  refine ⟨_, pt_cmp (pc_din hX.hu1 pe_wp pe_wp) h1, hi.go R E fun v F1 as1 H1 x1 R1 i1 => ho.go R1 (E.mono x1) fun u F2 as2 H2 x2 R2 i2 => ?_⟩
  obtain ⟨l, ks, rfl, h1, h2, h3⟩ := dget_of R2 hc i2 (itm_mono x2 i1) hk
  exact ⟨l, _, rfl, h2, _, rfl, by rw [isSome_of h3]; exact q F2 as2 H2 (x1.trans x2) R2⟩
theorem tv_dnotin (hX : Cok X) (hi : EV X Γ γ i (.fz d) γ1) (ho : EV X Γ γ1 o (.cl cc) γ2) (hc : γ2[cc]? = some (.dic kvs)) (hk : keyD d = some k) (h1 : behindInMarks .NotIn o = false := by rfl) : TV X Γ γ (.Compare i [.NotIn] [o] pos) (!(valI kvs k).isSome) γ2 := fun F as σ H R E Q q => by
  refine ⟨_, pt_cmp (pc_dnotin hX.hu1 pe_wp pe_wp) h1, hi.go R E fun v F1 as1 H1 x1 R1 i1 => ho.go R1 (E.mono x1) fun u F2 as2 H2 x2 R2 i2 => ?_⟩
  obtain ⟨l, ks, rfl, h1, h2, h3⟩ := dget_of R2 hc i2 (itm_mono x2 i1) hk
  exact ⟨l, _, rfl, h2, _, rfl, by rw [isSome_of h3]; exact q F2 as2 H2 (x1.trans x2) R2⟩
theorem ev_din (hX : Cok X) (hi : EV X Γ γ i (.fz d) γ1) (ho : EV X Γ γ1 o (.cl cc) γ2) (hc : γ2[cc]? = some (.dic kvs)) (hk : keyD d = some k) (h1 : behindInMarks .In o = false := by rfl) : EV X Γ γ (.Compare i [.In] [o] pos) (.fz (.bool (valI kvs k).isSome)) γ2 := .mk fun F as σ H R E Q q => by
  refine ⟨_, pe_cmp (pc_din hX.hu1 pe_wp pe_wp) h1, hi.go R E fun v F1 as1 H1 x1 R1 i1 => ho.go R1 (E.mono x1) fun u F2 as2 H2 x2 R2 i2 => ?_⟩
  obtain ⟨l, ks, rfl, h1, h2, h3⟩ := dget_of R2 hc i2 (itm_mono x2 i1) hk
  exact ⟨l, _, rfl, h2, by rw [isSome_of h3]; exact q _ F2 as2 H2 (x1.trans x2) R2 (itm_bl.mpr rfl)⟩
theorem svs_dput (hX : Cok X) (he : EV X Γ γ e r γ1) (ho : EV X Γ γ1 o (.cl cc) γ2) (hi : EV X Γ γ2 i (.fz d) γ3) (hc : γ3[cc]? = some (.dic kvs)) (hk : keyD d = some k) (hl : kvs.length ≤ 1000000) (h : SVs X Γ (γ3.set cc (.dic (putI kvs k r))) rest R)
    (hs : swapsWith e (some (.Subscript o i p')) pos.line X.env = pure false := by rfl) : SVs X Γ γ (.Assign [.Subscript o i p'] e pos :: rest) R := svs_cons fun F as σ H D Rp E C => by
  refine ⟨_, ps_dput hX.hu1 pe_wp pe_wp pe_wp hs, he.go Rp E fun v F1 as1 H1 x1 R1 i1 => ho.go R1 (E.mono x1) fun u F2 as2 H2 x2 R2 i2 => hi.go R2 (E.mono (x1.trans x2)) fun w F3 as3 H3 x3 R3 i3 => ?_⟩
  obtain ⟨l, hl3, rfl⟩ := itm_cl.mp (itm_mono x3 i2)
  obtain ⟨l', h1, ks, h2, h3⟩ := R3.cellAt hc
  rw [hl3] at h1
  cases h1
  rw [keyD_v hk (itm_fz.mp i3)]
  refine ⟨l, _, rfl, DPut.k h2 (by rw [← pr_length h3, sizeLine_eq]; omega), ?_⟩
  exact C.nx _ _ _ _ _ _ h ((x1.trans x2).trans x3) (R3.write hc (by simp) hl3 ⟨_, upd_same, pr_put h3 (itm_mono (x2.trans x3) i1)⟩) (E.mono ((x1.trans x2).trans x3))
/-- a display's pairs -/
def trsOf (X : Cx) : List (Option Expr) → List Expr → List (TE × TE)
  | some k :: ks, v :: vs => (wpE X k, wpE X v) :: trsOf X ks vs
  | _, _ => []
theorem pps_of : ∀ (ks : List (Option Expr)) (vs : List Expr), ks.length = vs.length → ks.all (·.isSome) = true → PPs X pos ks vs (trsOf X ks vs)
  | [], [], _, _ => pps_nil
  | some k :: ks, v :: vs, h1, h2 => pps_cons pe_wp pe_wp (pps_of ks vs (by simpa using h1) (by simpa using h2))
  | [], _ :: _, h, _ => by simp at h
  | _ :: _, [], h, _ => by simp at h
  | none :: _, _ :: _, _, h => by simp at h
abbrev PrV (K : PySem.W.Frag) (F : Hp) (as : List Addr) : List (Key × Itm) → List (V × V) → Prop := Paired fun (p : Key × Itm) (q : V × V) => q.1 = kV p.1 ∧ ItmR K F as p.2 q.2
theorem prv_mono {K F as F' as'} (e : Ext F as F' as') : ∀ {xs ys}, PrV K F as xs ys → PrV K F' as' xs ys
  | _, _, .nil => .nil
  | _, _, .cons h t => .cons ⟨h.1, itm_mono e h.2⟩ (prv_mono e t)
def PV (X : Cx) (Γ : Slots) (γ : Cells) (ks : List (Option Expr)) (vs : List Expr) (prs : List (Key × Itm)) (γ' : Cells) : Prop :=
  ∀ F as σ H, Rep X.K F as γ H → EnvR X.K F as Γ σ → ∀ Q : List (V × V) → Hp → Prop, (∀ ps F' as' H', Ext F as F' as' → Rep X.K F' as' γ' H' → PrV X.K F' as' prs ps → Q ps H') → tPairs (trsOf X ks vs) σ H Q
theorem pv_nil : PV X Γ γ [] [] [] γ := fun F as σ H R E Q q => q [] F as H (Ext.refl F as) R .nil
theorem pv_cons {ke ve : Expr} {ks : List (Option Expr)} {vs : List Expr} {prs : List (Key × Itm)} (hk : EV X Γ γ ke (.fz d) γ1) (hd : keyD d = some k) (hv : EV X Γ γ1 ve r γ2) (hr : PV X Γ γ2 ks vs prs γ3) : PV X Γ γ (some ke :: ks) (ve :: vs) ((k, r) :: prs) γ3 := fun F as σ H R E Q q =>
  hk.go R E fun v F1 as1 H1 x1 R1 i1 => hv.go R1 (E.mono x1) fun u F2 as2 H2 x2 R2 i2 => hr F2 as2 σ H2 R2 (E.mono (x1.trans x2)) _ fun ps F3 as3 H3 x3 R3 i3 => q _ F3 as3 H3 ((x1.trans x2).trans x3) R3 (.cons ⟨keyD_v hd (itm_fz.mp i1), itm_mono x3 i2⟩ i3)
def mergeI (kvs more : List (Key × Itm)) : List (Key × Itm) := more.foldl (fun acc kv => putI acc kv.1 kv.2) kvs
theorem pr_merge {K F as} : ∀ {more : List (Key × Itm)} {rs : List (Key × V)} {kvs : List (Key × Itm)} {ks : List (Key × V)}, PrI K F as Key more rs → PrI K F as Key kvs ks → PrI K F as Key (mergeI kvs more) (mergeK ks rs)
  | _, _, _, _, .nil, h => h
  | (p1, p2) :: xs, (q1, q2) :: ys, kvs, ks, .cons h t, h' => by
    have e : p1 = q1 := h.1
    subst e
    show PrI K F as Key (mergeI (putI kvs p1 p2) xs) (mergeK (putK ks p1 q2) ys)
    exact pr_merge t (pr_put h' h.2)
theorem prv_kvs {K F as} : ∀ {prs : List (Key × Itm)} {ps : List (V × V)}, PrV K F as prs ps → ∃ ks : List (Key × V), ps = ks.map (fun kv => (kV kv.1, kv.2)) ∧ PrI K F as Key prs ks
  | _, _, .nil => ⟨[], rfl, .nil⟩
  | (p1, p2) :: _, (q1, q2) :: _, .cons h t => by
    obtain ⟨ks, rfl, h2⟩ := prv_kvs t
    have e : q1 = kV p1 := h.1
    subst e
    exact ⟨(p1, q2) :: ks, rfl, .cons ⟨rfl, h.2⟩ h2⟩
/-- {k: v, ..}: a cell -/
theorem ev_disp {ks : List (Option Expr)} {vs : List Expr} {prs : List (Key × Itm)} (h : PV X Γ (γ ++ [.dic []]) ks vs prs γ1) (hc : γ1[γ.length]? = some (.dic [])) (h0 : ks ≠ [] := by simp) (hl : ks.length = vs.length := by rfl) (hall : ks.all (·.isSome) = true := by rfl) (h15 : ks.length ≤ 15 := by decide) (hp15 : prs.length ≤ 15 := by first | decide | simp) :
    EV X Γ γ (.Dict ks vs pos) (.cl γ.length) (γ1.set γ.length (.dic (mergeI [] prs))) := .mk fun F as σ H R E Q q => by
  refine ⟨_, pe_disp (pps_of ks vs hl hall) hall hl h0 h15, fun p hp => ?_⟩
  have R1 := R.newCell (cell := .dic []) (o := .dK []) hp ⟨[], upd_same, .nil⟩
  have x1 : Ext F as F (as ++ [p]) := ⟨Same.refl F, [p], rfl⟩
  have hp1 : (as ++ [p])[γ.length]? = some p := by rw [← R.len, List.getElem?_append_right (Nat.le_refl _)]; simp
  refine h F (as ++ [p]) σ _ R1 (E.mono x1) _ fun ps F2 as2 H2 x2 R2 i2 => ?_
  have hp2 := x2.get hp1
  obtain ⟨l', h1, ks', h2, h3⟩ := R2.cellAt hc
  rw [hp2] at h1
  cases h1
  cases h3
  obtain ⟨kv, rfl, hkv⟩ := prv_kvs i2
  refine ⟨h2, kv, rfl, by rw [← pr_length hkv]; exact hp15, ?_⟩
  exact q _ F2 as2 _ (x1.trans x2) (R2.write hc (by simp) hp2 ⟨_, upd_same, pr_merge hkv .nil⟩) (itm_cl.mpr ⟨p, hp2, rfl⟩)
/-- {} -/
theorem ev_dnew : EV X Γ γ (.Dict [] [] pos) (.cl γ.length) (γ ++ [.dic []]) := .mk fun F as σ H R E Q q => by
  refine ⟨_, pe_dnewK, fun p hp => ?_⟩
  have R1 := R.newCell (cell := .dic []) (o := .dK []) hp ⟨[], upd_same, .nil⟩
  exact q _ F (as ++ [p]) _ ⟨Same.refl F, [p], rfl⟩ R1 (itm_cl.mpr ⟨p, by rw [← R.len, List.getElem?_append_right (Nat.le_refl _)]; simp, rfl⟩)
end
end PL

namespace PL
open PySem PySem.Spec PyProof.Rows L2
/-! ### data that may be compared -/
structure Shp (n : Nat) (d : PyData) : Prop where
  lay : d.canLay0 = true
  dep : d.depth ≤ n
theorem Shp.shaped {n : Nat} {d : PyData} (h : Shp n d) (hn : n ≤ 64 := by decide) : SeqAt.shaped d = true := by
  have := h.dep
  show (d.canLay0 && decide (d.depth ≤ 64)) = true
  rw [h.lay, decide_eq_true (by omega)]
  rfl
theorem shpAll {n : Nat} : ∀ {ds : List PyData}, (∀ d ∈ ds, Shp n d) → PyData.canLayAll0 ds = true ∧ PyData.depthAll ds ≤ n
  | [], _ => by simp [PyData.canLayAll0, PyData.depthAll]
  | d :: ds, h => by
    have h1 := h d (by simp)
    have h2 := shpAll (ds := ds) (fun x hx => h x (by simp [hx]))
    simp only [PyData.canLayAll0, PyData.depthAll]
    refine ⟨by rw [h1.lay, h2.1]; rfl, ?_⟩
    have := h1.dep
    omega
theorem shp_int (i : Int) : Shp 0 (.int i) := ⟨rfl, by simp [PyData.depth]⟩
theorem shp_bool (i : Bool) : Shp 0 (.bool i) := ⟨rfl, by simp [PyData.depth]⟩
theorem shp_none : Shp 0 .none := ⟨rfl, by simp [PyData.depth]⟩
theorem Shp.mono {n m : Nat} {d : PyData} (h : Shp n d) (hn : n ≤ m) : Shp m d := ⟨h.lay, Nat.le_trans h.dep hn⟩
theorem shp_list {n : Nat} {ds : List PyData} (h : ∀ d ∈ ds, Shp n d) : Shp (n + 1) (.list ds) := by
  have h1 := shpAll h
  exact ⟨by simp only [PyData.canLay0]; exact h1.1, by simp only [PyData.depth]; omega⟩
theorem shp_tuple {n : Nat} {ds : List PyData} (h : ∀ d ∈ ds, Shp n d) : Shp (n + 1) (.tuple ds) := by
  have h1 := shpAll h
  exact ⟨by simp only [PyData.canLay0]; exact h1.1, by simp only [PyData.depth]; omega⟩
theorem shp_ints (ns : List Int) : Shp 1 (.list (ns.map .int)) := shp_list (n := 0) fun d hd => by
  obtain ⟨i, _, rfl⟩ := List.mem_map.mp hd
  exact shp_int i
theorem eqvAll_map {α : Type} [DecidableEq α] {f : α → PyData} (h : ∀ a b, PyData.eqv (f a) (f b) = decide (a = b)) : ∀ xs ys : List α, PyData.eqvAll (xs.map f) (ys.map f) = decide (xs = ys)
  | [], [] => rfl
  | [], _ :: _ => rfl
  | _ :: _, [] => rfl
  | x :: xs, y :: ys => by
    simp only [List.map_cons, PyData.eqvAll, h, eqvAll_map h xs ys]
    by_cases h1 : x = y <;> by_cases h2 : xs = ys <;> simp [h1, h2]
theorem eqv_list {α : Type} [DecidableEq α] {f : α → PyData} (h : ∀ a b, PyData.eqv (f a) (f b) = decide (a = b)) (xs ys : List α) : PyData.eqv (.list (xs.map f)) (.list (ys.map f)) = decide (xs = ys) := by
  simp only [PyData.eqv]; exact eqvAll_map h xs ys
theorem eqv_int (a b : Int) : PyData.eqv (.int a) (.int b) = decide (a = b) := by simp [PyData.eqv, Bool.beq_eq_decide_eq]
theorem eqv_ints (xs ys : List Int) : PyData.eqv (.list (xs.map .int)) (.list (ys.map .int)) = decide (xs = ys) := eqv_list eqv_int xs ys
end PL

namespace PL
open PySem PySem.Spec PyProof.Rows L2
section
variable {X : Cx} {Γ Γ' : Slots} {γ γ1 : Cells} {tg it elt : Expr} {ifs : List Expr} {xs : List Itm} {stab : Cells → Prop} {scope : Scope} {own : List (Str × Nat)} {pos : Pos}
def picked (k : Nat → Bool) (f : Nat → PyData) (n : Nat) : List PyData := ((List.range n).filter k).map f
theorem picked_succ (k : Nat → Bool) (f : Nat → PyData) (n : Nat) : picked k f (n + 1) = if k n then picked k f n ++ [f n] else picked k f n := by
  unfold picked
  rw [List.range_succ, List.filter_append, List.map_append]
  by_cases h : k n = true
  · simp [h]
  · simp [h]
theorem picked_length (k : Nat → Bool) (f : Nat → PyData) (n : Nat) : (picked k f n).length ≤ n := by
  unfold picked
  rw [List.length_map]
  exact Nat.le_trans (List.length_filter_le _ _) (by simp)
theorem fz_inj {ds es : List PyData} (h : ds.map Itm.fz = es.map Itm.fz) : ds = es :=
  (List.map_inj_right (fun a b (h : Itm.fz a = Itm.fz b) => Itm.fz.inj h)).mp h
/-- a comprehension whose parts change nothing -/
theorem ev_lcP (k : Nat → Bool) (f : Nat → PyData) (hX : Cok X) (ok : BlkOk X.N X.env.scope scope own) (hi : ITV X Γ γ tg it xs stab γ1) (hst : ∀ acc, stab (γ1 ++ [.lst acc])) (hsz : xs.length ≤ 1000000)
    (hb : ∀ i x acc, xs[i]? = some x → ∃ Γ2 ws, (∀ j ∈ ws, j ∈ own.map (·.2)) ∧ ∀ X', Blk X scope X' →
      GV X' (γ1 ++ [.lst acc]) (wipeS Γ (own.map (·.2))) tg x Γ2 ws ∧ TVs X' Γ2 (γ1 ++ [.lst acc]) ifs (k i) (γ1 ++ [.lst acc]) ∧ (k i = true → EV X' Γ2 (γ1 ++ [.lst acc]) elt (.fz (f i)) (γ1 ++ [.lst acc])))
    (hs : ∀ x, foldedSetIterable it X.env x = pure x := by intro _; rfl) :
    EV X Γ γ (.ListComp elt [⟨tg, it, ifs, 0⟩] scope pos) (.fz (.list (picked k f xs.length))) γ1 := by
  refine EE.imp (ee_lcF hX ok hi (fun i acc g => g = γ1 ∧ acc = (picked k f i).map Itm.fz) ⟨rfl, rfl⟩ (fun i acc g _ h => h.1 ▸ hst acc) (fun i acc g h => ⟨by rw [h.1], by rw [h.2, List.length_map]; exact picked_length ..⟩) hsz (fun acc g h => ⟨⟨_, h.2⟩, fun c => h.1 ▸ c⟩) ?_ hs) ?_
  · rintro i x acc g hx ⟨rfl, rfl⟩
    obtain ⟨Γ2, ws, h1, h2⟩ := hb i x ((picked k f i).map Itm.fz) hx
    refine ⟨Γ2, ws, k i, g, h1, rfl, fun X' hB => ?_⟩
    obtain ⟨h3, h4, h5⟩ := h2 X' hB
    refine ⟨h3, h4, fun hk => ⟨rfl, by rw [picked_succ, hk]; rfl⟩, fun hk => EE.of (h5 hk) ⟨g, rfl, rfl, by rw [picked_succ, if_pos hk]; simp⟩⟩
  · rintro r g ⟨ds, rfl, rfl, h⟩
    exact ⟨by rw [fz_inj h], rfl⟩
theorem svs_setLcP {i : Nat} {y : Str} {py spos : Pos} {rest : List Stmt} {R : SE} (k : Nat → Bool) (f : Nat → PyData) (hX : Cok X) (n : Nm X y i .local) (hl : (py.line == pos.line) = true) (hany : (scope.names.any fun (n, k) => n == y && (k == .local || k == .cell)) = false) (ok : BlkOk X.N X.env.scope scope own) (hi : ITV X Γ γ tg it xs stab γ1) (hst : ∀ acc, stab (γ1 ++ [.lst acc])) (hsz : xs.length ≤ 1000000)
    (hb : ∀ i x acc, xs[i]? = some x → ∃ Γ2 ws, (∀ j ∈ ws, j ∈ own.map (·.2)) ∧ ∀ X', Blk X scope X' →
      GV X' (γ1 ++ [.lst acc]) (wipeS Γ (own.map (·.2))) tg x Γ2 ws ∧ TVs X' Γ2 (γ1 ++ [.lst acc]) ifs (k i) (γ1 ++ [.lst acc]) ∧ (k i = true → EV X' Γ2 (γ1 ++ [.lst acc]) elt (.fz (f i)) (γ1 ++ [.lst acc])))
    (h : SVs X (Γ.set i (some (.fz (.list (picked k f xs.length))))) γ1 rest R)
    (hs : ∀ x, foldedSetIterable it X.env x = pure x := by intro _; rfl) :
    SVs X Γ γ (.Assign [.Name y py] (.ListComp elt [⟨tg, it, ifs, 0⟩] scope pos) spos :: rest) R := by
  refine svs_setLcF hX n hl hany ok hi (fun i acc g => g = γ1 ∧ acc = (picked k f i).map Itm.fz) ⟨rfl, rfl⟩ (fun i acc g _ h => h.1 ▸ hst acc) (fun i acc g h => ⟨by rw [h.1], by rw [h.2, List.length_map]; exact picked_length ..⟩) hsz (fun acc g h => ⟨⟨_, h.2⟩, fun c => h.1 ▸ c⟩) ?_ ?_ hs
  · rintro i x acc g hx ⟨rfl, rfl⟩
    obtain ⟨Γ2, ws, h1, h2⟩ := hb i x ((picked k f i).map Itm.fz) hx
    refine ⟨Γ2, ws, k i, g, h1, rfl, fun X' hB => ?_⟩
    obtain ⟨h3, h4, h5⟩ := h2 X' hB
    refine ⟨h3, h4, fun hk => ⟨rfl, by rw [picked_succ, hk]; rfl⟩, fun hk => EE.of (h5 hk) ⟨g, rfl, rfl, by rw [picked_succ, if_pos hk]; simp⟩⟩
  · rintro ds g ⟨rfl, hd⟩
    rw [fz_inj hd]
    exact h
theorem picked_all (f : Nat → PyData) (n : Nat) : picked (fun _ => true) f n = (List.range n).map f := by unfold picked; rw [List.filter_eq_self.mpr (by simp)]
/-- one name for the target -/
theorem ev_lcN {y : Str} {py : Pos} {w : Nat} (k : Nat → Bool) (f : Nat → PyData) (hX : Cok X) (ok : BlkOk X.N X.env.scope scope [(y, w)]) (hn : ∀ X', Blk X scope X' → Cok X' ∧ Nm X' y w .local) (hi : ITV X Γ γ (.Name y py) it xs stab γ1) (hst : ∀ acc, stab (γ1 ++ [.lst acc])) (hsz : xs.length ≤ 1000000)
    (hb : ∀ i x acc, xs[i]? = some x → ∀ X', Blk X scope X' → TVs X' (Γ.set w (some x)) (γ1 ++ [.lst acc]) ifs (k i) (γ1 ++ [.lst acc]) ∧ (k i = true → EV X' (Γ.set w (some x)) (γ1 ++ [.lst acc]) elt (.fz (f i)) (γ1 ++ [.lst acc])))
    (hs : ∀ x, foldedSetIterable it X.env x = pure x := by intro _; rfl) :
    EV X Γ γ (.ListComp elt [⟨.Name y py, it, ifs, 0⟩] scope pos) (.fz (.list (picked k f xs.length))) γ1 := by
  refine ev_lcP k f hX ok hi hst hsz (fun i x acc hx => ⟨Γ.set w (some x), [w], by simp, fun X' hB => ⟨?_, hb i x acc hx X' hB⟩⟩) hs
  have := gv_name (γ := γ1 ++ [.lst acc]) (Γ := wipeS Γ ([(y, w)].map (·.2))) (pos := py) (r := x) (hn X' hB).1 (hn X' hB).2
  have e : (wipeS Γ ([(y, w)].map (·.2))).set w (some x) = Γ.set w (some x) := by
    show (Γ.set w none).set w (some x) = _
    rw [List.set_set]
  rw [e] at this
  exact this
theorem svs_setLcN {i : Nat} {z : Str} {pz spos : Pos} {rest : List Stmt} {R : SE} {y : Str} {py : Pos} {w : Nat} (k : Nat → Bool) (f : Nat → PyData) (hX : Cok X) (n : Nm X z i .local) (hl : (pz.line == pos.line) = true) (hany : (scope.names.any fun (n, k) => n == z && (k == .local || k == .cell)) = false) (ok : BlkOk X.N X.env.scope scope [(y, w)]) (hn : ∀ X', Blk X scope X' → Cok X' ∧ Nm X' y w .local) (hi : ITV X Γ γ (.Name y py) it xs stab γ1) (hst : ∀ acc, stab (γ1 ++ [.lst acc])) (hsz : xs.length ≤ 1000000)
    (hb : ∀ i x acc, xs[i]? = some x → ∀ X', Blk X scope X' → TVs X' (Γ.set w (some x)) (γ1 ++ [.lst acc]) ifs (k i) (γ1 ++ [.lst acc]) ∧ (k i = true → EV X' (Γ.set w (some x)) (γ1 ++ [.lst acc]) elt (.fz (f i)) (γ1 ++ [.lst acc])))
    (h : SVs X (Γ.set i (some (.fz (.list (picked k f xs.length))))) γ1 rest R)
    (hs : ∀ x, foldedSetIterable it X.env x = pure x := by intro _; rfl) :
    SVs X Γ γ (.Assign [.Name z pz] (.ListComp elt [⟨.Name y py, it, ifs, 0⟩] scope pos) spos :: rest) R := by
  refine svs_setLcP k f hX n hl hany ok hi hst hsz (fun i x acc hx => ⟨Γ.set w (some x), [w], by simp, fun X' hB => ⟨?_, hb i x acc hx X' hB⟩⟩) h hs
  have := gv_name (γ := γ1 ++ [.lst acc]) (Γ := wipeS Γ ([(y, w)].map (·.2))) (pos := py) (r := x) (hn X' hB).1 (hn X' hB).2
  have e : (wipeS Γ ([(y, w)].map (·.2))).set w (some x) = Γ.set w (some x) := by
    show (Γ.set w none).set w (some x) = _
    rw [List.set_set]
  rw [e] at this
  exact this
/-- two names for the target, a pair of frozen data for the item -/
theorem ev_lc2 {y y' : Str} {py py' ptp : Pos} {w w' kk : Nat} {ds es : List PyData} (k : Nat → Bool) (f : Nat → PyData) (hX : Cok X) (hw : w ≠ w') (ok : BlkOk X.N X.env.scope scope [(y, w), (y', w')]) (hn : ∀ X', Blk X scope X' → Cok X' ∧ Nm X' y w .local ∧ Nm X' y' w' .local) (hi : ITV X Γ γ (.Tuple [.Name y py, .Name y' py'] kk ptp) it (zipD ds es) stab γ1) (hst : ∀ acc, stab (γ1 ++ [.lst acc])) (hsz : (zipD ds es).length ≤ 1000000)
    (hb : ∀ i d e acc, ds[i]? = some d → es[i]? = some e → ∀ X', Blk X scope X' → TVs X' ((Γ.set w (some (.fz d))).set w' (some (.fz e))) (γ1 ++ [.lst acc]) ifs (k i) (γ1 ++ [.lst acc]) ∧ (k i = true → EV X' ((Γ.set w (some (.fz d))).set w' (some (.fz e))) (γ1 ++ [.lst acc]) elt (.fz (f i)) (γ1 ++ [.lst acc])))
    (hs : ∀ x, foldedSetIterable it X.env x = pure x := by intro _; rfl) :
    EV X Γ γ (.ListComp elt [⟨.Tuple [.Name y py, .Name y' py'] kk ptp, it, ifs, 0⟩] scope pos) (.fz (.list (picked k f (zipD ds es).length))) γ1 := by
  refine ev_lcP k f hX ok hi hst hsz (fun i x acc hx => ?_) hs
  have hx2 : ∃ d e, ds[i]? = some d ∧ es[i]? = some e ∧ x = .fz (.tuple [d, e]) := by
    unfold zipD at hx
    rw [List.getElem?_map] at hx
    cases h : (ds.zip es)[i]? with
    | none => rw [h] at hx; cases hx
    | some q =>
      rw [h] at hx
      obtain ⟨q1, q2⟩ := q
      rw [List.getElem?_zip_eq_some] at h
      exact ⟨q1, q2, h.1, h.2, (Option.some.inj hx).symm⟩
  obtain ⟨d, e, h1, h2, rfl⟩ := hx2
  refine ⟨(Γ.set w (some (.fz d))).set w' (some (.fz e)), [w, w'], by simp, fun X' hB => ⟨?_, hb i d e acc h1 h2 X' hB⟩⟩
  obtain ⟨hX', n1, n2⟩ := hn X' hB
  have G := gv_tup (kk := kk) (n := 2) (pos := ptp) (γ := γ1 ++ [.lst acc]) (Γ := wipeS Γ ([(y, w), (y', w')].map (·.2))) (ds := [d, e]) hX' (gvs_cons (gv_name (pos := py) hX' n1) (gvs_cons (gv_name (pos := py') hX' n2) gvs_nil)) rfl
  have e2 : ((wipeS Γ ([(y, w), (y', w')].map (·.2))).set w (some (.fz d))).set w' (some (.fz e)) = (Γ.set w (some (.fz d))).set w' (some (.fz e)) := by
    show ((((Γ.set w' none).set w none).set w (some (.fz d))).set w' (some (.fz e))) = _
    rw [List.set_set, List.set_comm _ _ hw, List.set_set, List.set_comm _ _ hw.symm]
  rw [e2] at G
  exact G
end
end PL

namespace PL
open PySem PySem.Spec PyProof.Rows L2
section
variable {X : Cx} {Γ Γ' : Slots} {γ γ1 : Cells} {tg it a b : Expr} {body rest : List Stmt} {pos : Pos} {R : SE} {P : EPost}
/-- an iterable, by what follows -/
def ITE (X : Cx) (Γ : Slots) (γ : Cells) (tg it : Expr) (P : List Itm → (Cells → Prop) → Cells → Prop) : Prop :=
  ∀ F as σ H, Rep X.K F as γ H → EnvR X.K F as Γ σ → ∀ Q : It → Hp → Prop, (∀ xs stab γ1 J F' as' H', P xs stab γ1 → Ext F as F' as' → Rep X.K F' as' γ1 H' → JOk X.K F' as' xs stab J → Q J H') → wpI X tg it σ H Q
structure ForK (X : Cx) (tg : Expr) (body rest : List Stmt) (R : SE) (Γ : Slots) (xs : List Itm) (stab : Cells → Prop) (γ1 : Cells) (Inv : Nat → Slots → Cells → Prop) : Prop where
  h0 : Inv 0 Γ γ1
  hst : ∀ i Γ' γ', i ≤ xs.length → Inv i Γ' γ' → stab γ'
  hb : ∀ i x Γ' γ', xs[i]? = some x → Inv i Γ' γ' → ∃ Γ2 ws, GV X γ' Γ' tg x Γ2 ws ∧ SVs X Γ2 γ' body { nx := Inv (i + 1), ct := Inv (i + 1), bk := fun a b => SVs X a b rest R, rt := R.rt }
  hd : ∀ Γ' γ', Inv xs.length Γ' γ' → SVs X Γ' γ' rest R
theorem svs_forE (hX : Cok X) (hp : PassesOwn (model X.prog X.w) X.A X.env X.xe) (hi : ITE X Γ γ tg it fun xs stab γ1 => ∃ Inv, ForK X tg body rest R Γ xs stab γ1 Inv)
    (hs : ∀ x, foldedSetIterable it X.env x = pure x := by intro _; rfl) : SVs X Γ γ (.For tg it body [] pos :: rest) R := by
  refine svs_cons fun F as σ H D Rp E C => ⟨_, ps_for hp hX.calm pi_wp pg_wp pss_wp hs, hi F as σ H Rp E _ fun xs stab γ1 J F1 as1 H1 hPx x1 R1 hJ => ?_⟩
  obtain ⟨Inv, h0, hst, hb, hd⟩ := hPx
  refine ⟨fun i m σ' H' => m = xs.length - i ∧ i ≤ xs.length ∧ ∃ Γ' γ' F' as', Ext F1 as1 F' as' ∧ Rep X.K F' as' γ' H' ∧ EnvR X.K F' as' Γ' σ' ∧ Inv i Γ' γ', ⟨xs.length, by simp, Nat.zero_le _, Γ, γ1, F1, as1, Ext.refl _ _, R1, E.mono x1, h0⟩, ?_⟩
  rintro i m σ' H' ⟨rfl, hle, Γ', γ', F', as', x', R', E', inv⟩
  obtain ⟨j1, j2⟩ := hJ i F' as' γ' H' x' R' (hst i Γ' γ' hle inv)
  by_cases hlt : i < xs.length
  · obtain ⟨g1, g2⟩ := j2 xs[i] (List.getElem?_eq_getElem hlt)
    refine .inr ⟨g1, fun σ' H' => ∃ Γ' γ' F' as', Ext F1 as1 F' as' ∧ Rep X.K F' as' γ' H' ∧ EnvR X.K F' as' Γ' σ' ∧ Inv (i + 1) Γ' γ', fun σ' H' q => ⟨xs.length - (i + 1), by omega, rfl, hlt, q⟩, fun v H'' y => ?_⟩
    obtain ⟨F'', x'', R'', i''⟩ := g2 v H'' y
    obtain ⟨Γ2, ws, hG, hB⟩ := hb i xs[i] Γ' γ' (List.getElem?_eq_getElem hlt) inv
    refine hG F'' as' σ' H'' v R'' (E'.mono x'') i'' _ fun σ2 E2 _ => ?_
    have xx := (x1.trans x').trans x''
    refine hB F'' as' σ2 H'' _ R'' E2 ⟨fun Γ3 γ3 F3 as3 σ3 H3 n x3 R3 E3 => ⟨Γ3, γ3, F3, as3, (x'.trans x'').trans x3, R3, E3, n⟩, fun a b c d e f g x3 => (C.mono xx).rt a b c d e f g x3,
      fun Γ3 γ3 F3 as3 σ3 H3 n x3 R3 E3 => (C.mono xx).nx Γ3 γ3 F3 as3 σ3 H3 n x3 R3 E3, fun Γ3 γ3 F3 as3 σ3 H3 n x3 R3 E3 => ⟨Γ3, γ3, F3, as3, (x'.trans x'').trans x3, R3, E3, n⟩⟩
  · have e : i = xs.length := by omega
    subst e
    exact .inl ⟨j1 (Nat.le_refl _), C.nx Γ' γ' F' as' σ' H' (hd Γ' γ' inv) (x1.trans x') R' E'⟩
theorem ite_range1 {p : Pos} {Pi : List Itm → (Cells → Prop) → Cells → Prop} (bt : Bt X "range") (h : EE X Γ γ a fun r g => ∃ n : Int, r = .fz (.int n) ∧ n < 2 ^ 62 ∧ -(2 ^ 62) ≤ n ∧ Pi (rngL 0 n.toNat) (fun _ => True) g) (hs : starEach [a] X.env = [(false, eval a X.env)] := by rfl) : ITE X Γ γ tg (.Call (.Name "range" p) [a] [] pos) Pi := fun F as σ H R E Q q =>
  ⟨_, pi_range1 bt.gl bt.mg (pa_cons pe_wp pa_nil hs) hs, h F as σ H R E _ fun v r g F1 as1 H1 ⟨n, e, h1, h2, h3⟩ x1 R1 i1 => by
    subst e
    exact ⟨n, by rw [itm_int.mp i1], h2, h1, q _ _ _ _ F1 as1 H1 h3 x1 R1 jok_range⟩⟩
theorem ite_list {Pi : List Itm → (Cells → Prop) → Cells → Prop} (h : EE X Γ γ it fun r g => ∃ ds : List PyData, Rdb g r (.list ds) ∧ Pi (ds.map Itm.fz) (fun g => Rdb g r (.list ds)) g) : ITE X Γ γ tg it Pi := fun F as σ H R E Q q => by
  refine ⟨_, pi_list pe_wp, h F as σ H R E _ fun v r g F1 as1 H1 ⟨ds, hr, hPi⟩ x1 R1 i1 => ?_⟩
  obtain ⟨a, vs, rfl, h1, h2⟩ := hr.list R1 i1
  refine ⟨a, rfl, ⟨vs, h1⟩, q _ _ _ _ F1 as1 H1 hPi x1 R1 fun i F' as' γ' H' x' R' st => ?_⟩
  obtain ⟨a', vs', e, h1', h2'⟩ := st.list R' (itm_mono x' i1)
  cases e
  refine ⟨fun hl => ⟨vs', h1', by rw [dpAll_length h2']; simpa using hl⟩, fun x hx => ?_⟩
  rw [List.getElem?_map] at hx
  cases hd : ds[i]? with
  | none => rw [hd] at hx; cases hx
  | some d =>
    rw [hd] at hx
    cases hx
    obtain ⟨u, hu, hdp⟩ := dpAll_get h2' hd
    refine ⟨⟨vs', u, h1', hu⟩, fun v H'' y => ?_⟩
    obtain ⟨rfl, y⟩ := y
    cases hu.symm.trans (y vs' h1')
    exact ⟨F', Ext.refl _ _, R', .fz hdp⟩
theorem ee_catF (h : EE X Γ γ a fun ra g1 => EE X Γ g1 b fun rb g2 => ∃ ds es : List PyData, Rdb g2 ra (.list ds) ∧ Rdb g2 rb (.list es) ∧ ds.length + es.length ≤ 1000000 ∧ P (.fz (.list (ds ++ es))) g2) : EE X Γ γ (.BinOp a .Add b pos) P :=
  ee_op op_catS (EE.imp h fun ra g1 h1 => EE.imp h1 fun rb g2 ⟨ds, es, r1, r2, hz, hp⟩ => fun F as H x y R hx hy Q q => by
    obtain ⟨l, us, rfl, p1, p2⟩ := r1.list R hx
    obtain ⟨l', us', rfl, p1', p2'⟩ := r2.list R hy
    have e := dpAll_length p2
    have e' := dpAll_length p2'
    exact ⟨l, l', us, us', rfl, rfl, p1, p1', by rw [sizeLine_eq]; omega, fun p hq => q _ _ _ (upd F p (.lst (us ++ us'))) as _ hp ⟨R.sameNew _ hq, [], by simp⟩ (R.new _ hq) (itm_lst.mpr ⟨p, us ++ us', rfl, SqL.of upd_same, dpAll_mono (R.sameNew _ hq) (dpAll_append p2 p2')⟩)⟩)
/-- `xs[i] = e`, by what follows -/
theorem svs_setitemE {o e : Expr} {p : Pos} (he : EE X Γ γ e fun r g1 => ∃ cc i jj xs g2 g3, EV X Γ g1 o (.cl cc) g2 ∧ EV X Γ g2 b (.fz (.int i)) g3 ∧ g3[cc]? = some (.lst xs) ∧ ixN xs.length i = some jj ∧ SVs X Γ (g3.set cc (.lst (xs.set jj r))) rest R)
    (hs : swapsWithSole [.Subscript o b p] e pos.line X.env = pure false := by rfl) (hw : swappedStores [.Subscript o b p] e X.env = pure none := by rfl)
    (h1 : (assignEach [.Subscript o b p] X.env).map (·.2) = [assign (.Subscript o b p) X.env] := by rfl)
    (ha : ∀ v, assign (.Subscript o b p) X.env v = (do
      let ov ← holding [v] (eval o X.env)
      let iv ← holding [v, ov] (eval b X.env)
      standAt p
      holding [v, ov, iv] (setItem ov iv v)
      release [v, ov, iv] []) := by intro _; rfl) : SVs X Γ γ (.Assign [.Subscript o b p] e pos :: rest) R :=
  svs_cons fun F as σ H D Rp E C => ⟨_, ps_asg pe_wp (pg_sub pe_wp pe_wp set_list ha) hs hw h1, he F as σ H Rp E _ fun v r g1 F1 as1 H1 ⟨cc, i, jj, xs, g2, g3, ho, hi, hc, hj, h⟩ x1 R1 i1 => ho.go R1 (E.mono x1) fun u F2 as2 H2 x2 R2 i2 => hi.go R2 (E.mono (x1.trans x2)) fun w F3 as3 H3 x3 R3 i3 => by
    obtain ⟨l, hl, rfl⟩ := itm_cl.mp (itm_mono x3 i2)
    obtain ⟨l', k1, us, k2, k3⟩ := R3.cellAt hc
    rw [hl] at k1
    cases k1
    refine ⟨l, us, i, jj, rfl, itm_int.mp i3, k2, by rw [← itms_length k3]; exact hj, ?_⟩
    exact C.nx _ _ _ _ _ _ h ((x1.trans x2).trans x3) (R3.write hc (by simp) hl ⟨_, upd_same, itms_set jj k3 (itm_mono (x2.trans x3) i1)⟩) (E.mono ((x1.trans x2).trans x3))⟩
/-- a comprehension with one name, by what follows: frozen -/
theorem ee_lcFN {elt : Expr} {xs : List Itm} {stab : Cells → Prop} {scope : Scope} {y : Str} {py : Pos} {w : Nat} (hX : Cok X) (ok : BlkOk X.N X.env.scope scope [(y, w)]) (hn : ∀ X', Blk X scope X' → Cok X' ∧ Nm X' y w .local) (hi : ITV X Γ γ (.Name y py) it xs stab γ1) (Pv : Nat → List Itm → Cells → Prop) (h0 : Pv 0 [] γ1) (hst : ∀ i acc g, i ≤ xs.length → Pv i acc g → stab (g ++ [.lst acc])) (hlen : ∀ i acc g, Pv i acc g → g.length = γ1.length ∧ acc.length ≤ i)
    (hsz : xs.length ≤ 1000000) (hfz : ∀ acc g, Pv xs.length acc g → (∃ ds : List PyData, acc = ds.map Itm.fz) ∧ (Clo γ1 → Clo g))
    (hb : ∀ i x acc g, xs[i]? = some x → Pv i acc g → ∀ X', Blk X scope X' → EE X' (Γ.set w (some x)) (g ++ [.lst acc]) elt fun r g3 => ∃ g', g3 = g' ++ [.lst acc] ∧ Pv (i + 1) (acc ++ [r]) g')
    (hs : ∀ x, foldedSetIterable it X.env x = pure x := by intro _; rfl) :
    EE X Γ γ (.ListComp elt [⟨.Name y py, it, [], 0⟩] scope pos) fun r g => ∃ ds : List PyData, r = .fz (.list ds) ∧ Pv xs.length (ds.map Itm.fz) g :=
  ee_lcF hX ok hi Pv h0 hst hlen hsz hfz (fun i x acc g hx hp => ⟨Γ.set w (some x), [w], true, g, by simp, (hlen _ _ _ hp).1, fun X' hB => ⟨by
    have := gv_name (γ := g ++ [.lst acc]) (Γ := wipeS Γ ([(y, w)].map (·.2))) (pos := py) (r := x) (hn X' hB).1 (hn X' hB).2
    have e : (wipeS Γ ([(y, w)].map (·.2))).set w (some x) = Γ.set w (some x) := by
      show (Γ.set w none).set w (some x) = _
      rw [List.set_set]
    rw [e] at this
    exact this, tvs_nil, (fun h => nomatch h), fun _ => hb i x acc g hx hp X' hB⟩⟩) hs
theorem svs_setLcFN {i : Nat} {z : Str} {pz spos : Pos} {elt : Expr} {xs : List Itm} {stab : Cells → Prop} {scope : Scope} {y : Str} {py : Pos} {w : Nat} (hX : Cok X) (n : Nm X z i .local) (hl : (pz.line == pos.line) = true) (hany : (scope.names.any fun (n, k) => n == z && (k == .local || k == .cell)) = false) (ok : BlkOk X.N X.env.scope scope [(y, w)]) (hn : ∀ X', Blk X scope X' → Cok X' ∧ Nm X' y w .local) (hi : ITV X Γ γ (.Name y py) it xs stab γ1) (Pv : Nat → List Itm → Cells → Prop) (h0 : Pv 0 [] γ1) (hst : ∀ i acc g, i ≤ xs.length → Pv i acc g → stab (g ++ [.lst acc])) (hlen : ∀ i acc g, Pv i acc g → g.length = γ1.length ∧ acc.length ≤ i)
    (hsz : xs.length ≤ 1000000) (hfz : ∀ acc g, Pv xs.length acc g → (∃ ds : List PyData, acc = ds.map Itm.fz) ∧ (Clo γ1 → Clo g))
    (hb : ∀ i x acc g, xs[i]? = some x → Pv i acc g → ∀ X', Blk X scope X' → EE X' (Γ.set w (some x)) (g ++ [.lst acc]) elt fun r g3 => ∃ g', g3 = g' ++ [.lst acc] ∧ Pv (i + 1) (acc ++ [r]) g')
    (h : ∀ (ds : List PyData) g, Pv xs.length (ds.map Itm.fz) g → SVs X (Γ.set i (some (.fz (.list ds)))) g rest R)
    (hs : ∀ x, foldedSetIterable it X.env x = pure x := by intro _; rfl) :
    SVs X Γ γ (.Assign [.Name z pz] (.ListComp elt [⟨.Name y py, it, [], 0⟩] scope pos) spos :: rest) R :=
  svs_setLcF hX n hl hany ok hi Pv h0 hst hlen hsz hfz (fun i x acc g hx hp => ⟨Γ.set w (some x), [w], true, g, by simp, (hlen _ _ _ hp).1, fun X' hB => ⟨by
    have := gv_name (γ := g ++ [.lst acc]) (Γ := wipeS Γ ([(y, w)].map (·.2))) (pos := py) (r := x) (hn X' hB).1 (hn X' hB).2
    have e : (wipeS Γ ([(y, w)].map (·.2))).set w (some x) = Γ.set w (some x) := by
      show (Γ.set w none).set w (some x) = _
      rw [List.set_set]
    rw [e] at this
    exact this, tvs_nil, (fun h => nomatch h), fun _ => hb i x acc g hx hp X' hB⟩⟩) h hs
end
theorem Blk.calC {X X' : Cx} {P : Program} {w : World} {K : PySem.W.Frag} {mg : Str → Option Value} {base : Heap} {N : List Str} {sc scope : Scope} {k j : Nat} {x : Str} {S : PSpec} (b : Blk X scope X') (c : Ctx X P w K mg base N sc k) (F : FnD P w K mg base x j S) (hj : j ≤ k) (h : scope.names.lookup x = some .globalImplicit) (d1 : (x == ("__debug__" : Str)) = false) : Cal X' x S := by
  obtain ⟨s, H, C, cl, fp, rfl⟩ := b
  exact ⟨⟨j, by show FnD X.prog X.w X.K X.mg X.base _ _ _; rw [c.prog, c.w, c.K, c.mg, c.base]; exact F, c.room.mono hj⟩, relabel_keep (by decide) h, d1⟩
end PL

namespace PL
open PySem PySem.Spec PyProof.Rows L2

/-! ### texts -/
section
variable {X : Cx} {Γ Γ' : Slots} {γ γ1 γ2 γ3 : Cells} {a b o e tg it : Expr} {lo hi : Option Expr} {ol oh : Option Int} {pos p2 p : Pos} {r ra rb : Itm} {P : EPost}
theorem ev_addS {x y : Str} (ha : EV X Γ γ a (.fz (.str x)) γ1) (hb : EV X Γ γ1 b (.fz (.str y)) γ2) (hl : x.length + y.length ≤ 1000000) : EV X Γ γ (.BinOp a .Add b pos) (.fz (.str (x ++ y))) γ2 :=
  ev_op op_add_str ha hb fun F as H u v R hu hv Q q => ⟨x, y, itm_str.mp hu, itm_str.mp hv, by rw [sizeLine_eq]; omega, q _ F as H (Ext.refl F as) R (itm_str.mpr rfl)⟩
theorem ee_addS (h : EE X Γ γ a fun ra g1 => ∃ x, ra = .fz (.str x) ∧ EE X Γ g1 b fun rb g2 => ∃ y, rb = .fz (.str y) ∧ x.length + y.length ≤ 1000000 ∧ P (.fz (.str (x ++ y))) g2) : EE X Γ γ (.BinOp a .Add b pos) P :=
  ee_op op_add_str (EE.imp h fun ra g1 ⟨x, e1, h1⟩ => by
    subst e1
    exact EE.imp h1 fun rb g2 ⟨y, e2, hz, hp⟩ => by
      subst e2
      exact fun F as H u v R hu hv Q q => ⟨x, y, itm_str.mp hu, itm_str.mp hv, by rw [sizeLine_eq]; omega, q _ _ _ F as H hp (Ext.refl F as) R (itm_str.mpr rfl)⟩)
theorem ev_slS {z : Str} (ha : EV X Γ γ a (.fz (.str z)) γ1) (h1 : OV X Γ γ1 lo ol γ2) (h2 : OV X Γ γ2 hi oh γ3) (hz : z.length ≤ 1000000) : EV X Γ γ (.Subscript a (.Slice lo hi none p2) pos) (.fz (.str (cutS z ol oh))) γ3 := .mk fun F as σ H R E Q q => by
  refine ⟨_, pe_slice sl_str pe_wp po_wp po_wp, ha.go R E fun v F1 as1 H1 x1 R1 i1 => h1 F1 as1 σ H1 R1 (E.mono x1) _ fun F2 as2 H2 x2 R2 => h2 F2 as2 σ H2 R2 (E.mono (x1.trans x2)) _ fun F3 as3 H3 x3 R3 => ?_⟩
  exact ⟨z, itm_str.mp i1, by rw [sizeLine_eq]; omega, q _ F3 as3 H3 ((x1.trans x2).trans x3) R3 (itm_str.mpr rfl)⟩
theorem dpAll_strs_inv {K F} : ∀ {ys : List Str} {vs : List V}, DqAll K F vs (ys.map PyData.str) → vs = ys.map V.str
  | [], _, .nil => rfl
  | y :: ys, _, .cons h t => by
    cases h
    rw [dpAll_strs_inv t]; rfl
theorem Rdb.strs {K F H as γ v} {ys : List Str} (r : Rdb γ ra (.list (ys.map .str))) (R : Rep K F as γ H) (h : ItmR K F as ra v) : ∃ l, v = .ref l ∧ SqL K H l (ys.map V.str) := by
  obtain ⟨l, vs, e, h1, h2⟩ := r.list R h
  rw [dpAll_strs_inv h2] at h1
  exact ⟨l, e, h1⟩
theorem ev_join {s : Str} {ys : List Str} {apos : Pos} (ho : EV X Γ γ o (.fz (.str s)) γ1) (he : EV X Γ γ1 e r γ2) (hr : Rdb γ2 r (.list (ys.map .str))) (hz : (ys.map (·.length)).sum + ys.length * s.length ≤ 1000000)
    (hs : starEach [e] X.env = [(false, eval e X.env)] := by rfl) (hbase : attributeBase o "join" X.env (eval o X.env) = eval o X.env := by rfl) (hline : (apos.endLine == pos.line) = true := by rfl) :
    EV X Γ γ (.Call (.Attribute o "join" apos) [e] [] pos) (.fz (.str (Txt.join s ys))) γ2 := .mk fun F as σ H R E Q q => by
  refine ⟨_, pe_join pe_wp pe_wp hs hbase hline, ho.go R E fun v F1 as1 H1 x1 R1 i1 => ?_⟩
  refine ⟨⟨s, itm_str.mp i1⟩, he.go R1 (E.mono x1) fun u F2 as2 H2 x2 R2 i2 => ?_⟩
  obtain ⟨l, rfl, hl⟩ := hr.strs R2 i2
  exact ⟨s, l, ys, itm_str.mp (itm_mono x2 i1), rfl, .inl hl, by omega, q _ F2 as2 H2 (x1.trans x2) R2 (itm_str.mpr rfl)⟩
def sgnL (z : Str) : List Itm := z.cps.toList.map fun c => Itm.fz (.str ⟨#[c]⟩)
theorem itv_str {z : Str} (h : EV X Γ γ it (.fz (.str z)) γ1) : ITV X Γ γ tg it (sgnL z) (fun _ => True) γ1 := fun F as σ H R E Q q => by
  refine ⟨_, pi_str pe_wp, h.go R E fun v F1 as1 H1 x1 R1 i1 => ?_⟩
  refine ⟨z, itm_str.mp i1, q _ F1 as1 H1 x1 R1 fun i F' as' γ' H' x' R' st => ?_⟩
  refine ⟨fun hl => by
    have h2 : z.cps.size ≤ i := by simpa [sgnL] using hl
    exact h2, fun x hx => ?_⟩
  unfold sgnL at hx
  rw [List.getElem?_map] at hx
  cases hc : z.cps.toList[i]? with
  | none => rw [hc] at hx; cases hx
  | some c =>
    rw [hc] at hx
    cases hx
    have hi : i < z.cps.size := by
      have := (List.getElem?_eq_some_iff.mp hc).1
      simpa using this
    refine ⟨hi, fun v H'' y => ?_⟩
    obtain ⟨rfl, c', hc', rfl⟩ := y
    have : c' = c := by
      rw [← Array.getElem?_toList, hc] at hc'
      exact (Option.some.inj hc').symm
    subst this
    exact ⟨F', Ext.refl _ _, R', itm_str.mpr rfl⟩
theorem cmp_inSign {c : Nat} {z : Str} : CmpR X .In γ (.fz (.str ⟨#[c]⟩)) (.fz (.str z)) (decide (c ∈ z.cps.toList)) := ⟨_, op_in_sign, fun F as H x y R hx hy Q q => ⟨c, z, itm_str.mp hx, itm_str.mp hy, q⟩⟩
theorem cmp_notInSign {c : Nat} {z : Str} : CmpR X .NotIn γ (.fz (.str ⟨#[c]⟩)) (.fz (.str z)) (!decide (c ∈ z.cps.toList)) := ⟨_, op_notIn_sign, fun F as H x y R hx hy Q q => ⟨c, z, itm_str.mp hx, itm_str.mp hy, q⟩⟩
theorem cmp_leS {i j : Str} : CmpR X .LtE γ (.fz (.str i)) (.fz (.str j)) (!decide (j.cps.toList < i.cps.toList)) := ⟨_, op_le_str, fun F as H x y R hx hy Q q => ⟨i, j, itm_str.mp hx, itm_str.mp hy, q⟩⟩
theorem cmp_ltS {i j : Str} : CmpR X .Lt γ (.fz (.str i)) (.fz (.str j)) (decide (i.cps.toList < j.cps.toList)) := ⟨_, op_lt_str, fun F as H x y R hx hy Q q => ⟨i, j, itm_str.mp hx, itm_str.mp hy, q⟩⟩
theorem shp_str {z : Str} (h : PyData.canLay0 (.str z) = true) : Shp 0 (.str z) := ⟨h, by simp [PyData.depth]⟩
theorem eqv_str (a b : Str) : PyData.eqv (.str a) (.str b) = decide (a = b) := by simp [PyData.eqv, Bool.beq_eq_decide_eq]
theorem length_addS (x y : Str) : (x ++ y).length = x.length + y.length := by
  show (x.cps ++ y.cps).size = _
  rw [Array.size_append]; rfl
theorem length_cutS (z : Str) (lo hi : Option Int) : (cutS z lo hi).length ≤ z.length := by
  show (List.toArray _).size ≤ _
  rw [List.size_toArray, List.length_take, List.length_drop]
  show _ ≤ z.cps.size
  rw [Array.length_toList]
  omega
/-! ### sorted numbers -/
def srt (ns : List Int) : List Int := ns.mergeSort
theorem srt_perm (ns : List Int) : (srt ns).Perm ns := List.mergeSort_perm ..
theorem srt_le (ns : List Int) : (srt ns).Pairwise (· ≤ ·) := by
  have := List.pairwise_mergeSort (le := fun (a b : Int) => decide (a ≤ b)) (fun a b c h1 h2 => by simp at h1 h2 ⊢; omega) (fun a b => by simp; omega) ns
  exact this.imp fun h => by simpa using h
theorem srt_only {ns ms : List Int} (h : ms.Perm ns) (hp : ms.Pairwise (· ≤ ·)) : ms = srt ns :=
  List.Perm.eq_of_pairwise (fun a b _ _ h1 h2 => Int.le_antisymm h1 h2) hp (srt_le ns) (h.trans (srt_perm ns).symm)
theorem ev_sorted {ns : List Int} (bt : Bt X "sorted") (ha : EV X Γ γ a r γ1) (hr : Rdb γ1 r (.list (ns.map .int))) (hs : starEach [a] X.env = (false, eval a X.env) :: starEach [] X.env := by rfl) : EV X Γ γ (.Call (.Name "sorted" p) [a] [] pos) (.fz (.list ((srt ns).map .int))) γ1 :=
  ev_callB cr_sortedI bt (by decide +kernel) (av_cons ha av_nil hs) (fun F as H vs R i Q q => by
    obtain ⟨v, rfl, h⟩ := itms1 i
    obtain ⟨l, rfl, hl⟩ := hr.ints R h
    refine ⟨l, ns, rfl, hl, fun ns' p h1 h2 hp => ?_⟩
    rw [srt_only h1 h2]
    exact q _ (upd F p (.lst ((srt ns).map V.int))) as _ ⟨R.sameNew _ hp, [], by simp⟩ (R.new _ hp) (itm_lst.mpr ⟨p, _, rfl, SqL.of upd_same, dpAll_ints _⟩)) (he := hs)
end
end PL

namespace PL
open PySem PySem.Spec PyProof.Rows L2

/-! ### dicts in cells, keys tuples of ints and texts -/
def keysD : List PyData → Option (List Key)
  | [] => some []
  | d :: ds => match keyD d, keysD ds with
    | some k, some ks => some (k :: ks)
    | _, _ => none
def keyT : PyData → Option (List Key)
  | .tuple ds => keysD ds
  | _ => none
theorem keysD_v {K F} : ∀ {ds : List PyData} {vs : List V} {ks : List Key}, keysD ds = some ks → DqAll K F vs ds → vs = ks.map kV
  | [], _, _, h, .nil => by cases h; rfl
  | d :: ds, _, ks, h, .cons h1 h2 => by
    unfold keysD at h
    cases hk : keyD d with
    | none => rw [hk] at h; cases h
    | some k =>
      cases hks : keysD ds with
      | none => rw [hk, hks] at h; cases h
      | some ks' =>
        rw [hk, hks] at h
        cases h
        rw [keyD_v hk h1, keysD_v hks h2]
        rfl
section
variable {X : Cx} {Γ : Slots} {γ γ1 γ2 γ3 : Cells} {e a b o i c : Expr} {r ra rb : Itm} {pos p p' : Pos} {R : SE} {rest : List Stmt} {kvs : List (List Key × Itm)} {k : List Key} {d : PyData} {cc : Nat} {P : EPost}
theorem keyT_v {K F v as} (h : keyT d = some k) (r : ItmR K F as (.fz d) v) : ∃ t, v = .ref t ∧ F t = some (.tup (k.map kV)) := by
  cases d with
  | tuple ds =>
    obtain ⟨t, vs, rfl, h1, h2⟩ := itm_tup.mp r
    rw [keysD_v (show keysD ds = some k from h) h2] at h1
    exact ⟨t, rfl, h1⟩
  | _ => simp [keyT] at h
theorem tget_of {K F as H v y} (R : Rep K F as γ H) (hc : γ[cc]? = some (.dit kvs)) (iv : ItmR K F as (.cl cc) v) (iy : ItmR K F as (.fz d) y) (hk : keyT d = some k) : ∃ l ks, v = .ref l ∧ H l = some (.dT ks) ∧ DGet H l y (valV ks k) ∧ PrI K F as (List Key) kvs ks := by
  obtain ⟨l, hl, rfl⟩ := itm_cl.mp iv
  obtain ⟨l', h1, ks, h2, h3⟩ := R.cellAt hc
  rw [hl] at h1
  cases h1
  obtain ⟨t, rfl, ht⟩ := keyT_v hk iy
  exact ⟨l, ks, rfl, h2, DGet.t h2 (R.fr _ _ ht), h3⟩
theorem ev_tget (hX : Cok X) (ho : EV X Γ γ o (.cl cc) γ1) (hi : EV X Γ γ1 i (.fz d) γ2) (hc : γ2[cc]? = some (.dit kvs)) (hk : keyT d = some k) (hv : valI kvs k = some r) (hs : NoSl i := by exact fun _ _ => rfl) : EV X Γ γ (.Subscript o i pos) r γ2 := .mk fun F as σ H R E Q q => by
  refine ⟨_, pe_dget hX.hu1 pe_wp pe_wp hs, ho.go R E fun v F1 as1 H1 x1 R1 i1 => hi.go R1 (E.mono x1) fun u F2 as2 H2 x2 R2 i2 => ?_⟩
  obtain ⟨l, ks, rfl, h1, h2, h3⟩ := tget_of R2 hc (itm_mono x2 i1) i2 hk
  obtain ⟨w, hw, hi⟩ := (pr_val h3).1 r hv
  rw [hw] at h2
  exact ⟨l, w, rfl, h2, q w F2 as2 H2 (x1.trans x2) R2 hi⟩
theorem isSomeT {K F as ks} (h3 : PrI K F as (List Key) kvs ks) : (valV ks k).isSome = (valI kvs k).isSome := by
  cases hv : valI kvs k with
  | none => rw [(pr_val h3).2 hv]; rfl
  | some r => obtain ⟨w, hw, _⟩ := (pr_val h3).1 r hv; rw [hw]; rfl
theorem tv_tin (hX : Cok X) (hi : EV X Γ γ i (.fz d) γ1) (ho : EV X Γ γ1 o (.cl cc) γ2) (hc : γ2[cc]? = some (.dit kvs)) (hk : keyT d = some k) (h1 : behindInMarks .In o = false := by rfl) : TV X Γ γ (.Compare i [.In] [o] pos) (valI kvs k).isSome γ2 := fun F as σ H R E Q q => by
  refine ⟨_, pt_cmp (pc_din hX.hu1 pe_wp pe_wp) h1, hi.go R E fun v F1 as1 H1 x1 R1 i1 => ho.go R1 (E.mono x1) fun u F2 as2 H2 x2 R2 i2 => ?_⟩
  obtain ⟨l, ks, rfl, h1, h2, h3⟩ := tget_of R2 hc i2 (itm_mono x2 i1) hk
  exact ⟨l, _, rfl, h2, _, rfl, by rw [isSomeT h3]; exact q F2 as2 H2 (x1.trans x2) R2⟩
theorem tv_tnotin (hX : Cok X) (hi : EV X Γ γ i (.fz d) γ1) (ho : EV X Γ γ1 o (.cl cc) γ2) (hc : γ2[cc]? = some (.dit kvs)) (hk : keyT d = some k) (h1 : behindInMarks .NotIn o = false := by rfl) : TV X Γ γ (.Compare i [.NotIn] [o] pos) (!(valI kvs k).isSome) γ2 := fun F as σ H R E Q q => by
  refine ⟨_, pt_cmp (pc_dnotin hX.hu1 pe_wp pe_wp) h1, hi.go R E fun v F1 as1 H1 x1 R1 i1 => ho.go R1 (E.mono x1) fun u F2 as2 H2 x2 R2 i2 => ?_⟩
  obtain ⟨l, ks, rfl, h1, h2, h3⟩ := tget_of R2 hc i2 (itm_mono x2 i1) hk
  exact ⟨l, _, rfl, h2, _, rfl, by rw [isSomeT h3]; exact q F2 as2 H2 (x1.trans x2) R2⟩
/-- `o[i] = e`, by what follows: keys tuples -/
theorem svs_tputE (hX : Cok X) (he : EE X Γ γ e fun r g1 => EE X Γ g1 o fun ro g2 => EE X Γ g2 i fun ri g3 => ∃ cc d k kvs, ro = .cl cc ∧ ri = .fz d ∧ keyT d = some k ∧ g3[cc]? = some (.dit kvs) ∧ kvs.length ≤ 1000000 ∧ SVs X Γ (g3.set cc (.dit (putI kvs k r))) rest R)
    (hs : swapsWith e (some (.Subscript o i p')) pos.line X.env = pure false := by rfl) : SVs X Γ γ (.Assign [.Subscript o i p'] e pos :: rest) R := svs_cons fun F as σ H D Rp E C => by
  refine ⟨_, ps_dput hX.hu1 pe_wp pe_wp pe_wp hs, he F as σ H Rp E _ fun v r g1 F1 as1 H1 h1 x1 R1 i1 => h1 F1 as1 σ H1 R1 (E.mono x1) _ fun u ro g2 F2 as2 H2 h2 x2 R2 i2 => h2 F2 as2 σ H2 R2 (E.mono (x1.trans x2)) _ fun w ri g3 F3 as3 H3 h3 x3 R3 i3 => ?_⟩
  obtain ⟨cc, d, k, kvs, rfl, rfl, hk, hc, hl, h⟩ := h3
  obtain ⟨l, hl3, rfl⟩ := itm_cl.mp (itm_mono x3 i2)
  obtain ⟨l', e1, ks, e2, e3⟩ := R3.cellAt hc
  rw [hl3] at e1
  cases e1
  obtain ⟨t, rfl, ht⟩ := keyT_v hk i3
  refine ⟨l, _, rfl, DPut.t e2 (R3.fr _ _ ht) (by rw [← pr_length e3, sizeLine_eq]; omega), ?_⟩
  exact C.nx _ _ _ _ _ _ h ((x1.trans x2).trans x3) (R3.write hc (by simp) hl3 ⟨_, upd_same, pr_put e3 (itm_mono (x2.trans x3) i1)⟩) (E.mono ((x1.trans x2).trans x3))
/-- `o[i] = e`, by what follows: keys ints and texts -/
theorem svs_dputE (hX : Cok X) (he : EE X Γ γ e fun r g1 => EE X Γ g1 o fun ro g2 => EE X Γ g2 i fun ri g3 => ∃ (cc : Nat) (d : PyData) (k : Key) (kvs : List (Key × Itm)), ro = .cl cc ∧ ri = .fz d ∧ keyD d = some k ∧ g3[cc]? = some (.dic kvs) ∧ kvs.length ≤ 1000000 ∧ SVs X Γ (g3.set cc (.dic (putI kvs k r))) rest R)
    (hs : swapsWith e (some (.Subscript o i p')) pos.line X.env = pure false := by rfl) : SVs X Γ γ (.Assign [.Subscript o i p'] e pos :: rest) R := svs_cons fun F as σ H D Rp E C => by
  refine ⟨_, ps_dput hX.hu1 pe_wp pe_wp pe_wp hs, he F as σ H Rp E _ fun v r g1 F1 as1 H1 h1 x1 R1 i1 => h1 F1 as1 σ H1 R1 (E.mono x1) _ fun u ro g2 F2 as2 H2 h2 x2 R2 i2 => h2 F2 as2 σ H2 R2 (E.mono (x1.trans x2)) _ fun w ri g3 F3 as3 H3 h3 x3 R3 i3 => ?_⟩
  obtain ⟨cc, d, k, kvs, rfl, rfl, hk, hc, hl, h⟩ := h3
  obtain ⟨l, hl3, rfl⟩ := itm_cl.mp (itm_mono x3 i2)
  obtain ⟨l', e1, ks, e2, e3⟩ := R3.cellAt hc
  rw [hl3] at e1
  cases e1
  rw [keyD_v hk (itm_fz.mp i3)]
  refine ⟨l, _, rfl, DPut.k e2 (by rw [← pr_length e3, sizeLine_eq]; omega), ?_⟩
  exact C.nx _ _ _ _ _ _ h ((x1.trans x2).trans x3) (R3.write hc (by simp) hl3 ⟨_, upd_same, pr_put e3 (itm_mono (x2.trans x3) i1)⟩) (E.mono ((x1.trans x2).trans x3))
theorem ev_dnewT : EV X Γ γ (.Dict [] [] pos) (.cl γ.length) (γ ++ [.dit []]) := .mk fun F as σ H R E Q q => by
  refine ⟨_, pe_dnewT, fun p hp => ?_⟩
  have R1 := R.newCell (cell := .dit []) (o := .dT []) hp ⟨[], upd_same, .nil⟩
  exact q _ F (as ++ [p]) _ ⟨Same.refl F, [p], rfl⟩ R1 (itm_cl.mpr ⟨p, by rw [← R.len, List.getElem?_append_right (Nat.le_refl _)]; simp, rfl⟩)
/-- `o[i] += e`, `o[i] -= e`, ints: keys tuples; keys ints and texts -/
theorem svs_taug {op : Operator} {f : Int → Int → Int} {n m : Int} (hX : Cok X) (ho : EV X Γ γ o (.cl cc) γ1) (hi : EV X Γ γ1 i (.fz d) γ2) (hk : keyT d = some k) (hc : γ2[cc]? = some (.dit kvs)) (hv : valI kvs k = some (.fz (.int n))) (he : EV X Γ γ2 e (.fz (.int m)) γ2) (hl : kvs.length ≤ 1000000)
    (hop : InOp X op (rI0 fun i j => .int (f i j))) (h : SVs X Γ (γ2.set cc (.dit (putI kvs k (.fz (.int (f n m)))))) rest R)
    (ha : ∀ ov iv new, augStore i ov iv new = (do holding [new, ov, iv] (setItem ov iv new); release [new, ov, iv] []; pure .next) := by intros; rfl) : SVs X Γ γ (.AugAssign (.Subscript o i p') op e pos :: rest) R := svs_cons fun F as σ H D Rp E C => by
  refine ⟨_, ps_daug hX.hu1 pe_wp pe_wp pe_wp hop ha, ho.go Rp E fun v F1 as1 H1 x1 R1 i1 => hi.go R1 (E.mono x1) fun u F2 as2 H2 x2 R2 i2 => ?_⟩
  obtain ⟨l, ks, e1, h1, h2, h3⟩ := tget_of R2 hc (itm_mono x2 i1) i2 hk
  subst e1
  obtain ⟨w, hw, hiw⟩ := (pr_val h3).1 _ hv
  rw [hw] at h2
  refine ⟨l, w, rfl, h2, he.go R2 (E.mono (x1.trans x2)) fun z F3 as3 H3 x3 R3 i3 => ?_⟩
  refine ⟨n, m, by rw [itm_int.mp hiw], by rw [itm_int.mp i3], ?_⟩
  obtain ⟨l', hl3, e5⟩ := itm_cl.mp (itm_mono (x2.trans x3) i1)
  cases e5
  obtain ⟨l', e1, ks, e2, e3⟩ := R3.cellAt hc
  rw [hl3] at e1
  cases e1
  obtain ⟨t, rfl, ht⟩ := keyT_v hk (itm_mono x3 i2)
  refine ⟨_, DPut.t e2 (R3.fr _ _ ht) (by rw [← pr_length e3, sizeLine_eq]; omega), ?_⟩
  exact C.nx _ _ _ _ _ _ h ((x1.trans x2).trans x3) (R3.write hc (by simp) hl3 ⟨_, upd_same, pr_put e3 (itm_int.mpr rfl)⟩) (E.mono ((x1.trans x2).trans x3))
theorem svs_daug {op : Operator} {f : Int → Int → Int} {n m : Int} {k : Key} {kvs : List (Key × Itm)} (hX : Cok X) (ho : EV X Γ γ o (.cl cc) γ1) (hi : EV X Γ γ1 i (.fz d) γ2) (hk : keyD d = some k) (hc : γ2[cc]? = some (.dic kvs)) (hv : valI kvs k = some (.fz (.int n))) (he : EV X Γ γ2 e (.fz (.int m)) γ2) (hl : kvs.length ≤ 1000000)
    (hop : InOp X op (rI0 fun i j => .int (f i j))) (h : SVs X Γ (γ2.set cc (.dic (putI kvs k (.fz (.int (f n m)))))) rest R)
    (ha : ∀ ov iv new, augStore i ov iv new = (do holding [new, ov, iv] (setItem ov iv new); release [new, ov, iv] []; pure .next) := by intros; rfl) : SVs X Γ γ (.AugAssign (.Subscript o i p') op e pos :: rest) R := svs_cons fun F as σ H D Rp E C => by
  refine ⟨_, ps_daug hX.hu1 pe_wp pe_wp pe_wp hop ha, ho.go Rp E fun v F1 as1 H1 x1 R1 i1 => hi.go R1 (E.mono x1) fun u F2 as2 H2 x2 R2 i2 => ?_⟩
  obtain ⟨l, ks, e1, h1, h2, h3⟩ := dget_of R2 hc (itm_mono x2 i1) i2 hk
  subst e1
  obtain ⟨w, hw, hiw⟩ := (pr_val h3).1 _ hv
  rw [hw] at h2
  refine ⟨l, w, rfl, h2, he.go R2 (E.mono (x1.trans x2)) fun z F3 as3 H3 x3 R3 i3 => ?_⟩
  refine ⟨n, m, by rw [itm_int.mp hiw], by rw [itm_int.mp i3], ?_⟩
  obtain ⟨l', hl3, e5⟩ := itm_cl.mp (itm_mono (x2.trans x3) i1)
  cases e5
  obtain ⟨l', e1, ks, e2, e3⟩ := R3.cellAt hc
  rw [hl3] at e1
  cases e1
  rw [keyD_v hk (itm_fz.mp i2)]
  refine ⟨_, DPut.k e2 (by rw [← pr_length e3, sizeLine_eq]; omega), ?_⟩
  exact C.nx _ _ _ _ _ _ h ((x1.trans x2).trans x3) (R3.write hc (by simp) hl3 ⟨_, upd_same, pr_put e3 (itm_int.mpr rfl)⟩) (E.mono ((x1.trans x2).trans x3))
theorem in_add : InOp X .Add (rI0 fun i j => .int (i + j)) := fun pins s σ H x y u v Q I rx ry h => iop_add pins s σ H x y u v Q I rx ry h
theorem in_sub : InOp X .Sub (rI0 fun i j => .int (i - j)) := fun pins s σ H x y u v Q I rx ry h => iop_sub pins s σ H x y u v Q I rx ry h
end
end PL

namespace PL
open PySem PySem.Spec PyProof.Rows L2
section
variable {X : Cx} {Γ Γ' : Slots} {γ γ1 γ2 γ3 : Cells} {a b c o e tg it : Expr} {pos p p2 q : Pos} {r ra rb : Itm} {P : EPost} {i j : Int}
/-! ### ranges downwards -/
def rngD (hi : Int) (n : Nat) : List Itm := (List.range n).map fun (i : Nat) => Itm.fz (.int (hi - (i : Int)))
theorem rngD_length (hi : Int) (n : Nat) : (rngD hi n).length = n := by simp [rngD]
theorem rngD_get {hi : Int} {n i : Nat} {x : Itm} (h : (rngD hi n)[i]? = some x) : i < n ∧ x = .fz (.int (hi - i)) := by
  unfold rngD at h
  rw [List.getElem?_map] at h
  by_cases hl : i < n
  · rw [List.getElem?_range hl] at h
    exact ⟨hl, (Option.some.inj h).symm⟩
  · rw [List.getElem?_eq_none (by simpa using hl)] at h; cases h
theorem itv_rangeD (bt : Bt X "range") (h : EV X Γ γ a (.fz (.int i)) γ1) (h' : EV X Γ γ1 b (.fz (.int j)) γ2) (h'' : EV X Γ γ2 c (.fz (.int (-1))) γ3) (hn : -(2 ^ 62) ≤ i ∧ i < 2 ^ 62 ∧ -(2 ^ 62) ≤ j ∧ j < 2 ^ 62)
    (hs : starEach [a, b, c] X.env = (false, eval a X.env) :: starEach [b, c] X.env := by rfl) (hs2 : starEach [b, c] X.env = (false, eval b X.env) :: starEach [c] X.env := by rfl) (hs3 : starEach [c] X.env = (false, eval c X.env) :: starEach [] X.env := by rfl) (hpl : (backTo pos (starEach [b, c] X.env)).any (·.1) = false := by rfl) :
    ITV X Γ γ tg (.Call (.Name "range" p) [a, b, c] [] pos) (rngD i (i - j).toNat) (fun _ => True) γ3 := fun F as σ H R E Q q =>
  ⟨_, pi_range3 bt.gl bt.mg (pa_cons pe_wp (pa_cons pe_wp (pa_cons pe_wp pa_nil hs3) hs2) hs) hs hpl, h.go R E fun v F1 as1 H1 x1 R1 i1 => h'.go R1 (E.mono x1) fun u F2 as2 H2 x2 R2 i2 => h''.go R2 (E.mono (x1.trans x2)) fun w F3 as3 H3 x3 R3 i3 =>
    ⟨i, j, -1, (i - j).toNat, by rw [itm_int.mp i1, itm_int.mp i2, itm_int.mp i3], RgC.neg hn.1 hn.2.1 hn.2.2.1 hn.2.2.2, q _ F3 as3 H3 ((x1.trans x2).trans x3) R3 fun t F' as' γ' H' x' R' _ => by
      refine ⟨fun hl => by rw [rngD_length] at hl; exact hl, fun x hx => ?_⟩
      obtain ⟨hlt, rfl⟩ := rngD_get hx
      refine ⟨hlt, fun v H'' y => ?_⟩
      obtain ⟨rfl, rfl⟩ := y
      exact ⟨F', Ext.refl _ _, R', itm_int.mpr (by rw [show i + (t : Int) * -1 = i - (t : Int) by omega])⟩⟩⟩
/-! ### where a thing stands in a list -/
theorem ev_index {apos : Pos} {ds : List PyData} {d z : PyData} {t : Nat} (hX : Cok X) (ho : EV X Γ γ o ra γ1) (he : EV X Γ γ1 e rb γ2) (h1 : Rdb γ1 ra (.list ds)) (h2 : Rdb γ2 ra (.list ds)) (h3 : Rdb γ2 rb d) (s1 : SeqAt.shaped (.list ds) = true) (s2 : SeqAt.shaped d = true)
    (hz : ds[t]? = some z) (hzd : PyData.eqv z d = true) (hno : ∀ (m : Nat) (z' : PyData), m < t → ds[m]? = some z' → PyData.eqv z' d = false)
    (hbase : attributeBase o "index" X.env (eval o X.env) = eval o X.env := by rfl)
    (hfew : ((backTo pos (starEach [e] X.env)).all (fun x => !x.1) && (backToKw pos (keywordEach [] X.env)).all (fun x => x.1.isSome) && decide ([e].length + ([] : List Keyword).length + (if ([] : List Keyword).isEmpty then 0 else 1) < 30)) = true := by rfl)
    (hline : (apos.endLine == pos.line) = true := by rfl) (hs : starEach [e] X.env = (false, eval e X.env) :: starEach [] X.env := by rfl) :
    EV X Γ γ (.Call (.Attribute o "index" apos) [e] [] pos) (.fz (.int (t : Int))) γ2 := .mk fun F as σ H R E Q q => by
  refine ⟨_, pe_bm PySem.F.plainAttrs_list PySem.F.slot_list_index PySem.F.type_list_index (mt_indexD (by have := hX.hu; omega)) pe_wp (pa_cons pe_wp pa_nil hs) hbase hfew hline hs rfl, ?_⟩
  refine ho.go R E fun v F1 as1 H1 x1 R1 i1 => ?_
  obtain ⟨l, us, rfl, k1, k2⟩ := h1.list R1 i1
  refine ⟨.inl ⟨rfl, us, k1⟩, ?_⟩
  refine he.go R1 (E.mono x1) fun u F2 as2 H2 x2 R2 i2 => ?_
  exact ⟨l, u, d, ds, t, z, rfl, rfl, (h2.dp R2 (itm_mono x2 i1)).dp (shaped_lay s1), (h3.dp R2 i2).dp (shaped_lay s2), s1, s2, hz, hzd, hno, q _ F2 as2 H2 (x1.trans x2) R2 (itm_int.mpr rfl)⟩
/-! ### sorted(set(xs)), pairs of small numbers -/
def pD (x : Int × Int) : PyData := .tuple [.int x.1, .int x.2]
theorem dq_pairs {K F} : ∀ {ns : List (Int × Int)} {vs : List V}, DqAll K F vs (ns.map pD) → ∃ ks : List (Addr × List Int), vs = ks.map (fun y => V.ref y.1) ∧ ks.map (·.2) = ns.map (fun y => [y.1, y.2]) ∧ ∀ y ∈ ks, F y.1 = some (.tup (y.2.map V.int))
  | [], _, .nil => ⟨[], rfl, rfl, by simp⟩
  | n :: ns, _, .cons h t => by
    obtain ⟨ks, e1, e2, e3⟩ := dq_pairs t
    cases h with
    | @tup A vs _ hA hr =>
      have ev : vs = [V.int n.1, V.int n.2] := by
        cases hr with
        | cons h1 hr =>
          cases hr with
          | cons h2 hr =>
            cases hr
            cases h1
            cases h2
            rfl
      refine ⟨(A, [n.1, n.2]) :: ks, by rw [e1]; rfl, by rw [List.map_cons, e2]; rfl, fun y hy => ?_⟩
      rcases List.mem_cons.mp hy with rfl | hy
      · rw [hA, ev]; rfl
      · exact e3 y hy
theorem dq_of_pairs {K F} : ∀ {L : List (Addr × List Int)} {qs : List (Int × Int)}, L.map (·.2) = qs.map (fun y => [y.1, y.2]) → (∀ y ∈ L, F y.1 = some (.tup (y.2.map V.int))) → DqAll K F (L.map fun y => V.ref y.1) (qs.map pD)
  | [], [], _, _ => .nil
  | [], _ :: _, h, _ => by simp at h
  | _ :: _, [], h, _ => by simp at h
  | y :: L, z :: qs, h, hF => by
    rw [List.map_cons, List.map_cons, List.cons.injEq] at h
    refine .cons (.tup (hF y (by simp)) ?_) (dq_of_pairs h.2 fun w hw => hF w (by simp [hw]))
    rw [h.1]
    exact .cons (.int _) (.cons (.int _) .nil)
theorem split_pairs : ∀ (L : List (List Int)), (∀ y ∈ L, y.length = 2) → ∃ qs : List (Int × Int), L = qs.map (fun y => [y.1, y.2])
  | [], _ => ⟨[], rfl⟩
  | y :: L, h => by
    obtain ⟨qs, e⟩ := split_pairs L fun z hz => h z (by simp [hz])
    have h2 := h y (by simp)
    match y, h2 with
    | [u, v], _ => exact ⟨(u, v) :: qs, by rw [e]; rfl⟩
theorem ee_sortedSetP {ns : List (Int × Int)} (hX : Cok X) (bt : Bt X "sorted") (bt2 : Bt X "set") (ha : EV X Γ γ a r γ1) (hr : Rdb γ1 r (.list (ns.map pD))) (hl : ns.length < 64) (hb : ∀ y ∈ ns, (0 ≤ y.1 ∧ y.1 < 64) ∧ (0 ≤ y.2 ∧ y.2 < 64))
    (hs : starEach [.Call (.Name "set" p2) [a] [] q] X.env = (false, eval (.Call (.Name "set" p2) [a] [] q) X.env) :: starEach [] X.env := by rfl) (hs2 : starEach [a] X.env = (false, eval a X.env) :: starEach [] X.env := by rfl) :
    EE X Γ γ (.Call (.Name "sorted" p) [.Call (.Name "set" p2) [a] [] q] [] pos) fun r g => ∃ qs : List (Int × Int), r = .fz (.list (qs.map pD)) ∧ g = γ1 ∧ qs.Pairwise (fun y z => y.1 < z.1 ∨ (y.1 = z.1 ∧ y.2 < z.2)) ∧ ∀ y, y ∈ qs ↔ y ∈ ns := fun F as σ H R E Q qq => by
  refine ⟨_, pe_callB (cr_sortedT hX.calm) bt.gl bt.mg (by decide +kernel) (pa_cons (pe_callTy (cr_setOfT hX.calm (by have := hX.hu; omega)) bt2.gl bt2.mg (by decide +kernel) (pa_cons pe_wp pa_nil hs2) (by decide) (by decide) hs2) pa_nil hs) (by decide) (by decide) hs, ?_⟩
  refine ha.go R E fun v F1 as1 H1 x1 R1 i1 => ?_
  obtain ⟨l, vs, rfl, k1, k2⟩ := hr.list R1 i1
  obtain ⟨ks, rfl, e2, e3⟩ := dq_pairs k2
  have hin : ∀ y ∈ ks, ∃ z ∈ ns, y.2 = [z.1, z.2] := fun y hy => by
    have : y.2 ∈ ks.map (·.2) := List.mem_map.mpr ⟨y, hy, rfl⟩
    rw [e2] at this
    obtain ⟨z, hz, e⟩ := List.mem_map.mp this
    exact ⟨z, hz, e.symm⟩
  have hlen : ks.length = ns.length := by
    have := congrArg List.length e2
    simpa using this
  refine ⟨l, ks, rfl, k1, fun y hy => SqT.of (R1.fr _ _ (e3 y hy)), by omega, fun A L hA hL1 hL2 => ?_⟩
  have hne : ∀ y ∈ L, y.1 ≠ A := fun y hy e => by
    have := R1.fr _ _ (e3 y (hL1 y hy))
    rw [e, hA] at this
    cases this
  refine ⟨A, L, 2, 64, rfl, upd_same, fun y hy => SqT.of (by rw [upd_ne (hne y hy)]; exact R1.fr _ _ (e3 y (hL1 y hy))), by decide, fun y hy => ?_, fun L' T hp hnd hf hpw hT => ?_⟩
  · obtain ⟨z, hz, e⟩ := hin y (hL1 y hy)
    obtain ⟨b1, b2⟩ := hb z hz
    rw [e]
    refine ⟨rfl, fun m hm => ?_⟩
    rcases List.mem_cons.mp hm with rfl | hm
    · exact b1
    · rcases List.mem_cons.mp hm with rfl | hm
      · exact b2
      · simp at hm
  · have hL' : ∀ y ∈ L', y ∈ ks := fun y hy => hL1 y (hp.mem_iff.mp hy)
    obtain ⟨qs, hqs⟩ := split_pairs (L'.map (·.2)) fun y hy => by
      obtain ⟨w, hw, rfl⟩ := List.mem_map.mp hy
      obtain ⟨z, _, e⟩ := hin w (hL' w hw)
      rw [e]; rfl
    have F2 : ∀ y ∈ L', (upd F1 A (SetTO X.prog X.w A L)) y.1 = some (.tup (y.2.map V.int)) := fun y hy => by
      rw [upd_ne (hne y (hp.mem_iff.mp hy))]
      exact e3 y (hL' y hy)
    have R2 := R1.new (SetTO X.prog X.w A L) hA
    have R3 := R2.new (HO.lst (L'.map fun y => V.ref y.1)) hT
    have x2 : Ext F1 as1 (upd F1 A (SetTO X.prog X.w A L)) as1 := ⟨R1.sameNew _ hA, [], by simp⟩
    have x3 : Ext (upd F1 A (SetTO X.prog X.w A L)) as1 (upd (upd F1 A (SetTO X.prog X.w A L)) T (.lst (L'.map fun y => V.ref y.1))) as1 := ⟨R2.sameNew _ hT, [], by simp⟩
    have mq : ∀ y, y ∈ qs ↔ y ∈ ns := fun y => by
      have m1 : y ∈ qs ↔ [y.1, y.2] ∈ L'.map (·.2) := by
        rw [hqs, List.mem_map]
        constructor
        · intro h; exact ⟨y, h, rfl⟩
        · rintro ⟨z, hz, e⟩
          have : z = y := by
            simp at e
            exact Prod.ext e.1 e.2
          exact this ▸ hz
      have m2 : y ∈ ns ↔ [y.1, y.2] ∈ ks.map (·.2) := by
        rw [e2, List.mem_map]
        constructor
        · intro h; exact ⟨y, h, rfl⟩
        · rintro ⟨z, hz, e⟩
          have : z = y := by
            simp at e
            exact Prod.ext e.1 e.2
          exact this ▸ hz
      rw [m1, m2]
      constructor
      · intro h
        obtain ⟨w, hw, e⟩ := List.mem_map.mp h
        exact List.mem_map.mpr ⟨w, hL' w hw, e⟩
      · intro h
        obtain ⟨w, hw, e⟩ := List.mem_map.mp h
        obtain ⟨w', hw', e'⟩ := List.mem_map.mp (hL2 w hw)
        exact List.mem_map.mpr ⟨w', hp.mem_iff.mpr hw', e'.trans e⟩
    refine qq _ (.fz (.list (qs.map pD))) γ1 _ as1 _ ⟨qs, rfl, rfl, ?_, mq⟩ (x1.trans (x2.trans x3)) R3 (itm_lst.mpr ⟨T, _, rfl, SqL.of upd_same, dpAll_mono x3.1 (dq_of_pairs hqs F2)⟩)
    have hpw2 : (L'.map (·.2)).Pairwise (fun y z => TS.code 64 y ≤ TS.code 64 z) := List.pairwise_map.mpr hpw
    rw [hqs] at hpw2 hnd
    have hpw3 := List.pairwise_map.mp hpw2
    have hnd3 : qs.Pairwise (fun y z => ([y.1, y.2] : List Int) ≠ [z.1, z.2]) := List.pairwise_map.mp hnd
    refine List.Pairwise.imp_of_mem (fun {y z} hy hz h => ?_) (hpw3.and hnd3)
    have by' := hb y ((mq y).mp hy)
    have bz := hb z ((mq z).mp hz)
    exact pair_lt h.1 h.2 by'.1 by'.2 bz.1 bz.2
end
end PL

namespace PL
open PySem PySem.Spec PyProof.Rows L2
/-! ### xs[::e], e is 1 or -1 -/
theorem pick_one (items : Array Value) : slicePick items none none (some 1) = items := by
  have h : slicePick items none none (some 1) = slicePick items none none none := rfl
  rw [h]
  have h2 := slicePick_cut items.toList none none
  rw [Array.toArray_toList] at h2
  rw [h2, HT.sIx_none, HT.sIx_none, List.drop_zero, Nat.sub_zero, List.take_length, Array.toArray_toList]
def turned {α : Type} (b : Bool) (xs : List α) : List α := if b then xs.reverse else xs
def tTurn (K : PySem.W.Frag) (te ts : TE) : TE := fun σ H Q => te σ H fun x H1 => tPart ts σ H1 fun o H2 => ∃ l xs b, x = .ref l ∧ o = some (if b = true then -1 else 1) ∧ SqL K H2 l xs ∧ ∀ t, H2 t = none → Q (.ref t) (upd H2 t (.lst (turned b xs)))
theorem pe_turn {X : Cx} {e st : Expr} {te ts : TE} {p3 pos : Pos} (he : PE X e te) (hst : PE X st ts) : PE X (.Subscript e (.Slice none none (some st) p3) pos) (tTurn X.K te ts) := by
  refine ⟨fun pins s σ H Q I h => Subscript_ (thn (he.run pins s σ H _ I h) fun v sa ⟨x, Ha, Ia, ra, qa⟩ => ?_)⟩
  have no : PO X none _ := po_none
  refine wpAny_Slice (thn (no.run pins sa σ Ha (fun o H2 => o = none ∧ H2 = Ha) Ia ⟨rfl, rfl⟩) fun vl sb ⟨lo, Hb, Ib, pl, elo, eb⟩ => ?_)
  cases elo
  cases eb
  refine thn (no.run pins sb σ Ha (fun o H3 => o = none ∧ H3 = Ha) Ib ⟨rfl, rfl⟩) fun vu sc ⟨hi, Hc, Ic, pu, ehi, ec⟩ => ?_
  cases ehi
  cases ec
  have yes : PO X (some st) _ := po_some hst
  refine thn (yes.run pins sc σ Ha (fun o H4 => ∃ l xs b, x = .ref l ∧ o = some (if b = true then -1 else 1) ∧ SqL X.K H4 l xs ∧ ∀ t, H4 t = none → Q (.ref t) (upd H4 t (.lst (turned b xs)))) Ic qa) fun vs sd ⟨o, Hd, Id, ps, l, xs, b, ex, eo, hx, q⟩ => ?_
  · subst ex eo
    cases ra
    have Ie : Inv X pins σ Hd { sd with heap := sd.heap.push { cls := .type "slice", data := .fields #[vl, vu, vs] } } := Id.kept (t' := sd.toks) fun c oc z => Heap.get?_push_of_some _ z
    obtain ⟨its, rv, ht, hz⟩ := Ie.list hx
    have hlen := rv.length
    refine tail_any (ops := [.ref l, .ref sd.heap.objs.size]) ht.isList.typeIs (PySem.slot_list_getitem.lookup) ?_ (by with_unfolding_all rfl)
    cases b with
    | true =>
      refine wpAny_getItem_list_slice ht.isList (Heap.IsSliceOf.new _ vl vu vs) pl pu ps (by decide) ?_ (by rw [List.size_toArray]; omega)
      rw [show (some (if true = true then (-1 : Int) else 1)) = some (-1) from rfl, PySem.W.krv_pick]
      refine ⟨.ref _, _, Ie.laid (t' := sd.toks) (o := .lst xs.reverse) (fun c oc z => Heap.get?_push_of_some _ z) (Nat.le_refl _) ⟨by rw [List.length_reverse]; exact hz, _, 0, rv.reverse, Heap.get?_push_size _ rfl⟩, rfl, q _ (Ie.hok.fresh (Nat.le_refl _))⟩
    | false =>
      refine wpAny_getItem_list_slice ht.isList (Heap.IsSliceOf.new _ vl vu vs) pl pu ps (by decide) ?_ (by rw [List.size_toArray]; omega)
      rw [show (some (if false = true then (-1 : Int) else 1)) = some 1 from rfl, pick_one]
      refine ⟨.ref _, _, Ie.laid (t' := sd.toks) (o := .lst xs) (fun c oc z => Heap.get?_push_of_some _ z) (Nat.le_refl _) ⟨hz, _, 0, rv, Heap.get?_push_size _ rfl⟩, rfl, q _ (Ie.hok.fresh (Nat.le_refl _))⟩
section
variable {X : Cx} {Γ : Slots} {γ γ1 γ2 : Cells} {a st : Expr} {ra : Itm} {p3 pos : Pos} {P : EPost}
theorem dpAll_rev {K F} : ∀ {vs : List V} {ds : List PyData}, DqAll K F vs ds → DqAll K F vs.reverse ds.reverse
  | _, _, .nil => .nil
  | _, _, .cons h t => by
    rw [List.reverse_cons, List.reverse_cons]
    exact dpAll_append (dpAll_rev t) (.cons h .nil)
theorem ee_turn (h : EE X Γ γ a fun ra g1 => EE X Γ g1 st fun rb g2 => ∃ ds b, Rdb g2 ra (.list ds) ∧ rb = .fz (.int (if b = true then -1 else 1)) ∧ P (.fz (.list (turned b ds))) g2) : EE X Γ γ (.Subscript a (.Slice none none (some st) p3) pos) P := fun F as σ H R E Q q => by
  refine ⟨_, pe_turn pe_wp pe_wp, h F as σ H R E _ fun v r1 g1 F1 as1 H1 h1 x1 R1 i1 => h1 F1 as1 σ H1 R1 (E.mono x1) _ fun u r2 g2 F2 as2 H2 h2 x2 R2 i2 => ?_⟩
  obtain ⟨ds, b, hr, rfl, hp⟩ := h2
  obtain ⟨l, vs, rfl, k1, k2⟩ := hr.list R2 (itm_mono x2 i1)
  refine ⟨_, itm_int.mp i2, l, vs, b, rfl, rfl, k1, fun t ht => ?_⟩
  refine q _ _ _ (upd F2 t (.lst (turned b vs))) as2 _ hp ((x1.trans x2).trans ⟨R2.sameNew _ ht, [], by simp⟩) (R2.new _ ht) (itm_lst.mpr ⟨t, _, rfl, SqL.of upd_same, dpAll_mono (R2.sameNew _ ht) ?_⟩)
  cases b with
  | true => exact dpAll_rev k2
  | false => exact k2
end
end PL

namespace PL
open PySem PySem.Spec PyProof.Rows L2
/-! ### {(a, b): v for ..}: a dict by tuples -/
theorem put_tup {X : Cx} {pins : List (Addr × Obj)} {σ : L2.St} {H : Hp} {s : Shared} {E : Value → Shared → Prop} {D b : Addr} {kvs : List (List Key × V)} {k : List Key} {v : V} {r : Value} {Q : Unit → Shared → Prop}
    (hu : X.A.units + 1 < cLine) (I : Inv X pins σ H s) (hD : H D = some (.dT kvs)) (hz : kvs.length < sizeLine) (hb : H b = some (.tup (k.map kV))) (rv : RelV v r) (h : ∀ s', Inv X pins σ (upd H D (.dT (putK kvs k v))) s' → Q () s') :
    wpAny (model X.prog X.w) X.A (dictSet D (.ref b) r) Q E s := by
  obtain ⟨size, sys, rows, rel, obj⟩ := dt_of I.hok hD
  have few : rows.length ≤ sizeLine := by rw [← Paired.length rel]; exact size
  have more : (putK kvs k v).length ≤ sizeLine := by have := length_putK kvs k v; omega
  refine wpAny_dictSet_heap (hsz := few) (show (tupleKind (mixKind X.prog X.w)).room X.A from (by show X.A.units < cLine; omega)) (key_of I.hok hb) obj fun h' obj' same => h _ ?_
  obtain ⟨o, es, ep, ho, w2, w3, w4, _, w5⟩ := obj'
  refine d_write I (by rw [hD]; exact True.intro) same ⟨o, ho⟩ ⟨more, sys, _, KT.keeps (rel.put k hb rv) fun c ys ec => ?_, o, es, ep, ho, w2, w3, w4, w5⟩
  have hne : c ≠ D := fun z => by rw [z, hD] at ec; cases ec
  rw [upd_ne hne]
  exact ec
def tDcT (wi : TI) (g : TG) (tt : TT) (tk tv : TE) (vs : List Nat) : TE := fun σ H Q => wi σ H fun J Ha => ∀ D, Ha D = none →
  ∃ W : Nat → Nat → Hp → Prop, (∃ m, W 0 m (upd Ha D (.dT []))) ∧
    ∀ i m Hb, W i m Hb → (J.stop i Hb ∧ Q (.ref D) Hb) ∨
      (J.go i Hb ∧ ∃ Nx : Hp → Prop, (∀ Hc, Nx Hc → ∃ m', m' < m ∧ W (i + 1) m' Hc) ∧
        ∀ x Hc, J.yld i Hb x Hc → g x (wipe σ vs) Hc fun τ Hd => wipe τ vs = wipe σ vs ∧ tt τ Hd fun b He =>
          if b = true then tk τ He fun y Hf => tv τ Hf fun z Hg => ∃ kvs k t, y = .ref t ∧ Hg t = some (.tup (k.map kV)) ∧ Hg D = some (.dT kvs) ∧ kvs.length < sizeLine ∧ Nx (upd Hg D (.dT (putK kvs k z))) else Nx He)
abbrev BlkE (X : Cx) (s : Shared) (H : Hp) (scope : Scope) (C : Addr) (cl : List (Str × Addr)) (fp : List Addr) : Cx := X.blk s H scope (compEnvC scope cl C X.env) fp
theorem pe_dcT {X : Cx} {kx vx tg iter : Expr} {ifs : List Expr} {scope : Scope} {own : List (Str × Nat)} {pos : Pos} {wi : TI} {g : TG} {tt : TT} {tk tv : TE} (hX : Cok X) (hi : PI X tg iter wi) (ok : BlkOk X.N X.env.scope scope own)
    (hg : ∀ s H C cl fp, PG (BlkE X s H scope C cl fp) tg g) (ht : ∀ s H C cl fp, PTs (BlkE X s H scope C cl fp) ifs tt)
    (hk : ∀ s H C cl fp, PE (BlkE X s H scope C cl fp) kx tk) (hv : ∀ s H C cl fp, PE (BlkE X s H scope C cl fp) vx tv)
    (hs : ∀ x, foldedSetIterable iter X.env x = pure x := by intro _; rfl) :
    PE X (.DictComp kx vx [⟨tg, iter, ifs, 0⟩] scope pos) (tDcT wi g tt tk tv (own.map (·.2))) := by
  refine ⟨fun pins s σ H Q I h => ?_⟩
  have hcalm := hX.calm
  have hNd := hX.nd
  have hun : X.A.units + 1 < cLine := hX.hu1
  have caps : ∀ y ∈ scope.names, y.2 = .free → ∃ c, X.env.cells.lookup y.1 = some c := fun y hy e =>
    (ok.free y hy e).elim (fun z => I.ok.has _ (.inl z)) (fun z => I.ok.has _ (.inr z))
  rw [arm_eval_DictComp]
  refine wpAny_comprehension_free rfl hs (closure_ok caps) ok.kind (fun y hy e => by rw [ok.uniq y hy, e]) (thn (hi.run pins s σ H _ I h) fun w sa ha => thn ha fun iv sb hb => ?_)
  obtain ⟨it, fp, tn, J, Ha, rfl, Ia, T, sta, fpa, q⟩ := hb
  refine wpAny_newObj_type (newEnv_comp ?_)
  generalize eD : sb.heap.objs.size = D
  have noD : Ha D = none := Ia.hok.fresh (Nat.le_of_eq eD)
  obtain ⟨W, ⟨m0, w0⟩, each⟩ := q D noD
  generalize es3 : ({ sb with heap := sb.heap.push { cls := .type "dict", data := .dict #[] } } : Shared) = sc
  have hc0 : sc.heap = sb.heap.push { cls := .type "dict", data := .dict #[] } := by rw [← es3]
  have Ic : Inv X pins σ (upd Ha D (.dT [])) sc := by
    subst es3 eD
    exact Ia.laid (t' := sb.toks) (fun c o e => Heap.get?_push_of_some _ e) (Nat.le_refl _) (dt_empty sb.heap Ia.big)
  have fpc : ∀ c ∈ fp, FpOk X pins (upd Ha D (.dT [])) c ∧ c < sc.heap.objs.size := fun c hc => by
    obtain ⟨o, eo, _⟩ := T.obj _ _ sta c hc
    have lt := Heap.lt_size eo
    have neD : c ≠ D := by rw [← eD]; exact Nat.ne_of_lt lt
    exact ⟨⟨by rw [upd_ne neD]; exact (fpa c hc).1, (fpa c hc).2⟩, by rw [hc0, Heap.size_push]; exact Nat.lt_succ_of_lt lt⟩
  have stc : tn 0 sc.heap := T.keep _ _ _ sta fun c _ o e => by rw [hc0]; exact Heap.get?_push_of_some _ e
  have Id := block_start Ic ok hNd fpc
  have pg := hg sc (upd Ha D (.dT [])) sc.heap.objs.size (cellsFrom (sc.heap.objs.size + 1) scope.names (cloFrom X.env.cells scope.names [])) fp
  have pt := ht sc (upd Ha D (.dT [])) sc.heap.objs.size (cellsFrom (sc.heap.objs.size + 1) scope.names (cloFrom X.env.cells scope.names [])) fp
  have pk := hk sc (upd Ha D (.dT [])) sc.heap.objs.size (cellsFrom (sc.heap.objs.size + 1) scope.names (cloFrom X.env.cells scope.names [])) fp
  have pv := hv sc (upd Ha D (.dT [])) sc.heap.objs.size (cellsFrom (sc.heap.objs.size + 1) scope.names (cloFrom X.env.cells scope.names [])) fp
  unfold BlkE at pg pt pk pv
  have nofp : ∀ c ∈ fp, (upd Ha D (.dT [])) c = none := fun c hc => (fpc c hc).1.1
  show codeAny _ _ (.compStart (.DictComp kx vx [⟨tg, iter, ifs, 0⟩] scope pos) 0 (.ref it) (.ref D) (compEnvC scope (cellsFrom (sc.heap.objs.size + 1) scope.names (cloFrom X.env.cells scope.names [])) sc.heap.objs.size X.env)) _ _
  generalize eEnv : compEnvC scope (cellsFrom (sc.heap.objs.size + 1) scope.names (cloFrom X.env.cells scope.names [])) sc.heap.objs.size X.env = env at Id pg pt pk pv ⊢
  have locE : env.locals = sc.heap.objs.size := by subst eEnv; rfl
  generalize eHc : upd Ha D (.dT []) = Hc at Ic Id pg pt pk pv w0 nofp fpc
  generalize eSd : ({ heap := pushCells (sc.heap.push { cls := .type "dict", data := .dict #[] }) scope.names, gens := sc.gens, drawn := sc.drawn, toks := sc.toks, os := sc.os } : Shared) = sd at Id ⊢
  have std : tn 0 sd.heap := T.keep _ _ _ stc fun c _ o e => by subst eSd; exact pushCells_keeps _ _ _ _ (Heap.get?_push_of_some _ e)
  have okfp : ∀ {τ : L2.St} {Hx : Hp} {sx : Shared}, Inv (X.blk sc Hc scope env fp) [] τ Hx sx → (∀ c ∈ fp, Hx c = none) → ∀ c ∈ fp, FpOk (X.blk sc Hc scope env fp) [] Hx c := fun Ix no c hc =>
    have z := Ix.ok.exf c hc
    ⟨no c hc, z.1, Ix.ok.exfs c hc, .inl hc, fun x a e => z.2 x a e, fun y hy => by simp at hy⟩
  have loop : codeAny (model X.prog X.w) X.A (.compLoop (.DictComp kx vx [⟨tg, iter, ifs, 0⟩] scope pos) 0 (.ref it) (.ref D) env) (compPost (model X.prog X.w) X.A X.xe none (EP X pins σ Q) (.ref D) sc.heap.objs.size) sd := by
    refine compLoop_anyD (fun n sx => ∃ i Hx, Inv (X.blk sc Hc scope env fp) [] (wipe σ (own.map (·.2))) Hx sx ∧ tn i sx.heap ∧ (∀ c ∈ fp, Hx c = none) ∧ W i n Hx) (fun n sx hx => ?_) m0 ⟨0, Hc, Id, std, nofp, w0⟩
    obtain ⟨i, Hx, Ix, stx, nox, wx⟩ := hx
    rcases each i n Hx wx with ⟨stop, done⟩ | ⟨go, Nx, back, turn⟩
    · refine thnF (T.done (X.blk sc Hc scope env fp) rfl rfl rfl hcalm i [] sx _ Hx (fun _ _ => False) Ix (okfp Ix nox) stx stop) fun r sy hy => ?_
      obtain ⟨rfl, Iy⟩ := hy
      -- back in the def
      have Iz : Inv X pins σ Hx sy := Ic.call' (ch := fp) Iy.os Iy.base Iy.hok Iy.bare fun c hc =>
        have z := (fpc c hc).1.2
        ⟨z.2.2.1, z.1, z.2.2.2.1, z.2.2.2.2⟩
      have free : Hx env.locals = none := Iy.free
      obtain ⟨m, hm, _⟩ := Iy.loc
      have hm : sy.heap.Ns env.locals m := hm
      rw [locE] at free hm
      obtain ⟨k0, k1, k2, k3, k4, k5⟩ := Ic.fpOk (Nat.le_refl _) free
      exact ⟨m, hm, fun h2 sb2 => ⟨.ref D, Hx, Iz.turned (t' := sy.toks) (fun c o hc e => (sb2.2 c hc).trans e) k0 k1 k3 k4 k5, rfl, done⟩⟩
    · refine thnF (T.item (X.blk sc Hc scope env fp) rfl rfl rfl hcalm i [] sx _ Hx (fun _ _ => False) Ix (okfp Ix nox) stx go) fun r sy hy => ?_
      obtain ⟨u, rfl, hy⟩ := hy
      refine thnF hy fun _ sz hz => ?_
      obtain ⟨x, Hz, Iz, rz, yz, stz, noz⟩ := hz
      have Iz' := Iz.pinned (okfp Iz noz) (T.obj _ _ stz)
      refine thnF (pg.run _ sz _ Hz x u _ Iz' rz (turn x Hz yz)) fun _ s1 h1 => ?_
      obtain ⟨τ, H1, I1, e1, q1⟩ := h1
      refine thnF (pt.run _ s1 τ H1 _ I1 q1) fun b s2 h2 => ?_
      obtain ⟨H2, I2, q2⟩ := h2
      have over : ∀ {sw : Shared} {Hw : Hp}, Inv (X.blk sc Hc scope env fp) ([] ++ pinsAt fp sz.heap) τ Hw sw → Nx Hw →
          ∃ m, m < n ∧ ∃ i Hx, Inv (X.blk sc Hc scope env fp) [] (wipe σ (own.map (·.2))) Hx sw ∧ tn i sw.heap ∧ (∀ c ∈ fp, Hx c = none) ∧ W i m Hx := fun {sw Hw} Iw nw => by
        obtain ⟨m', lt, ww⟩ := back Hw nw
        have held : ∀ c ∈ fp, ∀ o, sz.heap.get? c = some o → sw.heap.get? c = some o ∧ Hw c = none := fun c hc o e => by
          have z := Iw.pin (c, o) (List.mem_append_right _ (List.mem_append_right _ (mem_pinsAt hc e)))
          exact ⟨z.1, z.2.1⟩
        have same : (wipe σ (own.map (·.2))).length = τ.length := by rw [← e1, wipe_length]
        refine ⟨m', lt, i + 1, Hw, (Iw.unpinned (pins := [])).weak same fun j v e => ?_, T.keep _ _ _ stz fun c hc o e => (held c hc o e).1, fun c hc => ?_, ww⟩
        · rw [← e1] at e; exact (wipe_some e).1
        · obtain ⟨o, e, _⟩ := T.obj _ _ stz c hc
          exact (held c hc o e).2
      cases b with
      | false =>
        simp only [Bool.false_eq_true, if_false] at q2 ⊢
        exact over I2 q2
      | true =>
        simp only [if_true] at q2 ⊢
        refine thnF (pk.run _ s2 τ H2 _ I2 q2) fun w1 s3 h3 => ?_
        obtain ⟨y, H3, I3, r3, q3⟩ := h3
        refine thnF (pv.run _ s3 τ H3 _ I3 q3) fun w2 s4 h4 => ?_
        obtain ⟨z, H4, I4, r4, kvs, k, t, rfl, h5, h6, h7, nw⟩ := h4
        cases r3
        exact put_tup (X := X.blk sc Hc scope env fp) hun I4 h6 h7 h5 r4 fun s5 I5 => over I5 nw
  exact codeAny_compStart_dict loop (T.self X.A 0 _ _ _ std loop)
end PL

namespace PL
open PySem PySem.Spec PyProof.Rows L2
/-! ### dict comprehensions whose parts change nothing -/
def accI {κ : Type} [DecidableEq κ] (k : Nat → Bool) (ky : Nat → κ) (f : Nat → Itm) : Nat → List (κ × Itm)
  | 0 => []
  | n + 1 => if k n = true then putI (accI k ky f n) (ky n) (f n) else accI k ky f n
theorem putI_len {κ : Type} [DecidableEq κ] (kvs : List (κ × Itm)) (k : κ) (v : Itm) : (putI kvs k v).length ≤ kvs.length + 1 := by
  unfold putI
  split
  · rw [List.length_map]; omega
  · rw [List.length_append]; exact Nat.le_refl _
theorem accI_len {κ : Type} [DecidableEq κ] (k : Nat → Bool) (ky : Nat → κ) (f : Nat → Itm) : ∀ n, (accI k ky f n).length ≤ n
  | 0 => Nat.le_refl _
  | n + 1 => by
    have ih := accI_len k ky f n
    unfold accI
    split
    · exact Nat.le_trans (putI_len _ _ _) (by omega)
    · omega
section
variable {X : Cx} {Γ : Slots} {γ γ1 : Cells} {tg it kx vx : Expr} {ifs : List Expr} {xs : List Itm} {stab : Cells → Prop} {scope : Scope} {own : List (Str × Nat)} {pos : Pos}
theorem wbG_ok (X : Cx) (scope : Scope) (e : Expr) (s : Shared) (H : Hp) (C : Addr) (cl : List (Str × Addr)) (fp : List Addr) : PG (BlkE X s H scope C cl fp) e (wbG X scope e) :=
  ⟨fun pins s' σ H v u Q I r h => pg_wp.run pins s' σ H v u Q I r (h _ ⟨s, _, C, cl, fp, rfl⟩)⟩
theorem wbT_ok (X : Cx) (scope : Scope) (es : List Expr) (s : Shared) (H : Hp) (C : Addr) (cl : List (Str × Addr)) (fp : List Addr) : PTs (BlkE X s H scope C cl fp) es (wbT X scope es) :=
  ⟨fun pins s' σ H Q I h => pts_wp.run pins s' σ H Q I (h _ ⟨s, _, C, cl, fp, rfl⟩)⟩
theorem wbE_ok (X : Cx) (scope : Scope) (e : Expr) (s : Shared) (H : Hp) (C : Addr) (cl : List (Str × Addr)) (fp : List Addr) : PE (BlkE X s H scope C cl fp) e (wbE X scope e) :=
  ⟨fun pins s' σ H Q I h => pe_wp.run pins s' σ H Q I (h _ ⟨s, _, C, cl, fp, rfl⟩)⟩
theorem blkK {X X' : Cx} (h : Blk X scope X') : X'.K = X.K := by obtain ⟨_, _, _, _, _, rfl⟩ := h; rfl
theorem ev_dcT (k : Nat → Bool) (ky : Nat → List Key) (f : Nat → Itm) (hX : Cok X) (ok : BlkOk X.N X.env.scope scope own) (hi : ITV X Γ γ tg it xs stab γ1) (hst : ∀ o, stab (γ1 ++ [o])) (hsz : xs.length ≤ 1000000)
    (hb : ∀ i x, xs[i]? = some x → ∃ Γ2 ws, (∀ j ∈ ws, j ∈ own.map (·.2)) ∧ ∀ X', Blk X scope X' → ∀ G, G = γ1 ++ [.dit (accI k ky f i)] →
      GV X' G (wipeS Γ (own.map (·.2))) tg x Γ2 ws ∧ TVs X' Γ2 G ifs (k i) G ∧ (k i = true → ∃ d, keyT d = some (ky i) ∧ EV X' Γ2 G kx (.fz d) G ∧ EV X' Γ2 G vx (f i) G))
    (hs : ∀ x, foldedSetIterable it X.env x = pure x := by intro _; rfl) :
    EV X Γ γ (.DictComp kx vx [⟨tg, it, ifs, 0⟩] scope pos) (.cl γ1.length) (γ1 ++ [.dit (accI k ky f xs.length)]) := .mk fun F as σ H R E Q q => by
  refine ⟨_, pe_dcT hX pi_wp ok (wbG_ok X scope tg) (wbT_ok X scope ifs) (wbE_ok X scope kx) (wbE_ok X scope vx) hs, hi F as σ H R E _ fun J F1 as1 H1 x1 R1 hJ D hD => ?_⟩
  have l1 : as1.length = γ1.length := R1.len
  have R1' := R1.newCell (cell := .dit []) (o := .dT []) hD ⟨[], upd_same, .nil⟩
  have at1 : (as1 ++ [D])[γ1.length]? = some D := by rw [← l1, List.getElem?_append_right (Nat.le_refl _)]; simp
  have x1' : Ext F1 as1 F1 (as1 ++ [D]) := ⟨Same.refl F1, [D], rfl⟩
  refine ⟨fun i m H' => m = xs.length - i ∧ i ≤ xs.length ∧ ∃ F' as', Ext F1 (as1 ++ [D]) F' as' ∧ Rep X.K F' as' (γ1 ++ [.dit (accI k ky f i)]) H', ⟨xs.length, by simp, Nat.zero_le _, F1, as1 ++ [D], Ext.refl _ _, R1'⟩, ?_⟩
  rintro i m H' ⟨rfl, hle, F', as', x', R'⟩
  obtain ⟨j1, j2⟩ := hJ i F' as' _ H' (x1'.trans x') R' (hst _)
  by_cases hlt : i < xs.length
  · obtain ⟨g1, g2⟩ := j2 xs[i] (List.getElem?_eq_getElem hlt)
    refine .inr ⟨g1, fun H'' => ∃ F' as', Ext F1 (as1 ++ [D]) F' as' ∧ Rep X.K F' as' (γ1 ++ [.dit (accI k ky f (i + 1))]) H'', fun H'' n => ⟨xs.length - (i + 1), by omega, rfl, hlt, n⟩, fun v H'' y => ?_⟩
    obtain ⟨F'', x'', R'', i''⟩ := g2 v H'' y
    obtain ⟨Γ2, ws, hws, hall⟩ := hb i xs[i] (List.getElem?_eq_getElem hlt)
    intro X' hB
    have hK := blkK hB
    refine (hall X' hB _ rfl).1 F'' as' (wipe σ _) H'' v (hK ▸ R'') (hK ▸ env_wipe (E.mono (((x1.trans x1').trans x').trans x'')) _) (hK ▸ i'') _ fun σ2 E2 b2 => ⟨wipe_but b2 hws, ?_⟩
    rw [hK] at E2
    intro X2 hB2
    have hK2 := blkK hB2
    refine (hall X2 hB2 _ rfl).2.1 F'' as' σ2 H'' (hK2 ▸ R'') (hK2 ▸ E2) _ fun F3 as3 H3 x3 R3 => ?_
    rw [hK2] at R3
    have xx := (x'.trans x'').trans x3
    cases hk : k i with
    | false => exact iteF ⟨F3, as3, xx, by unfold accI; rw [hk]; exact R3⟩
    | true =>
      refine iteT fun X3 hB3 => ?_
      have hK3 := blkK hB3
      obtain ⟨d, hd, e1, _⟩ := (hall X3 hB3 _ rfl).2.2 hk
      refine e1.go (hK3 ▸ R3) (hK3 ▸ E2.mono x3) fun w F4 as4 H4 x4 R4 i4 => ?_
      rw [hK3] at R4 i4
      intro X4 hB4
      have hK4 := blkK hB4
      obtain ⟨_, _, _, e2⟩ := (hall X4 hB4 _ rfl).2.2 hk
      refine e2.go (hK4 ▸ R4) (hK4 ▸ E2.mono (x3.trans x4)) fun z F5 as5 H5 x5 R5 i5 => ?_
      rw [hK4] at R5 i5
      obtain ⟨t, rfl, ht⟩ := keyT_v hd (itm_mono x5 i4)
      have hDx : as5[γ1.length]? = some D := ((xx.trans x4).trans x5).get at1
      have hc : (γ1 ++ [Cell.dit (accI k ky f i)])[γ1.length]? = some (.dit (accI k ky f i)) := by rw [List.getElem?_append_right (Nat.le_refl _)]; simp
      obtain ⟨D', k1, ks, k2, k3⟩ := R5.cellAt hc
      rw [hDx] at k1
      cases k1
      have few := accI_len k ky f i
      refine ⟨ks, ky i, t, rfl, R5.fr _ _ ht, k2, by rw [← pr_length k3, sizeLine_eq]; omega, F5, as5, (xx.trans x4).trans x5, ?_⟩
      have R6 := R5.write (cell := .dit (putI (accI k ky f i) (ky i) (f i))) hc (by simp) hDx ⟨_, upd_same, pr_put k3 i5⟩
      have es : (γ1 ++ [Cell.dit (accI k ky f i)]).set γ1.length (.dit (putI (accI k ky f i) (ky i) (f i))) = γ1 ++ [.dit (accI k ky f (i + 1))] := by
        rw [List.set_append_right _ _ (Nat.le_refl _), Nat.sub_self]
        show γ1 ++ [Cell.dit (putI (accI k ky f i) (ky i) (f i))] = _
        rw [show accI k ky f (i + 1) = putI (accI k ky f i) (ky i) (f i) by show (if k i = true then _ else _) = _; rw [if_pos hk]]
      rw [es] at R6
      exact R6
  · have e : i = xs.length := by omega
    subst e
    exact .inl ⟨j1 (Nat.le_refl _), q _ F' as' H' ((x1.trans x1').trans x') R' (itm_cl.mpr ⟨D, x'.get at1, rfl⟩)⟩
theorem ev_dcK (k : Nat → Bool) (ky : Nat → Key) (f : Nat → Itm) (hX : Cok X) (ok : BlkOk X.N X.env.scope scope own) (hi : ITV X Γ γ tg it xs stab γ1) (hst : ∀ o, stab (γ1 ++ [o])) (hsz : xs.length ≤ 1000000)
    (hb : ∀ i x, xs[i]? = some x → ∃ Γ2 ws, (∀ j ∈ ws, j ∈ own.map (·.2)) ∧ ∀ X', Blk X scope X' → ∀ G, G = γ1 ++ [.dic (accI k ky f i)] →
      GV X' G (wipeS Γ (own.map (·.2))) tg x Γ2 ws ∧ TVs X' Γ2 G ifs (k i) G ∧ (k i = true → ∃ d, keyD d = some (ky i) ∧ EV X' Γ2 G kx (.fz d) G ∧ EV X' Γ2 G vx (f i) G))
    (hs : ∀ x, foldedSetIterable it X.env x = pure x := by intro _; rfl) :
    EV X Γ γ (.DictComp kx vx [⟨tg, it, ifs, 0⟩] scope pos) (.cl γ1.length) (γ1 ++ [.dic (accI k ky f xs.length)]) := .mk fun F as σ H R E Q q => by
  refine ⟨_, pe_dc hX.calm hX.nd pi_wp ok (wbG_ok X scope tg) (wbT_ok X scope ifs) (wbE_ok X scope kx) (wbE_ok X scope vx) hs, hi F as σ H R E _ fun J F1 as1 H1 x1 R1 hJ D hD => ?_⟩
  have l1 : as1.length = γ1.length := R1.len
  have R1' := R1.newCell (cell := .dic []) (o := .dK []) hD ⟨[], upd_same, .nil⟩
  have at1 : (as1 ++ [D])[γ1.length]? = some D := by rw [← l1, List.getElem?_append_right (Nat.le_refl _)]; simp
  have x1' : Ext F1 as1 F1 (as1 ++ [D]) := ⟨Same.refl F1, [D], rfl⟩
  refine ⟨fun i m H' => m = xs.length - i ∧ i ≤ xs.length ∧ ∃ F' as', Ext F1 (as1 ++ [D]) F' as' ∧ Rep X.K F' as' (γ1 ++ [.dic (accI k ky f i)]) H', ⟨xs.length, by simp, Nat.zero_le _, F1, as1 ++ [D], Ext.refl _ _, R1'⟩, ?_⟩
  rintro i m H' ⟨rfl, hle, F', as', x', R'⟩
  obtain ⟨j1, j2⟩ := hJ i F' as' _ H' (x1'.trans x') R' (hst _)
  by_cases hlt : i < xs.length
  · obtain ⟨g1, g2⟩ := j2 xs[i] (List.getElem?_eq_getElem hlt)
    refine .inr ⟨g1, fun H'' => ∃ F' as', Ext F1 (as1 ++ [D]) F' as' ∧ Rep X.K F' as' (γ1 ++ [.dic (accI k ky f (i + 1))]) H'', fun H'' n => ⟨xs.length - (i + 1), by omega, rfl, hlt, n⟩, fun v H'' y => ?_⟩
    obtain ⟨F'', x'', R'', i''⟩ := g2 v H'' y
    obtain ⟨Γ2, ws, hws, hall⟩ := hb i xs[i] (List.getElem?_eq_getElem hlt)
    intro X' hB
    have hK := blkK hB
    refine (hall X' hB _ rfl).1 F'' as' (wipe σ _) H'' v (hK ▸ R'') (hK ▸ env_wipe (E.mono (((x1.trans x1').trans x').trans x'')) _) (hK ▸ i'') _ fun σ2 E2 b2 => ⟨wipe_but b2 hws, ?_⟩
    rw [hK] at E2
    intro X2 hB2
    have hK2 := blkK hB2
    refine (hall X2 hB2 _ rfl).2.1 F'' as' σ2 H'' (hK2 ▸ R'') (hK2 ▸ E2) _ fun F3 as3 H3 x3 R3 => ?_
    rw [hK2] at R3
    have xx := (x'.trans x'').trans x3
    cases hk : k i with
    | false => exact iteF ⟨F3, as3, xx, by unfold accI; rw [hk]; exact R3⟩
    | true =>
      refine iteT fun X3 hB3 => ?_
      have hK3 := blkK hB3
      obtain ⟨d, hd, e1, _⟩ := (hall X3 hB3 _ rfl).2.2 hk
      refine e1.go (hK3 ▸ R3) (hK3 ▸ E2.mono x3) fun w F4 as4 H4 x4 R4 i4 => ?_
      rw [hK3] at R4 i4
      intro X4 hB4
      have hK4 := blkK hB4
      obtain ⟨_, _, _, e2⟩ := (hall X4 hB4 _ rfl).2.2 hk
      refine e2.go (hK4 ▸ R4) (hK4 ▸ E2.mono (x3.trans x4)) fun z F5 as5 H5 x5 R5 i5 => ?_
      rw [hK4] at R5 i5
      have hw := keyD_v hd (itm_fz.mp i4)
      have hDx : as5[γ1.length]? = some D := ((xx.trans x4).trans x5).get at1
      have hc : (γ1 ++ [Cell.dic (accI k ky f i)])[γ1.length]? = some (.dic (accI k ky f i)) := by rw [List.getElem?_append_right (Nat.le_refl _)]; simp
      obtain ⟨D', k1, ks, k2, k3⟩ := R5.cellAt hc
      rw [hDx] at k1
      cases k1
      have few := accI_len k ky f i
      refine ⟨ks, ky i, hw, k2, by rw [← pr_length k3, sizeLine_eq]; omega, F5, as5, (xx.trans x4).trans x5, ?_⟩
      have R6 := R5.write (cell := .dic (putI (accI k ky f i) (ky i) (f i))) hc (by simp) hDx ⟨_, upd_same, pr_put k3 i5⟩
      have es : (γ1 ++ [Cell.dic (accI k ky f i)]).set γ1.length (.dic (putI (accI k ky f i) (ky i) (f i))) = γ1 ++ [.dic (accI k ky f (i + 1))] := by
        rw [List.set_append_right _ _ (Nat.le_refl _), Nat.sub_self]
        show γ1 ++ [Cell.dic (putI (accI k ky f i) (ky i) (f i))] = _
        rw [show accI k ky f (i + 1) = putI (accI k ky f i) (ky i) (f i) by show (if k i = true then _ else _) = _; rw [if_pos hk]]
      rw [es] at R6
      exact R6
  · have e : i = xs.length := by omega
    subst e
    exact .inl ⟨j1 (Nat.le_refl _), q _ F' as' H' ((x1.trans x1').trans x') R' (itm_cl.mpr ⟨D, x'.get at1, rfl⟩)⟩
end
end PL

namespace PL
open PySem PySem.Spec PyProof.Rows L2 PpSet
/-! ### set comprehensions, over any kind of set that can be added to -/
abbrev freshSet (w : World) : Obj := { cls := .type "set", dict := none, data := .set #[] 0 (.fresh 0 0 (!w.params.followText "set-order")) }
def AddOk (Y : Cx) {St : Type} (obj : Addr → St → HO) (Add : Hp → V → St → St → Prop) : Prop :=
  ∀ (pins : List (Addr × Obj)) (s : Shared) (σ : L2.St) (H : Hp) (E : Value → Shared → Prop) (D : Addr) (y : V) (u : Value) (st st' : St) (Q : Value → Shared → Prop), Inv Y pins σ H s → H D = some (obj D st) → Add H y st st' → RelV y u →
    (∀ s', Inv Y pins σ (upd H D (obj D st')) s' → Q .none s') → wpAny (model Y.prog Y.w) Y.A (call (.builtin "set.add") [.ref D, u]) Q E s
def tScG {St : Type} (obj : Addr → St → HO) (emp : St) (Add : Hp → V → St → St → Prop) (wi : TI) (g : TG) (tt : TT) (te : TE) (vs : List Nat) : TE := fun σ H Q => wi σ H fun J Ha => ∀ D, Ha D = none →
  ∃ W : Nat → Nat → Hp → Prop, (∃ m, W 0 m (upd Ha D (obj D emp))) ∧
    ∀ i m Hb, W i m Hb → (J.stop i Hb ∧ Q (.ref D) Hb) ∨
      (J.go i Hb ∧ ∃ Nx : Hp → Prop, (∀ Hc, Nx Hc → ∃ m', m' < m ∧ W (i + 1) m' Hc) ∧
        ∀ x Hc, J.yld i Hb x Hc → g x (wipe σ vs) Hc fun τ Hd => wipe τ vs = wipe σ vs ∧ tt τ Hd fun b He =>
          if b = true then te τ He fun y Hf => ∃ st st', Hf D = some (obj D st) ∧ Add Hf y st st' ∧ Nx (upd Hf D (obj D st')) else Nx He)
theorem pe_scG {X : Cx} {St : Type} {obj : Addr → St → HO} {emp : St} {Add : Hp → V → St → St → Prop} {elt tg iter : Expr} {ifs : List Expr} {scope : Scope} {own : List (Str × Nat)} {pos : Pos} {wi : TI} {g : TG} {tt : TT} {te : TE} (hX : Cok X) (hnew : ∀ (H : Hp) (h : Heap), ObjOk X.prog X.w H (h.push (freshSet X.w)) h.objs.size (obj h.objs.size emp))
    (hadd : ∀ (Y : Cx), Y.prog = X.prog → Y.w = X.w → Y.K = X.K → Y.A = X.A → AddOk Y obj Add) (hi : PI X tg iter wi) (ok : BlkOk X.N X.env.scope scope own)
    (hg : ∀ s H C cl fp, PG (BlkE X s H scope C cl fp) tg g) (ht : ∀ s H C cl fp, PTs (BlkE X s H scope C cl fp) ifs tt)
    (hk : ∀ s H C cl fp, PE (BlkE X s H scope C cl fp) elt te)
    (hs : ∀ x, foldedSetIterable iter X.env x = pure x := by intro _; rfl) :
    PE X (.SetComp elt [⟨tg, iter, ifs, 0⟩] scope pos) (tScG obj emp Add wi g tt te (own.map (·.2))) := by
  refine ⟨fun pins s σ H Q I h => ?_⟩
  have hcalm := hX.calm
  have hNd := hX.nd
  have caps : ∀ y ∈ scope.names, y.2 = .free → ∃ c, X.env.cells.lookup y.1 = some c := fun y hy e =>
    (ok.free y hy e).elim (fun z => I.ok.has _ (.inl z)) (fun z => I.ok.has _ (.inr z))
  rw [eval_SetComp]
  refine wpAny_comprehension_free rfl hs (closure_ok caps) ok.kind (fun y hy e => by rw [ok.uniq y hy, e]) (thn (hi.run pins s σ H _ I h) fun w sa ha => thn ha fun iv sb hb => ?_)
  obtain ⟨it, fp, tn, J, Ha, rfl, Ia, T, sta, fpa, q⟩ := hb
  refine newSet_ok (newEnv_comp ?_)
  generalize eD : sb.heap.objs.size = D
  have noD : Ha D = none := Ia.hok.fresh (Nat.le_of_eq eD)
  obtain ⟨W, ⟨m0, w0⟩, each⟩ := q D noD
  generalize es3 : ({ sb with heap := sb.heap.push (freshSet X.w) } : Shared) = sc
  have hc0 : sc.heap = sb.heap.push (freshSet X.w) := by rw [← es3]
  have Ic : Inv X pins σ (upd Ha D (obj D emp)) sc := by
    subst es3 eD
    exact Ia.laid (t' := sb.toks) (fun c o e => Heap.get?_push_of_some _ e) (Nat.le_refl _) (hnew _ sb.heap)
  have fpc : ∀ c ∈ fp, FpOk X pins (upd Ha D (obj D emp)) c ∧ c < sc.heap.objs.size := fun c hc => by
    obtain ⟨o, eo, _⟩ := T.obj _ _ sta c hc
    have lt := Heap.lt_size eo
    have neD : c ≠ D := by rw [← eD]; exact Nat.ne_of_lt lt
    exact ⟨⟨by rw [upd_ne neD]; exact (fpa c hc).1, (fpa c hc).2⟩, by rw [hc0, Heap.size_push]; exact Nat.lt_succ_of_lt lt⟩
  have stc : tn 0 sc.heap := T.keep _ _ _ sta fun c _ o e => by rw [hc0]; exact Heap.get?_push_of_some _ e
  have Id := block_start Ic ok hNd fpc
  have pg := hg sc (upd Ha D (obj D emp)) sc.heap.objs.size (cellsFrom (sc.heap.objs.size + 1) scope.names (cloFrom X.env.cells scope.names [])) fp
  have pt := ht sc (upd Ha D (obj D emp)) sc.heap.objs.size (cellsFrom (sc.heap.objs.size + 1) scope.names (cloFrom X.env.cells scope.names [])) fp
  have pk := hk sc (upd Ha D (obj D emp)) sc.heap.objs.size (cellsFrom (sc.heap.objs.size + 1) scope.names (cloFrom X.env.cells scope.names [])) fp
  unfold BlkE at pg pt pk
  have nofp : ∀ c ∈ fp, (upd Ha D (obj D emp)) c = none := fun c hc => (fpc c hc).1.1
  show codeAny _ _ (.compStart (.SetComp elt [⟨tg, iter, ifs, 0⟩] scope pos) 0 (.ref it) (.ref D) (compEnvC scope (cellsFrom (sc.heap.objs.size + 1) scope.names (cloFrom X.env.cells scope.names [])) sc.heap.objs.size X.env)) _ _
  generalize eEnv : compEnvC scope (cellsFrom (sc.heap.objs.size + 1) scope.names (cloFrom X.env.cells scope.names [])) sc.heap.objs.size X.env = env at Id pg pt pk ⊢
  have locE : env.locals = sc.heap.objs.size := by subst eEnv; rfl
  generalize eHc : upd Ha D (obj D emp) = Hc at Ic Id pg pt pk w0 nofp fpc
  generalize eSd : ({ heap := pushCells (sc.heap.push { cls := .type "dict", data := .dict #[] }) scope.names, gens := sc.gens, drawn := sc.drawn, toks := sc.toks, os := sc.os } : Shared) = sd at Id ⊢
  have std : tn 0 sd.heap := T.keep _ _ _ stc fun c _ o e => by subst eSd; exact pushCells_keeps _ _ _ _ (Heap.get?_push_of_some _ e)
  have okfp : ∀ {τ : L2.St} {Hx : Hp} {sx : Shared}, Inv (X.blk sc Hc scope env fp) [] τ Hx sx → (∀ c ∈ fp, Hx c = none) → ∀ c ∈ fp, FpOk (X.blk sc Hc scope env fp) [] Hx c := fun Ix no c hc =>
    have z := Ix.ok.exf c hc
    ⟨no c hc, z.1, Ix.ok.exfs c hc, .inl hc, fun x a e => z.2 x a e, fun y hy => by simp at hy⟩
  have loop : codeAny (model X.prog X.w) X.A (.compLoop (.SetComp elt [⟨tg, iter, ifs, 0⟩] scope pos) 0 (.ref it) (.ref D) env) (compPost (model X.prog X.w) X.A X.xe none (EP X pins σ Q) (.ref D) sc.heap.objs.size) sd := by
    refine compLoopS_any (fun n sx => ∃ i Hx, Inv (X.blk sc Hc scope env fp) [] (wipe σ (own.map (·.2))) Hx sx ∧ tn i sx.heap ∧ (∀ c ∈ fp, Hx c = none) ∧ W i n Hx) (fun n sx hx => ?_) m0 ⟨0, Hc, Id, std, nofp, w0⟩
    obtain ⟨i, Hx, Ix, stx, nox, wx⟩ := hx
    rcases each i n Hx wx with ⟨stop, done⟩ | ⟨go, Nx, back, turn⟩
    · refine thnF (T.done (X.blk sc Hc scope env fp) rfl rfl rfl hcalm i [] sx _ Hx (fun _ _ => False) Ix (okfp Ix nox) stx stop) fun r sy hy => ?_
      obtain ⟨rfl, Iy⟩ := hy
      -- back in the def
      have Iz : Inv X pins σ Hx sy := Ic.call' (ch := fp) Iy.os Iy.base Iy.hok Iy.bare fun c hc =>
        have z := (fpc c hc).1.2
        ⟨z.2.2.1, z.1, z.2.2.2.1, z.2.2.2.2⟩
      have free : Hx env.locals = none := Iy.free
      obtain ⟨m, hm, _⟩ := Iy.loc
      have hm : sy.heap.Ns env.locals m := hm
      rw [locE] at free hm
      obtain ⟨k0, k1, k2, k3, k4, k5⟩ := Ic.fpOk (Nat.le_refl _) free
      exact ⟨m, hm, fun h2 sb2 => ⟨.ref D, Hx, Iz.turned (t' := sy.toks) (fun c o hc e => (sb2.2 c hc).trans e) k0 k1 k3 k4 k5, rfl, done⟩⟩
    · refine thnF (T.item (X.blk sc Hc scope env fp) rfl rfl rfl hcalm i [] sx _ Hx (fun _ _ => False) Ix (okfp Ix nox) stx go) fun r sy hy => ?_
      obtain ⟨u, rfl, hy⟩ := hy
      refine thnF hy fun _ sz hz => ?_
      obtain ⟨x, Hz, Iz, rz, yz, stz, noz⟩ := hz
      have Iz' := Iz.pinned (okfp Iz noz) (T.obj _ _ stz)
      refine thnF (pg.run _ sz _ Hz x u _ Iz' rz (turn x Hz yz)) fun _ s1 h1 => ?_
      obtain ⟨τ, H1, I1, e1, q1⟩ := h1
      refine thnF (pt.run _ s1 τ H1 _ I1 q1) fun b s2 h2 => ?_
      obtain ⟨H2, I2, q2⟩ := h2
      have over : ∀ {sw : Shared} {Hw : Hp}, Inv (X.blk sc Hc scope env fp) ([] ++ pinsAt fp sz.heap) τ Hw sw → Nx Hw →
          ∃ m, m < n ∧ ∃ i Hx, Inv (X.blk sc Hc scope env fp) [] (wipe σ (own.map (·.2))) Hx sw ∧ tn i sw.heap ∧ (∀ c ∈ fp, Hx c = none) ∧ W i m Hx := fun {sw Hw} Iw nw => by
        obtain ⟨m', lt, ww⟩ := back Hw nw
        have held : ∀ c ∈ fp, ∀ o, sz.heap.get? c = some o → sw.heap.get? c = some o ∧ Hw c = none := fun c hc o e => by
          have z := Iw.pin (c, o) (List.mem_append_right _ (List.mem_append_right _ (mem_pinsAt hc e)))
          exact ⟨z.1, z.2.1⟩
        have same : (wipe σ (own.map (·.2))).length = τ.length := by rw [← e1, wipe_length]
        refine ⟨m', lt, i + 1, Hw, (Iw.unpinned (pins := [])).weak same fun j v e => ?_, T.keep _ _ _ stz fun c hc o e => (held c hc o e).1, fun c hc => ?_, ww⟩
        · rw [← e1] at e; exact (wipe_some e).1
        · obtain ⟨o, e, _⟩ := T.obj _ _ stz c hc
          exact (held c hc o e).2
      cases b with
      | false =>
        simp only [Bool.false_eq_true, if_false] at q2 ⊢
        exact over I2 q2
      | true =>
        simp only [if_true] at q2 ⊢
        refine thnF (pk.run _ s2 τ H2 _ I2 q2) fun w1 s3 h3 => ?_
        obtain ⟨y, H3, I3, r3, st, st', h6, h7, nw⟩ := h3
        exact hadd (X.blk sc Hc scope env fp) rfl rfl rfl rfl _ s3 τ H3 _ D y w1 st st' _ I3 h6 h7 r3 fun s5 I5 => over I5 nw
  exact codeAny_compStart_set loop (T.self X.A 0 _ _ _ std loop)
end PL

namespace PL
open PySem PySem.Spec PyProof.Rows L2 PpSet
/-! ### sets of ints and texts -/
/-- whether a key stands in a list -/
def memB {κ : Type} [DecidableEq κ] (L : List κ) (j : κ) : Bool := L.any fun z => decide (z = j)
theorem memB_iff {κ : Type} [DecidableEq κ] {L : List κ} {j : κ} : memB L j = true ↔ j ∈ L := by
  unfold memB
  rw [List.any_eq_true]
  constructor
  · rintro ⟨z, hz, e⟩
    have : z = j := of_decide_eq_true e
    exact this ▸ hz
  · intro h; exact ⟨j, h, decide_eq_true rfl⟩
def setC (P : Program) (w : World) (L : List Key) : Cell := .raw fun a => SetK P w a (memB L) L.length
def addL {κ : Type} [DecidableEq κ] (L : List κ) (k : κ) : List κ := if memB L k = true then L else L ++ [k]
def objK (P : Program) (w : World) (a : Addr) (L : List Key) : HO := SetK P w a (memB L) L.length
def AddK : Hp → V → List Key → List Key → Prop := fun _ y L L' => ∃ k, y = kV k ∧ L.length + 1 < scanBound ∧ L' = addL L k
theorem addK_ok (Y : Cx) : AddOk Y (objK Y.prog Y.w) AddK := by
  rintro pins s σ H E D y u L L' Q I hD ⟨k, rfl, room, rfl⟩ ry h
  refine call_set_add (kV_is ry) (key_scan ry) (setK_get I hD) room fun h' sb new => ?_
  have he : ∃ o, h'.get? D = some o := by
    have ⟨o, _, _, _, ho, _⟩ := new
    exact ⟨o, ho⟩
  have e1 : (fun j => memB L j || decide (j = k)) = memB (addL L k) := by
    funext j
    unfold addL
    by_cases hk : memB L k = true
    · rw [if_pos hk]
      by_cases hj : j = k
      · subst hj; simp [hk]
      · simp [hj]
    · rw [if_neg hk]
      unfold memB
      rw [List.any_append]
      simp [eq_comm]
  have e2 : (if memB L k = true then L.length else L.length + 1) = (addL L k).length := by
    unfold addL
    by_cases hk : memB L k = true <;> simp [hk]
  rw [e1, e2] at new
  exact h _ (I.write (e := D) (t' := s.toks + 1) (by rw [hD]; trivial) (.inl rfl) (fun b o hb ho => (sb.2 b hb).trans ho) he (setK_new new))
theorem newK_ok (P : Program) (w : World) (H : Hp) (h : Heap) : ObjOk P w H (h.push (freshSet w)) h.objs.size (objK P w h.objs.size []) := by
  have new : (h.push (freshSet w)).SetOf (mixKind P w) h.objs.size (fun _ => false) 0 :=
    ⟨_, #[], 0, _, Heap.get?_push_size _ rfl, ⟨rfl, rfl, rfl⟩, rfl, (fun e he => by simp at he), (fun k => by simp), (by decide), (by rfl), rfl⟩
  have e : memB ([] : List Key) = fun _ => false := by funext j; rfl
  show ObjOk P w H _ _ (SetK P w h.objs.size (memB ([] : List Key)) 0)
  rw [e]
  exact setK_new new
def rLenK (P : Program) (w : World) : List V → Hp → VK → Prop := fun vs H Q => ∃ (a : Addr) (L : List Key), vs = [V.ref a] ∧ H a = some (objK P w a L) ∧ Q (.int (L.length : Int)) H
theorem cr_lenK {X : Cx} : CallR X (.builtin "len") (rLenK X.prog X.w) := by
  rintro pins s σ H xs us Q I r ⟨a, L, rfl, ha, q⟩
  rw [Vals.ref1 r]
  obtain ⟨o, es, ep, t, ho, hex, hd, _, _, hsz, hf, hn⟩ := setK_get I ha
  have big : scanBound < 2 ^ 63 := by decide
  refine call_len_set ho hex hd hf (by omega) ⟨.int (L.length : Int), H, I.tok _, ⟨_, by rw [hn]⟩, q⟩
def keysL (ky : Nat → Key) : Nat → List Key
  | 0 => []
  | n + 1 => addL (keysL ky n) (ky n)
theorem addL_len {κ : Type} [DecidableEq κ] (L : List κ) (k : κ) : (addL L k).length ≤ L.length + 1 := by
  unfold addL; split
  · omega
  · simp
theorem keysL_len (ky : Nat → Key) : ∀ n, (keysL ky n).length ≤ n
  | 0 => Nat.le_refl _
  | n + 1 => Nat.le_trans (addL_len _ _) (by have := keysL_len ky n; omega)
section
variable {X : Cx} {Γ : Slots} {γ γ1 : Cells} {tg it elt a : Expr} {xs : List Itm} {stab : Cells → Prop} {scope : Scope} {own : List (Str × Nat)} {pos p : Pos}
/-- a set comprehension of keys whose parts change nothing: the set in a cell -/
theorem ev_scK (ky : Nat → Key) (hX : Cok X) (ok : BlkOk X.N X.env.scope scope own) (hi : ITV X Γ γ tg it xs stab γ1) (hst : ∀ o, stab (γ1 ++ [o])) (hsz : xs.length < 1000)
    (hb : ∀ i x, xs[i]? = some x → ∃ Γ2 ws, (∀ j ∈ ws, j ∈ own.map (·.2)) ∧ ∀ X', Blk X scope X' → ∀ G, G = γ1 ++ [setC X.prog X.w (keysL ky i)] →
      GV X' G (wipeS Γ (own.map (·.2))) tg x Γ2 ws ∧ ∃ d, keyD d = some (ky i) ∧ EV X' Γ2 G elt (.fz d) G)
    (hs : ∀ x, foldedSetIterable it X.env x = pure x := by intro _; rfl) :
    EV X Γ γ (.SetComp elt [⟨tg, it, [], 0⟩] scope pos) (.cl γ1.length) (γ1 ++ [setC X.prog X.w (keysL ky xs.length)]) := .mk fun F as σ H R E Q q => by
  refine ⟨_, pe_scG (obj := objK X.prog X.w) (emp := []) (Add := AddK) hX (newK_ok X.prog X.w) (fun Y h1 h2 h3 h4 => by rw [← h1, ← h2]; exact addK_ok Y) pi_wp ok (wbG_ok X scope tg) (wbT_ok X scope []) (wbE_ok X scope elt) hs, hi F as σ H R E _ fun J F1 as1 H1 x1 R1 hJ D hD => ?_⟩
  have l1 : as1.length = γ1.length := R1.len
  have R1' := R1.newCell (cell := setC X.prog X.w []) (o := objK X.prog X.w D []) hD upd_same
  have at1 : (as1 ++ [D])[γ1.length]? = some D := by rw [← l1, List.getElem?_append_right (Nat.le_refl _)]; simp
  have x1' : Ext F1 as1 F1 (as1 ++ [D]) := ⟨Same.refl F1, [D], rfl⟩
  refine ⟨fun i m H' => m = xs.length - i ∧ i ≤ xs.length ∧ ∃ F' as', Ext F1 (as1 ++ [D]) F' as' ∧ Rep X.K F' as' (γ1 ++ [setC X.prog X.w (keysL ky i)]) H', ⟨xs.length, by simp, Nat.zero_le _, F1, as1 ++ [D], Ext.refl _ _, R1'⟩, ?_⟩
  rintro i m H' ⟨rfl, hle, F', as', x', R'⟩
  obtain ⟨j1, j2⟩ := hJ i F' as' _ H' (x1'.trans x') R' (hst _)
  by_cases hlt : i < xs.length
  · obtain ⟨g1, g2⟩ := j2 xs[i] (List.getElem?_eq_getElem hlt)
    refine .inr ⟨g1, fun H'' => ∃ F' as', Ext F1 (as1 ++ [D]) F' as' ∧ Rep X.K F' as' (γ1 ++ [setC X.prog X.w (keysL ky (i + 1))]) H'', fun H'' n => ⟨xs.length - (i + 1), by omega, rfl, hlt, n⟩, fun v H'' y => ?_⟩
    obtain ⟨F'', x'', R'', i''⟩ := g2 v H'' y
    obtain ⟨Γ2, ws, hws, hall⟩ := hb i xs[i] (List.getElem?_eq_getElem hlt)
    intro X' hB
    have hK := blkK hB
    refine (hall X' hB _ rfl).1 F'' as' (wipe σ _) H'' v (hK ▸ R'') (hK ▸ env_wipe (E.mono (((x1.trans x1').trans x').trans x'')) _) (hK ▸ i'') _ fun σ2 E2 b2 => ⟨wipe_but b2 hws, ?_⟩
    rw [hK] at E2
    intro X2 hB2
    have hK2 := blkK hB2
    refine tvs_nil (X := X2) (Γ := Γ2) F'' as' σ2 H'' (hK2 ▸ R'') (hK2 ▸ E2) _ fun F3 as3 H3 x3 R3 => ?_
    rw [hK2] at R3
    have xx := (x'.trans x'').trans x3
    refine iteT fun X3 hB3 => ?_
    have hK3 := blkK hB3
    obtain ⟨_, d, hd, e1⟩ := hall X3 hB3 _ rfl
    refine e1.go (hK3 ▸ R3) (hK3 ▸ E2.mono x3) fun w F4 as4 H4 x4 R4 i4 => ?_
    rw [hK3] at R4 i4
    have hw := keyD_v hd (itm_fz.mp i4)
    have hDx : as4[γ1.length]? = some D := (xx.trans x4).get at1
    have hc : (γ1 ++ [setC X.prog X.w (keysL ky i)])[γ1.length]? = some (setC X.prog X.w (keysL ky i)) := by rw [List.getElem?_append_right (Nat.le_refl _)]; simp
    obtain ⟨D', k1, k2⟩ := R4.cellAt hc
    rw [hDx] at k1
    cases k1
    have few := keysL_len ky i
    have big : 2000 < scanBound := by decide
    refine ⟨keysL ky i, keysL ky (i + 1), k2, ⟨ky i, hw, by omega, rfl⟩, F4, as4, xx.trans x4, ?_⟩
    have R6 := R4.write (cell := setC X.prog X.w (keysL ky (i + 1))) (o := objK X.prog X.w D (keysL ky (i + 1))) hc (by unfold setC; simp) hDx upd_same
    have es : (γ1 ++ [setC X.prog X.w (keysL ky i)]).set γ1.length (setC X.prog X.w (keysL ky (i + 1))) = γ1 ++ [setC X.prog X.w (keysL ky (i + 1))] := by
      rw [List.set_append_right _ _ (Nat.le_refl _), Nat.sub_self]
      rfl
    rw [es] at R6
    exact R6
  · have e : i = xs.length := by omega
    subst e
    exact .inl ⟨j1 (Nat.le_refl _), q _ F' as' H' ((x1.trans x1').trans x') R' (itm_cl.mpr ⟨D, x'.get at1, rfl⟩)⟩
theorem ev_lenK {L : List Key} {cc : Nat} (bt : Bt X "len") (ha : EV X Γ γ a (.cl cc) γ1) (hc : γ1[cc]? = some (setC X.prog X.w L)) (hs : starEach [a] X.env = (false, eval a X.env) :: starEach [] X.env := by rfl) : EV X Γ γ (.Call (.Name "len" p) [a] [] pos) (.fz (.int (L.length : Int))) γ1 :=
  ev_callB cr_lenK bt (by decide +kernel) (av_cons ha av_nil hs) (fun F as H vs R i Q q => by
    obtain ⟨v, rfl, h⟩ := itms1 i
    obtain ⟨D, hD, rfl⟩ := itm_cl.mp h
    obtain ⟨D', k1, k2⟩ := R.cellAt hc
    rw [hD] at k1
    cases k1
    exact ⟨D, L, rfl, k2, q _ F as H (Ext.refl F as) R (itm_int.mpr rfl)⟩) (he := hs)
end
end PL

namespace PL
open PySem PySem.Spec PyProof.Rows L2
/-! ### dict(pairs), list(dict): keys ints and texts -/
def kD : Key → PyData
  | .inl i => .int i
  | .inr z => .str z
theorem kD_key (k : Key) : keyD (kD k) = some k := by cases k <;> rfl
theorem dq_key {K F} (k : Key) : Dq K F (kV k) (kD k) := by
  cases k with
  | inl i => exact .int i
  | inr z => exact .str z
def pairsD (prs : List (Key × PyData)) : List PyData := prs.map fun y => .tuple [kD y.1, y.2]
theorem dq_prs {K F as} : ∀ {prs : List (Key × PyData)} {vs : List V}, DqAll K F vs (pairsD prs) → ∃ (ts : List Addr) (ks : List (Key × V)), vs = ts.map V.ref ∧ Paired (fun t kv => F t = some (.tup [kV kv.1, kv.2])) ts ks ∧ PrI K F as Key (prs.map fun y => (y.1, Itm.fz y.2)) ks
  | [], _, .nil => ⟨[], [], rfl, .nil, .nil⟩
  | y :: prs, _, .cons h t => by
    obtain ⟨ts, ks, e1, e2, e3⟩ := dq_prs (as := as) t
    cases h with
    | @tup A vs _ hA hr =>
      cases hr with
      | @cons v1 _ _ _ h1 hr =>
        cases hr with
        | @cons v2 _ _ _ h2 hr =>
          cases hr
          have ev := keyD_v (kD_key y.1) h1
          exact ⟨A :: ts, (y.1, v2) :: ks, by rw [e1]; rfl, .cons (by rw [hA, ev]) e2, .cons ⟨rfl, .fz h2⟩ e3⟩
theorem paired_imp' {α β : Type} {R S : α → β → Prop} (f : ∀ a b, R a b → S a b) : ∀ {xs : List α} {ys : List β}, Paired R xs ys → Paired S xs ys
  | _, _, .nil => .nil
  | _, _, .cons h t => .cons (f _ _ h) (paired_imp' f t)
section
variable {X : Cx} {Γ : Slots} {γ γ1 : Cells} {a : Expr} {r : Itm} {pos p : Pos}
theorem ev_dictP {prs : List (Key × PyData)} (hX : Cok X) (bt : Bt X "dict") (ha : EV X Γ γ a r γ1) (hr : Rdb γ1 r (.list (pairsD prs))) (hs : starEach [a] X.env = (false, eval a X.env) :: starEach [] X.env := by rfl) :
    EV X Γ γ (.Call (.Name "dict" p) [a] [] pos) (.cl γ1.length) (γ1 ++ [.dic (mergeI [] (prs.map fun y => (y.1, Itm.fz y.2)))]) :=
  ev_callTy (call_dictP hX.calm) bt (by decide +kernel) (av_cons ha av_nil hs) (fun F as H vs R i Q q => by
    obtain ⟨v, rfl, h⟩ := itms1 i
    obtain ⟨l, us, rfl, k1, k2⟩ := hr.list R h
    obtain ⟨ts, ks, rfl, e2, e3⟩ := dq_prs (as := as) k2
    refine ⟨l, ts, ks, rfl, k1, paired_imp' (fun t kv e => SqT.of (R.fr _ _ e)) e2, fun D hD => ?_⟩
    have R2 := R.newCell (cell := .dic (mergeI [] (prs.map fun y => (y.1, Itm.fz y.2)))) (o := .dK (mergeK [] ks)) hD ⟨_, upd_same, pr_merge (paired_mono ⟨Same.refl F, [D], rfl⟩ e3) .nil⟩
    exact q _ F (as ++ [D]) _ ⟨Same.refl F, [D], rfl⟩ R2 (itm_cl.mpr ⟨D, by rw [← R.len, List.getElem?_append_right (Nat.le_refl _)]; simp, rfl⟩)) (he := hs)
theorem dq_keys {K F as} : ∀ {kvs : List (Key × Itm)} {ks : List (Key × V)}, PrI K F as Key kvs ks → DqAll K F (ks.map fun kv => kV kv.1) (kvs.map fun kv => kD kv.1)
  | _, _, .nil => .nil
  | (k1, _) :: _, (k2, _) :: _, .cons h t => by
    have e : k1 = k2 := h.1
    subst e
    exact .cons (dq_key k1) (dq_keys t)
theorem ev_listK {kvs : List (Key × Itm)} {cc : Nat} (hX : Cok X) (bt : Bt X "list") (ha : EV X Γ γ a (.cl cc) γ1) (hc : γ1[cc]? = some (.dic kvs)) (hs : starEach [a] X.env = (false, eval a X.env) :: starEach [] X.env := by rfl) :
    EV X Γ γ (.Call (.Name "list" p) [a] [] pos) (.fz (.list (kvs.map fun kv => kD kv.1))) γ1 :=
  ev_callTy (call_listD hX.calm) bt (by decide +kernel) (av_cons ha av_nil hs) (fun F as H vs R i Q q => by
    obtain ⟨v, rfl, h⟩ := itms1 i
    obtain ⟨D, hD, rfl⟩ := itm_cl.mp h
    obtain ⟨D', k1, ks, k2, k3⟩ := R.cellAt hc
    rw [hD] at k1
    cases k1
    refine ⟨D, ks, rfl, .inl k2, fun l hl => ?_⟩
    exact q _ (upd F l (.lst (ks.map fun kv => kV kv.1))) as _ ⟨R.sameNew _ hl, [], by simp⟩ (R.new _ hl) (itm_lst.mpr ⟨l, _, rfl, SqL.of upd_same, dpAll_mono (R.sameNew _ hl) (dq_keys k3)⟩)) (he := hs)
variable {o e b : Expr} {P : EPost}
/-! ### texts, by what follows -/
theorem ee_join {apos : Pos} (h : EE X Γ γ o fun ro g1 => ∃ s, ro = .fz (.str s) ∧ EE X Γ g1 e fun r g2 => ∃ ys : List Str, Rdb g2 r (.list (ys.map .str)) ∧ (ys.map (·.length)).sum + ys.length * s.length ≤ 1000000 ∧ P (.fz (.str (Txt.join s ys))) g2)
    (hs : starEach [e] X.env = [(false, eval e X.env)] := by rfl) (hbase : attributeBase o "join" X.env (eval o X.env) = eval o X.env := by rfl) (hline : (apos.endLine == pos.line) = true := by rfl) :
    EE X Γ γ (.Call (.Attribute o "join" apos) [e] [] pos) P := fun F as σ H R E Q q => by
  refine ⟨_, pe_join pe_wp pe_wp hs hbase hline, h F as σ H R E _ fun v ro g1 F1 as1 H1 h1 x1 R1 i1 => ?_⟩
  obtain ⟨s, rfl, h2⟩ := h1
  refine ⟨⟨s, itm_str.mp i1⟩, h2 F1 as1 σ H1 R1 (E.mono x1) _ fun u r g2 F2 as2 H2 h3 x2 R2 i2 => ?_⟩
  obtain ⟨ys, hr, hz, hp⟩ := h3
  obtain ⟨l, rfl, hl⟩ := hr.strs R2 i2
  exact ⟨s, l, ys, itm_str.mp (itm_mono x2 i1), rfl, .inl hl, by omega, q _ _ _ F2 as2 H2 hp (x1.trans x2) R2 (itm_str.mpr rfl)⟩
theorem ee_ixS (h : EE X Γ γ a fun ra g1 => EE X Γ g1 b fun rb g2 => ∃ z i cp, ra = .fz (.str z) ∧ rb = .fz (.int i) ∧ z.length ≤ sizeLine ∧ atI z.cps.toList i = some cp ∧ P (.fz (.str ⟨#[cp]⟩)) g2) (hs : PlainIx b := by exact fun _ _ => rfl) : EE X Γ γ (.Subscript a b pos) P := fun F as σ H R E Q q => by
  refine ⟨_, pe_ix ix_str pe_wp pe_wp hs, h F as σ H R E _ fun v ra g1 F1 as1 H1 h1 x1 R1 i1 => h1 F1 as1 σ H1 R1 (E.mono x1) _ fun u rb g2 F2 as2 H2 h2 x2 R2 i2 => ?_⟩
  obtain ⟨z, i, cp, rfl, rfl, hz, hi, hp⟩ := h2
  exact ⟨z, i, cp, itm_str.mp (itm_mono x2 i1), itm_int.mp i2, hz, hi, q _ _ _ F2 as2 H2 hp (x1.trans x2) R2 (itm_str.mpr rfl)⟩
/-- a, b = a list of data -/
theorem gv_lst {γ : Cells} {Γ Γ' : Slots} {es : List Expr} {ds : List PyData} {kk n : Nat} {ws : List Nat} {ra : Itm} (hX : Cok X) (hr : Rdb γ ra (.list ds)) (h : GVs X γ Γ es (ds.map Itm.fz) Γ' ws) (hl : ds.length = n) (hn : (assignEach es X.env).length = n := by rfl) (hst : (assignEach es X.env).findIdx? (·.1) = none := by rfl) :
    GV X γ Γ (.Tuple es kk pos) ra Γ' ws := fun F as σ H v R E I Q q => by
  obtain ⟨a, vs, rfl, h1, h2⟩ := hr.list R I
  exact ⟨_, pg_lst (n := n) hX.calm pgs_wp hn hst, a, vs, rfl, h1, (dpAll_length h2).trans hl, h F as σ H vs R E (itms_of_dp h2) Q q⟩
theorem ee_sorted (bt : Bt X "sorted") (h : EE X Γ γ a fun r g => ∃ ns : List Int, Rdb g r (.list (ns.map .int)) ∧ P (.fz (.list ((srt ns).map .int))) g) (hs : starEach [a] X.env = (false, eval a X.env) :: starEach [] X.env := by rfl) : EE X Γ γ (.Call (.Name "sorted" p) [a] [] pos) P := fun F as σ H R E Q q => by
  refine ⟨_, pe_callB cr_sortedI bt.gl bt.mg (by decide +kernel) (pa_cons pe_wp pa_nil hs) (by decide) (by decide) hs, h F as σ H R E _ fun v r g F1 as1 H1 h1 x1 R1 i1 => ?_⟩
  obtain ⟨ns, hr, hp⟩ := h1
  obtain ⟨l, rfl, hl⟩ := hr.ints R1 i1
  refine ⟨l, ns, rfl, hl, fun ns' t m1 m2 ht => ?_⟩
  rw [srt_only m1 m2]
  exact q _ _ _ (upd F1 t (.lst ((srt ns).map V.int))) as1 _ hp (x1.trans ⟨R1.sameNew _ ht, [], by simp⟩) (R1.new _ ht) (itm_lst.mpr ⟨t, _, rfl, SqL.of upd_same, dpAll_ints _⟩)
theorem srt_three {ns : List Int} (h : ns.length = 3) : ∃ x y z, srt ns = [x, y, z] ∧ x ≤ y ∧ y ≤ z ∧ x ∈ ns ∧ y ∈ ns ∧ z ∈ ns := by
  have hl := (srt_perm ns).length_eq
  rw [h] at hl
  match e : srt ns, hl with
  | [x, y, z], _ =>
    have hp := srt_le ns
    rw [e] at hp
    have m : ∀ w ∈ [x, y, z], w ∈ ns := fun w hw => (srt_perm ns).mem_iff.mp (e ▸ hw)
    simp at hp
    exact ⟨x, y, z, rfl, hp.1.1, hp.2, m x (by simp), m y (by simp), m z (by simp)⟩
end
end PL

namespace PL
open PySem PySem.Spec PyProof.Rows L2
section
variable {X : Cx} {Γ : Slots} {γ : Cells} {rest : List Stmt} {R : SE}
/-- a pair of lists in cells is frozen -/
theorem SVs.freezePair {i c d : Nat} {ds es : List PyData} (hi : Γ[i]? = some (some (.tp [.cl c, .cl d]))) (hc : γ[c]? = some (.lst (ds.map Itm.fz))) (hd : γ[d]? = some (.lst (es.map Itm.fz))) (hne : c ≠ d)
    (h : SVs X (Γ.set i (some (.fz (.tuple [.list ds, .list es])))) ((γ.set c .dead).set d .dead) rest R) : SVs X Γ γ rest R := fun F as σ H D Rp E C => by
  obtain ⟨v, hv, hr⟩ := E.2 i _ hi
  cases hr with
  | @tp A vs _ hA hvs =>
    obtain ⟨v1, v2, rfl, i1, i2⟩ := itms2 hvs
    obtain ⟨a, ha, rfl⟩ := itm_cl.mp i1
    obtain ⟨b, hb, rfl⟩ := itm_cl.mp i2
    obtain ⟨a', k1, us, k2, k3⟩ := Rp.cellAt hc
    rw [ha] at k1
    cases k1
    obtain ⟨b', l1, ws, l2, l3⟩ := Rp.cellAt hd
    rw [hb] at l1
    cases l1
    obtain ⟨R1, sm1⟩ := Rp.freeze hc (by simp) ha k2
    have hd1 : (γ.set c Cell.dead)[d]? = some (.lst (es.map Itm.fz)) := by rw [List.getElem?_set_ne hne]; exact hd
    obtain ⟨R2, sm2⟩ := R1.freeze hd1 (by simp) hb l2
    have x1 : Ext F as (upd F a (.lst us)) as := ⟨sm1, [], by simp⟩
    have x2 : Ext (upd F a (.lst us)) as (upd (upd F a (.lst us)) b (.lst ws)) as := ⟨sm2, [], by simp⟩
    refine h _ as σ H D R2 ?_ (C.mono (x1.trans x2))
    have q1 : Dq X.K (upd (upd F a (.lst us)) b (.lst ws)) (.ref a) (.list ds) := dp_mono sm2 (.lst (SqL.of upd_same) (dpAll_mono sm1 (itms_fz k3)))
    have q2 : Dq X.K (upd (upd F a (.lst us)) b (.lst ws)) (.ref b) (.list es) := .lst (SqL.of upd_same) (dpAll_mono (x1.trans x2).1 (itms_fz l3))
    have E2 := (E.mono (x1.trans x2)).set (i := i) (v := .ref A) (itm_tup.mpr ⟨A, _, rfl, (x1.trans x2).1 _ _ hA, .cons q1 (.cons q2 .nil)⟩)
    have es2 : σ.set i (some (.ref A)) = σ := by
      apply List.ext_getElem?
      intro j
      by_cases hj : i = j
      · subst hj
        rw [List.getElem?_set_self (List.getElem?_eq_some_iff.mp hv).1, hv]
      · rw [List.getElem?_set_ne hj]
    rw [es2] at E2
    exact E2
variable {a b : Expr} {γ1 γ2 : Cells} {pos : Pos}
/-- tuples put together, neither empty -/
theorem ev_catT {ds es : List PyData} (ha : EV X Γ γ a (.fz (.tuple ds)) γ1) (hb : EV X Γ γ1 b (.fz (.tuple es)) γ2) (h1 : ds ≠ []) (h2 : es ≠ []) (hz : ds.length + es.length ≤ 1000000) : EV X Γ γ (.BinOp a .Add b pos) (.fz (.tuple (ds ++ es))) γ2 :=
  ev_op op_catT ha hb fun F as H x y R hx hy Q q => by
    obtain ⟨l, us, rfl, p1, p2⟩ := itm_tup.mp hx
    obtain ⟨l', us', rfl, p1', p2'⟩ := itm_tup.mp hy
    have e := dpAll_length p2
    have e' := dpAll_length p2'
    have n1 : us ≠ [] := fun z => h1 (by subst z; cases p2; rfl)
    have n2 : us' ≠ [] := fun z => h2 (by subst z; cases p2'; rfl)
    refine ⟨l, l', us, us', rfl, rfl, SqT.of (R.fr _ _ p1), SqT.of (R.fr _ _ p1'), n1, by rw [sizeLine_eq]; omega, fun z => (n2 z).elim, fun _ t ht => ?_⟩
    exact q _ (upd F t (.tup (us ++ us'))) as _ ⟨R.sameNew _ ht, [], by simp⟩ (R.new _ ht) (itm_tup.mpr ⟨t, _, rfl, upd_same, dpAll_mono (R.sameNew _ ht) (dpAll_append p2 p2')⟩)
end
end PL

namespace PL
open PySem PySem.Spec PyProof.Rows L2
/-! ### list(zip(xs, ys)) -/
namespace LZ
theorem zip_no_len : typeLookup (.type "zip") "__len__" = pure none := by rw [typeLookup_type, builtinLookup_eq_fast]; kernel_rfl
theorem zip_no_hint : typeLookup (.type "zip") "__length_hint__" = pure none := by rw [typeLookup_type, builtinLookup_eq_fast]; kernel_rfl
/-- how the zip object at z stands when i items were taken -/
def ZS (z TI TO i1 i2 a b : Addr) (i : Nat) (h : Heap) : Prop :=
  ((IsZip h z TI TO .none ∧ ∃ x y, IsPair h TO x y) ∨ ∃ T f oT, IsZipHeld h z TI TO T f ∧ h.get? T = some oT) ∧ IsPair h TI (.ref i1) (.ref i2) ∧ h.IsListIter i1 a i ∧ h.IsListIter i2 b i ∧ ∃ o, h.get? TO = some o
theorem ZS.keep {z TI TO i1 i2 a b q : Addr} {i : Nat} {h h' : Heap} (S : ZS z TI TO i1 i2 a b i h) (n1 : z ≠ q) (n2 : TI ≠ q) (n3 : TO ≠ q) (n4 : i1 ≠ q) (n5 : i2 ≠ q)
    (k : ∀ c o, c ≠ q → h.get? c = some o → h'.get? c = some o) (kq : ∀ o, h.get? q = some o → ∃ o', h'.get? q = some o') : ZS z TI TO i1 i2 a b i h' := by
  obtain ⟨S1, S2, S3, S4, oTO, S5⟩ := S
  refine ⟨?_, k _ _ n2 S2, S3.at fun o e => k _ _ n4 e, S4.at fun o e => k _ _ n5 e, oTO, k _ _ n3 S5⟩
  rcases S1 with ⟨e1, x, y, e2⟩ | ⟨T, f, oT, e1, e2⟩
  · exact .inl ⟨k _ _ n1 e1, x, y, k _ _ n3 e2⟩
  · by_cases hT : T = q
    · subst hT
      obtain ⟨o', e'⟩ := kq _ e2
      exact .inr ⟨T, f, o', k _ _ n1 e1, e'⟩
    · exact .inr ⟨T, f, oT, k _ _ n1 e1, k _ _ hT e2⟩
variable {X : Cx} {pins : List (Addr × Obj)} {σ : L2.St}
/-- one item more -/
theorem zs_next {z TI TO i1 i2 a b : Addr} {i : Nat} {s : Shared} {xs ys : Array Value} {x y : Value} {A : Around} {E : Value → Shared → Prop} {Q : Option Value → Shared → Prop} (D : ZipApart z TI TO i1 i2 a b) (S : ZS z TI TO i1 i2 a b i s.heap)
    (ha : s.heap.IsList a xs) (hb : s.heap.IsList b ys) (hx : xs[i]? = some x) (hy : ys[i]? = some y)
    (hQ : ∀ h', ZS z TI TO i1 i2 a b (i + 1) h' → IsPair h' s.heap.objs.size x y → h'.objs.size = s.heap.objs.size + 1 → (∀ c o, c ≠ z → c ≠ TO → c ≠ i1 → c ≠ i2 → s.heap.get? c = some o → h'.get? c = some o) → Q (some (.ref s.heap.objs.size)) { s with heap := h' }) :
    wpAny (model X.prog X.w) A (pyNext (.ref z)) Q E s := by
  obtain ⟨S1, S2, S3, S4, oTO, S5⟩ := S
  rcases S1 with ⟨e1, x0, y0, e2⟩ | ⟨T, f, oT, e1, e2⟩
  · exact wpAny_pyNext_zip_item D e1 S2 e2 S3 S4 ha hb hx hy fun h' c1 c2 c3 c4 c5 c6 c7 => hQ h' ⟨.inr ⟨_, _, _, c1, c5⟩, c7 _ _ D.TIz D.TITO D.TIi1 D.TIi2 S2, c3, c4, _, c2⟩ c5 c6 c7
  · exact wpAny_pyNext_zip_item_held D e1 e2 S2 S3 S4 ha hb hx hy fun h' c1 c3 c4 c5 c6 c7 => by
      have hT : ∃ o, h'.get? T = some o := by
        by_cases n1 : T = z
        · exact ⟨_, by rw [n1]; exact c1⟩
        by_cases n2 : T = i1
        · obtain ⟨o, e, _⟩ := c3
          exact ⟨o, n2 ▸ e⟩
        by_cases n3 : T = i2
        · obtain ⟨o, e, _⟩ := c4
          exact ⟨o, n3 ▸ e⟩
        exact ⟨_, c7 _ _ n1 n2 n3 e2⟩
      obtain ⟨o, hT⟩ := hT
      exact hQ h' ⟨.inr ⟨T, true, o, c1, hT⟩, c7 _ _ D.TIz D.TIi1 D.TIi2 S2, c3, c4, oTO, c7 _ _ D.TOz D.TOi1 D.TOi2 S5⟩ c5 c6 fun c o n1 _ n3 n4 e => c7 c o n1 n3 n4 e
theorem zs_end {z TI TO i1 i2 a b : Addr} {i : Nat} {s : Shared} {xs ys : Array Value} {A : Around} {E : Value → Shared → Prop} {Q : Option Value → Shared → Prop} (hh : A.handled = none) (D : ZipApart z TI TO i1 i2 a b) (S : ZS z TI TO i1 i2 a b i s.heap)
    (ha : s.heap.IsList a xs) (hb : s.heap.IsList b ys) (hend : xs[i]? = none ∨ ys[i]? = none)
    (hQ : ∀ h', (∀ c o, c ≠ z → c ≠ TO → c ≠ i1 → c ≠ i2 → s.heap.get? c = some o → h'.get? c = some o) → Q none { s with heap := h' }) :
    wpAny (model X.prog X.w) A (pyNext (.ref z)) Q E s := by
  obtain ⟨S1, S2, S3, S4, oTO, S5⟩ := S
  rcases S1 with ⟨e1, x0, y0, e2⟩ | ⟨T, f, oT, e1, e2⟩
  · exact wpAny_pyNext_zip_end hh D e1 S2 e2 S3 S4 ha hb hend hQ
  · exact wpAny_pyNext_zip_end_held hh D e1 e2 S2 S3 S4 ha hb hend fun h' k => hQ h' fun c o n1 _ n3 n4 e => k c o n1 n3 n4 e
def fpZ (z TI TO i1 i2 : Addr) : List Addr := [z, TI, TO, i1, i2]
/-- a promise over the items that come: P i acc H, i items taken -/
structure Run (K : PySem.W.Frag) (q : Addr) (xs ys : List V) (n : Nat) (P : Nat → List V → Hp → Prop) (H0 : Hp) : Prop where
  at_ : ∀ i acc H, P i acc H → H q = some (.lst acc) ∧ acc.length = i ∧ ∀ c o, H0 c = some o → H c = some o
  go : ∀ i acc H x y T, i < n → P i acc H → xs[i]? = some x → ys[i]? = some y → H T = none → P (i + 1) (acc ++ [.ref T]) (upd (upd H T (.tup [x, y])) q (.lst (acc ++ [.ref T])))
theorem zip_loop {z TI TO i1 i2 a b q : Addr} {xs ys : List V} {n : Nat} {P : Nat → List V → Hp → Prop} {H0 : Hp} {A1 : Around} {Rs : Result → Shared → Prop} (hh : A1.handled = none) (D : ZipApart z TI TO i1 i2 a b) (hqz : q ∉ fpZ z TI TO i1 i2) (hn : n = min xs.length ys.length) (hz : n < sizeLine)
    (ha : SqL X.K H0 a xs) (hb : SqL X.K H0 b ys) (hr : Run X.K q xs ys n P H0) (hdone : ∀ acc H s, Inv X pins σ H s → P n acc H → Rs (.ok (.ret .none)) s) :
    ∀ (m i : Nat) (acc : List V) (H : Hp) (s : Shared), m + i = n → Inv X pins σ H s → P i acc H → ZS z TI TO i1 i2 a b i s.heap → (∀ c ∈ fpZ z TI TO i1 i2, FpOk X pins H c) →
      codeAny (model X.prog X.w) A1 (.builtin "list.extend.loop" ⟨[.ref q, .ref z, .none], []⟩) Rs s := by
  intro m
  induction m with
  | zero =>
    intro i acc H s hm I hP S hf
    obtain ⟨_, _, sm⟩ := hr.at_ i acc H hP
    obtain ⟨its, rv, p, _⟩ := I.list (same_l (F := H0) (F' := H) (fun c o e => sm c o e) ha)
    obtain ⟨its2, rv2, p2, _⟩ := I.list (same_l (F := H0) (F' := H) (fun c o e => sm c o e) hb)
    have l1 := rv.length
    have l2 := rv2.length
    refine codeAny_builtin PySem.F.entry_extend_loop ?_
    rw [Around.under_plainId PySem.F.plain_extend_loop _]
    show wpAny _ A1.in1 (pyNext (.ref z) >>= _) _ _ s
    refine wpAny_bind (zs_end (X := X) hh D S p.isList p2.isList ?_ fun h' k => ?_)
    · rcases Nat.le_total xs.length ys.length with h | h
      · exact .inl (by simp; omega)
      · exact .inr (by simp; omega)
    · have I1 : Inv X pins σ H { s with heap := h' } := I.turnedL (t' := s.toks) (ch := fpZ z TI TO i1 i2) (fun c o hb q => k c o (fun q' => hb (by simp [fpZ, q'])) (fun q' => hb (by simp [fpZ, q'])) (fun q' => hb (by simp [fpZ, q'])) (fun q' => hb (by simp [fpZ, q'])) q) hf
      have e : i = n := by omega
      subst e
      exact wpAny_pure (hdone acc H _ I1 hP)
  | succ m ih =>
    intro i acc H s hm I hP S hf
    obtain ⟨hq, hl, sm⟩ := hr.at_ i acc H hP
    obtain ⟨its, rv, p, _⟩ := I.list (same_l (F := H0) (F' := H) (fun c o e => sm c o e) ha)
    obtain ⟨its2, rv2, p2, _⟩ := I.list (same_l (F := H0) (F' := H) (fun c o e => sm c o e) hb)
    have l1 := rv.length
    have l2 := rv2.length
    obtain ⟨u, hu, ru⟩ := rv.get (List.getElem?_eq_getElem (show i < xs.length by omega))
    obtain ⟨u2, hu2, ru2⟩ := rv2.get (List.getElem?_eq_getElem (show i < ys.length by omega))
    refine codeAny_builtin PySem.F.entry_extend_loop ?_
    rw [Around.under_plainId PySem.F.plain_extend_loop _]
    show wpAny _ A1.in1 (pyNext (.ref z) >>= _) _ _ s
    refine wpAny_bind (zs_next (X := X) D S p.isList p2.isList (x := u) (y := u2) (by simpa using hu) (by simpa using hu2) fun h' S' hT hsz k => ?_)
    have new : ObjOk X.prog X.w (upd H s.heap.objs.size (.tup [xs[i], ys[i]])) h' s.heap.objs.size (.tup [xs[i], ys[i]]) :=
      ⟨by show 2 ≤ sizeLine; decide, [u, u2], .cons ru (.cons ru2 .nil), ⟨_, hT, rfl, _, rfl⟩⟩
    have I1 : Inv X pins σ (upd H s.heap.objs.size (.tup [xs[i], ys[i]])) { s with heap := h' } :=
      I.turnedNew (t' := s.toks) (ch := fpZ z TI TO i1 i2) (fun c o hb q => k c o (fun q' => hb (by simp [fpZ, q'])) (fun q' => hb (by simp [fpZ, q'])) (fun q' => hb (by simp [fpZ, q'])) (fun q' => hb (by simp [fpZ, q'])) q) hf (Nat.le_refl _) new
    have hfr : H s.heap.objs.size = none := I.hok.fresh (Nat.le_refl _)
    have hne : q ≠ s.heap.objs.size := ne_of_none hq hfr
    have hq1 : upd H s.heap.objs.size (.tup [xs[i], ys[i]]) q = some (.lst acc) := by rw [upd_ne hne]; exact hq
    show wpAny _ A1.in1 (updateSeq q (·.push (.ref s.heap.objs.size)) >>= _) _ _ _
    obtain ⟨z0, its0, k0, r0, hl0, e0⟩ := I1.lstM hq1
    refine wpAny_bind (wpAny_updateSeq e0 rfl (wpAny_pure ⟨plainId_quiet PySem.F.plain_extend_loop _, ?_⟩) (by rw [List.size_toArray]; omega) (by show (its0.toArray.push _).size ≤ sizeLine + 1; rw [Array.size_push, List.size_toArray]; omega))
    have I2 := I1.lset (its' := its0 ++ [.ref s.heap.objs.size]) (ys := acc ++ [.ref s.heap.objs.size]) (f := (·.push (.ref s.heap.objs.size))) (t' := s.toks) hq1 e0 (by simp) (r0.append (.cons (show L2.RelV (V.ref s.heap.objs.size) (Value.ref s.heap.objs.size) from rfl) .nil)) (by rw [List.length_append, List.length_singleton]; omega)
    have n1 : ∀ c ∈ fpZ z TI TO i1 i2, c ≠ q := fun c hc e => hqz (e ▸ hc)
    refine ih (i + 1) _ _ _ (by omega) I2 (hr.go i acc H _ _ _ (by omega) hP (List.getElem?_eq_getElem (by omega)) (List.getElem?_eq_getElem (by omega)) hfr) ?_ fun c hc => ?_
    · exact S'.keep (q := q) (n1 z (by simp [fpZ])) (n1 TI (by simp [fpZ])) (n1 TO (by simp [fpZ])) (n1 i1 (by simp [fpZ])) (n1 i2 (by simp [fpZ])) (fun c o hc e => (Heap.get?_update_other _ _ (Ne.symm hc)).trans e) fun o e => ⟨_, Heap.get?_update_self _ e0 rfl⟩
    · obtain ⟨f0, fr⟩ := hf c hc
      refine ⟨?_, fr⟩
      have hlt : c < s.heap.objs.size := by
        obtain ⟨S1, S2, S3, S4, oTO, S5⟩ := S
        have e' : c = z ∨ c = TI ∨ c = TO ∨ c = i1 ∨ c = i2 := by simpa [fpZ] using hc
        rcases e' with q | q | q | q | q
        · rcases S1 with ⟨e1, _⟩ | ⟨_, _, _, e1, _⟩
          · rw [q]; exact Heap.lt_size e1
          · rw [q]; exact Heap.lt_size e1
        · rw [q]; exact Heap.lt_size S2
        · rw [q]; exact Heap.lt_size S5
        · rw [q]; obtain ⟨_, e1, _⟩ := S3; exact Heap.lt_size e1
        · rw [q]; obtain ⟨_, e1, _⟩ := S4; exact Heap.lt_size e1
      rw [upd_ne (n1 c hc), upd_ne (Nat.ne_of_lt hlt)]
      exact f0
end LZ
end PL
namespace PL
open PySem PySem.Spec PyProof.Rows L2 LZ
def tListZip (K : PySem.W.Frag) (ta : TA) : TE := fun σ H Q => ta σ H fun vs H1 => ∃ (a b : Addr) (xs ys : List V) (n : Nat), vs = [V.ref a, V.ref b] ∧ SqL K H1 a xs ∧ SqL K H1 b ys ∧ n = min xs.length ys.length ∧ n < sizeLine ∧
  ∀ q, H1 q = none → ∃ P : Nat → List V → Hp → Prop, P 0 [] (upd H1 q (.lst [])) ∧ LZ.Run K q xs ys n P H1 ∧ ∀ acc H2, P n acc H2 → Q (.ref q) H2
theorem pe_listZip {X : Cx} {e e2 : Expr} {ta : TA} {p p2 pos pos2 : Pos} (hc : X.calm = true) (hg : Gl X "list") (hm : X.mg "list" = none) (hg2 : Gl X "zip") (hm2 : X.mg "zip" = none) (ha : PA X [e, e2] ta)
    (hs : starEach [e, e2] X.env = (false, eval e X.env) :: starEach [e2] X.env := by rfl) (hpl : (backTo pos2 (starEach [e2] X.env)).any (·.1) = false := by rfl)
    (hs3 : starEach [.Call (.Name "zip" p2) [e, e2] [] pos2] X.env = (false, eval (.Call (.Name "zip" p2) [e, e2] [] pos2) X.env) :: starEach [] X.env := by rfl) :
    PE X (.Call (.Name "list" p) [.Call (.Name "zip" p2) [e, e2] [] pos2] [] pos) (tListZip X.K ta) := by
  refine ⟨fun pins s σ H Q I h => ?_⟩
  refine wpAny_Call_Name_kw (ld_blt I hg hm (show bootBuiltins "list" = some (.type "list") by decide +kernel) ?_ (by decide) (by decide))
  refine PyProof.Rows.callWith_type1 ?_ hs3 rfl
  rw [hs3]
  show wpAny _ _ (spliced ((false, eval (.Call (.Name "zip" p2) [e, e2] [] pos2) X.env) :: backTo pos (starEach [] X.env))) _ _ s
  refine Calls.spliced_cons ?_
  refine wpAny_Call_Name_kw (ld_blt I hg2 hm2 (show bootBuiltins "zip" = some (.type "zip") by decide +kernel) ?_ (by decide) (by decide))
  refine PyProof.Rows.callWith_type1 (thn (ha.run pos2 pins s σ H _ I h) fun us s1 ⟨vs, H1, I1, r1, q1⟩ => ?_) hs hpl
  obtain ⟨a, b, xs, ys, n, ex, hqx, hqy, hn, hsz, q⟩ := q1
  subst ex
  cases r1 with
  | cons r rr =>
  cases rr with
  | cons r' rr =>
  cases rr
  cases r
  cases r'
  obtain ⟨its, rv, p1, _⟩ := I1.list hqx
  obtain ⟨its2, rv2, p2', _⟩ := I1.list hqy
  have la : a < s1.heap.objs.size := p1.lt
  have lb : b < s1.heap.objs.size := p2'.lt
  refine call_zip_2 p1.isList p2'.isList fun h' hz hTI hTO h1 h2 hsz5 hk => Calls.spliced_nil ?_
  have I2 : Inv X pins σ H1 { s1 with heap := h' } := I1.kept (t' := s1.toks) hk
  have D := PySem.W.ktu_apart s1.heap.objs.size a b la lb
  generalize hN : s1.heap.objs.size = N at *
  have S0 : ZS (N + 4) (N + 2) (N + 3) N (N + 1) a b 0 h' := ⟨.inl ⟨hz, _, _, hTO⟩, hTI, h1, h2, _, hTO⟩
  have hfp : ∀ c ∈ fpZ (N + 4) (N + 2) (N + 3) N (N + 1), N ≤ c ∧ c < N + 5 := fun c hc => by
    have e' : c = N + 4 ∨ c = N + 2 ∨ c = N + 3 ∨ c = N ∨ c = N + 1 := by simpa [fpZ] using hc
    rcases e' with q | q | q | q | q
    · rw [q]; exact ⟨Nat.le_add_right _ _, Nat.add_lt_add_left (by decide) N⟩
    · rw [q]; exact ⟨Nat.le_add_right _ _, Nat.add_lt_add_left (by decide) N⟩
    · rw [q]; exact ⟨Nat.le_add_right _ _, Nat.add_lt_add_left (by decide) N⟩
    · rw [q]; exact ⟨Nat.le_refl _, Nat.lt_add_of_pos_right (by decide)⟩
    · rw [q]; exact ⟨Nat.le_add_right _ _, Nat.add_lt_add_left (by decide) N⟩
  refine callType_codes (Q₁ := fun obj s₁ => obj = .ref h'.objs.size ∧ s₁ = { s1 with heap := h'.push { cls := .type "list", data := .seq #[] } }) PySem.F.called_list (PySem.F.typeCall_list_1 _) PySem.F.entry_list_init
    (code_list_new _ ⟨rfl, rfl⟩) fun obj s₁ h₁ => ?_
  obtain ⟨rfl, rfl⟩ := h₁
  have hS : (h'.push { cls := .type "list", data := .seq #[] }).get? h'.objs.size = some { cls := .type "list", data := .seq #[] } := Heap.get?_push_size _ rfl
  refine ⟨⟨_, hS, rfl⟩, PySem.F.args_list_init_2 _ _, ?_⟩
  have fr : H1 h'.objs.size = none := I2.hok.fresh (Nat.le_refl _)
  obtain ⟨P, hP, hrun, hq⟩ := q _ fr
  have I3 : Inv X pins σ (upd H1 h'.objs.size (.lst [])) { s1 with heap := h'.push { cls := .type "list", data := .seq #[] } } := I2.lnew (its := []) (t' := s1.toks) .nil (Nat.zero_le _)
  show wpAny _ _ (do let old ← Builtin.List.listItems (.ref h'.objs.size); Builtin.List.listUpdate (.ref h'.objs.size) (fun _ => #[]); letGo old.toList.reverse; Builtin.List.listExtendWith (.ref h'.objs.size) (.ref (N + 4)) .none) _ _ _
  refine wpAny_bind ?_
  unfold Builtin.List.listItems
  refine wpAny_bind (wpAny_seqItems hS rfl (wpAny_pure ?_))
  show wpAny _ _ (updateSeq h'.objs.size (fun _ => #[]) >>= fun _ => letGo (#[] : Array Value).toList.reverse >>= fun _ => Builtin.List.listExtendWith (.ref h'.objs.size) (.ref (N + 4)) .none) _ _ _
  refine wpAny_bind (wpAny_updateSeq hS rfl ?_)
  have I4 := I3.lset (f := fun _ => #[]) (its := []) (its' := []) (ys := []) (t' := s1.toks) upd_same hS rfl .nil (Nat.zero_le _)
  rw [upd_upd] at I4
  refine wpAny_bind (wpAny_letGo ?_)
  have hqz : h'.objs.size ∉ fpZ (N + 4) (N + 2) (N + 3) N (N + 1) := fun hc => absurd (hfp _ hc).2 (by rw [hsz5]; exact Nat.lt_irrefl _)
  have n1 : ∀ c ∈ fpZ (N + 4) (N + 2) (N + 3) N (N + 1), c ≠ h'.objs.size := fun c hc e => hqz (e ▸ hc)
  have hS4 := Heap.get?_update_self (Obj.mapSeq (fun _ => (#[] : Array Value))) hS rfl
  have S4 : ZS (N + 4) (N + 2) (N + 3) N (N + 1) a b 0 ((h'.push { cls := .type "list", data := .seq #[] }).update h'.objs.size (Obj.mapSeq (fun _ => (#[] : Array Value)))) :=
    S0.keep (q := h'.objs.size) (n1 _ (by simp [fpZ])) (n1 _ (by simp [fpZ])) (n1 _ (by simp [fpZ])) (n1 _ (by simp [fpZ])) (n1 _ (by simp [fpZ]))
      (fun c o hc e => (Heap.get?_update_other _ _ (Ne.symm hc)).trans (Heap.get?_push_of_some _ e)) fun o e => ⟨_, hS4⟩
  have hTz : Shared.TypeIs { s1 with heap := (h'.push { cls := .type "list", data := .seq #[] }).update h'.objs.size (Obj.mapSeq (fun _ => (#[] : Array Value))) } (.ref (N + 4)) "zip" := by
    rcases S4.1 with ⟨e1, _⟩ | ⟨_, _, _, e1, _⟩
    · exact ⟨_, e1, rfl⟩
    · exact ⟨_, e1, rfl⟩
  have hIz : ∃ f0, IsZip ((h'.push { cls := .type "list", data := .seq #[] }).update h'.objs.size (Obj.mapSeq (fun _ => (#[] : Array Value)))) (N + 4) (N + 2) (N + 3) f0 :=
    ⟨_, (Heap.get?_update_other _ _ (Ne.symm (n1 _ (by simp [fpZ])))).trans (Heap.get?_push_of_some _ hz)⟩
  obtain ⟨f0, hIz⟩ := hIz
  unfold Builtin.List.listExtendWith
  refine wpAny_bind (wpAny_typeOf hTz ?_)
  have g1 : Builtin.List.listSameRef (.ref h'.objs.size) (.ref (N + 4)) = false := by simp [Builtin.List.listSameRef]; exact fun e => n1 _ (by simp [fpZ]) e.symm
  have g2 : (Value.type "zip" == Value.type "list") = false := by decide
  have g3 : (Value.type "zip" == Value.type "tuple") = false := by decide
  simp only [g1, g2, g3, Bool.or_false, Bool.false_eq_true, if_false]
  refine wpAny_bind (wpAny_pyIter_zip hIz ?_)
  refine wpAny_bind (wpAny_holding ?_)
  unfold Builtin.List.listLengthHint
  refine wpAny_bind (wpAny_specialOf hTz zip_no_len ?_)
  show wpAny _ _ (specialOf (Value.ref (N + 4)) (Str.ofString "__length_hint__") >>= _) _ _ _
  refine wpAny_bind (wpAny_specialOf hTz zip_no_hint ?_)
  refine wpAny_pure ?_
  show wpAny _ _ (rule "list.extend.makes-room" >>= fun _ => Builtin.List.listTouch (.ref h'.objs.size) >>= fun _ => again (.builtin "list.extend.loop" ⟨[.ref h'.objs.size, .ref (N + 4), .none], []⟩)) _ _ _
  refine wpAny_bind (wpAny_rule ?_)
  refine wpAny_bind ?_
  show wpAny _ _ (updateSeq h'.objs.size (·.push .none) >>= fun _ => updateSeq h'.objs.size (·.pop)) _ _ _
  refine wpAny_bind (wpAny_updateSeq hS4 rfl ?_)
  have I5 := I4.lset (f := (·.push Value.none)) (its := []) (its' := [Value.none]) (ys := [.non]) (t' := s1.toks) upd_same hS4 (by rfl) (.cons rfl .nil) (by show 1 ≤ sizeLine; rw [sizeLine_eq]; decide)
  have hS5 := Heap.get?_update_self (Obj.mapSeq (·.push Value.none)) hS4 rfl
  refine wpAny_updateSeq hS5 rfl ?_ (by show 1 ≤ sizeLine; rw [sizeLine_eq]; decide) (by show 0 ≤ sizeLine + 1; exact Nat.zero_le _)
  have I6 := I5.lset (f := (·.pop)) (its := [Value.none]) (its' := []) (ys := []) (t' := s1.toks) upd_same hS5 (by rfl) .nil (Nat.zero_le _)
  rw [upd_upd, upd_upd] at I6
  have hS6 := Heap.get?_update_self (Obj.mapSeq (·.pop)) hS5 rfl
  refine wpAny_pure ⟨plainId_quiet PySem.F.plain_extend_loop _, zip_loop (X := X) (A1 := X.A.in1) (I1.ok.hd hc) D hqz hn hsz hqx hqy hrun (fun acc H2 s2 J hp => ?_) n 0 [] _ _ rfl I6 hP ?_ fun c hc => ?_⟩
  · exact ⟨rfl, .ref h'.objs.size, H2, J, rfl, hq acc H2 hp⟩
  · exact S4.keep (q := h'.objs.size) (n1 _ (by simp [fpZ])) (n1 _ (by simp [fpZ])) (n1 _ (by simp [fpZ])) (n1 _ (by simp [fpZ])) (n1 _ (by simp [fpZ]))
      (fun c o hc e => (Heap.get?_update_other _ _ (Ne.symm hc)).trans ((Heap.get?_update_other _ _ (Ne.symm hc)).trans e)) fun o e => ⟨_, hS6⟩
  · have hle := (hfp c hc).1
    exact I1.fpOk (by rw [hN]; exact hle) (by rw [upd_ne (n1 c hc)]; exact I1.hok.fresh (by rw [hN]; exact hle))

def zipP (ds es : List PyData) : List PyData := (ds.zip es).map fun q => .tuple [q.1, q.2]
theorem dqAll_get' {K : PySem.W.Frag} {F : Hp} {vs : List V} {ds : List PyData} {i : Nat} {v : V} (h : DqAll K F vs ds) (e : vs[i]? = some v) : ∃ d, ds[i]? = some d ∧ Dq K F v d := by
  have hl := dpAll_length h
  have hi : i < ds.length := by rw [← hl]; exact (List.getElem?_eq_some_iff.mp e).1
  obtain ⟨u, h1, h2⟩ := dpAll_get h (List.getElem?_eq_getElem hi)
  rw [e] at h1
  cases h1
  exact ⟨_, List.getElem?_eq_getElem hi, h2⟩
theorem ee_listZip {X : Cx} {Γ : Slots} {γ : Cells} {a b : Expr} {p p2 pos pos2 : Pos} {P : EPost} (hX : Cok X) (bt : Bt X "list") (bt2 : Bt X "zip")
    (h : AE X Γ γ [a, b] fun rs g => ∃ ra rb ds es, rs = [ra, rb] ∧ Rdb g ra (.list ds) ∧ Rdb g rb (.list es) ∧ ds.length ≤ 1000000 ∧ P (.fz (.list (zipP ds es))) g)
    (hs : starEach [a, b] X.env = (false, eval a X.env) :: starEach [b] X.env := by rfl) (hpl : (backTo pos2 (starEach [b] X.env)).any (·.1) = false := by rfl)
    (hs3 : starEach [.Call (.Name "zip" p2) [a, b] [] pos2] X.env = (false, eval (.Call (.Name "zip" p2) [a, b] [] pos2) X.env) :: starEach [] X.env := by rfl) :
    EE X Γ γ (.Call (.Name "list" p) [.Call (.Name "zip" p2) [a, b] [] pos2] [] pos) P := fun F as σ H R E Q q => by
  refine ⟨_, pe_listZip hX.calm bt.gl bt.mg bt2.gl bt2.mg pa_wp hs hpl hs3, ?_⟩
  refine h F as σ H R E _ fun vs rs g F1 as1 H1 hp x1 R1 i1 => ?_
  obtain ⟨ra, rb, ds, es, rfl, r1, r2, hl, hp⟩ := hp
  obtain ⟨v, u, rfl, i2, i3⟩ := itms2 i1
  obtain ⟨a', vs1, rfl, k1, k2⟩ := r1.list R1 i2
  obtain ⟨b', vs2, rfl, k3, k4⟩ := r2.list R1 i3
  have l1 := dpAll_length k2
  have l2 := dpAll_length k4
  refine ⟨a', b', vs1, vs2, _, rfl, k1, k3, rfl, by rw [sizeLine_eq]; omega, fun l hl0 => ⟨fun i acc H2 => H2 l = some (.lst acc) ∧ acc.length = i ∧ (∀ c o, H1 c = some o → H2 c = some o) ∧ ∃ F', Same F1 F' ∧ Rep X.K F' (as1 ++ [l]) (g ++ [.lst (((zipP ds es).take i).map Itm.fz)]) H2, ?_, ⟨fun i acc H2 hP => ⟨hP.1, hP.2.1, hP.2.2.1⟩, ?_⟩, ?_⟩⟩
  · exact ⟨upd_same, rfl, fun c o e => by rw [upd_ne (ne_of_none e hl0)]; exact e, F1, Same.refl F1, R1.newCell hl0 ⟨[], upd_same, by simpa using ItmsR.nil⟩⟩
  · rintro i acc H2 x y T hi ⟨c1, c2, c3, F', c4, R2⟩ hx hy hT
    obtain ⟨d, hd, qd⟩ := dqAll_get' k2 hx
    obtain ⟨e, he, qe⟩ := dqAll_get' k4 hy
    have hne : l ≠ T := ne_of_none c1 hT
    have R3 := R2.new (.tup [x, y]) hT
    have sm := R2.sameNew (.tup [x, y]) hT
    have hcell : (g ++ [Cell.lst (((zipP ds es).take i).map Itm.fz)])[g.length]? = some (.lst (((zipP ds es).take i).map Itm.fz)) := by rw [List.getElem?_append_right (Nat.le_refl _)]; simp
    have hal : (as1 ++ [l])[g.length]? = some l := by rw [← R1.len, List.getElem?_append_right (Nat.le_refl _)]; simp
    obtain ⟨a2, e2, us, e3, e4⟩ := R3.cellAt hcell
    rw [hal] at e2
    cases e2
    rw [upd_ne hne, c1] at e3
    cases e3
    have s1 : Same F1 (upd F' T (.tup [x, y])) := c4.trans sm
    have hnew : ItmR X.K (upd F' T (.tup [x, y])) (as1 ++ [l]) (.fz (.tuple [d, e])) (.ref T) := itm_tup.mpr ⟨T, [x, y], rfl, upd_same, .cons (dp_mono s1 qd) (.cons (dp_mono s1 qe) .nil)⟩
    have R4 := R3.write (c := g.length) (cell := .lst (((zipP ds es).take (i + 1)).map Itm.fz)) (o := .lst (acc ++ [.ref T])) hcell (by simp) hal ⟨_, upd_same, by
      have ez : (zipP ds es)[i]? = some (.tuple [d, e]) := by
        unfold zipP
        rw [List.getElem?_map, List.getElem?_zip_eq_some.mpr (show (ds[i]? = some (d, e).1 ∧ es[i]? = some (d, e).2) from ⟨hd, he⟩)]
        rfl
      rw [List.take_add_one, ez, List.map_append]
      exact itms_append e4 (.cons hnew .nil)⟩
    refine ⟨upd_same, by simp [c2], fun c o ec => ?_, _, s1, ?_⟩
    · have h3 := c3 c o ec
      rw [upd_ne (ne_of_none ec hl0), upd_ne (ne_of_none h3 hT)]
      exact h3
    · have es : (g ++ [Cell.lst (((zipP ds es).take i).map Itm.fz)]).set g.length (.lst (((zipP ds es).take (i + 1)).map Itm.fz)) = g ++ [.lst (((zipP ds es).take (i + 1)).map Itm.fz)] := by
        rw [List.set_append_right _ _ (Nat.le_refl _)]; simp
      rw [es] at R4
      exact R4
  · rintro acc H2 ⟨c1, c2, c3, F', c4, R2⟩
    have ez : (zipP ds es).take (min vs1.length vs2.length) = zipP ds es := by
      rw [List.take_of_length_le]
      unfold zipP
      rw [List.length_map, List.length_zip, l1, l2]
      exact Nat.le_refl _
    rw [ez] at R2
    have hcell : (g ++ [Cell.lst ((zipP ds es).map Itm.fz)])[g.length]? = some (.lst ((zipP ds es).map Itm.fz)) := by rw [List.getElem?_append_right (Nat.le_refl _)]; simp
    have hal : (as1 ++ [l])[g.length]? = some l := by rw [← R1.len, List.getElem?_append_right (Nat.le_refl _)]; simp
    obtain ⟨a2, e2, us, e3, e4⟩ := R2.cellAt hcell
    rw [hal] at e2
    cases e2
    obtain ⟨R3, sm⟩ := R2.freeze hcell (by simp) hal e3
    have es : (g ++ [Cell.lst ((zipP ds es).map Itm.fz)]).set g.length .dead = g ++ [.dead] := by
      rw [List.set_append_right _ _ (Nat.le_refl _)]; simp
    rw [es] at R3
    have et : (as1 ++ [l]).take g.length = as1 := by rw [List.take_append, ← R1.len]; simp
    have R5 := R3.cut R1.clo
    rw [et] at R5
    exact q (.ref l) _ g _ as1 H2 hp (x1.trans ⟨c4.trans sm, [], by simp⟩) R5 (itm_lst.mpr ⟨l, us, rfl, SqL.of upd_same, dpAll_mono sm (itms_fz e4)⟩)
theorem ev_listZip {X : Cx} {Γ : Slots} {γ γ1 γ2 : Cells} {a b : Expr} {p p2 pos pos2 : Pos} {ra rb : Itm} {ds es : List PyData} (hX : Cok X) (bt : Bt X "list") (bt2 : Bt X "zip") (ha : EV X Γ γ a ra γ1) (hb : EV X Γ γ1 b rb γ2) (h1 : Rdb γ2 ra (.list ds)) (h2 : Rdb γ2 rb (.list es)) (hl : ds.length ≤ 1000000)
    (hs : starEach [a, b] X.env = (false, eval a X.env) :: starEach [b] X.env := by rfl) (hs2 : starEach [b] X.env = (false, eval b X.env) :: starEach [] X.env := by rfl) (hpl : (backTo pos2 (starEach [b] X.env)).any (·.1) = false := by rfl)
    (hs3 : starEach [.Call (.Name "zip" p2) [a, b] [] pos2] X.env = (false, eval (.Call (.Name "zip" p2) [a, b] [] pos2) X.env) :: starEach [] X.env := by rfl) :
    EV X Γ γ (.Call (.Name "list" p) [.Call (.Name "zip" p2) [a, b] [] pos2] [] pos) (.fz (.list (zipP ds es))) γ2 :=
  ee_listZip hX bt bt2 (AE.of (av_cons ha (av_cons hb av_nil hs2) hs) ⟨ra, rb, ds, es, rfl, h1, h2, hl, rfl, rfl⟩) hs hpl hs3
/-! ### text * 0 -/
theorem op_repS0 {X : Cx} : OpR X (binaryOp .Mult) (fun x y H Q => ∃ z, x = .str z ∧ y = .int 0 ∧ Q (.str Str.empty) H) := by
  intro pins s σ H x y v u Q I rx ry h
  obtain ⟨z, rfl, rfl, q⟩ := h
  obtain ⟨t, rfl⟩ := rx
  obtain ⟨t', rfl⟩ := ry
  exact PySem.P.mul_str_none (by decide) (by decide) ⟨.str _, H, I.tok _, ⟨_, rfl⟩, q⟩
theorem ev_repS0 {X : Cx} {Γ : Slots} {γ γ1 γ2 : Cells} {a b : Expr} {pos : Pos} {z : Str} (ha : EV X Γ γ a (.fz (.str z)) γ1) (hb : EV X Γ γ1 b (.fz (.int 0)) γ2) : EV X Γ γ (.BinOp a .Mult b pos) (.fz (.str Str.empty)) γ2 :=
  ev_op op_repS0 ha hb fun F as H x y R hx hy Q q => ⟨z, itm_str.mp hx, itm_int.mp hy, q _ F as H (Ext.refl F as) R (itm_str.mpr rfl)⟩
theorem ee_repS0 {X : Cx} {Γ : Slots} {γ : Cells} {a b : Expr} {pos : Pos} {P : EPost} (h : EE X Γ γ a fun ra g1 => ∃ z, ra = .fz (.str z) ∧ EE X Γ g1 b fun rb g2 => rb = .fz (.int 0) ∧ P (.fz (.str Str.empty)) g2) : EE X Γ γ (.BinOp a .Mult b pos) P :=
  ee_op op_repS0 (EE.imp h fun r g ⟨z, e, h2⟩ => EE.imp h2 fun rb g2 ⟨e2, hp⟩ => fun F as H x y R hx hy Q q => by
    subst e e2
    exact ⟨z, itm_str.mp hx, itm_int.mp hy, q _ _ _ F as H hp (Ext.refl F as) R (itm_str.mpr rfl)⟩)
end PL

namespace PL
open PySem PySem.Spec PyProof.Rows L2
section
variable {X : Cx} {Γ : Slots} {γ γ1 : Cells} {tg it elt : Expr} {ifs : List Expr} {scope : Scope} {own : List (Str × Nat)} {pos : Pos} {xs : List Itm} {stab : Cells → Prop} {P : EPost}
theorem ite_of {Pi : List Itm → (Cells → Prop) → Cells → Prop} (hi : ITV X Γ γ tg it xs stab γ1) (h : Pi xs stab γ1) : ITE X Γ γ tg it Pi := fun F as σ H R E Q q => hi F as σ H R E Q fun J F' as' H' x R' hJ => q xs stab γ1 J F' as' H' h x R' hJ
/-- a comprehension's turns: Pv i acc g behind i of them -/
structure LcK (X : Cx) (Γ : Slots) (tg elt : Expr) (ifs : List Expr) (scope : Scope) (own : List (Str × Nat)) (xs : List Itm) (stab : Cells → Prop) (γ1 : Cells) (Pv : Nat → List Itm → Cells → Prop) : Prop where
  h0 : Pv 0 [] γ1
  hst : ∀ i acc g, i ≤ xs.length → Pv i acc g → stab (g ++ [.lst acc])
  hlen : ∀ i acc g, Pv i acc g → g.length = γ1.length ∧ acc.length ≤ i
  hsz : xs.length ≤ 1000000
  hb : ∀ i x acc g, xs[i]? = some x → Pv i acc g → ∃ Γ2 ws k g2, (∀ j ∈ ws, j ∈ own.map (·.2)) ∧ g2.length = γ1.length ∧ ∀ X', Blk X scope X' →
      GV X' (g ++ [.lst acc]) (wipeS Γ (own.map (·.2))) tg x Γ2 ws ∧ TVs X' Γ2 (g ++ [.lst acc]) ifs k (g2 ++ [.lst acc]) ∧ (k = false → Pv (i + 1) acc g2) ∧
      (k = true → EE X' Γ2 (g2 ++ [.lst acc]) elt fun r g3 => ∃ g', g3 = g' ++ [.lst acc] ∧ Pv (i + 1) (acc ++ [r]) g')
theorem lc_core {Pv : Nat → List Itm → Cells → Prop} (h : LcK X Γ tg elt ifs scope own xs stab γ1 Pv)
    {F as σ H F1 as1 H1 J} (E : EnvR X.K F as Γ σ) (x1 : Ext F as F1 as1) (R1 : Rep X.K F1 as1 γ1 H1) (hJ : JOk X.K F1 as1 xs stab J) {Q : VK} (q : ∀ D acc g F' as' H', Clo γ1 → as.length ≤ γ1.length → Pv xs.length acc g → Ext F as F' as' → Rep X.K F' as' (g ++ [.lst acc]) H' → as'[γ1.length]? = some D → Q (.ref D) H') :
    tLc (fun _ _ R => R J H1) (wbG X scope tg) (wbT X scope ifs) (wbE X scope elt) (own.map (·.2)) σ H Q := by
  obtain ⟨h0, hst, hlen, hsz, hb⟩ := h
  intro D hD
  obtain ⟨R1', i1'⟩ := newCellL R1 .nil hD
  have l1 : as1.length = γ1.length := R1.len
  have hDat : (as1 ++ [D])[γ1.length]? = some D := by rw [← l1, List.getElem?_append_right (Nat.le_refl _)]; simp
  have x1' : Ext F1 as1 F1 (as1 ++ [D]) := ⟨Same.refl F1, [D], rfl⟩
  refine ⟨fun i m H' => m = xs.length - i ∧ i ≤ xs.length ∧ ∃ acc g F' as', Pv i acc g ∧ Ext F1 (as1 ++ [D]) F' as' ∧ Rep X.K F' as' (g ++ [.lst acc]) H', ⟨xs.length, by simp, Nat.zero_le _, [], γ1, F1, as1 ++ [D], h0, Ext.refl _ _, R1'⟩, ?_⟩
  rintro i m H' ⟨rfl, hle, acc, g, F', as', hp, x', R'⟩
  obtain ⟨lg, la⟩ := hlen i acc g hp
  obtain ⟨j1, j2⟩ := hJ i F' as' _ H' (x1'.trans x') R' (hst i acc g hle hp)
  by_cases hlt : i < xs.length
  · obtain ⟨g1, g2⟩ := j2 xs[i] (List.getElem?_eq_getElem hlt)
    refine .inr ⟨g1, fun H'' => ∃ acc g F' as', Pv (i + 1) acc g ∧ Ext F1 (as1 ++ [D]) F' as' ∧ Rep X.K F' as' (g ++ [.lst acc]) H'', fun H'' n => ⟨xs.length - (i + 1), by omega, rfl, hlt, n⟩, fun v H'' y => ?_⟩
    obtain ⟨F'', x'', R'', i''⟩ := g2 v H'' y
    obtain ⟨Γ2, ws, k, c2, hws, lc2, hall⟩ := hb i xs[i] acc g (List.getElem?_eq_getElem hlt) hp
    intro X' hB
    have hK : X'.K = X.K := by obtain ⟨_, _, _, _, _, rfl⟩ := hB; rfl
    refine (hall X' hB).1 F'' as' (wipe σ _) H'' v (hK ▸ R'') (hK ▸ env_wipe (E.mono (((x1.trans x1').trans x').trans x'')) _) (hK ▸ i'') _ fun σ2 E2 b2 => ⟨wipe_but b2 hws, ?_⟩
    rw [hK] at E2
    intro X2 hB2
    have hK2 : X2.K = X.K := by obtain ⟨_, _, _, _, _, rfl⟩ := hB2; rfl
    refine (hall X2 hB2).2.1 F'' as' σ2 H'' (hK2 ▸ R'') (hK2 ▸ E2) _ fun F3 as3 H3 x3 R3 => ?_
    rw [hK2] at R3
    have xx := (x'.trans x'').trans x3
    cases k with
    | false => exact iteF ⟨acc, c2, F3, as3, (hall X2 hB2).2.2.1 rfl, xx, R3⟩
    | true =>
      refine iteT fun X3 hB3 => ?_
      have hK3 : X3.K = X.K := by obtain ⟨_, _, _, _, _, rfl⟩ := hB3; rfl
      refine (hall X3 hB3).2.2.2 rfl F3 as3 σ2 H3 (hK3 ▸ R3) (hK3 ▸ E2.mono x3) _ fun w r g3 F4 as4 H4 hg3 x4 R4 i4 => ?_
      rw [hK3] at R4 i4
      obtain ⟨g', rfl, hp'⟩ := hg3
      obtain ⟨lg', la'⟩ := hlen (i + 1) _ g' hp'
      have hDx : as4[γ1.length]? = some D := (xx.trans x4).get hDat
      have hc : (g' ++ [Cell.lst acc])[γ1.length]? = some (.lst acc) := by rw [← lg', List.getElem?_append_right (Nat.le_refl _)]; simp
      obtain ⟨D', k1, us, k2, k3⟩ := R4.cellAt hc
      rw [hDx] at k1
      cases k1
      have e := itms_length k3
      refine ⟨us, k2, by rw [← e, sizeLine_eq]; omega, acc ++ [r], g', F4, as4, hp', xx.trans x4, ?_⟩
      have R5 := R4.write (cell := .lst (acc ++ [r])) hc (by simp) hDx ⟨_, upd_same, itms_append k3 (.cons i4 .nil)⟩
      have es : (g' ++ [Cell.lst acc]).set γ1.length (.lst (acc ++ [r])) = g' ++ [.lst (acc ++ [r])] := by
        rw [List.set_append_right _ _ (by omega), lg', Nat.sub_self]
        rfl
      rw [es] at R5
      exact R5
  · have e : i = xs.length := by omega
    subst e
    exact .inl ⟨j1 (Nat.le_refl _), q D acc g F' as' H' R1.clo (by rw [← l1]; obtain ⟨_, t, rfl⟩ := x1; simp) hp ((x1.trans x1').trans x') R' (x'.get hDat)⟩
/-- a comprehension, by what follows: a cell -/
theorem ee_lcCE (hX : Cok X) (ok : BlkOk X.N X.env.scope scope own) (hi : ITE X Γ γ tg it fun xs stab γ1 => ∃ Pv, LcK X Γ tg elt ifs scope own xs stab γ1 Pv ∧ ∀ acc g, Pv xs.length acc g → P (.cl γ1.length) (g ++ [.lst acc]))
    (hs : ∀ x, foldedSetIterable it X.env x = pure x := by intro _; rfl) :
    EE X Γ γ (.ListComp elt [⟨tg, it, ifs, 0⟩] scope pos) P := fun F as σ H R E Q q => by
  refine ⟨_, pe_lc (own := own) (wi := wpI X tg it) (g := wbG X scope tg) (tt := wbT X scope ifs) (te := wbE X scope elt) hX.calm hX.nd pi_wp ok (fun s H C cl fp => ⟨fun pins s' σ H v u Q I r h => pg_wp.run pins s' σ H v u Q I r (h _ ⟨s, _, C, cl, fp, rfl⟩)⟩)
    (fun s H C cl fp => ⟨fun pins s' σ H Q I h => pts_wp.run pins s' σ H Q I (h _ ⟨s, _, C, cl, fp, rfl⟩)⟩) (fun s H C cl fp => ⟨fun pins s' σ H Q I h => pe_wp.run pins s' σ H Q I (h _ ⟨s, _, C, cl, fp, rfl⟩)⟩) hs, ?_⟩
  refine hi F as σ H R E _ fun xs stab γ1 J F1 as1 H1 hPi x1 R1 hJ => ?_
  obtain ⟨Pv, hL, hp⟩ := hPi
  exact lc_core hL (σ := σ) (H := H) (Q := Q) E x1 R1 hJ fun D acc g F' as' H' _ _ hpv x' R' hD => q (.ref D) (.cl γ1.length) _ F' as' H' (hp acc g hpv) x' R' (itm_cl.mpr ⟨D, hD, rfl⟩)
/-- frozen at the end -/
theorem lc_frozen {Pv : Nat → List Itm → Cells → Prop} {F as H' F' as' D} {acc : List Itm} {g : Cells} {n : Nat} (hlen : ∀ i acc g, Pv i acc g → g.length = γ1.length ∧ acc.length ≤ i) (hfz : ∀ acc g, Pv n acc g → (∃ ds : List PyData, acc = ds.map Itm.fz) ∧ (Clo γ1 → Clo g))
    (hclo : Clo γ1) (hal : as.length ≤ γ1.length) (hp : Pv n acc g) (x' : Ext F as F' as') (R' : Rep X.K F' as' (g ++ [.lst acc]) H') (hD : as'[γ1.length]? = some D) :
    ∃ (ds : List PyData) (F2 : Hp), Pv n (ds.map Itm.fz) g ∧ Ext F as F2 (as'.take g.length) ∧ Rep X.K F2 (as'.take g.length) g H' ∧ ItmR X.K F2 (as'.take g.length) (.fz (.list ds)) (.ref D) := by
  obtain ⟨⟨ds, rfl⟩, hc⟩ := hfz acc g hp
  obtain ⟨lg, _⟩ := hlen _ _ _ hp
  have hcell : (g ++ [Cell.lst (ds.map Itm.fz)])[γ1.length]? = some (.lst (ds.map Itm.fz)) := by rw [← lg, List.getElem?_append_right (Nat.le_refl _)]; simp
  obtain ⟨D', k1, us, k2, k3⟩ := R'.cellAt hcell
  rw [hD] at k1
  cases k1
  obtain ⟨R2, sm⟩ := R'.freeze hcell (by simp) hD k2
  have es : (g ++ [Cell.lst (ds.map Itm.fz)]).set γ1.length .dead = g ++ [.dead] := by
    rw [List.set_append_right _ _ (by omega), lg, Nat.sub_self]
    rfl
  rw [es] at R2
  refine ⟨ds, _, hp, ⟨x'.1.trans sm, ?_⟩, R2.cut (hc hclo), itm_lst.mpr ⟨D, us, rfl, SqL.of upd_same, dpAll_mono sm (itms_fz k3)⟩⟩
  obtain ⟨_, tt, rfl⟩ := x'
  rw [List.take_append, List.take_of_length_le (by omega)]
  exact ⟨_, rfl⟩
/-- a comprehension, by what follows: frozen -/
theorem ee_lcFE (hX : Cok X) (ok : BlkOk X.N X.env.scope scope own) (hi : ITE X Γ γ tg it fun xs stab γ1 => ∃ Pv, LcK X Γ tg elt ifs scope own xs stab γ1 Pv ∧ (∀ acc g, Pv xs.length acc g → (∃ ds : List PyData, acc = ds.map Itm.fz) ∧ (Clo γ1 → Clo g)) ∧ ∀ (ds : List PyData) g, Pv xs.length (ds.map Itm.fz) g → P (.fz (.list ds)) g)
    (hs : ∀ x, foldedSetIterable it X.env x = pure x := by intro _; rfl) :
    EE X Γ γ (.ListComp elt [⟨tg, it, ifs, 0⟩] scope pos) P := fun F as σ H R E Q q => by
  refine ⟨_, pe_lc (own := own) (wi := wpI X tg it) (g := wbG X scope tg) (tt := wbT X scope ifs) (te := wbE X scope elt) hX.calm hX.nd pi_wp ok (fun s H C cl fp => ⟨fun pins s' σ H v u Q I r h => pg_wp.run pins s' σ H v u Q I r (h _ ⟨s, _, C, cl, fp, rfl⟩)⟩)
    (fun s H C cl fp => ⟨fun pins s' σ H Q I h => pts_wp.run pins s' σ H Q I (h _ ⟨s, _, C, cl, fp, rfl⟩)⟩) (fun s H C cl fp => ⟨fun pins s' σ H Q I h => pe_wp.run pins s' σ H Q I (h _ ⟨s, _, C, cl, fp, rfl⟩)⟩) hs, ?_⟩
  refine hi F as σ H R E _ fun xs stab γ1 J F1 as1 H1 hPi x1 R1 hJ => ?_
  obtain ⟨Pv, hL, hfz, hp⟩ := hPi
  refine lc_core hL (σ := σ) (H := H) (Q := Q) E x1 R1 hJ fun D acc g F' as' H' hclo hal hpv x' R' hD => ?_
  obtain ⟨ds, F2, h1, h2, h3, h4⟩ := lc_frozen hL.hlen hfz hclo hal hpv x' R' hD
  exact q (.ref D) _ g _ _ H' (hp ds g h1) h2 h3 h4
theorem svs_setLcCE {i : Nat} {y : Str} {py spos : Pos} {rest : List Stmt} {R : SE} (hX : Cok X) (n : Nm X y i .local) (hl : (py.line == pos.line) = true) (hany : (scope.names.any fun (n, k) => n == y && (k == .local || k == .cell)) = false) (ok : BlkOk X.N X.env.scope scope own)
    (hi : ITE X Γ γ tg it fun xs stab γ1 => ∃ Pv, LcK X Γ tg elt ifs scope own xs stab γ1 Pv ∧ ∀ acc g, Pv xs.length acc g → SVs X (Γ.set i (some (.cl γ1.length))) (g ++ [.lst acc]) rest R)
    (hs : ∀ x, foldedSetIterable it X.env x = pure x := by intro _; rfl) :
    SVs X Γ γ (.Assign [.Name y py] (.ListComp elt [⟨tg, it, ifs, 0⟩] scope pos) spos :: rest) R := svs_cons fun F as σ H D Rp E C => by
  refine ⟨_, ps_setLc (i := i) (own := own) (wi := wpI X tg it) (g := wbG X scope tg) (tt := wbT X scope ifs) (te := wbE X scope elt) hX.calm hX.nd n.ix n.r.kd (sw_true hX.kind n.r.kd hl hany) pi_wp ok (fun s H C cl fp => ⟨fun pins s' σ H v u Q I r h => pg_wp.run pins s' σ H v u Q I r (h _ ⟨s, _, C, cl, fp, rfl⟩)⟩)
    (fun s H C cl fp => ⟨fun pins s' σ H Q I h => pts_wp.run pins s' σ H Q I (h _ ⟨s, _, C, cl, fp, rfl⟩)⟩) (fun s H C cl fp => ⟨fun pins s' σ H Q I h => pe_wp.run pins s' σ H Q I (h _ ⟨s, _, C, cl, fp, rfl⟩)⟩) hs, ?_⟩
  refine hi F as σ H Rp E _ fun xs stab γ1 J F1 as1 H1 hPi x1 R1 hJ => ?_
  obtain ⟨Pv, hL, hp⟩ := hPi
  exact lc_core hL (σ := σ) (H := H) (Q := fun x H1 => gName i x σ H1 D.nx) E x1 R1 hJ fun D' acc g F' as' H' _ _ hpv x' R' hD => C.nx _ _ _ _ _ _ (hp acc g hpv) x' R' ((E.mono x').set (itm_cl.mpr ⟨D', hD, rfl⟩))
theorem svs_setLcFE {i : Nat} {y : Str} {py spos : Pos} {rest : List Stmt} {R : SE} (hX : Cok X) (n : Nm X y i .local) (hl : (py.line == pos.line) = true) (hany : (scope.names.any fun (n, k) => n == y && (k == .local || k == .cell)) = false) (ok : BlkOk X.N X.env.scope scope own)
    (hi : ITE X Γ γ tg it fun xs stab γ1 => ∃ Pv, LcK X Γ tg elt ifs scope own xs stab γ1 Pv ∧ (∀ acc g, Pv xs.length acc g → (∃ ds : List PyData, acc = ds.map Itm.fz) ∧ (Clo γ1 → Clo g)) ∧ ∀ (ds : List PyData) g, Pv xs.length (ds.map Itm.fz) g → SVs X (Γ.set i (some (.fz (.list ds)))) g rest R)
    (hs : ∀ x, foldedSetIterable it X.env x = pure x := by intro _; rfl) :
    SVs X Γ γ (.Assign [.Name y py] (.ListComp elt [⟨tg, it, ifs, 0⟩] scope pos) spos :: rest) R := svs_cons fun F as σ H D Rp E C => by
  refine ⟨_, ps_setLc (i := i) (own := own) (wi := wpI X tg it) (g := wbG X scope tg) (tt := wbT X scope ifs) (te := wbE X scope elt) hX.calm hX.nd n.ix n.r.kd (sw_true hX.kind n.r.kd hl hany) pi_wp ok (fun s H C cl fp => ⟨fun pins s' σ H v u Q I r h => pg_wp.run pins s' σ H v u Q I r (h _ ⟨s, _, C, cl, fp, rfl⟩)⟩)
    (fun s H C cl fp => ⟨fun pins s' σ H Q I h => pts_wp.run pins s' σ H Q I (h _ ⟨s, _, C, cl, fp, rfl⟩)⟩) (fun s H C cl fp => ⟨fun pins s' σ H Q I h => pe_wp.run pins s' σ H Q I (h _ ⟨s, _, C, cl, fp, rfl⟩)⟩) hs, ?_⟩
  refine hi F as σ H Rp E _ fun xs stab γ1 J F1 as1 H1 hPi x1 R1 hJ => ?_
  obtain ⟨Pv, hL, hfz, hp⟩ := hPi
  refine lc_core hL (σ := σ) (H := H) (Q := fun x H1 => gName i x σ H1 D.nx) E x1 R1 hJ fun D' acc g F' as' H' hclo hal hpv x' R' hD => ?_
  obtain ⟨ds, F2, h1, h2, h3, h4⟩ := lc_frozen hL.hlen hfz hclo hal hpv x' R' hD
  exact C.nx _ _ _ _ _ _ (hp ds g h1) h2 h3 ((E.mono h2).set h4)
/-- one name for the target, no test -/
theorem LcK.one {y : Str} {py : Pos} {w : Nat} {Pv : Nat → List Itm → Cells → Prop} (hn : ∀ X', Blk X scope X' → Cok X' ∧ Nm X' y w .local) (h0 : Pv 0 [] γ1) (hst : ∀ i acc g, i ≤ xs.length → Pv i acc g → stab (g ++ [.lst acc])) (hlen : ∀ i acc g, Pv i acc g → g.length = γ1.length ∧ acc.length ≤ i) (hsz : xs.length ≤ 1000000)
    (hb : ∀ i x acc g, xs[i]? = some x → Pv i acc g → ∀ X', Blk X scope X' → EE X' (Γ.set w (some x)) (g ++ [.lst acc]) elt fun r g3 => ∃ g', g3 = g' ++ [.lst acc] ∧ Pv (i + 1) (acc ++ [r]) g') :
    LcK X Γ (.Name y py) elt [] scope [(y, w)] xs stab γ1 Pv :=
  ⟨h0, hst, hlen, hsz, fun i x acc g hx hp => ⟨Γ.set w (some x), [w], true, g, by simp, (hlen _ _ _ hp).1, fun X' hB => ⟨by
    have := gv_name (γ := g ++ [.lst acc]) (Γ := wipeS Γ ([(y, w)].map (·.2))) (pos := py) (r := x) (hn X' hB).1 (hn X' hB).2
    have e : (wipeS Γ ([(y, w)].map (·.2))).set w (some x) = Γ.set w (some x) := by
      show (Γ.set w none).set w (some x) = _
      rw [List.set_set]
    rw [e] at this
    exact this, tvs_nil, (fun h => nomatch h), fun _ => hb i x acc g hx hp X' hB⟩⟩⟩
end
end PL

namespace PL
open PySem PySem.Spec PyProof.Rows L2
theorem app_cps (x y : Str) : (x ++ y).cps.toList = x.cps.toList ++ y.cps.toList := by
  show (x.cps ++ y.cps).toList = _
  rw [Array.toList_append]
theorem join_cps : ∀ ys : List Str, (Str.join ⟨#[]⟩ ys).cps.toList = (ys.map fun y => y.cps.toList).flatten
  | [] => rfl
  | [y] => by
    show y.cps.toList = _
    simp
  | x :: y :: r => by
    have ih := join_cps (y :: r)
    show (x ++ ⟨#[]⟩ ++ Str.join ⟨#[]⟩ (y :: r)).cps.toList = _
    rw [app_cps, app_cps, ih]
    simp
theorem txt_join (ys : List Str) : Txt.join ⟨#[]⟩ ys = Str.join ⟨#[]⟩ ys := eq_of_beq (PyProof.Rows.join_plain_closes _ _)
def Low (c : Nat) : Prop := 97 ≤ c ∧ c ≤ 122
def Lows (z : Str) : Prop := ∀ c ∈ z.cps.toList, Low c
theorem Lows.app {x y : Str} (h : Lows x) (h2 : Lows y) : Lows (x ++ y) := fun c hc => by
  rw [app_cps] at hc
  rcases List.mem_append.mp hc with h3 | h3
  · exact h c h3
  · exact h2 c h3
theorem Lows.cut {x : Str} (h : Lows x) (lo hi : Option Int) : Lows (cutS x lo hi) := fun c hc => by
  have hc : c ∈ (List.toArray ((x.cps.toList.drop (HT.sIx x.length 0 lo)).take (HT.sIx x.length x.length hi - HT.sIx x.length 0 lo))).toList := hc
  rw [List.toList_toArray] at hc
  exact h c (List.mem_of_mem_drop (List.mem_of_mem_take hc))
theorem str_len (z : Str) : z.length = z.cps.toList.length := by
  show z.cps.size = _
  rw [Array.length_toList]
theorem ones_join {ys : List Str} (h : ∀ y ∈ ys, ∃ c, y = ⟨#[c]⟩ ∧ Low c) : Lows (Txt.join ⟨#[]⟩ ys) ∧ (Txt.join ⟨#[]⟩ ys).length = ys.length := by
  have e : (Txt.join ⟨#[]⟩ ys).cps.toList = (ys.map fun y => y.cps.toList).flatten := by rw [txt_join, join_cps]
  constructor
  · intro c hc
    rw [e, List.mem_flatten] at hc
    obtain ⟨l, hl, hc⟩ := hc
    obtain ⟨y, hy, rfl⟩ := List.mem_map.mp hl
    obtain ⟨c', rfl, hlow⟩ := h y hy
    have : c = c' := by simpa using hc
    exact this ▸ hlow
  · rw [str_len, e]
    clear e
    induction ys with
    | nil => rfl
    | cons y r ih =>
      obtain ⟨c', rfl, _⟩ := h y (by simp)
      rw [List.map_cons, List.flatten_cons, List.length_append, ih fun z hz => h z (by simp [hz])]
      simp; omega
theorem cut_head (z : Str) (t : Nat) (h : t ≤ z.length) : (cutS z none (some (t : Int))).length = t := by
  rw [str_len]
  show (List.toArray _).toList.length = _
  rw [List.toList_toArray, List.length_take, List.length_drop, HT.sIx_none, HT.sIx_nat, ← str_len]
  omega
theorem cut_tail (z : Str) (t : Nat) (h : t ≤ z.length) : (cutS z (some (t : Int)) none).length = z.length - t := by
  rw [str_len]
  show (List.toArray _).toList.length = _
  rw [List.toList_toArray, List.length_take, List.length_drop, HT.sIx_none, HT.sIx_nat, ← str_len]
  omega
theorem pick_low {z : Str} (hz : Lows z) {i : Int} (h0 : 0 ≤ i) (h1 : i < z.length) : ∃ c, atI z.cps.toList i = some c ∧ Low c := by
  have hl : i.toNat < z.cps.toList.length := by rw [← str_len]; omega
  refine ⟨z.cps.toList[i.toNat], ?_, hz _ (List.getElem_mem hl)⟩
  have h := atI_nat (List.getElem?_eq_getElem hl)
  rw [show ((i.toNat : Nat) : Int) = i by omega] at h
  exact h

theorem str_ext {x y : Str} (h : x.cps.toList = y.cps.toList) : x = y := by
  obtain ⟨⟨l⟩⟩ := x
  obtain ⟨⟨m⟩⟩ := y
  cases h
  rfl
theorem app_emp (x : Str) : x ++ Str.empty = x := str_ext (by rw [app_cps]; show _ ++ [] = _; simp)
theorem lows_one {c : Nat} (h : Low c) : Lows ⟨#[c]⟩ := fun d hd => by
  have : d = c := by simpa using hd
  exact this ▸ h
theorem lows_lay' {z : Str} (h : Lows z) : PyData.canLay0 (.str z) = true := by
  have : (z.cps.all (· < 0x110000)) = true := by
    rw [← Array.all_toList, List.all_eq_true]
    intro c hc
    have := (h c hc).2
    exact decide_eq_true (by omega)
  have e : PyData.canLay0 (.str z) = PyData.strOk z := by simp [PyData.canLay0]
  rw [e]
  exact this
theorem shp_low {z : Str} (h : Lows z) : Shp 0 (.str z) := shp_str (lows_lay' h)
theorem len0 : (Str.length "") = 0 := by decide +kernel
theorem emp0 : ("" : Str) = ⟨#[]⟩ := by decide +kernel
abbrev ABC : Str := "abcdefghijklmnopqrstuvwxyz"
theorem lenABC : Str.length ABC = 26 := by decide +kernel
theorem abc_at : ∀ j : _root_.Fin 26, ABC.cps.toList[j.val]? = some (97 + j.val) := by decide +kernel
theorem abcI {i : Int} (h0 : 0 ≤ i) (h1 : i < 26) : atI ABC.cps.toList i = some (97 + i.toNat) := by
  have h := abc_at ⟨i.toNat, by omega⟩
  have h2 := atI_nat h
  simp only at h2
  rw [Int.toNat_of_nonneg h0] at h2
  exact h2
theorem low_abc {i : Int} (h0 : 0 ≤ i) (h1 : i < 26) : Low (97 + i.toNat) := ⟨by omega, by omega⟩
/-- a letter put into a text -/
def mkN (f : Str) (t : Nat) (c : Nat) : Str := cutS f none (some (t : Int)) ++ ⟨#[c]⟩ ++ cutS f (some (t : Int)) none
theorem mkN_inj {f : Str} {t c d : Nat} (h : mkN f t c = mkN f t d) : c = d := by
  have h := congrArg (fun x : Str => x.cps.toList) h
  simp only [mkN, app_cps, List.append_assoc] at h
  have h := List.append_cancel_left h
  simpa using h
theorem mkN_lows {f : Str} {t c : Nat} (h : Lows f) (hc : Low c) : Lows (mkN f t c) := ((h.cut _ _).app (lows_one hc)).app (h.cut _ _)
theorem mkN_len {f : Str} {t c : Nat} (h : t ≤ f.length) : (mkN f t c).length = f.length + 1 := by
  unfold mkN
  rw [length_addS, length_addS, cut_head f t h, cut_tail f t h]
  show t + 1 + _ = _
  omega
/-- names alike but for a letter -/
def nms (f : Str) (t : Nat) (a s : Int) (n : Nat) : List Str := (List.range n).map fun (k : Nat) => mkN f t (97 + ((a + s * (k : Int)) % 26).toNat)
theorem nms_len (f : Str) (t : Nat) (a s : Int) (n : Nat) : (nms f t a s n).length = n := by simp [nms]
theorem nms_succ (f : Str) (t : Nat) (a s : Int) (n : Nat) : nms f t a s (n + 1) = nms f t a s n ++ [mkN f t (97 + ((a + s * (n : Int)) % 26).toNat)] := by simp [nms, List.range_succ]
theorem nms_nodup (f : Str) (t : Nat) (a : Int) (n : Nat) (h : n ≤ 26) : (nms f t a 7 n).Nodup := by
  unfold nms List.Nodup
  rw [List.pairwise_map]
  refine List.Pairwise.imp_of_mem ?_ List.pairwise_lt_range
  intro i j hi hj hij e
  have hi := List.mem_range.mp hi
  have hj := List.mem_range.mp hj
  have := mkN_inj e
  omega
theorem nms_ok {f : Str} {t : Nat} (hf : Lows f) (ht : t ≤ f.length) (a s : Int) (n : Nat) : ∀ z ∈ nms f t a s n, Lows z ∧ z.length = f.length + 1 := fun z hz => by
  obtain ⟨k, hk, rfl⟩ := List.mem_map.mp hz
  exact ⟨mkN_lows hf (low_abc (Int.emod_nonneg _ (by decide)) (Int.emod_lt_of_pos _ (by decide))), mkN_len ht⟩
end PL

namespace PL
open PySem PySem.Spec PyProof.Rows L2
section
variable {α : Type} {X : Cx} {Γ Γ' : Slots} {γ γ1 : Cells} {tg it elt : Expr} {ifs : List Expr} {scope : Scope} {own : List (Str × Nat)} {pos : Pos} {r : Itm}
theorem Rdb.app {d : PyData} (h : Rdb γ r d) (ex : Cells) : Rdb (γ ++ ex) r d := by
  cases h with
  | fz => exact .fz _
  | cl h => exact .cl (by rw [List.getElem?_append_left (List.getElem?_eq_some_iff.mp h).1]; exact h)
theorem take_get {L : List α} {f : α → PyData} {i : Nat} {x : Itm} (h : ((L.map f).map Itm.fz)[i]? = some x) : ∃ a, L[i]? = some a ∧ a ∈ L ∧ x = .fz (f a) ∧ L.take (i + 1) = L.take i ++ [a] := by
  rw [List.getElem?_map, List.getElem?_map] at h
  cases hd : L[i]? with
  | none => rw [hd] at h; cases h
  | some a =>
    rw [hd] at h
    exact ⟨a, rfl, List.mem_of_getElem? hd, (Option.some.inj h).symm, by rw [List.take_add_one, hd]; rfl⟩
/-- a comprehension over a list of data of one kind whose parts change nothing -/
theorem lcA (f : α → PyData) (L : List α) (p : α → Bool) (e : α → PyData) (hr : Rdb γ1 r (.list (L.map f))) (hsz : L.length ≤ 1000000)
    (hb : ∀ a ∈ L, ∃ Γ2 ws, (∀ j ∈ ws, j ∈ own.map (·.2)) ∧ ∀ acc X', Blk X scope X' →
      GV X' (γ1 ++ [.lst acc]) (wipeS Γ (own.map (·.2))) tg (.fz (f a)) Γ2 ws ∧ TVs X' Γ2 (γ1 ++ [.lst acc]) ifs (p a) (γ1 ++ [.lst acc]) ∧ (p a = true → EV X' Γ2 (γ1 ++ [.lst acc]) elt (.fz (e a)) (γ1 ++ [.lst acc]))) :
    LcK X Γ tg elt ifs scope own ((L.map f).map Itm.fz) (fun g => Rdb g r (.list (L.map f))) γ1 (fun i acc g => g = γ1 ∧ i ≤ L.length ∧ acc = (((L.take i).filter p).map e).map Itm.fz) := by
  refine ⟨⟨rfl, Nat.zero_le _, by simp⟩, fun i acc g _ h => h.1 ▸ hr.app _, fun i acc g h => ⟨by rw [h.1], ?_⟩, by simpa using hsz, ?_⟩
  · rw [h.2.2]
    have h1 := List.length_filter_le p (L.take i)
    have h2 : (L.take i).length ≤ i := by rw [List.length_take]; omega
    simp; omega
  · rintro i x acc g hx ⟨rfl, hi, rfl⟩
    obtain ⟨a, ha, hm, rfl, ht⟩ := take_get hx
    have hlt := (List.getElem?_eq_some_iff.mp ha).1
    obtain ⟨Γ2, ws, h1, h2⟩ := hb a hm
    refine ⟨Γ2, ws, p a, g, h1, rfl, fun X' hB => ?_⟩
    obtain ⟨h3, h4, h5⟩ := h2 ((((L.take i).filter p).map e).map Itm.fz) X' hB
    refine ⟨h3, h4, fun hk => ⟨rfl, hlt, by rw [ht, List.filter_append]; simp [hk]⟩, fun hk => EE.of (h5 hk) ⟨g, rfl, rfl, hlt, by rw [ht, List.filter_append]; simp [hk]⟩⟩
theorem lcA_end {f : α → PyData} {L : List α} {p : α → Bool} {e : α → PyData} {acc : List Itm} {g : Cells} (h : g = γ1 ∧ ((L.map f).map Itm.fz).length ≤ L.length ∧ acc = (((L.take ((L.map f).map Itm.fz).length).filter p).map e).map Itm.fz) : g = γ1 ∧ acc = ((L.filter p).map e).map Itm.fz := by
  have e1 : ((L.map f).map Itm.fz).length = L.length := by simp
  rw [e1, List.take_length] at h
  exact ⟨h.1, h.2.2⟩
theorem ev_lcA (f : α → PyData) (L : List α) (p : α → Bool) (e : α → PyData) (hX : Cok X) (ok : BlkOk X.N X.env.scope scope own) (hi : EV X Γ γ it r γ1) (hr : Rdb γ1 r (.list (L.map f))) (hsz : L.length ≤ 1000000)
    (hb : ∀ a ∈ L, ∃ Γ2 ws, (∀ j ∈ ws, j ∈ own.map (·.2)) ∧ ∀ acc X', Blk X scope X' →
      GV X' (γ1 ++ [.lst acc]) (wipeS Γ (own.map (·.2))) tg (.fz (f a)) Γ2 ws ∧ TVs X' Γ2 (γ1 ++ [.lst acc]) ifs (p a) (γ1 ++ [.lst acc]) ∧ (p a = true → EV X' Γ2 (γ1 ++ [.lst acc]) elt (.fz (e a)) (γ1 ++ [.lst acc])))
    (hs : ∀ x, foldedSetIterable it X.env x = pure x := by intro _; rfl) : EV X Γ γ (.ListComp elt [⟨tg, it, ifs, 0⟩] scope pos) (.fz (.list ((L.filter p).map e))) γ1 :=
  ee_lcFE hX ok (ite_of (itv_list hi hr) ⟨_, lcA f L p e hr hsz hb, fun acc g h => by
    obtain ⟨h1, h2⟩ := lcA_end h
    exact ⟨⟨_, h2⟩, fun c => h1 ▸ c⟩, fun ds g h => by
    obtain ⟨h1, h2⟩ := lcA_end h
    exact ⟨by rw [fz_inj h2], h1⟩⟩) hs
/-- .. stored under a name -/
theorem svs_setLcA {i : Nat} {z : Str} {pz spos : Pos} {rest : List Stmt} {R : SE} (f : α → PyData) (L : List α) (p : α → Bool) (e : α → PyData) (hX : Cok X) (n : Nm X z i .local) (hl : (pz.line == pos.line) = true) (hany : (scope.names.any fun (n, k) => n == z && (k == .local || k == .cell)) = false) (ok : BlkOk X.N X.env.scope scope own) (hi : EV X Γ γ it r γ1) (hr : Rdb γ1 r (.list (L.map f))) (hsz : L.length ≤ 1000000)
    (hb : ∀ a ∈ L, ∃ Γ2 ws, (∀ j ∈ ws, j ∈ own.map (·.2)) ∧ ∀ acc X', Blk X scope X' →
      GV X' (γ1 ++ [.lst acc]) (wipeS Γ (own.map (·.2))) tg (.fz (f a)) Γ2 ws ∧ TVs X' Γ2 (γ1 ++ [.lst acc]) ifs (p a) (γ1 ++ [.lst acc]) ∧ (p a = true → EV X' Γ2 (γ1 ++ [.lst acc]) elt (.fz (e a)) (γ1 ++ [.lst acc])))
    (h : SVs X (Γ.set i (some (.fz (.list ((L.filter p).map e))))) γ1 rest R)
    (hs : ∀ x, foldedSetIterable it X.env x = pure x := by intro _; rfl) : SVs X Γ γ (.Assign [.Name z pz] (.ListComp elt [⟨tg, it, ifs, 0⟩] scope pos) spos :: rest) R :=
  svs_setLcFE hX n hl hany ok (ite_of (itv_list hi hr) ⟨_, lcA f L p e hr hsz hb, fun acc g h => by
    obtain ⟨h1, h2⟩ := lcA_end h
    exact ⟨⟨_, h2⟩, fun c => h1 ▸ c⟩, fun ds g h' => by
    obtain ⟨h1, h2⟩ := lcA_end h'
    rw [fz_inj h2, h1]
    exact h⟩) hs
/-- .. a cell -/
theorem svs_setLcAC {i : Nat} {z : Str} {pz spos : Pos} {rest : List Stmt} {R : SE} (f : α → PyData) (L : List α) (p : α → Bool) (e : α → PyData) (hX : Cok X) (n : Nm X z i .local) (hl : (pz.line == pos.line) = true) (hany : (scope.names.any fun (n, k) => n == z && (k == .local || k == .cell)) = false) (ok : BlkOk X.N X.env.scope scope own) (hi : EV X Γ γ it r γ1) (hr : Rdb γ1 r (.list (L.map f))) (hsz : L.length ≤ 1000000)
    (hb : ∀ a ∈ L, ∃ Γ2 ws, (∀ j ∈ ws, j ∈ own.map (·.2)) ∧ ∀ acc X', Blk X scope X' →
      GV X' (γ1 ++ [.lst acc]) (wipeS Γ (own.map (·.2))) tg (.fz (f a)) Γ2 ws ∧ TVs X' Γ2 (γ1 ++ [.lst acc]) ifs (p a) (γ1 ++ [.lst acc]) ∧ (p a = true → EV X' Γ2 (γ1 ++ [.lst acc]) elt (.fz (e a)) (γ1 ++ [.lst acc])))
    (h : SVs X (Γ.set i (some (.cl γ1.length))) (γ1 ++ [.lst (((L.filter p).map e).map Itm.fz)]) rest R)
    (hs : ∀ x, foldedSetIterable it X.env x = pure x := by intro _; rfl) : SVs X Γ γ (.Assign [.Name z pz] (.ListComp elt [⟨tg, it, ifs, 0⟩] scope pos) spos :: rest) R :=
  svs_setLcCE hX n hl hany ok (ite_of (itv_list hi hr) ⟨_, lcA f L p e hr hsz hb, fun acc g h' => by
    obtain ⟨h1, h2⟩ := lcA_end h'
    rw [h2, h1]
    exact h⟩) hs
/-- the target's part: one name; two; three; four -/
theorem tgt1 {y : Str} {py : Pos} {w : Nat} {x : Itm} {g : Cells} {X' : Cx} (hX : Cok X') (n : Nm X' y w .local) : GV X' g (wipeS Γ ([(y, w)].map (·.2))) (.Name y py) x (Γ.set w (some x)) [w] := by
  have := gv_name (γ := g) (Γ := wipeS Γ ([(y, w)].map (·.2))) (pos := py) (r := x) hX n
  have e : (wipeS Γ ([(y, w)].map (·.2))).set w (some x) = Γ.set w (some x) := by
    show (Γ.set w none).set w (some x) = _
    rw [List.set_set]
  rw [e] at this
  exact this
theorem filter_all (L : List α) : L.filter (fun _ => true) = L := List.filter_eq_self.mpr (by simp)
theorem ev_lcL {y : Str} {py : Pos} {w : Nat} (f : α → PyData) (L : List α) (p : α → Bool) (e : α → PyData) (hX : Cok X) (ok : BlkOk X.N X.env.scope scope [(y, w)]) (hn : ∀ X', Blk X scope X' → Cok X' ∧ Nm X' y w .local) (hi : EV X Γ γ it r γ1) (hr : Rdb γ1 r (.list (L.map f))) (hsz : L.length ≤ 1000000)
    (hb : ∀ a ∈ L, ∀ acc X', Blk X scope X' → TVs X' (Γ.set w (some (.fz (f a)))) (γ1 ++ [.lst acc]) ifs (p a) (γ1 ++ [.lst acc]) ∧ (p a = true → EV X' (Γ.set w (some (.fz (f a)))) (γ1 ++ [.lst acc]) elt (.fz (e a)) (γ1 ++ [.lst acc])))
    (hs : ∀ x, foldedSetIterable it X.env x = pure x := by intro _; rfl) : EV X Γ γ (.ListComp elt [⟨.Name y py, it, ifs, 0⟩] scope pos) (.fz (.list ((L.filter p).map e))) γ1 :=
  ev_lcA f L p e hX ok hi hr hsz (fun a ha => ⟨Γ.set w (some (.fz (f a))), [w], by simp, fun acc X' hB => ⟨tgt1 (hn X' hB).1 (hn X' hB).2, hb a ha acc X' hB⟩⟩) hs
theorem ev_lcM {y : Str} {py : Pos} {w : Nat} (f : α → PyData) (L : List α) (e : α → PyData) (hX : Cok X) (ok : BlkOk X.N X.env.scope scope [(y, w)]) (hn : ∀ X', Blk X scope X' → Cok X' ∧ Nm X' y w .local) (hi : EV X Γ γ it r γ1) (hr : Rdb γ1 r (.list (L.map f))) (hsz : L.length ≤ 1000000)
    (hb : ∀ a ∈ L, ∀ acc X', Blk X scope X' → EV X' (Γ.set w (some (.fz (f a)))) (γ1 ++ [.lst acc]) elt (.fz (e a)) (γ1 ++ [.lst acc]))
    (hs : ∀ x, foldedSetIterable it X.env x = pure x := by intro _; rfl) : EV X Γ γ (.ListComp elt [⟨.Name y py, it, [], 0⟩] scope pos) (.fz (.list (L.map e))) γ1 := by
  have := ev_lcL (py := py) (pos := pos) (ifs := []) f L (fun _ => true) e hX ok hn hi hr hsz (fun a ha acc X' hB => ⟨tvs_nil, fun _ => hb a ha acc X' hB⟩) hs
  rwa [filter_all] at this
theorem svs_setLcM {i : Nat} {z : Str} {pz spos : Pos} {rest : List Stmt} {R : SE} {y : Str} {py : Pos} {w : Nat} (f : α → PyData) (L : List α) (e : α → PyData) (hX : Cok X) (n : Nm X z i .local) (hl : (pz.line == pos.line) = true) (hany : (scope.names.any fun (n, k) => n == z && (k == .local || k == .cell)) = false) (ok : BlkOk X.N X.env.scope scope [(y, w)]) (hn : ∀ X', Blk X scope X' → Cok X' ∧ Nm X' y w .local) (hi : EV X Γ γ it r γ1) (hr : Rdb γ1 r (.list (L.map f))) (hsz : L.length ≤ 1000000)
    (hb : ∀ a ∈ L, ∀ acc X', Blk X scope X' → EV X' (Γ.set w (some (.fz (f a)))) (γ1 ++ [.lst acc]) elt (.fz (e a)) (γ1 ++ [.lst acc]))
    (h : SVs X (Γ.set i (some (.fz (.list (L.map e))))) γ1 rest R)
    (hs : ∀ x, foldedSetIterable it X.env x = pure x := by intro _; rfl) : SVs X Γ γ (.Assign [.Name z pz] (.ListComp elt [⟨.Name y py, it, [], 0⟩] scope pos) spos :: rest) R :=
  svs_setLcA (own := [(y, w)]) f L (fun _ => true) e hX n hl hany ok hi hr hsz (fun a ha => ⟨Γ.set w (some (.fz (f a))), [w], by simp, fun acc X' hB => ⟨tgt1 (hn X' hB).1 (hn X' hB).2, tvs_nil, fun _ => hb a ha acc X' hB⟩⟩) (by rw [filter_all]; exact h) hs
/-- two names, pairs -/
theorem tgt2 {y y' : Str} {py py' ptp : Pos} {w w' kk : Nat} {d e : PyData} {g : Cells} {X' : Cx} (hw : w ≠ w') (hX' : Cok X') (n1 : Nm X' y w .local) (n2 : Nm X' y' w' .local) : GV X' g (wipeS Γ ([(y, w), (y', w')].map (·.2))) (.Tuple [.Name y py, .Name y' py'] kk ptp) (.fz (.tuple [d, e])) ((Γ.set w (some (.fz d))).set w' (some (.fz e))) [w, w'] := by
  have G := gv_tup (kk := kk) (n := 2) (pos := ptp) (γ := g) (Γ := wipeS Γ ([(y, w), (y', w')].map (·.2))) (ds := [d, e]) hX' (gvs_cons (gv_name (pos := py) hX' n1) (gvs_cons (gv_name (pos := py') hX' n2) gvs_nil)) rfl
  have e2 : ((wipeS Γ ([(y, w), (y', w')].map (·.2))).set w (some (.fz d))).set w' (some (.fz e)) = (Γ.set w (some (.fz d))).set w' (some (.fz e)) := by
    show ((((Γ.set w' none).set w none).set w (some (.fz d))).set w' (some (.fz e))) = _
    rw [List.set_set, List.set_comm _ _ hw, List.set_set, List.set_comm _ _ hw.symm]
  rw [e2] at G
  exact G
/-- a loop over a list of data of one kind -/
theorem svs_forL {body rest : List Stmt} {R : SE} (f : α → PyData) (L : List α) (hX : Cok X) (hp : PassesOwn (model X.prog X.w) X.A X.env X.xe) (hi : EV X Γ γ it r γ1) (hr : Rdb γ1 r (.list (L.map f))) (Inv : Nat → Slots → Cells → Prop) (h0 : Inv 0 Γ γ1)
    (hst : ∀ i Γ' γ', i ≤ L.length → Inv i Γ' γ' → Rdb γ' r (.list (L.map f)))
    (hb : ∀ i a Γ' γ', L[i]? = some a → a ∈ L → Inv i Γ' γ' → ∃ Γ2 ws, GV X γ' Γ' tg (.fz (f a)) Γ2 ws ∧ SVs X Γ2 γ' body { nx := Inv (i + 1), ct := Inv (i + 1), bk := fun a b => SVs X a b rest R, rt := R.rt })
    (hd : ∀ Γ' γ', Inv L.length Γ' γ' → SVs X Γ' γ' rest R)
    (hs : ∀ x, foldedSetIterable it X.env x = pure x := by intro _; rfl) : SVs X Γ γ (.For tg it body [] pos :: rest) R := by
  have el : ((L.map f).map Itm.fz).length = L.length := by simp
  refine svs_for hX hp (itv_list hi hr) Inv h0 (fun i Γ' γ' h => hst i Γ' γ' (el ▸ h)) (fun i x Γ' γ' hx => ?_) (fun Γ' γ' h => hd Γ' γ' (el ▸ h)) hs
  obtain ⟨a, h1, h2, rfl, _⟩ := take_get hx
  exact hb i a Γ' γ' h1 h2
/-- strictly rising lists with the same members are the same -/
theorem sorted_ext {lt : α → α → Prop} (irr : ∀ a, ¬ lt a a) (tr : ∀ a b c, lt a b → lt b c → lt a c) : ∀ {xs ys : List α}, xs.Pairwise lt → ys.Pairwise lt → (∀ z, z ∈ xs ↔ z ∈ ys) → xs = ys
  | [], [], _, _, _ => rfl
  | [], y :: ys, _, _, h => absurd ((h y).mpr (by simp)) (by simp)
  | x :: xs, [], _, _, h => absurd ((h x).mp (by simp)) (by simp)
  | x :: xs, y :: ys, hx, hy, h => by
    obtain ⟨hx1, hx2⟩ := List.pairwise_cons.mp hx
    obtain ⟨hy1, hy2⟩ := List.pairwise_cons.mp hy
    have e : x = y := by
      rcases List.mem_cons.mp ((h x).mp (by simp)) with e | e
      · exact e
      rcases List.mem_cons.mp ((h y).mpr (by simp)) with e' | e'
      · exact e'.symm
      exact absurd (tr _ _ _ (hx1 y e') (hy1 x e)) (irr x)
    subst e
    rw [sorted_ext irr tr hx2 hy2 fun z => ?_]
    constructor
    · intro hz
      rcases List.mem_cons.mp ((h z).mp (List.mem_cons_of_mem _ hz)) with e | e
      · exact absurd (hx1 z hz) (e ▸ irr x)
      · exact e
    · intro hz
      rcases List.mem_cons.mp ((h z).mpr (List.mem_cons_of_mem _ hz)) with e | e
      · exact absurd (hy1 z hz) (e ▸ irr x)
      · exact e
end
theorem sw_cell {env : Env} {x y : Str} {px py pt pt2 : Pos} {kt k2 : Nat} {vs : List Expr} (hx : env.kindOf x = some .cell) (hy : env.kindOf y = some .cell) : swappedStores [.Tuple [.Name x px, .Name y py] kt pt] (.Tuple vs k2 pt2) env = pure none := by
  unfold swappedStores
  have e : (some NameKind.cell == some NameKind.local) = false := rfl
  simp only [hx, hy, e, Bool.false_and, List.filterMap_cons, List.filterMap_nil, Bool.false_eq_true, if_false]
  split
  · rfl
  · split <;> rfl
end PL

namespace M9
/-- the shares of the givers' and the takers' hours, by their places -/
def pr : List (Nat × Int) → List (Nat × Int) → List (Nat × Nat × Int)
  | [], _ => []
  | _ :: _, [] => []
  | (i, a) :: gs, (j, b) :: ts =>
    (i, j, min a b) :: (if a = min a b then (if b = min a b then pr gs ts else pr gs ((j, b - min a b) :: ts)) else pr ((i, a - min a b) :: gs) ts)
termination_by g t => g.length + t.length
def tot (L : List (Nat × Int)) : Int := (L.map (·.2)).sum
def Pos (L : List (Nat × Int)) : Prop := ∀ x ∈ L, 1 ≤ x.2
theorem tot_cons (x : Nat × Int) (L : List (Nat × Int)) : tot (x :: L) = x.2 + tot L := by simp [tot]
theorem Pos.tail {x : Nat × Int} {L : List (Nat × Int)} (h : Pos (x :: L)) : Pos L := fun y hy => h y (List.mem_cons_of_mem _ hy)
theorem Pos.head {x : Nat × Int} {L : List (Nat × Int)} (h : Pos (x :: L)) : 1 ≤ x.2 := h x (by simp)
theorem Pos.cons {x : Nat × Int} {L : List (Nat × Int)} (h : Pos L) (h1 : 1 ≤ x.2) : Pos (x :: L) := fun y hy => by
  rcases List.mem_cons.mp hy with rfl | hy
  · exact h1
  · exact h y hy
theorem tot_pos {L : List (Nat × Int)} (h : Pos L) : 0 ≤ tot L ∧ (L ≠ [] → 1 ≤ tot L) := by
  induction L with
  | nil => simp [tot]
  | cons x L ih =>
    have := ih h.tail
    have h1 := h.head
    rw [tot_cons]
    exact ⟨by omega, fun _ => by omega⟩
abbrev lex (r s : Nat × Nat × Int) : Prop := r.1 < s.1 ∨ (r.1 = s.1 ∧ r.2.1 < s.2.1)
def Up (L : List (Nat × Int)) : Prop := (L.map (·.1)).Pairwise (· < ·)
theorem Up.tail {x : Nat × Int} {L : List (Nat × Int)} (h : Up (x :: L)) : Up L := (List.pairwise_cons.mp h).2
theorem Up.head {x : Nat × Int} {L : List (Nat × Int)} (h : Up (x :: L)) : ∀ y ∈ L, x.1 < y.1 := fun y hy => (List.pairwise_cons.mp h).1 y.1 (List.mem_map.mpr ⟨y, hy, rfl⟩)
theorem Up.put {i : Nat} {a b : Int} {L : List (Nat × Int)} (h : Up ((i, a) :: L)) : Up ((i, b) :: L) := h
/-- the three ways that it goes on -/
theorem pr_ind {C : List (Nat × Int) → List (Nat × Int) → List (Nat × Nat × Int) → Prop} (h0 : ∀ T, C [] T []) (h1 : ∀ x G, C (x :: G) [] [])
    (h2 : ∀ i a j G T, C G T (pr G T) → C ((i, a) :: G) ((j, a) :: T) ((i, j, a) :: pr G T))
    (h3 : ∀ i a j b G T, a < b → C G ((j, b - a) :: T) (pr G ((j, b - a) :: T)) → C ((i, a) :: G) ((j, b) :: T) ((i, j, a) :: pr G ((j, b - a) :: T)))
    (h4 : ∀ i a j b G T, b < a → C ((i, a - b) :: G) T (pr ((i, a - b) :: G) T) → C ((i, a) :: G) ((j, b) :: T) ((i, j, b) :: pr ((i, a - b) :: G) T)) : ∀ n G T, G.length + T.length ≤ n → C G T (pr G T) := by
  intro n
  induction n with
  | zero =>
    intro G T h
    have : G = [] := List.eq_nil_of_length_eq_zero (by omega)
    subst this
    rw [pr]
    exact h0 T
  | succ n ih =>
    intro G T h
    match G, T with
    | [], T => rw [pr]; exact h0 T
    | x :: G, [] => rw [pr]; exact h1 x G
    | (i, a) :: G, (j, b) :: T =>
      simp only [List.length_cons] at h
      rw [pr]
      rcases Int.lt_trichotomy a b with hab | hab | hab
      · have e : min a b = a := by omega
        rw [e, if_pos rfl, if_neg (by omega)]
        exact h3 i a j b G T hab (ih _ _ (by simp; omega))
      · subst hab
        have e : min a a = a := by omega
        rw [e, if_pos rfl, if_pos rfl]
        exact h2 i a j G T (ih _ _ (by omega))
      · have e : min a b = b := by omega
        rw [e, if_neg (by omega)]
        exact h4 i a j b G T hab (ih _ _ (by simp; omega))
theorem pr_mem (G T : List (Nat × Int)) : ∀ r ∈ pr G T, r.1 ∈ G.map (·.1) ∧ r.2.1 ∈ T.map (·.1) := by
  refine pr_ind (C := fun G T R => ∀ r ∈ R, r.1 ∈ G.map (·.1) ∧ r.2.1 ∈ T.map (·.1)) (by simp) (by simp) ?_ ?_ ?_ _ G T (Nat.le_refl _)
  · intro i a j G T ih r hr
    rcases List.mem_cons.mp hr with rfl | hr
    · simp
    · have := ih r hr
      exact ⟨List.mem_cons_of_mem _ this.1, List.mem_cons_of_mem _ this.2⟩
  · intro i a j b G T hab ih r hr
    rcases List.mem_cons.mp hr with rfl | hr
    · simp
    · have := ih r hr
      exact ⟨List.mem_cons_of_mem _ this.1, this.2⟩
  · intro i a j b G T hab ih r hr
    rcases List.mem_cons.mp hr with rfl | hr
    · simp
    · have := ih r hr
      exact ⟨this.1, List.mem_cons_of_mem _ this.2⟩
theorem pr_lex (G T : List (Nat × Int)) : Up G → Up T → (pr G T).Pairwise lex := by
  refine pr_ind (C := fun G T R => R = pr G T → Up G → Up T → R.Pairwise lex) (by simp) (by simp) ?_ ?_ ?_ _ G T (Nat.le_refl _) rfl
  · intro i a j G T ih _ hG hT
    refine List.pairwise_cons.mpr ⟨fun r hr => ?_, ih rfl hG.tail hT.tail⟩
    obtain ⟨x, hx, e⟩ := List.mem_map.mp (pr_mem G T r hr).1
    exact .inl (by have := hG.head x hx; simp only at this; show i < r.1; omega)
  · intro i a j b G T hab ih _ hG hT
    refine List.pairwise_cons.mpr ⟨fun r hr => ?_, ih rfl hG.tail hT.put⟩
    obtain ⟨x, hx, e⟩ := List.mem_map.mp (pr_mem G _ r hr).1
    exact .inl (by have := hG.head x hx; simp only at this; show i < r.1; omega)
  · intro i a j b G T hab ih _ hG hT
    refine List.pairwise_cons.mpr ⟨fun r hr => ?_, ih rfl hG.put hT.tail⟩
    obtain ⟨h1, h2⟩ := pr_mem _ T r hr
    obtain ⟨y, hy, e2⟩ := List.mem_map.mp h2
    have hj := hT.head y hy
    simp only at hj
    rcases List.mem_cons.mp h1 with e | e
    · exact .inr ⟨e.symm, by show j < r.2.1; omega⟩
    · obtain ⟨x, hx, e⟩ := List.mem_map.mp e
      exact .inl (by have := hG.head x hx; simp only at this; show i < r.1; omega)
theorem pr_pos (G T : List (Nat × Int)) : Pos G → Pos T → ∀ r ∈ pr G T, 1 ≤ r.2.2 := by
  refine pr_ind (C := fun G T R => Pos G → Pos T → ∀ r ∈ R, 1 ≤ r.2.2) (by simp) (by simp) ?_ ?_ ?_ _ G T (Nat.le_refl _)
  · intro i a j G T ih hG hT r hr
    rcases List.mem_cons.mp hr with rfl | hr
    · exact hG.head
    · exact ih hG.tail hT.tail r hr
  · intro i a j b G T hab ih hG hT r hr
    rcases List.mem_cons.mp hr with rfl | hr
    · exact hG.head
    · exact ih hG.tail (hT.tail.cons (by show 1 ≤ b - a; omega)) r hr
  · intro i a j b G T hab ih hG hT r hr
    rcases List.mem_cons.mp hr with rfl | hr
    · exact hT.head
    · exact ih (hG.tail.cons (by show 1 ≤ a - b; omega)) hT.tail r hr
theorem pr_few (G T : List (Nat × Int)) : Pos G → Pos T → tot G = tot T → G ≠ [] → (pr G T).length + 1 ≤ G.length + T.length := by
  refine pr_ind (C := fun G T R => Pos G → Pos T → tot G = tot T → G ≠ [] → R.length + 1 ≤ G.length + T.length) (by simp) ?_ ?_ ?_ ?_ _ G T (Nat.le_refl _)
  · intro x G _ _ _ _
    simp
  · intro i a j G T ih hG hT he _
    rw [tot_cons, tot_cons] at he
    simp only at he
    by_cases h : G = []
    · subst h
      rw [pr]
      simp
      omega
    · have := ih hG.tail hT.tail (by omega) h
      simp only [List.length_cons]
      omega
  · intro i a j b G T hab ih hG hT he _
    rw [tot_cons, tot_cons] at he
    simp only at he
    have hne : G ≠ [] := fun h => by
      subst h
      have := (tot_pos hT.tail).1
      simp [tot] at he this
      omega
    have := ih hG.tail (hT.tail.cons (by show 1 ≤ b - a; omega)) (by rw [tot_cons]; simp only; omega) hne
    simp only [List.length_cons] at this ⊢
    omega
  · intro i a j b G T hab ih hG hT he _
    rw [tot_cons, tot_cons] at he
    simp only at he
    have := ih (hG.tail.cons (by show 1 ≤ a - b; omega)) hT.tail (by rw [tot_cons]; simp only; omega) (by simp)
    simp only [List.length_cons] at this ⊢
    omega
def gsum (R : List (Nat × Nat × Int)) (i : Nat) : Int := ((R.filter fun r => decide (r.1 = i)).map (·.2.2)).sum
def tsum (R : List (Nat × Nat × Int)) (j : Nat) : Int := ((R.filter fun r => decide (r.2.1 = j)).map (·.2.2)).sum
def isum (L : List (Nat × Int)) (i : Nat) : Int := ((L.filter fun r => decide (r.1 = i)).map (·.2)).sum
theorem gsum_cons (r : Nat × Nat × Int) (R i) : gsum (r :: R) i = (if r.1 = i then r.2.2 else 0) + gsum R i := by
  unfold gsum
  rw [List.filter_cons]
  by_cases h : r.1 = i <;> simp [h]
theorem tsum_cons (r : Nat × Nat × Int) (R i) : tsum (r :: R) i = (if r.2.1 = i then r.2.2 else 0) + tsum R i := by
  unfold tsum
  rw [List.filter_cons]
  by_cases h : r.2.1 = i <;> simp [h]
theorem isum_cons (r : Nat × Int) (R i) : isum (r :: R) i = (if r.1 = i then r.2 else 0) + isum R i := by
  unfold isum
  rw [List.filter_cons]
  by_cases h : r.1 = i <;> simp [h]
theorem pr_sums (G T : List (Nat × Int)) : Pos G → Pos T → tot G = tot T → ∀ i, gsum (pr G T) i = isum G i ∧ tsum (pr G T) i = isum T i := by
  refine pr_ind (C := fun G T R => Pos G → Pos T → tot G = tot T → ∀ i, gsum R i = isum G i ∧ tsum R i = isum T i) ?_ ?_ ?_ ?_ ?_ _ G T (Nat.le_refl _)
  · intro T _ hT he i
    by_cases h : T = []
    · subst h; exact ⟨rfl, rfl⟩
    · have := (tot_pos hT).2 h
      simp [tot] at he this
      omega
  · intro x G hG _ he
    have := (tot_pos hG).2 (by simp)
    rw [he] at this
    simp [tot] at this
  · intro i a j G T ih hG hT he k
    rw [tot_cons, tot_cons] at he
    simp only at he
    obtain ⟨h1, h2⟩ := ih hG.tail hT.tail (by omega) k
    rw [gsum_cons, tsum_cons, isum_cons, isum_cons, h1, h2]
    exact ⟨rfl, rfl⟩
  · intro i a j b G T hab ih hG hT he k
    rw [tot_cons, tot_cons] at he
    simp only at he
    obtain ⟨h1, h2⟩ := ih hG.tail (hT.tail.cons (by show 1 ≤ b - a; omega)) (by rw [tot_cons]; simp only; omega) k
    rw [gsum_cons, tsum_cons, isum_cons, isum_cons, h1, h2, isum_cons]
    simp only
    refine ⟨trivial, ?_⟩
    split <;> omega
  · intro i a j b G T hab ih hG hT he k
    rw [tot_cons, tot_cons] at he
    simp only at he
    obtain ⟨h1, h2⟩ := ih (hG.tail.cons (by show 1 ≤ a - b; omega)) hT.tail (by rw [tot_cons]; simp only; omega) k
    rw [gsum_cons, tsum_cons, isum_cons, isum_cons, h1, h2, isum_cons]
    simp only
    refine ⟨?_, trivial⟩
    split <;> omega
/-- numbered from k on -/
def num (k : Nat) : List Int → List (Nat × Int)
  | [] => []
  | a :: L => (k, a) :: num (k + 1) L
theorem num_len (k : Nat) (L : List Int) : (num k L).length = L.length := by induction L generalizing k with
  | nil => rfl
  | cons a L ih => simp [num, ih]
theorem num_snd (k : Nat) (L : List Int) : (num k L).map (·.2) = L := by induction L generalizing k with
  | nil => rfl
  | cons a L ih => simp [num, ih]
theorem num_fst {k : Nat} {L : List Int} {x : Nat × Int} (h : x ∈ num k L) : k ≤ x.1 ∧ x.1 < k + L.length ∧ L[x.1 - k]? = some x.2 := by induction L generalizing k with
  | nil => cases h
  | cons a L ih =>
    rcases List.mem_cons.mp h with rfl | h
    · simp
    · obtain ⟨h1, h2, h3⟩ := ih h
      refine ⟨by omega, by simp; omega, ?_⟩
      rw [show x.1 - k = (x.1 - (k + 1)) + 1 by omega]
      simpa using h3
theorem num_up (k : Nat) (L : List Int) : Up (num k L) := by
  induction L generalizing k with
  | nil => exact List.Pairwise.nil
  | cons a L ih => exact List.pairwise_cons.mpr ⟨fun x hx => by
      obtain ⟨y, hy, rfl⟩ := List.mem_map.mp hx
      have := num_fst hy
      simp only
      omega, ih (k + 1)⟩
theorem num_pos {k : Nat} {L : List Int} (h : ∀ x ∈ L, 1 ≤ x) : Pos (num k L) := fun x hx => h _ (List.mem_of_getElem? (num_fst hx).2.2)
theorem num_tot (k : Nat) (L : List Int) : tot (num k L) = L.sum := by unfold tot; rw [num_snd]
theorem num_isum {k : Nat} {L : List Int} : ∀ i, isum (num k L) i = if k ≤ i then (L[i - k]?).getD 0 else 0 := by
  induction L generalizing k with
  | nil => intro i; simp [num, isum]
  | cons a L ih =>
    intro i
    rw [num, isum_cons, ih]
    simp only
    by_cases h : k = i
    · subst h
      rw [if_pos rfl, if_neg (show ¬ k + 1 ≤ k by omega)]
      simp
    · rw [if_neg h]
      by_cases h2 : k ≤ i
      · rw [if_pos h2, if_pos (by omega), show i - k = (i - (k + 1)) + 1 by omega]
        simp
      · rw [if_neg h2, if_neg (by omega)]
        rfl
/-- the wanted hours at and behind a place -/
theorem num_drop (L : List Int) (j : Nat) (h : j < L.length) : num j (L.drop j) = (j, L[j]) :: num (j + 1) (L.drop (j + 1)) := by
  rw [List.drop_eq_getElem_cons h]
  rfl
theorem pr_le (G T : List (Nat × Int)) : (pr G T).length ≤ G.length + T.length := by
  refine pr_ind (C := fun G T R => R.length ≤ G.length + T.length) (by simp) (by simp) ?_ ?_ ?_ _ G T (Nat.le_refl _)
  · intro i a j G T ih; simp only [List.length_cons]; omega
  · intro i a j b G T hab ih; simp only [List.length_cons] at ih ⊢; omega
  · intro i a j b G T hab ih; simp only [List.length_cons] at ih ⊢; omega
/-- the givers that are left, the first of them with so many hours -/
def rest (i : Nat) (left : Int) (gh : List Int) : List (Nat × Int) := if 0 < left then (i, left) :: num (i + 1) (gh.drop (i + 1)) else num (i + 1) (gh.drop (i + 1))
structure St (gh th : List Int) (i : Nat) (left : Int) (at_ : Nat) (w : List Int) (sh : List (Nat × Nat × Int)) : Prop where
  len : w.length = th.length
  le : at_ ≤ th.length
  l0 : 0 ≤ left
  go : sh ++ pr (rest i left gh) (num at_ (w.drop at_)) = pr (num 0 gh) (num 0 th)
  sum : left + (gh.drop (i + 1)).sum = (w.drop at_).sum
  pos : ∀ x ∈ w.drop at_, 1 ≤ x
theorem St.few {gh th i left at_ w sh} (h : St gh th i left at_ w sh) : sh.length ≤ gh.length + th.length := by
  have := congrArg List.length h.go
  have h2 := pr_le (num 0 gh) (num 0 th)
  rw [num_len, num_len] at h2
  rw [List.length_append] at this
  omega
theorem sum_nonneg : ∀ {L : List Int}, (∀ x ∈ L, 1 ≤ x) → 0 ≤ L.sum
  | [], _ => by simp
  | a :: L, h => by
    have := sum_nonneg fun x hx => h x (List.mem_cons_of_mem _ hx)
    have := h a (by simp)
    simp only [List.sum_cons]
    omega
theorem St.lt {gh th i left at_ w sh} (h : St gh th i left at_ w sh) (hg : ∀ x ∈ gh, 1 ≤ x) (hl : 0 < left) : at_ < w.length ∧ at_ < th.length := by
  have h0 : 0 ≤ (gh.drop (i + 1)).sum := sum_nonneg fun x hx => hg x (List.mem_of_mem_drop hx)
  have h1 := h.sum
  have hlt : at_ < w.length := by
    rcases Nat.lt_or_ge at_ w.length with q | q
    · exact q
    · rw [List.drop_eq_nil_of_le q] at h1
      simp at h1
      omega
  exact ⟨hlt, h.len ▸ hlt⟩
theorem St.step {gh th i left at_ w sh} (h : St gh th i left at_ w sh) (hl : 0 < left) (hlt : at_ < w.length) (n : Int) (hn : n = min left w[at_]) :
    1 ≤ n ∧ (w[at_] - n = 0 → St gh th i (left - n) (at_ + 1) (w.set at_ (w[at_] - n)) (sh ++ [(i, at_, n)])) ∧ (w[at_] - n ≠ 0 → St gh th i (left - n) at_ (w.set at_ (w[at_] - n)) (sh ++ [(i, at_, n)])) := by
  obtain ⟨len, le, l0, go, sum, pos⟩ := h
  have ed : w.drop at_ = w[at_] :: w.drop (at_ + 1) := List.drop_eq_getElem_cons hlt
  have ht : 1 ≤ w[at_] := pos w[at_] (by rw [ed]; exact List.mem_cons_self ..)
  have ed1 : (w.set at_ (w[at_] - n)).drop (at_ + 1) = w.drop (at_ + 1) := by rw [List.drop_set_of_lt (by omega)]
  have ed0 : (w.set at_ (w[at_] - n)).drop at_ = (w[at_] - n) :: w.drop (at_ + 1) := by
    rw [List.drop_eq_getElem_cons (by simpa using hlt), List.getElem_set_self, ed1]
  have pos1 : ∀ x ∈ w.drop (at_ + 1), 1 ≤ x := fun x hx => pos x (by rw [ed]; exact List.mem_cons_of_mem _ hx)
  rw [ed] at go sum
  rw [show num at_ (w[at_] :: w.drop (at_ + 1)) = (at_, w[at_]) :: num (at_ + 1) (w.drop (at_ + 1)) from rfl] at go
  simp only [rest, if_pos hl] at go
  rw [pr, ← hn] at go
  simp only [List.sum_cons] at sum
  refine ⟨by omega, fun hz => ⟨by simpa using len, by omega, by omega, ?_, by rw [ed1]; omega, by rw [ed1]; exact pos1⟩, fun hz => ⟨by simpa using len, le, by omega, ?_, by rw [ed0, List.sum_cons]; omega, ?_⟩⟩
  · rw [← go, List.append_assoc, ed1]
    congr 1
    simp only [List.cons_append, List.nil_append]
    congr 1
    by_cases h1 : left = n
    · rw [if_pos h1, if_pos (by omega)]
      simp only [rest]
      rw [if_neg (by omega)]
    · rw [if_neg h1]
      simp only [rest]
      rw [if_pos (by omega)]
  · rw [← go, List.append_assoc, ed0]
    congr 1
    simp only [List.cons_append, List.nil_append]
    congr 1
    have h1 : left = n := by omega
    rw [if_pos h1, if_neg (by omega)]
    simp only [rest]
    rw [if_neg (by omega)]
    rfl
  · intro x hx
    rw [ed0] at hx
    rcases List.mem_cons.mp hx with rfl | hx
    · omega
    · exact pos1 x hx
theorem St.start {gh th : List Int} {i : Nat} {at_ : Nat} {w : List Int} {sh : List (Nat × Nat × Int)} (hi : i < gh.length) (hg : ∀ x ∈ gh, 1 ≤ x) (len : w.length = th.length) (le : at_ ≤ th.length)
    (go : sh ++ pr (num i (gh.drop i)) (num at_ (w.drop at_)) = pr (num 0 gh) (num 0 th)) (sum : (gh.drop i).sum = (w.drop at_).sum) (pos : ∀ x ∈ w.drop at_, 1 ≤ x) : St gh th i gh[i] at_ w sh := by
  have h1 := hg gh[i] (List.getElem_mem hi)
  refine ⟨len, le, by omega, ?_, ?_, pos⟩
  · rw [← go, num_drop gh i hi]
    simp only [rest]
    rw [if_pos (by omega)]
  · rw [← sum, List.drop_eq_getElem_cons hi, List.sum_cons]
theorem St.fin {gh th i at_ w sh left} (h : St gh th i left at_ w sh) (hl : ¬ 0 < left) : sh ++ pr (num (i + 1) (gh.drop (i + 1))) (num at_ (w.drop at_)) = pr (num 0 gh) (num 0 th) ∧ (gh.drop (i + 1)).sum = (w.drop at_).sum := by
  have := h.go
  simp only [rest, if_neg hl] at this
  have h2 := h.sum
  have h3 := h.l0
  exact ⟨this, by omega⟩
end M9

namespace KK
open PySem PySem.Spec PyProof.Rows L2 PL
def topS (i : Nat) : Stmt := PySem.Challenge.pw_hourring_k09_givers_and_takers_paired.main.body.getD i (.Pass ⟨0, 0, 0, 0⟩)
abbrev s_paired : Stmt := topS 1
abbrev N_paired : List Str := ["givers", "takers", "hours", "wanted", "shares", "at", "giver", "left", "share", "_"]
theorem sc_paired : FnScope N_paired ["givers", "takers"] (defScope s_paired) := ⟨rfl, rfl, rfl, by decide +kernel, rfl, by decide +kernel, by decide +kernel⟩
abbrev s_draw : Stmt := topS 3
abbrev N_draw : List Str := ["_law_m", "_law_many", "_law_k", "_law_cells", "_law_found"]
theorem sc_draw : FnScope N_draw ["_law_m", "_law_many"] (defScope s_draw) := ⟨rfl, rfl, rfl, by decide +kernel, rfl, by decide +kernel, by decide +kernel⟩
abbrev s_names : Stmt := topS 4
abbrev N_names : List Str := ["_law_m", "_law_many", "_law_letters", "_law_first", "_law_k", "_law_frame", "_law_at", "_law_found", "_law_mark"]
theorem sc_names : FnScope N_names ["_law_m", "_law_many"] (defScope s_names) := ⟨rfl, rfl, rfl, by decide +kernel, rfl, by decide +kernel, by decide +kernel⟩
abbrev s_hours : Stmt := topS 5
abbrev N_hours : List Str := ["_law_m", "_law_way"]
theorem sc_hours : FnScope N_hours ["_law_m"] (defScope s_hours) := ⟨rfl, rfl, rfl, by decide +kernel, rfl, by decide +kernel, by decide +kernel⟩
abbrev s_parts : Stmt := topS 6
abbrev N_parts : List Str := ["_law_m", "_law_total", "_law_many", "_law_found", "_law_left", "_law_k", "_law_size"]
theorem sc_parts : FnScope N_parts ["_law_m", "_law_total", "_law_many"] (defScope s_parts) := ⟨rfl, rfl, rfl, by decide +kernel, rfl, by decide +kernel, by decide +kernel⟩
abbrev s_shared : Stmt := topS 7
abbrev N_shared : List Str := ["_law_found", "_law_pairs", "_law_at", "_law_name", "_law_hours_here", "_law_job"]
theorem sc_shared : FnScope N_shared ["_law_found", "_law_pairs", "_law_at"] (defScope s_shared) := ⟨rfl, rfl, rfl, by decide +kernel, rfl, by decide +kernel, by decide +kernel⟩
abbrev s_good : Stmt := topS 8
abbrev N_good : List Str := ["_law_found", "_law_givers", "_law_takers", "_law_first", "_law_second", "_law_rows", "_law_job", "_law_one"]
theorem sc_good : FnScope N_good ["_law_found", "_law_givers", "_law_takers"] (defScope s_good) := ⟨rfl, rfl, rfl, by decide +kernel, rfl, by decide +kernel, by decide +kernel⟩
abbrev s_law : Stmt := topS 9
abbrev N_law : List Str := ["_law_script", "_law_m", "_law_names_here", "_law_k", "_law_many", "_law_more", "_law_total", "_law_order", "_law_givers", "_law_takers", "_law_handed", "_law_found", "_law_kept"]
theorem sc_law : FnScope N_law ["_law_script"] (defScope s_law) := ⟨rfl, rfl, rfl, by decide +kernel, rfl, by decide +kernel, by decide +kernel⟩
structure G0 (mg : Str → Option Value) : Prop where
  b_all : mg "all" = none
  b_bool : mg "bool" = none
  b_int : mg "int" = none
  b_isinstance : mg "isinstance" = none
  b_len : mg "len" = none
  b_list : mg "list" = none
  b_max : mg "max" = none
  b_min : mg "min" = none
  b_range : mg "range" = none
  b_set : mg "set" = none
  b_sorted : mg "sorted" = none
  b_sum : mg "sum" = none
  b_tuple : mg "tuple" = none
  b_zip : mg "zip" = none
section
variable {α : Type} {a b c d e f g h : α} {r : List α}
theorem ix_0 : atI (a :: r) 0 = some a := atI_nat (j := 0) rfl
theorem ix_1 : atI (a :: b :: r) 1 = some b := atI_nat (j := 1) rfl
theorem ix_2 : atI (a :: b :: c :: r) 2 = some c := atI_nat (j := 2) rfl
theorem ix_3 : atI (a :: b :: c :: d :: r) 3 = some d := atI_nat (j := 3) rfl
theorem ix_4 : atI (a :: b :: c :: d :: e :: r) 4 = some e := atI_nat (j := 4) rfl
end
theorem cutD_map {α β : Type} (f : α → β) (xs : List α) (lo hi : Option Int) : PL.cutD (xs.map f) lo hi = (PL.cutD xs lo hi).map f := by
  unfold PL.cutD
  rw [List.length_map, List.map_take, List.map_drop]
theorem cutD_length {α : Type} (xs : List α) (lo hi : Option Int) : (PL.cutD xs lo hi).length ≤ xs.length := by
  unfold PL.cutD
  rw [List.length_take, List.length_drop]
  omega
theorem atI_map {α β : Type} (f : α → β) (xs : List α) (i : Int) : atI (xs.map f) i = (atI xs i).map f := by
  unfold atI
  rw [List.length_map]
  cases ixN xs.length i with
  | none => rfl
  | some j => simp
theorem at0 (xs : List Int) (h : xs ≠ []) : ∃ z : Int, (atI xs 0).map PyData.int = some (.int z) := by
  cases xs with
  | nil => exact (h rfl).elim
  | cons x r => exact ⟨x, by rw [ix_0]; rfl⟩
theorem small_mul {i j : Int} (a b : Nat) (ha : i.natAbs < 2 ^ a) (hb : j.natAbs < 2 ^ b) (h0 : 0 < a := by decide) (h1 : 0 < b := by decide) (h : a + b ≤ 1000000 := by decide) : CMulW i j := wide_mul ha hb h0 h1 h
theorem av_consF {X : Cx} {Γ : Slots} {γ γ1 γ2 : Cells} {e : Expr} {es : List Expr} {d : PyData} {ds : List PyData} (h : EV X Γ γ e (.fz d) γ1) (hr : AV X Γ γ1 es (ds.map Itm.fz) γ2) (hs : starEach (e :: es) X.env = (false, eval e X.env) :: starEach es X.env := by rfl) : AV X Γ γ (e :: es) ((d :: ds).map Itm.fz) γ2 := av_cons h hr hs
theorem av_nilF {X : Cx} {Γ : Slots} {γ : Cells} : AV X Γ γ [] (([] : List PyData).map Itm.fz) γ := av_nil
theorem fin_set {P : EPost} {d : PyData} {γ : Cells} {c : Nat} {xs : List Itm} (h : Clo γ) (hx : ∀ x ∈ xs, ∃ d, x = Itm.fz d) (hp : P (.fz d) (γ.set c (.lst xs))) : PL.Fin γ.length P (.fz d) (γ.set c (.lst xs)) :=
  ⟨γ.set c (.lst xs), [], by simp, by simp, clo_set h (fun x hm => by obtain ⟨d, rfl⟩ := hx x hm; exact .fz d), .fz d, hp⟩

/-- an item at an open place of a display -/
theorem pick_go {C : PyData → Prop} {ds : List PyData} {i : Int} {g : Cells} (G : PyData → Prop) (h0 : 0 ≤ i) (h1 : i < ds.length) (hall : ∀ d ∈ ds, G d) (k : ∀ d, G d → C d) :
    ∃ ds' i' d, Rdb g (.fz (.list ds)) (.list ds') ∧ (Itm.fz (.int i)) = .fz (.int i') ∧ atI ds' i' = some d ∧ C d := by
  have hlt : i.toNat < ds.length := by omega
  refine ⟨ds, i, ds[i.toNat], .fz _, rfl, ?_, k _ (hall _ (List.getElem_mem hlt))⟩
  have h := atI_nat (List.getElem?_eq_getElem hlt)
  rw [Int.toNat_of_nonneg h0] at h
  exact h
def iB (lo hi : Int) (d : PyData) : Prop := ∃ z : Int, d = .int z ∧ lo ≤ z ∧ z ≤ hi
theorem all_nil {G : PyData → Prop} : ∀ d ∈ ([] : List PyData), G d := fun _ h => by simp at h
theorem all_cons {G : PyData → Prop} {d : PyData} {ds : List PyData} (h : G d) (t : ∀ x ∈ ds, G x) : ∀ x ∈ d :: ds, G x := fun x hx => by
  rcases List.mem_cons.mp hx with rfl | hx
  · exact h
  · exact t x hx

local macro_rules | `(tactic| tm_at "nm") => `(tactic| with_reducible first | assumption | exact Nm.r (by assumption))
local macro_rules | `(tactic| tm_at "bt") => `(tactic| with_reducible assumption)
local macro_rules | `(tactic| tm_at "asm") => `(tactic| assumption)
local macro_rules | `(tactic| tm_at "auto") => `(tactic| first | rfl | exact fun _ _ => rfl | (intro _; rfl) | decide | exact nomark _ | (with_unfolding_all rfl))
local macro_rules | `(tactic| tm_at "boot") => `(tactic| decide +kernel)
local macro_rules | `(tactic| tm_at "kit") => `(tactic| first | exact kit_int _ | exact kit_bool _ | exact kit_str _ | exact kit_list _ | exact kit_tuple _ | exact kit_dict _)
local macro_rules | `(tactic| tm_at "side") => `(tactic| first | assumption | decide | omega | (simp only [List.length_map, List.length_cons, List.length_nil, List.length_append]; omega) | (simp; done))
local macro_rules | `(tactic| tm_at "pos") => `(tactic| first | decide | assumption | exact Int.pow_pos (by decide) | omega)
local macro_rules | `(tactic| tm_at "mul") => `(tactic| first | assumption | (exact small_mul 200 200 (by omega) (by omega)))
local macro_rules | `(tactic| tm_at "div") => `(tactic| first | assumption | (exact wide_div (b := 200) (by omega) (by omega) (by decide) (by decide)))
local macro_rules | `(tactic| tm_at "pow") => `(tactic| (refine ⟨?_, ?_, ?_⟩ <;> decide))
local macro_rules | `(tactic| tm_at "rd") => `(tactic| first | exact Rdb.fz _ | exact Rdb.cl (by assumption) | exact Rdb.cl rfl)
local macro_rules | `(tactic| tm_at "rdl") => `(tactic| first | exact .inr rfl | exact .inl (by tm_at "rd"))
local macro_rules | `(tactic| tm_at "ix") => `(tactic| first | assumption | exact ix_0 | exact ix_1 | exact ix_2 | exact ix_3 | exact ix_4 | rfl)
local macro_rules | `(tactic| tm_at "cmp") => `(tactic| first | exact cmp_lt | exact cmp_le | exact cmp_gt | exact cmp_ge | exact cmp_eqI | exact cmp_neI | exact cmp_eqS | exact cmp_neS | exact cmp_leS | exact cmp_ltS | exact cmp_inSign | exact cmp_notInSign | exact cmp_isB | exact cmp_notB | exact cmp_isN | exact cmp_notN | exact cmp_eqB | exact cmp_neB)
local macro_rules | `(tactic| tm_at "intro") => `(tactic| (intro _; tm_at "e"))
local macro_rules | `(tactic| tm_at "introe") => `(tactic| (intro _; tm_at "e"))
local macro_rules | `(tactic| tm_at "introw") => `(tactic| (intro _; tm_at "w"))
local macro_rules | `(tactic| tm_at "a") => `(tactic| first
  | exact av_nil
  | (apply av_cons; (focus tm_at "e"); (focus tm_at "a"); (focus tm_at "auto")))
local macro_rules | `(tactic| tm_at "alli") => `(tactic| (repeat (first | exact all_nil | (refine all_cons ⟨_, rfl, ?_, ?_⟩ ?_; (focus omega); (focus omega)))))
local macro_rules | `(tactic| tm_at "afz") => `(tactic| first
  | exact av_nilF
  | (apply av_consF; (focus tm_at "e"); (focus tm_at "afz"); (focus tm_at "auto")))
local macro_rules | `(tactic| tm_at "o") => `(tactic| first
  | exact ov_none
  | (apply ov_some; (focus tm_at "e")))
local macro_rules | `(tactic| tm_at "e") => `(tactic| ((with_reducible show EV _ _ _ (Expr.Tuple _ _ _) _ _); first | (apply ev_tup; (focus tm_at "afz"); (focus tm_at "side"))))
local macro_rules | `(tactic| tm_at "e") => `(tactic| ((with_reducible show EV _ _ _ (Expr.List _ _) _ _); first | (apply ev_lst; (focus tm_at "afz"); (focus tm_at "side"))))
local macro_rules | `(tactic| tm_at "e") => `(tactic| ((with_reducible show EV _ _ _ (Expr.Call (Expr.Attribute _ _ _) _ _ _) _ _); first | (apply ev_join; (focus tm_at "e"); (focus tm_at "e"); (focus tm_at "rd"); (focus tm_at "side"); (focus tm_at "auto"); (focus tm_at "auto"); (focus tm_at "auto"))))
local macro_rules | `(tactic| tm_at "e") => `(tactic| ((with_reducible show EV _ _ _ (Expr.Call (Expr.Name _ _) _ _ _) _ _); first | (apply ev_lenL; (focus tm_at "bt"); (focus tm_at "e"); (focus tm_at "rd"); (focus tm_at "auto")) | (apply ev_lenC; (focus tm_at "bt"); (focus tm_at "e"); (focus tm_at "ix"); (focus tm_at "auto")) | (apply ev_lenT; (focus tm_at "bt"); (focus tm_at "e"); (focus tm_at "auto")) | (apply ev_lenS; (focus tm_at "bt"); (focus tm_at "e"); (focus tm_at "side"); (focus tm_at "auto")) | (apply ev_max2; (focus tm_at "asm"); (focus tm_at "bt"); (focus tm_at "e"); (focus tm_at "e"); (focus tm_at "auto"); (focus tm_at "auto"); (focus tm_at "auto")) | (apply ev_min2; (focus tm_at "asm"); (focus tm_at "bt"); (focus tm_at "e"); (focus tm_at "e"); (focus tm_at "auto"); (focus tm_at "auto"); (focus tm_at "auto")) | (apply ev_intB; (focus tm_at "bt"); (focus tm_at "e"); (focus tm_at "auto")) | (apply ev_intI; (focus tm_at "bt"); (focus tm_at "e"); (focus tm_at "auto")) | (apply ev_abs; (focus tm_at "bt"); (focus tm_at "e"); (focus tm_at "auto")) | (apply ev_sum; (focus tm_at "asm"); (focus tm_at "bt"); (focus tm_at "e"); (focus tm_at "rd"); (focus tm_at "auto")) | (apply ev_listF; (focus tm_at "bt"); (focus tm_at "e"); (focus tm_at "rdl"); (focus tm_at "auto")) | (apply ev_sorted; (focus tm_at "bt"); (focus tm_at "e"); (focus tm_at "rd"); (focus tm_at "auto")) | (apply ev_isi; (focus tm_at "bt"); (focus tm_at "bt"); (focus tm_at "boot"); (focus tm_at "e"); (focus tm_at "rd"); (focus tm_at "kit"); (focus tm_at "auto"); (focus tm_at "auto"); (focus tm_at "auto"); (focus tm_at "auto"); (focus tm_at "auto"))))
local macro_rules | `(tactic| tm_at "e") => `(tactic| ((with_reducible show EV _ _ _ (Expr.BoolOp BoolOp.Or _ _) _ _); first | (apply ev_or; (focus tm_at "e"); (focus tm_at "introe"))))
local macro_rules | `(tactic| tm_at "e") => `(tactic| ((with_reducible show EV _ _ _ (Expr.BoolOp BoolOp.And _ _) _ _); first | (apply ev_and; (focus tm_at "e"); (focus tm_at "introe"))))
local macro_rules | `(tactic| tm_at "e") => `(tactic| ((with_reducible show EV _ _ _ (Expr.BoolOp _ [_] _) _ _); first | (apply ev_one; (focus tm_at "e"))))
local macro_rules | `(tactic| tm_at "e") => `(tactic| ((with_reducible show EV _ _ _ (Expr.IfExp _ _ _ _) _ _); first | (apply ev_ifx; (focus tm_at "t"); (focus tm_at "intro"); (focus tm_at "intro"))))
local macro_rules | `(tactic| tm_at "e") => `(tactic| ((with_reducible show EV _ _ _ (Expr.Compare _ [_, _] [_, _] _) _ _); first | (apply ev_chain2; (focus tm_at "e"); (focus tm_at "e"); (focus tm_at "cmp"); (focus tm_at "e"); (focus tm_at "cmp"); (focus tm_at "auto"))))
local macro_rules | `(tactic| tm_at "e") => `(tactic| ((with_reducible show EV _ _ _ (Expr.Compare _ [_] [_] _) _ _); first | (apply ev_cmp; (focus tm_at "e"); (focus tm_at "e"); (focus tm_at "cmp"); (focus tm_at "auto"))))
local macro_rules | `(tactic| tm_at "e") => `(tactic| ((with_reducible show EV _ _ _ (Expr.UnaryOp UnaryOp.Not _ _) _ _); first | (apply ev_not; (focus tm_at "e"))))
local macro_rules | `(tactic| tm_at "e") => `(tactic| ((with_reducible show EV _ _ _ (Expr.UnaryOp UnaryOp.USub _ _) _ _); first | (apply ev_neg; (focus tm_at "e"))))
local macro_rules | `(tactic| tm_at "e") => `(tactic| ((with_reducible show EV _ _ _ (Expr.Subscript _ _ _) _ _); first | (apply ev_ixL; (focus tm_at "e"); (focus tm_at "e"); (focus tm_at "rd"); (focus tm_at "ix"); (focus tm_at "auto")) | (apply ev_ixT; (focus tm_at "e"); (focus tm_at "e"); (focus tm_at "ix"); (focus tm_at "auto")) | (apply ev_ixC; (focus tm_at "e"); (focus tm_at "e"); (focus tm_at "ix"); (focus tm_at "ix"); (focus tm_at "auto")) | (apply ev_ixP; (focus tm_at "e"); (focus tm_at "e"); (focus tm_at "ix"); (focus tm_at "auto")) | (apply ev_ixS; (focus tm_at "e"); (focus tm_at "e"); (focus tm_at "side"); (focus tm_at "asm"); (focus tm_at "auto"))))
local macro_rules | `(tactic| tm_at "e") => `(tactic| ((with_reducible show EV _ _ _ (Expr.Subscript _ (Expr.Slice _ _ _ _) _) _ _); first | (apply ev_slL; (focus tm_at "e"); (focus tm_at "o"); (focus tm_at "o"); (focus tm_at "rd")) | (apply ev_slT; (focus tm_at "e"); (focus tm_at "o"); (focus tm_at "o"); (focus tm_at "side")) | (apply ev_slS; (focus tm_at "e"); (focus tm_at "o"); (focus tm_at "o"); (focus tm_at "side"))))
local macro_rules | `(tactic| tm_at "e") => `(tactic| ((with_reducible show EV _ _ _ (Expr.BinOp _ Operator.Pow _ _) _ _); first | (apply ev_pow; (focus tm_at "e"); (focus tm_at "e"); (focus tm_at "pow"))))
local macro_rules | `(tactic| tm_at "e") => `(tactic| ((with_reducible show EV _ _ _ (Expr.BinOp _ Operator.FloorDiv _ _) _ _); first | (apply ev_div; (focus tm_at "e"); (focus tm_at "e"); (focus tm_at "div"))))
local macro_rules | `(tactic| tm_at "e") => `(tactic| ((with_reducible show EV _ _ _ (Expr.BinOp _ Operator.Mod _ _) _ _); first | (apply ev_mod; (focus tm_at "e"); (focus tm_at "e"); (focus tm_at "pos"))))
local macro_rules | `(tactic| tm_at "e") => `(tactic| ((with_reducible show EV _ _ _ (Expr.BinOp _ Operator.Mult _ _) _ _); first | (apply ev_mul; (focus tm_at "e"); (focus tm_at "e"); (focus tm_at "mul")) | (apply ev_repF; (focus tm_at "afz"); (focus tm_at "e"); (focus tm_at "side"); (focus tm_at "side"); (focus tm_at "side"))))
local macro_rules | `(tactic| tm_at "e") => `(tactic| ((with_reducible show EV _ _ _ (Expr.BinOp _ Operator.Sub _ _) _ _); first | (apply ev_sub; (focus tm_at "e"); (focus tm_at "e"))))
local macro_rules | `(tactic| tm_at "e") => `(tactic| ((with_reducible show EV _ _ _ (Expr.BinOp _ Operator.Add _ _) _ _); first | (apply ev_add; (focus tm_at "e"); (focus tm_at "e")) | (apply ev_catF; (focus tm_at "e"); (focus tm_at "e"); (focus tm_at "rd"); (focus tm_at "rd"); (focus tm_at "side")) | (apply ev_addS; (focus tm_at "e"); (focus tm_at "e"); (focus tm_at "side")) | (apply ev_catT; (focus tm_at "e"); (focus tm_at "e"); (focus tm_at "side"))))
local macro_rules | `(tactic| tm_at "e") => `(tactic| ((with_reducible show EV _ _ _ (Expr.Name _ _) _ _); first | (apply ev_name; (focus tm_at "nm"); (focus rfl))))
local macro_rules | `(tactic| tm_at "e") => `(tactic| ((with_reducible show EV _ _ _ (Expr.Constant _ _ _) _ _); first | exact ev_int | exact ev_bl | exact ev_str | exact ev_non))
local macro_rules | `(tactic| tm_at "t") => `(tactic| ((with_reducible show TV _ _ _ _ _ _); first | (apply tv_val; (focus tm_at "e"); (focus tm_at "auto")) | (apply tv_truthL; (focus tm_at "e"); (focus tm_at "rd"); (focus tm_at "auto")) | (apply tv_truthI; (focus tm_at "e"); (focus tm_at "auto"))))
local macro_rules | `(tactic| tm_at "t") => `(tactic| ((with_reducible show TV _ _ _ (Expr.BoolOp _ _ _) _ _); first | (apply tv_w; (focus tm_at "w"))))
local macro_rules | `(tactic| tm_at "t") => `(tactic| ((with_reducible show TV _ _ _ (Expr.UnaryOp UnaryOp.Not _ _) _ _); first | (apply tv_not; (focus tm_at "t"))))
local macro_rules | `(tactic| tm_at "t") => `(tactic| ((with_reducible show TV _ _ _ (Expr.Compare _ [_, _] [_, _] _) _ _); first | (apply tv_chain2; (focus tm_at "e"); (focus tm_at "e"); (focus tm_at "cmp"); (focus tm_at "e"); (focus tm_at "cmp"); (focus tm_at "auto"))))
local macro_rules | `(tactic| tm_at "t") => `(tactic| ((with_reducible show TV _ _ _ (Expr.Compare _ [_] [_] _) _ _); first | (apply tv_cmp; (focus tm_at "e"); (focus tm_at "e"); (focus tm_at "cmp"); (focus tm_at "auto"))))
local macro_rules | `(tactic| tm_at "w") => `(tactic| ((with_reducible show WV _ _ _ (Expr.BoolOp BoolOp.Or _ _) _ _); first | (apply wv_or; (focus tm_at "t"); (focus tm_at "introw"))))
local macro_rules | `(tactic| tm_at "w") => `(tactic| ((with_reducible show WV _ _ _ (Expr.BoolOp BoolOp.And _ _) _ _); first | (apply wv_and; (focus tm_at "t"); (focus tm_at "introw"))))
local macro_rules | `(tactic| tm_at "w") => `(tactic| ((with_reducible show WV _ _ _ (Expr.BoolOp BoolOp.Or [_] _) _ _); first | (apply wv_or1; (focus tm_at "t"))))
local macro_rules | `(tactic| tm_at "w") => `(tactic| ((with_reducible show WV _ _ _ (Expr.BoolOp BoolOp.And [_] _) _ _); first | (apply wv_and1; (focus tm_at "t"))))
local macro_rules | `(tactic| tm_at "ee") => `(tactic| first
  | (apply EE.of; (focus tm_at "e"))
  | (refine ee_call' (by assumption) ?_; apply AE.of; (focus tm_at "a"))
  | (with_reducible refine ee_mod ?_; tm_at "ee")
  | (with_reducible refine ee_add ?_; tm_at "ee")
  | (with_reducible refine ee_sub ?_; tm_at "ee")
  | (with_reducible refine ee_mul ?_; tm_at "ee")
  | (with_reducible refine ee_div ?_; tm_at "ee")
  | (with_reducible refine ee_ixL ?_; tm_at "ee")
  | (refine ⟨_, rfl, ?_⟩; tm_at "ee"))

/-- the dict of the draws: the script, the counter -/
def mD (ns : List Int) (k : Int) : Cell := .dic [(Sum.inr "script", .fz (.list (ns.map .int))), (Sum.inr "at", .fz (.int k))]
def dm (ns : List Int) (γ : Cells) (c : Nat) (k : Int) : Cells := γ.set c (mD ns k)
theorem dm_dm (ns : List Int) (γ : Cells) (c : Nat) (k k' : Int) : (dm ns γ c k).set c (mD ns k') = dm ns γ c k' := List.set_set ..
theorem dm_len (ns : List Int) (γ : Cells) (c : Nat) (k : Int) : (dm ns γ c k).length = γ.length := List.length_set
theorem dm_get (ns : List Int) {γ : Cells} {c : Nat} (h : c < γ.length) (k : Int) : (dm ns γ c k)[c]? = some (mD ns k) := List.getElem?_set_self h
theorem dm_ne (ns : List Int) {γ : Cells} {c j : Nat} (h : c ≠ j) (k : Int) : (dm ns γ c k)[j]? = γ[j]? := List.getElem?_set_ne h
theorem dm_app (ns : List Int) {γ : Cells} {c : Nat} (h : c < γ.length) (k : Int) (ex : Cells) : dm ns γ c k ++ ex = dm ns (γ ++ ex) c k := (List.set_append_left _ _ h).symm
theorem dm_clo {ns : List Int} {γ : Cells} {c : Nat} {k : Int} (k' : Int) (h : Clo (dm ns γ c k)) : Clo (dm ns γ c k') := by
  rw [← dm_dm ns γ c k k']
  exact clo_set h (fun x hx => by
    simp at hx
    rcases hx with rfl | rfl <;> exact .fz _)
theorem dm_fin {P : EPost} {d : PyData} {ns : List Int} {γ : Cells} {c : Nat} {k k' : Int} (h : Clo (dm ns γ c k)) (hp : P (.fz d) (dm ns γ c k')) : PL.Fin (dm ns γ c k).length P (.fz d) (dm ns γ c k') :=
  ⟨dm ns γ c k', [], by simp, by rw [dm_len, dm_len]; exact Nat.le_refl _, dm_clo k' h, .fz d, hp⟩
theorem dm_finj {P : EPost} {d : PyData} {ns : List Int} {γ junk : Cells} {c : Nat} {k k' : Int} (hc : c < γ.length) (h : Clo (dm ns γ c k)) (hp : P (.fz d) (dm ns γ c k')) : PL.Fin (dm ns γ c k).length P (.fz d) (dm ns (γ ++ junk) c k') :=
  ⟨dm ns γ c k', junk, (dm_app ns hc k' junk).symm, by rw [dm_len, dm_len]; exact Nat.le_refl _, dm_clo k' h, .fz d, hp⟩
theorem dm_last (ns : List Int) {γ : Cells} {c : Nat} (h : c < γ.length) (k : Int) (o : Cell) : (dm ns (γ ++ [o]) c k)[γ.length]? = some o := by
  rw [dm_ne ns (by omega), List.getElem?_append_right (Nat.le_refl _)]; simp
theorem dm_setl (ns : List Int) {γ : Cells} {c : Nat} (h : c < γ.length) (k : Int) (o o' : Cell) : (dm ns (γ ++ [o]) c k).set γ.length o' = dm ns (γ ++ [o']) c k := by
  rw [← dm_app ns h, ← dm_app ns h, List.set_append_right _ _ (by rw [dm_len]; exact Nat.le_refl _), dm_len, Nat.sub_self]; rfl
theorem dm_finj' {P : EPost} {d : PyData} {ns : List Int} {γ junk : Cells} {c : Nat} {k k' : Int} (hc : c < γ.length) (h : Clo (dm ns γ c k)) (hp : P (.fz d) (dm ns γ c k')) : PL.Fin γ.length P (.fz d) (dm ns (γ ++ junk) c k') := by
  have := dm_finj (junk := junk) hc h hp
  rwa [dm_len] at this

abbrev kAt : Key := Sum.inr ("at" : Str)
abbrev kScr : Key := Sum.inr ("script" : Str)
theorem kne' : ¬ kScr = kAt := of_decide_eq_false (by decide +kernel)
theorem valAt (a b : Itm) : valI [(kScr, a), (kAt, b)] kAt = some b := by
  unfold valI
  rw [List.find?_cons, decide_eq_false kne', List.find?_cons]
  simp
theorem valScr (a b : Itm) : valI [(kScr, a), (kAt, b)] kScr = some a := by simp [valI, List.find?]
theorem putAt (a b r : Itm) : putI [(kScr, a), (kAt, b)] kAt r = [(kScr, a), (kAt, r)] := by
  unfold putI
  rw [if_pos (by simp)]
  simp only [List.map_cons, List.map_nil, if_neg kne', if_true]
def cellsOf (ns : List Int) : List Int := if ns = [] then [0] else ns
theorem cells_eq (ns : List Int) (hn : ns.length ≤ 63) : ns.map PyData.int ++ PL.repD [PyData.int 0] (if PyData.eqv (.list (ns.map .int)) (.list []) = true then 1 else 0) = (cellsOf ns).map PyData.int := by
  cases ns with
  | nil => rfl
  | cons a r =>
    have e : PyData.eqv (.list ((a :: r).map .int)) (.list []) = false := by simp [PyData.eqv, PyData.eqvAll]
    rw [e]
    simp [cellsOf, PL.repD]
theorem cells_len (ns : List Int) (hn : ns.length ≤ 63) : 0 < (cellsOf ns).length ∧ (cellsOf ns).length ≤ 63 := by
  unfold cellsOf
  cases ns with
  | nil => simp
  | cons a r => simp at hn ⊢; omega
def S_draw : PSpec := fun args γ P => ∃ ns c γ0 k m many, args = [.cl c, .fz (.int many)] ∧ ns.length ≤ 63 ∧ γ = dm ns γ0 c k ∧ c < γ0.length ∧ 0 ≤ k ∧ k ≤ m ∧ m ≤ 1000000 ∧ 0 < many ∧ ∀ d k' : Int, 0 ≤ d → d < many → 0 ≤ k' → k' ≤ m + 1 → P (.fz (.int d)) (dm ns γ0 c k')
theorem len_draw {args γ P} (h : S_draw args γ P) : args.length = 2 := by obtain ⟨ns, c, γ0, k, m, many, rfl, _⟩ := h; rfl
set_option maxHeartbeats 4000000 in
theorem body_draw {P : Program} {w : World} {K : PySem.W.Frag} {mg : Str → Option Value} {base : Heap} (g0 : G0 mg)
    {X : Cx} (c : Ctx X P w K mg base N_draw (defScope s_draw) 0) {args : List Itm} {γ : Cells} {Po : EPost} (hγ : Clo γ) (hS : S_draw args γ Po) :
    SVs X (slots0 N_draw args) γ (defBody s_draw) { nx := fun _ g => PL.Fin γ.length Po (.fz .none) g, rt := PL.Fin γ.length Po } := by
  have hX := c.ok
  have hp := c.po
  have v0 : Nm X "_law_m" 0 .local := c.nm 0 .local rfl (by decide +kernel) (.inl rfl) (by decide +kernel) (by decide +kernel)
  have v1 : Nm X "_law_many" 1 .local := c.nm 1 .local rfl (by decide +kernel) (.inl rfl) (by decide +kernel) (by decide +kernel)
  have v2 : Nm X "_law_k" 2 .local := c.nm 2 .local rfl (by decide +kernel) (.inl rfl) (by decide +kernel) (by decide +kernel)
  have v3 : Nm X "_law_cells" 3 .local := c.nm 3 .local rfl (by decide +kernel) (.inl rfl) (by decide +kernel) (by decide +kernel)
  have v4 : Nm X "_law_found" 4 .local := c.nm 4 .local rfl (by decide +kernel) (.inl rfl) (by decide +kernel) (by decide +kernel)
  have b_int : Bt X "int" := c.bt (by decide +kernel) g0.b_int
  have b_len : Bt X "len" := c.bt (by decide +kernel) g0.b_len
  obtain ⟨ns, cc, γ0, k, m, many, rfl, hn, rfl, hc, hk0, hkm, hm, hmany, hP⟩ := hS
  have hk := dm_get ns hc k
  have hk1 := dm_get ns hc (k + 1)
  apply svs_setE hX v2
  refine EE.of (ev_dget hX (ev_name v0.r rfl) ev_str hk rfl (valAt _ _)) ?_
  refine svs_dput hX (ev_add (ev_name v2.r rfl) ev_int) (ev_name v0.r rfl) ev_str hk rfl (by simp) ?_
  rw [putAt]
  have e1 : (dm ns γ0 cc k).set cc (.dic [(kScr, .fz (.list (ns.map .int))), (kAt, .fz (.int (k + 1)))]) = dm ns γ0 cc (k + 1) := dm_dm ns γ0 cc k (k + 1)
  rw [e1]
  apply svs_setE hX v3
  refine EE.of (ev_catF (ev_dget hX (ev_name v0.r rfl) ev_str hk1 rfl (valScr _ _)) (ev_repF (k := if PyData.eqv (.list (ns.map .int)) (.list []) = true then 1 else 0) (ds := [.int 0]) (av_cons ev_int av_nil) (ev_intB b_int (ev_cmp (ev_dget hX (ev_name v0.r rfl) ev_str hk1 rfl (valScr _ _)) (ev_lst (ds := []) av_nil) (cmp_eqD hX (Rdb.fz _) (Rdb.fz _) (shp_ints ns).shaped (shp_list (n := 0) (by simp)).shaped))) (by decide) (by split <;> decide) (by split <;> decide)) (Rdb.fz _) (Rdb.fz _) ?_) ?_
  · have : (PL.repD [PyData.int 0] (if PyData.eqv (.list (ns.map .int)) (.list []) = true then 1 else 0)).length ≤ 1 := by split <;> simp [PL.repD]
    simp; omega
  rw [cells_eq ns hn]
  obtain ⟨hl0, hl1⟩ := cells_len ns hn
  apply svs_setE hX v4
  have hpos : 0 < (((cellsOf ns).map PyData.int).length : Int) := by simp; omega
  have hat : ∃ z : Int, atI ((cellsOf ns).map PyData.int) (k % (((cellsOf ns).map PyData.int).length : Int)) = some (.int z) := by
    rw [List.length_map]
    have h1 := Int.emod_nonneg k (show ((cellsOf ns).length : Int) ≠ 0 by omega)
    have h2 := Int.emod_lt_of_pos k (show 0 < ((cellsOf ns).length : Int) by omega)
    have hlt : (k % ((cellsOf ns).length : Int)).toNat < (cellsOf ns).length := by omega
    refine ⟨(cellsOf ns)[(k % ((cellsOf ns).length : Int)).toNat], ?_⟩
    have h := atI_nat (xs := (cellsOf ns).map PyData.int) (j := (k % ((cellsOf ns).length : Int)).toNat) (v := .int (cellsOf ns)[(k % ((cellsOf ns).length : Int)).toNat]) (by rw [List.getElem?_map, List.getElem?_eq_getElem hlt]; rfl)
    rw [Int.toNat_of_nonneg h1] at h
    exact h
  obtain ⟨z, hz⟩ := hat
  have c1 : CMulW 7919 k := small_mul 200 200 (by decide) (by omega)
  have e60 : (10 : Int) ^ (60 : Int).toNat = 1000000000000000000000000000000000000000000000000000000000000 := by decide +kernel
  have c2 : CMulW (z % 10 ^ (60 : Int).toNat + 7919 * k + 11) 48271 := by
    rw [e60]
    exact small_mul 210 210 (by omega) (by omega)
  apply EE.of
  · tm_at "e"
  have hf0 := Int.emod_nonneg ((z % 10 ^ (60 : Int).toNat + 7919 * k + 11) * 48271) (show (2147483647 : Int) ≠ 0 by decide)
  have hf1 := Int.emod_lt_of_pos ((z % 10 ^ (60 : Int).toNat + 7919 * k + 11) * 48271) (show (0 : Int) < 2147483647 by decide)
  generalize (z % 10 ^ (60 : Int).toNat + 7919 * k + 11) * 48271 % 2147483647 = f at hf0 hf1 ⊢
  have c3 : CMulW f (f % 65521 + 3) := small_mul 200 200 (by omega) (by omega)
  apply svs_retE
  apply EE.of
  · tm_at "e"
  exact dm_fin hγ (hP _ _ (Int.emod_nonneg _ (by omega)) (Int.emod_lt_of_pos _ hmany) (by omega) (by omega))
theorem ok_draw {P : Program} {w : World} {K : PySem.W.Frag} {mg : Str → Option Value} {base : Heap} (g0 : G0 mg)
    {f : Addr} {fd : FuncData} (F : Fun K "_law_draw" "_law_draw" s_draw f fd) (hm : mg "_law_draw" = some (.ref f)) : FnD P w K mg base "_law_draw" 1 S_draw :=
  def_ok F sc_draw hm (F.binds (ps := ["_law_m", "_law_many"]) fun _ _ _ _ _ _ us hl => match us, hl with | [_, _], _ => rfl) (fun args γ P h => len_draw h)
    fun X c args γ Po hγ hS => body_draw g0  c hγ hS
theorem use_draw {ns : List Int} {P : EPost} {c : Nat} {γ0 : Cells} {k many : Int} (m : Int) (hn : ns.length ≤ 63) (hc : c < γ0.length) (h0 : 0 ≤ k) (h1 : k ≤ m) (h2 : m ≤ 1000000) (h3 : 0 < many) (q : ∀ d k' : Int, 0 ≤ d → d < many → 0 ≤ k' → k' ≤ m + 1 → P (.fz (.int d)) (dm ns γ0 c k')) :
    S_draw [.cl c, .fz (.int many)] (dm ns γ0 c k) P := ⟨ns, c, γ0, k, m, many, rfl, hn, rfl, hc, h0, h1, h2, h3, q⟩
end KK

namespace KK
open PySem PySem.Spec PyProof.Rows L2 PL
local macro_rules | `(tactic| tm_at "nm") => `(tactic| with_reducible first | assumption | exact Nm.r (by assumption))
local macro_rules | `(tactic| tm_at "bt") => `(tactic| with_reducible assumption)
local macro_rules | `(tactic| tm_at "asm") => `(tactic| assumption)
local macro_rules | `(tactic| tm_at "auto") => `(tactic| first | rfl | exact fun _ _ => rfl | (intro _; rfl) | decide | exact nomark _ | (with_unfolding_all rfl))
local macro_rules | `(tactic| tm_at "boot") => `(tactic| decide +kernel)
local macro_rules | `(tactic| tm_at "kit") => `(tactic| first | exact kit_int _ | exact kit_bool _ | exact kit_str _ | exact kit_list _ | exact kit_tuple _ | exact kit_dict _)
local macro_rules | `(tactic| tm_at "side") => `(tactic| first | assumption | decide | omega | (simp only [List.length_map, List.length_cons, List.length_nil, List.length_append]; omega) | (simp; done))
local macro_rules | `(tactic| tm_at "pos") => `(tactic| first | decide | assumption | exact Int.pow_pos (by decide) | omega)
local macro_rules | `(tactic| tm_at "mul") => `(tactic| first | assumption | (exact small_mul 200 200 (by omega) (by omega)))
local macro_rules | `(tactic| tm_at "div") => `(tactic| first | assumption | (exact wide_div (b := 200) (by omega) (by omega) (by decide) (by decide)))
local macro_rules | `(tactic| tm_at "pow") => `(tactic| (refine ⟨?_, ?_, ?_⟩ <;> decide))
local macro_rules | `(tactic| tm_at "rd") => `(tactic| first | exact Rdb.fz _ | exact Rdb.cl (by assumption) | exact Rdb.cl rfl)
local macro_rules | `(tactic| tm_at "rdl") => `(tactic| first | exact .inr rfl | exact .inl (by tm_at "rd"))
local macro_rules | `(tactic| tm_at "ix") => `(tactic| first | assumption | exact ix_0 | exact ix_1 | exact ix_2 | exact ix_3 | exact ix_4 | rfl)
local macro_rules | `(tactic| tm_at "cmp") => `(tactic| first | exact cmp_lt | exact cmp_le | exact cmp_gt | exact cmp_ge | exact cmp_eqI | exact cmp_neI | exact cmp_eqS | exact cmp_neS | exact cmp_leS | exact cmp_ltS | exact cmp_inSign | exact cmp_notInSign | exact cmp_isB | exact cmp_notB | exact cmp_isN | exact cmp_notN | exact cmp_eqB | exact cmp_neB)
local macro_rules | `(tactic| tm_at "intro") => `(tactic| (intro _; tm_at "e"))
local macro_rules | `(tactic| tm_at "introe") => `(tactic| (intro _; tm_at "e"))
local macro_rules | `(tactic| tm_at "introw") => `(tactic| (intro _; tm_at "w"))
local macro_rules | `(tactic| tm_at "a") => `(tactic| first
  | exact av_nil
  | (apply av_cons; (focus tm_at "e"); (focus tm_at "a"); (focus tm_at "auto")))
local macro_rules | `(tactic| tm_at "alli") => `(tactic| (repeat (first | exact all_nil | (refine all_cons ⟨_, rfl, ?_, ?_⟩ ?_; (focus omega); (focus omega)))))
local macro_rules | `(tactic| tm_at "afz") => `(tactic| first
  | exact av_nilF
  | (apply av_consF; (focus tm_at "e"); (focus tm_at "afz"); (focus tm_at "auto")))
local macro_rules | `(tactic| tm_at "o") => `(tactic| first
  | exact ov_none
  | (apply ov_some; (focus tm_at "e")))
local macro_rules | `(tactic| tm_at "e") => `(tactic| ((with_reducible show EV _ _ _ (Expr.Tuple _ _ _) _ _); first | (apply ev_tup; (focus tm_at "afz"); (focus tm_at "side"))))
local macro_rules | `(tactic| tm_at "e") => `(tactic| ((with_reducible show EV _ _ _ (Expr.List _ _) _ _); first | (apply ev_lst; (focus tm_at "afz"); (focus tm_at "side"))))
local macro_rules | `(tactic| tm_at "e") => `(tactic| ((with_reducible show EV _ _ _ (Expr.Call (Expr.Attribute _ _ _) _ _ _) _ _); first | (apply ev_join; (focus tm_at "e"); (focus tm_at "e"); (focus tm_at "rd"); (focus tm_at "side"); (focus tm_at "auto"); (focus tm_at "auto"); (focus tm_at "auto"))))
local macro_rules | `(tactic| tm_at "e") => `(tactic| ((with_reducible show EV _ _ _ (Expr.Call (Expr.Name _ _) _ _ _) _ _); first | (apply ev_lenL; (focus tm_at "bt"); (focus tm_at "e"); (focus tm_at "rd"); (focus tm_at "auto")) | (apply ev_lenC; (focus tm_at "bt"); (focus tm_at "e"); (focus tm_at "ix"); (focus tm_at "auto")) | (apply ev_lenT; (focus tm_at "bt"); (focus tm_at "e"); (focus tm_at "auto")) | (apply ev_lenS; (focus tm_at "bt"); (focus tm_at "e"); (focus tm_at "side"); (focus tm_at "auto")) | (apply ev_max2; (focus tm_at "asm"); (focus tm_at "bt"); (focus tm_at "e"); (focus tm_at "e"); (focus tm_at "auto"); (focus tm_at "auto"); (focus tm_at "auto")) | (apply ev_min2; (focus tm_at "asm"); (focus tm_at "bt"); (focus tm_at "e"); (focus tm_at "e"); (focus tm_at "auto"); (focus tm_at "auto"); (focus tm_at "auto")) | (apply ev_intB; (focus tm_at "bt"); (focus tm_at "e"); (focus tm_at "auto")) | (apply ev_intI; (focus tm_at "bt"); (focus tm_at "e"); (focus tm_at "auto")) | (apply ev_abs; (focus tm_at "bt"); (focus tm_at "e"); (focus tm_at "auto")) | (apply ev_sum; (focus tm_at "asm"); (focus tm_at "bt"); (focus tm_at "e"); (focus tm_at "rd"); (focus tm_at "auto")) | (apply ev_listF; (focus tm_at "bt"); (focus tm_at "e"); (focus tm_at "rdl"); (focus tm_at "auto")) | (apply ev_sorted; (focus tm_at "bt"); (focus tm_at "e"); (focus tm_at "rd"); (focus tm_at "auto")) | (apply ev_isi; (focus tm_at "bt"); (focus tm_at "bt"); (focus tm_at "boot"); (focus tm_at "e"); (focus tm_at "rd"); (focus tm_at "kit"); (focus tm_at "auto"); (focus tm_at "auto"); (focus tm_at "auto"); (focus tm_at "auto"); (focus tm_at "auto"))))
local macro_rules | `(tactic| tm_at "e") => `(tactic| ((with_reducible show EV _ _ _ (Expr.BoolOp BoolOp.Or _ _) _ _); first | (apply ev_or; (focus tm_at "e"); (focus tm_at "introe"))))
local macro_rules | `(tactic| tm_at "e") => `(tactic| ((with_reducible show EV _ _ _ (Expr.BoolOp BoolOp.And _ _) _ _); first | (apply ev_and; (focus tm_at "e"); (focus tm_at "introe"))))
local macro_rules | `(tactic| tm_at "e") => `(tactic| ((with_reducible show EV _ _ _ (Expr.BoolOp _ [_] _) _ _); first | (apply ev_one; (focus tm_at "e"))))
local macro_rules | `(tactic| tm_at "e") => `(tactic| ((with_reducible show EV _ _ _ (Expr.IfExp _ _ _ _) _ _); first | (apply ev_ifx; (focus tm_at "t"); (focus tm_at "intro"); (focus tm_at "intro"))))
local macro_rules | `(tactic| tm_at "e") => `(tactic| ((with_reducible show EV _ _ _ (Expr.Compare _ [_, _] [_, _] _) _ _); first | (apply ev_chain2; (focus tm_at "e"); (focus tm_at "e"); (focus tm_at "cmp"); (focus tm_at "e"); (focus tm_at "cmp"); (focus tm_at "auto"))))
local macro_rules | `(tactic| tm_at "e") => `(tactic| ((with_reducible show EV _ _ _ (Expr.Compare _ [_] [_] _) _ _); first | (apply ev_cmp; (focus tm_at "e"); (focus tm_at "e"); (focus tm_at "cmp"); (focus tm_at "auto"))))
local macro_rules | `(tactic| tm_at "e") => `(tactic| ((with_reducible show EV _ _ _ (Expr.UnaryOp UnaryOp.Not _ _) _ _); first | (apply ev_not; (focus tm_at "e"))))
local macro_rules | `(tactic| tm_at "e") => `(tactic| ((with_reducible show EV _ _ _ (Expr.UnaryOp UnaryOp.USub _ _) _ _); first | (apply ev_neg; (focus tm_at "e"))))
local macro_rules | `(tactic| tm_at "e") => `(tactic| ((with_reducible show EV _ _ _ (Expr.Subscript _ _ _) _ _); first | (apply ev_ixL; (focus tm_at "e"); (focus tm_at "e"); (focus tm_at "rd"); (focus tm_at "ix"); (focus tm_at "auto")) | (apply ev_ixT; (focus tm_at "e"); (focus tm_at "e"); (focus tm_at "ix"); (focus tm_at "auto")) | (apply ev_ixC; (focus tm_at "e"); (focus tm_at "e"); (focus tm_at "ix"); (focus tm_at "ix"); (focus tm_at "auto")) | (apply ev_ixP; (focus tm_at "e"); (focus tm_at "e"); (focus tm_at "ix"); (focus tm_at "auto")) | (apply ev_ixS; (focus tm_at "e"); (focus tm_at "e"); (focus tm_at "side"); (focus tm_at "asm"); (focus tm_at "auto"))))
local macro_rules | `(tactic| tm_at "e") => `(tactic| ((with_reducible show EV _ _ _ (Expr.Subscript _ (Expr.Slice _ _ _ _) _) _ _); first | (apply ev_slL; (focus tm_at "e"); (focus tm_at "o"); (focus tm_at "o"); (focus tm_at "rd")) | (apply ev_slT; (focus tm_at "e"); (focus tm_at "o"); (focus tm_at "o"); (focus tm_at "side")) | (apply ev_slS; (focus tm_at "e"); (focus tm_at "o"); (focus tm_at "o"); (focus tm_at "side"))))
local macro_rules | `(tactic| tm_at "e") => `(tactic| ((with_reducible show EV _ _ _ (Expr.BinOp _ Operator.Pow _ _) _ _); first | (apply ev_pow; (focus tm_at "e"); (focus tm_at "e"); (focus tm_at "pow"))))
local macro_rules | `(tactic| tm_at "e") => `(tactic| ((with_reducible show EV _ _ _ (Expr.BinOp _ Operator.FloorDiv _ _) _ _); first | (apply ev_div; (focus tm_at "e"); (focus tm_at "e"); (focus tm_at "div"))))
local macro_rules | `(tactic| tm_at "e") => `(tactic| ((with_reducible show EV _ _ _ (Expr.BinOp _ Operator.Mod _ _) _ _); first | (apply ev_mod; (focus tm_at "e"); (focus tm_at "e"); (focus tm_at "pos"))))
local macro_rules | `(tactic| tm_at "e") => `(tactic| ((with_reducible show EV _ _ _ (Expr.BinOp _ Operator.Mult _ _) _ _); first | (apply ev_mul; (focus tm_at "e"); (focus tm_at "e"); (focus tm_at "mul")) | (apply ev_repF; (focus tm_at "afz"); (focus tm_at "e"); (focus tm_at "side"); (focus tm_at "side"); (focus tm_at "side"))))
local macro_rules | `(tactic| tm_at "e") => `(tactic| ((with_reducible show EV _ _ _ (Expr.BinOp _ Operator.Sub _ _) _ _); first | (apply ev_sub; (focus tm_at "e"); (focus tm_at "e"))))
local macro_rules | `(tactic| tm_at "e") => `(tactic| ((with_reducible show EV _ _ _ (Expr.BinOp _ Operator.Add _ _) _ _); first | (apply ev_add; (focus tm_at "e"); (focus tm_at "e")) | (apply ev_catF; (focus tm_at "e"); (focus tm_at "e"); (focus tm_at "rd"); (focus tm_at "rd"); (focus tm_at "side")) | (apply ev_addS; (focus tm_at "e"); (focus tm_at "e"); (focus tm_at "side")) | (apply ev_catT; (focus tm_at "e"); (focus tm_at "e"); (focus tm_at "side"))))
local macro_rules | `(tactic| tm_at "e") => `(tactic| ((with_reducible show EV _ _ _ (Expr.Name _ _) _ _); first | (apply ev_name; (focus tm_at "nm"); (focus rfl))))
local macro_rules | `(tactic| tm_at "e") => `(tactic| ((with_reducible show EV _ _ _ (Expr.Constant _ _ _) _ _); first | exact ev_int | exact ev_bl | exact ev_str | exact ev_non))
local macro_rules | `(tactic| tm_at "t") => `(tactic| ((with_reducible show TV _ _ _ _ _ _); first | (apply tv_val; (focus tm_at "e"); (focus tm_at "auto")) | (apply tv_truthL; (focus tm_at "e"); (focus tm_at "rd"); (focus tm_at "auto")) | (apply tv_truthI; (focus tm_at "e"); (focus tm_at "auto"))))
local macro_rules | `(tactic| tm_at "t") => `(tactic| ((with_reducible show TV _ _ _ (Expr.BoolOp _ _ _) _ _); first | (apply tv_w; (focus tm_at "w"))))
local macro_rules | `(tactic| tm_at "t") => `(tactic| ((with_reducible show TV _ _ _ (Expr.UnaryOp UnaryOp.Not _ _) _ _); first | (apply tv_not; (focus tm_at "t"))))
local macro_rules | `(tactic| tm_at "t") => `(tactic| ((with_reducible show TV _ _ _ (Expr.Compare _ [_, _] [_, _] _) _ _); first | (apply tv_chain2; (focus tm_at "e"); (focus tm_at "e"); (focus tm_at "cmp"); (focus tm_at "e"); (focus tm_at "cmp"); (focus tm_at "auto"))))
local macro_rules | `(tactic| tm_at "t") => `(tactic| ((with_reducible show TV _ _ _ (Expr.Compare _ [_] [_] _) _ _); first | (apply tv_cmp; (focus tm_at "e"); (focus tm_at "e"); (focus tm_at "cmp"); (focus tm_at "auto"))))
local macro_rules | `(tactic| tm_at "w") => `(tactic| ((with_reducible show WV _ _ _ (Expr.BoolOp BoolOp.Or _ _) _ _); first | (apply wv_or; (focus tm_at "t"); (focus tm_at "introw"))))
local macro_rules | `(tactic| tm_at "w") => `(tactic| ((with_reducible show WV _ _ _ (Expr.BoolOp BoolOp.And _ _) _ _); first | (apply wv_and; (focus tm_at "t"); (focus tm_at "introw"))))
local macro_rules | `(tactic| tm_at "w") => `(tactic| ((with_reducible show WV _ _ _ (Expr.BoolOp BoolOp.Or [_] _) _ _); first | (apply wv_or1; (focus tm_at "t"))))
local macro_rules | `(tactic| tm_at "w") => `(tactic| ((with_reducible show WV _ _ _ (Expr.BoolOp BoolOp.And [_] _) _ _); first | (apply wv_and1; (focus tm_at "t"))))
local macro_rules | `(tactic| tm_at "ee") => `(tactic| first
  | (apply EE.of; (focus tm_at "e"); try (tm_at "ee"))
  | (refine ee_call' (by assumption) ?_; apply AE.of; (focus tm_at "a"))
  | (with_reducible refine ee_mod ?_; tm_at "ee")
  | (with_reducible refine ee_add ?_; tm_at "ee")
  | (with_reducible refine ee_sub ?_; tm_at "ee")
  | (with_reducible refine ee_mul ?_; tm_at "ee")
  | (with_reducible refine ee_div ?_; tm_at "ee")
  | (with_reducible refine ee_ixL ?_; tm_at "ee")
  | (refine ⟨_, rfl, ?_⟩; tm_at "ee"))

theorem b30 : (10 : Int) ^ (30 : Int).toNat = 1000000000000000000000000000000 := by decide +kernel
theorem b21 : (10 : Int) ^ (21 : Int).toNat = 1000000000000000000000 := by decide +kernel
theorem b9 : (10 : Int) ^ (9 : Int).toNat = 1000000000 := by decide +kernel
def S_names : PSpec := fun args γ P => ∃ ns c γ0 k m, args = [.cl c, .fz (.int 24)] ∧ ns.length ≤ 63 ∧ γ = dm ns γ0 c k ∧ c < γ0.length ∧ 0 ≤ k ∧ k ≤ m ∧ m ≤ 900000 ∧ ∀ (zs : List Str) (k' : Int), zs.length = 24 → zs.Nodup → (∀ z ∈ zs, Lows z) → 0 ≤ k' → k' ≤ m + 3 → P (.fz (.list (zs.map .str))) (dm ns γ0 c k')
theorem len_names {args γ P} (h : S_names args γ P) : args.length = 2 := by obtain ⟨ns, c, γ0, k, m, rfl, _⟩ := h; rfl
set_option maxHeartbeats 8000000 in
theorem body_names {P : Program} {w : World} {K : PySem.W.Frag} {mg : Str → Option Value} {base : Heap} (g0 : G0 mg)
    (D_draw : FnD P w K mg base "_law_draw" 1 S_draw)
    {X : Cx} (c : Ctx X P w K mg base N_names (defScope s_names) 1) {args : List Itm} {γ : Cells} {Po : EPost} (hγ : Clo γ) (hS : S_names args γ Po) :
    SVs X (slots0 N_names args) γ (defBody s_names) { nx := fun _ g => PL.Fin γ.length Po (.fz .none) g, rt := PL.Fin γ.length Po } := by
  have hX := c.ok
  have hp := c.po
  have v0 : Nm X "_law_m" 0 .local := c.nm 0 .local rfl (by decide +kernel) (.inl rfl) (by decide +kernel) (by decide +kernel)
  have v1 : Nm X "_law_many" 1 .local := c.nm 1 .local rfl (by decide +kernel) (.inl rfl) (by decide +kernel) (by decide +kernel)
  have v2 : Nm X "_law_letters" 2 .cell := c.nm 2 .cell rfl (by decide +kernel) (.inr rfl) (by decide +kernel) (by decide +kernel)
  have v3 : Nm X "_law_first" 3 .cell := c.nm 3 .cell rfl (by decide +kernel) (.inr rfl) (by decide +kernel) (by decide +kernel)
  have v4 : Nm X "_law_k" 4 .local := c.nm 4 .local rfl (by decide +kernel) (.inl rfl) (by decide +kernel) (by decide +kernel)
  have v5 : Nm X "_law_frame" 5 .local := c.nm 5 .local rfl (by decide +kernel) (.inl rfl) (by decide +kernel) (by decide +kernel)
  have v6 : Nm X "_law_at" 6 .local := c.nm 6 .local rfl (by decide +kernel) (.inl rfl) (by decide +kernel) (by decide +kernel)
  have v7 : Nm X "_law_found" 7 .local := c.nm 7 .local rfl (by decide +kernel) (.inl rfl) (by decide +kernel) (by decide +kernel)
  have v8 : Nm X "_law_mark" 8 .local := c.nm 8 .local rfl (by decide +kernel) (.inl rfl) (by decide +kernel) (by decide +kernel)
  have k_draw : Cal X "_law_draw" S_draw := c.cal D_draw (by decide) (by decide +kernel) (by decide +kernel)
  have b_range : Bt X "range" := c.bt (by decide +kernel) g0.b_range
  have b_len : Bt X "len" := c.bt (by decide +kernel) g0.b_len
  have b_int : Bt X "int" := c.bt (by decide +kernel) g0.b_int
  obtain ⟨ns, cc, γ0, k, m, rfl, hn, rfl, hc, hk0, hkm, hm, hP⟩ := hS
  apply svs_setE hX v2
  apply EE.of
  · tm_at "e"
  apply svs_setE hX v3
  tm_at "ee"
  refine use_draw m hn hc hk0 hkm (by omega) (by decide) fun a k1 ha0 ha1 h10 h11 => ?_
  apply svs_setE hX v5
  refine ee_join (EE.of ev_str ⟨_, rfl, ?_⟩)
  refine ee_lcFE (own := [("_law_k", 4)]) hX (by rw [c.N, c.sc]; exact ⟨rfl, by decide +kernel, by decide +kernel, by decide +kernel, by decide +kernel⟩) (ite_range1 b_range ?_)
  tm_at "ee"
  refine use_draw (m + 1) hn hc h10 h11 (by omega) (by decide) fun t k2 ht0 ht1 h20 h21 => ⟨t, rfl, by omega, by omega, ?_⟩
  refine ⟨fun i acc g => g = dm ns γ0 cc k2 ∧ ∃ ys : List Str, acc = (ys.map PyData.str).map Itm.fz ∧ ys.length = i ∧ ∀ y ∈ ys, ∃ c, y = ⟨#[c]⟩ ∧ Low c, LcK.one (fun X' hB => ⟨hB.cok hX rfl, hB.own (by rw [c.N]; rfl) (by decide +kernel) (by decide +kernel) (by decide +kernel)⟩) ⟨rfl, [], rfl, rfl, by simp⟩ (fun _ _ _ _ _ => trivial) ?_ (by rw [rngL_length]; omega) ?_, ?_, ?_⟩
  · rintro i acc g ⟨rfl, ys, rfl, hl, _⟩
    exact ⟨rfl, by simp; omega⟩
  · rintro i x acc g hx ⟨rfl, ys, rfl, hl, hy⟩ X' hB
    obtain ⟨hi, rfl⟩ := rngL_get hx
    have hi : i < 7 := by omega
    have hX_X' := hB.cok hX rfl
    have w4_X' : Nm X' "_law_k" 4 .local := hB.own (by rw [c.N]; rfl) (by decide +kernel) (by decide +kernel) (by decide +kernel)
    have w3_X' : Nr X' "_law_first" 3 .cell := hB.cap hX v3.r (by decide +kernel)
    have w2_X' : Nr X' "_law_letters" 2 .cell := hB.cap hX v2.r (by decide +kernel)
    have q0 := Int.emod_nonneg (a + 5 * (0 + (i : Int))) (show (26 : Int) ≠ 0 by decide)
    have q1 := Int.emod_lt_of_pos (a + 5 * (0 + (i : Int))) (show (0 : Int) < 26 by decide)
    have hcp := abcI q0 q1
    refine EE.of (ev_ixS (ev_name w2_X' rfl) (by tm_at "e") (by decide +kernel) hcp) ?_
    refine ⟨_, rfl, rfl, ys ++ [⟨#[97 + ((a + 5 * (0 + (i : Int))) % 26).toNat]⟩], by simp, by simp [hl], fun y hym => ?_⟩
    rcases List.mem_append.mp hym with h | h
    · exact hy y h
    · exact ⟨_, by simpa using h, low_abc q0 q1⟩
  · rintro acc g ⟨rfl, ys, rfl, hl, _⟩
    exact ⟨⟨_, rfl⟩, fun q => dm_clo _ hγ⟩
  rintro ds g ⟨rfl, ys, hds, hl, hy⟩
  obtain rfl := fz_inj hds
  rw [rngL_length] at hl
  obtain ⟨hlow, hlen⟩ := ones_join hy
  have hsum : (ys.map (·.length)).sum = ys.length := by
    clear hds hl hlow hlen
    induction ys with
    | nil => rfl
    | cons y r ih =>
      obtain ⟨c', rfl, _⟩ := hy y (by simp)
      rw [List.map_cons, List.sum_cons, ih fun z hz => hy z (by simp [hz])]
      show 1 + _ = _
      simp; omega
  refine ⟨ys, Rdb.fz _, by rw [hsum, len0]; omega, ?_⟩
  rw [emp0]
  generalize Txt.join ⟨#[]⟩ ys = f at hlow hlen ⊢
  have hfl : f.length ≤ 6 := by omega
  apply svs_setE hX v6
  refine ee_call' k_draw (AE.of (rs := [.cl cc, .fz (.int ((f.length : Int) + 1))]) (γ1 := dm ns γ0 cc k2) (by
    refine av_cons (ev_name v0.r rfl) (av_cons (ev_add (ev_lenS b_len (ev_name v5.r rfl) ?_) ev_int) av_nil)
    rw [sizeLine_eq]; omega) ?_)
  refine use_draw (m + 2) hn hc h20 (by omega) (by omega) (by omega) fun pt k3 hp0 hp1 h30 h31 => ?_
  obtain ⟨t', rfl⟩ : ∃ t' : Nat, pt = (t' : Int) := ⟨pt.toNat, by omega⟩
  have htl : t' ≤ f.length := by omega
  apply svs_setE hX v7
  refine EE.of (ev_lstC av_nil) ?_
  rw [dm_len, dm_app ns hc]
  refine svs_for hX hp (xs := rngL 0 24) (stab := fun _ => True) (itv_range1 (n := 24) b_range (ev_name v1.r rfl) (by decide) (by decide))
    (fun i Γ' g => ∃ (s4 s8 : Option Itm), Γ' = [some (.cl cc), some (.fz (.int 24)), some (.fz (.str ABC)), some (.fz (.int a)), s4, some (.fz (.str f)), some (.fz (.int (t' : Int))), some (.cl γ0.length), s8] ∧ g = dm ns (γ0 ++ [.lst (((nms f t' a 7 i).map PyData.str).map Itm.fz)]) cc k3 ∧ i ≤ 24)
    ⟨_, _, rfl, rfl, by omega⟩ (fun _ _ _ _ _ => trivial) ?_ ?_
  · rintro i x Γ' g hx ⟨s4, s8, rfl, rfl, _⟩
    obtain ⟨hi, rfl⟩ := rngL_get hx
    rw [Int.zero_add]
    refine ⟨_, _, gv_name hX v4, ?_⟩
    have q0 := Int.emod_nonneg (a + 7 * (i : Int)) (show (26 : Int) ≠ 0 by decide)
    have q1 := Int.emod_lt_of_pos (a + 7 * (i : Int)) (show (0 : Int) < 26 by decide)
    have hcp := abcI q0 q1
    have hcp2 := abcI (i := (i : Int) / 26) (by omega) (by omega)
    generalize hγ' : dm ns (γ0 ++ [.lst (((nms f t' a 7 i).map PyData.str).map Itm.fz)]) cc k3 = g
    have hlst : g[γ0.length]? = some (.lst (((nms f t' a 7 i).map PyData.str).map Itm.fz)) := by rw [← hγ']; exact dm_last ns hc k3 _
    have e0 : (if decide ((26 : Int) < 24) = true then (1 : Int) else 0) = 0 := by decide
    apply svs_setE hX v8
    refine EE.of (r := .fz (.str (⟨#[97 + ((a + 7 * (i : Int)) % 26).toNat]⟩ ++ Str.empty))) (γ1 := g) (ev_addS (ev_ixS (ev_name v2.r rfl) (by tm_at "e") (by decide +kernel) hcp) (ev_repS0 (ev_ixS (ev_name v2.r rfl) (by tm_at "e") (by decide +kernel) hcp2) (EV.is (ev_intB b_int (ev_cmp (ev_name v1.r rfl) ev_int cmp_gt)) rfl)) (by show 1 + 0 ≤ 1000000; omega)) ?_
    rw [app_emp]
    have l1 := cut_head f t' htl
    have l2 := cut_tail f t' htl
    have l3 : (⟨#[97 + ((a + 7 * (i : Int)) % 26).toNat]⟩ : Str).length = 1 := rfl
    refine svs_exprE (EE.of (ev_append (ev_name v7.r rfl) (r := .fz (.str (mkN f t' (97 + ((a + 7 * (i : Int)) % 26).toNat)))) (ev_addS (ev_addS (ev_slS (ev_name v5.r rfl) ov_none (ov_some (ev_name v6.r rfl)) (by omega)) (ev_name v8.r rfl) (by omega)) (ev_slS (ev_name v5.r rfl) (ov_some (ev_name v6.r rfl)) ov_none (by omega)) (by rw [length_addS]; omega)) ⟨_, hlst⟩ hlst (by simp [nms_len]; omega)) ?_)
    refine svs_nil ⟨_, _, rfl, ?_, by omega⟩
    rw [← hγ', dm_setl ns hc, nms_succ]
    simp
  · rintro Γ' g ⟨s4, s8, rfl, rfl, _⟩
    refine SVs.freeze (i := 7) (c := γ0.length) (ds := (nms f t' a 7 24).map PyData.str) rfl (dm_last ns hc k3 _) ?_
    rw [dm_setl ns hc]
    apply svs_retE
    apply EE.of
    · tm_at "e"
    exact dm_finj hc hγ (hP _ k3 (nms_len ..) (nms_nodup f t' a 24 (by decide)) (fun z hz => (nms_ok hlow htl a 7 24 z hz).1) h30 (by omega))
theorem ok_names {P : Program} {w : World} {K : PySem.W.Frag} {mg : Str → Option Value} {base : Heap} (g0 : G0 mg)
    (D_draw : FnD P w K mg base "_law_draw" 1 S_draw)
    {f : Addr} {fd : FuncData} (F : Fun K "_law_names" "_law_names" s_names f fd) (hm : mg "_law_names" = some (.ref f)) : FnD P w K mg base "_law_names" 2 S_names :=
  def_ok F sc_names hm (F.binds (ps := ["_law_m", "_law_many"]) fun _ _ _ _ _ _ us hl => match us, hl with | [_, _], _ => rfl) (fun args γ P h => len_names h)
    fun X c args γ Po hγ hS => body_names g0 D_draw c hγ hS
end KK

namespace KK
open PySem PySem.Spec PyProof.Rows L2 PL
local macro_rules | `(tactic| tm_at "nm") => `(tactic| with_reducible first | assumption | exact Nm.r (by assumption))
local macro_rules | `(tactic| tm_at "bt") => `(tactic| with_reducible assumption)
local macro_rules | `(tactic| tm_at "asm") => `(tactic| assumption)
local macro_rules | `(tactic| tm_at "auto") => `(tactic| first | rfl | exact fun _ _ => rfl | (intro _; rfl) | decide | exact nomark _ | (with_unfolding_all rfl))
local macro_rules | `(tactic| tm_at "boot") => `(tactic| decide +kernel)
local macro_rules | `(tactic| tm_at "kit") => `(tactic| first | exact kit_int _ | exact kit_bool _ | exact kit_str _ | exact kit_list _ | exact kit_tuple _ | exact kit_dict _)
local macro_rules | `(tactic| tm_at "side") => `(tactic| first | assumption | decide | omega | (simp only [List.length_map, List.length_cons, List.length_nil, List.length_append]; omega) | (simp; done))
local macro_rules | `(tactic| tm_at "pos") => `(tactic| first | decide | assumption | exact Int.pow_pos (by decide) | omega)
local macro_rules | `(tactic| tm_at "mul") => `(tactic| first | assumption | (exact small_mul 200 200 (by omega) (by omega)))
local macro_rules | `(tactic| tm_at "div") => `(tactic| first | assumption | (exact wide_div (b := 200) (by omega) (by omega) (by decide) (by decide)))
local macro_rules | `(tactic| tm_at "pow") => `(tactic| (refine ⟨?_, ?_, ?_⟩ <;> decide))
local macro_rules | `(tactic| tm_at "rd") => `(tactic| first | exact Rdb.fz _ | exact Rdb.cl (by assumption) | exact Rdb.cl rfl)
local macro_rules | `(tactic| tm_at "rdl") => `(tactic| first | exact .inr rfl | exact .inl (by tm_at "rd"))
local macro_rules | `(tactic| tm_at "ix") => `(tactic| first | assumption | exact ix_0 | exact ix_1 | exact ix_2 | exact ix_3 | exact ix_4 | rfl)
local macro_rules | `(tactic| tm_at "cmp") => `(tactic| first | exact cmp_lt | exact cmp_le | exact cmp_gt | exact cmp_ge | exact cmp_eqI | exact cmp_neI | exact cmp_eqS | exact cmp_neS | exact cmp_leS | exact cmp_ltS | exact cmp_inSign | exact cmp_notInSign | exact cmp_isB | exact cmp_notB | exact cmp_isN | exact cmp_notN | exact cmp_eqB | exact cmp_neB)
local macro_rules | `(tactic| tm_at "intro") => `(tactic| (intro _; tm_at "e"))
local macro_rules | `(tactic| tm_at "introe") => `(tactic| (intro _; tm_at "e"))
local macro_rules | `(tactic| tm_at "introw") => `(tactic| (intro _; tm_at "w"))
local macro_rules | `(tactic| tm_at "a") => `(tactic| first
  | exact av_nil
  | (apply av_cons; (focus tm_at "e"); (focus tm_at "a"); (focus tm_at "auto")))
local macro_rules | `(tactic| tm_at "alli") => `(tactic| (repeat (first | exact all_nil | (refine all_cons ⟨_, rfl, ?_, ?_⟩ ?_; (focus omega); (focus omega)))))
local macro_rules | `(tactic| tm_at "afz") => `(tactic| first
  | exact av_nilF
  | (apply av_consF; (focus tm_at "e"); (focus tm_at "afz"); (focus tm_at "auto")))
local macro_rules | `(tactic| tm_at "o") => `(tactic| first
  | exact ov_none
  | (apply ov_some; (focus tm_at "e")))
local macro_rules | `(tactic| tm_at "e") => `(tactic| ((with_reducible show EV _ _ _ (Expr.Tuple _ _ _) _ _); first | (apply ev_tup; (focus tm_at "afz"); (focus tm_at "side"))))
local macro_rules | `(tactic| tm_at "e") => `(tactic| ((with_reducible show EV _ _ _ (Expr.List _ _) _ _); first | (apply ev_lst; (focus tm_at "afz"); (focus tm_at "side"))))
local macro_rules | `(tactic| tm_at "e") => `(tactic| ((with_reducible show EV _ _ _ (Expr.Call (Expr.Attribute _ _ _) _ _ _) _ _); first | (apply ev_join; (focus tm_at "e"); (focus tm_at "e"); (focus tm_at "rd"); (focus tm_at "side"); (focus tm_at "auto"); (focus tm_at "auto"); (focus tm_at "auto"))))
local macro_rules | `(tactic| tm_at "e") => `(tactic| ((with_reducible show EV _ _ _ (Expr.Call (Expr.Name _ _) _ _ _) _ _); first | (apply ev_lenL; (focus tm_at "bt"); (focus tm_at "e"); (focus tm_at "rd"); (focus tm_at "auto")) | (apply ev_lenC; (focus tm_at "bt"); (focus tm_at "e"); (focus tm_at "ix"); (focus tm_at "auto")) | (apply ev_lenT; (focus tm_at "bt"); (focus tm_at "e"); (focus tm_at "auto")) | (apply ev_lenS; (focus tm_at "bt"); (focus tm_at "e"); (focus tm_at "side"); (focus tm_at "auto")) | (apply ev_max2; (focus tm_at "asm"); (focus tm_at "bt"); (focus tm_at "e"); (focus tm_at "e"); (focus tm_at "auto"); (focus tm_at "auto"); (focus tm_at "auto")) | (apply ev_min2; (focus tm_at "asm"); (focus tm_at "bt"); (focus tm_at "e"); (focus tm_at "e"); (focus tm_at "auto"); (focus tm_at "auto"); (focus tm_at "auto")) | (apply ev_intB; (focus tm_at "bt"); (focus tm_at "e"); (focus tm_at "auto")) | (apply ev_intI; (focus tm_at "bt"); (focus tm_at "e"); (focus tm_at "auto")) | (apply ev_abs; (focus tm_at "bt"); (focus tm_at "e"); (focus tm_at "auto")) | (apply ev_sum; (focus tm_at "asm"); (focus tm_at "bt"); (focus tm_at "e"); (focus tm_at "rd"); (focus tm_at "auto")) | (apply ev_listF; (focus tm_at "bt"); (focus tm_at "e"); (focus tm_at "rdl"); (focus tm_at "auto")) | (apply ev_sorted; (focus tm_at "bt"); (focus tm_at "e"); (focus tm_at "rd"); (focus tm_at "auto")) | (apply ev_isi; (focus tm_at "bt"); (focus tm_at "bt"); (focus tm_at "boot"); (focus tm_at "e"); (focus tm_at "rd"); (focus tm_at "kit"); (focus tm_at "auto"); (focus tm_at "auto"); (focus tm_at "auto"); (focus tm_at "auto"); (focus tm_at "auto"))))
local macro_rules | `(tactic| tm_at "e") => `(tactic| ((with_reducible show EV _ _ _ (Expr.BoolOp BoolOp.Or _ _) _ _); first | (apply ev_or; (focus tm_at "e"); (focus tm_at "introe"))))
local macro_rules | `(tactic| tm_at "e") => `(tactic| ((with_reducible show EV _ _ _ (Expr.BoolOp BoolOp.And _ _) _ _); first | (apply ev_and; (focus tm_at "e"); (focus tm_at "introe"))))
local macro_rules | `(tactic| tm_at "e") => `(tactic| ((with_reducible show EV _ _ _ (Expr.BoolOp _ [_] _) _ _); first | (apply ev_one; (focus tm_at "e"))))
local macro_rules | `(tactic| tm_at "e") => `(tactic| ((with_reducible show EV _ _ _ (Expr.IfExp _ _ _ _) _ _); first | (apply ev_ifx; (focus tm_at "t"); (focus tm_at "intro"); (focus tm_at "intro"))))
local macro_rules | `(tactic| tm_at "e") => `(tactic| ((with_reducible show EV _ _ _ (Expr.Compare _ [_, _] [_, _] _) _ _); first | (apply ev_chain2; (focus tm_at "e"); (focus tm_at "e"); (focus tm_at "cmp"); (focus tm_at "e"); (focus tm_at "cmp"); (focus tm_at "auto"))))
local macro_rules | `(tactic| tm_at "e") => `(tactic| ((with_reducible show EV _ _ _ (Expr.Compare _ [_] [_] _) _ _); first | (apply ev_cmp; (focus tm_at "e"); (focus tm_at "e"); (focus tm_at "cmp"); (focus tm_at "auto"))))
local macro_rules | `(tactic| tm_at "e") => `(tactic| ((with_reducible show EV _ _ _ (Expr.UnaryOp UnaryOp.Not _ _) _ _); first | (apply ev_not; (focus tm_at "e"))))
local macro_rules | `(tactic| tm_at "e") => `(tactic| ((with_reducible show EV _ _ _ (Expr.UnaryOp UnaryOp.USub _ _) _ _); first | (apply ev_neg; (focus tm_at "e"))))
local macro_rules | `(tactic| tm_at "e") => `(tactic| ((with_reducible show EV _ _ _ (Expr.Subscript _ _ _) _ _); first | (apply ev_ixL; (focus tm_at "e"); (focus tm_at "e"); (focus tm_at "rd"); (focus tm_at "ix"); (focus tm_at "auto")) | (apply ev_ixT; (focus tm_at "e"); (focus tm_at "e"); (focus tm_at "ix"); (focus tm_at "auto")) | (apply ev_ixC; (focus tm_at "e"); (focus tm_at "e"); (focus tm_at "ix"); (focus tm_at "ix"); (focus tm_at "auto")) | (apply ev_ixP; (focus tm_at "e"); (focus tm_at "e"); (focus tm_at "ix"); (focus tm_at "auto")) | (apply ev_ixS; (focus tm_at "e"); (focus tm_at "e"); (focus tm_at "side"); (focus tm_at "asm"); (focus tm_at "auto"))))
local macro_rules | `(tactic| tm_at "e") => `(tactic| ((with_reducible show EV _ _ _ (Expr.Subscript _ (Expr.Slice _ _ _ _) _) _ _); first | (apply ev_slL; (focus tm_at "e"); (focus tm_at "o"); (focus tm_at "o"); (focus tm_at "rd")) | (apply ev_slT; (focus tm_at "e"); (focus tm_at "o"); (focus tm_at "o"); (focus tm_at "side")) | (apply ev_slS; (focus tm_at "e"); (focus tm_at "o"); (focus tm_at "o"); (focus tm_at "side"))))
local macro_rules | `(tactic| tm_at "e") => `(tactic| ((with_reducible show EV _ _ _ (Expr.BinOp _ Operator.Pow _ _) _ _); first | (apply ev_pow; (focus tm_at "e"); (focus tm_at "e"); (focus tm_at "pow"))))
local macro_rules | `(tactic| tm_at "e") => `(tactic| ((with_reducible show EV _ _ _ (Expr.BinOp _ Operator.FloorDiv _ _) _ _); first | (apply ev_div; (focus tm_at "e"); (focus tm_at "e"); (focus tm_at "div"))))
local macro_rules | `(tactic| tm_at "e") => `(tactic| ((with_reducible show EV _ _ _ (Expr.BinOp _ Operator.Mod _ _) _ _); first | (apply ev_mod; (focus tm_at "e"); (focus tm_at "e"); (focus tm_at "pos"))))
local macro_rules | `(tactic| tm_at "e") => `(tactic| ((with_reducible show EV _ _ _ (Expr.BinOp _ Operator.Mult _ _) _ _); first | (apply ev_mul; (focus tm_at "e"); (focus tm_at "e"); (focus tm_at "mul")) | (apply ev_repF; (focus tm_at "afz"); (focus tm_at "e"); (focus tm_at "side"); (focus tm_at "side"); (focus tm_at "side"))))
local macro_rules | `(tactic| tm_at "e") => `(tactic| ((with_reducible show EV _ _ _ (Expr.BinOp _ Operator.Sub _ _) _ _); first | (apply ev_sub; (focus tm_at "e"); (focus tm_at "e"))))
local macro_rules | `(tactic| tm_at "e") => `(tactic| ((with_reducible show EV _ _ _ (Expr.BinOp _ Operator.Add _ _) _ _); first | (apply ev_add; (focus tm_at "e"); (focus tm_at "e")) | (apply ev_catF; (focus tm_at "e"); (focus tm_at "e"); (focus tm_at "rd"); (focus tm_at "rd"); (focus tm_at "side")) | (apply ev_addS; (focus tm_at "e"); (focus tm_at "e"); (focus tm_at "side")) | (apply ev_catT; (focus tm_at "e"); (focus tm_at "e"); (focus tm_at "side"))))
local macro_rules | `(tactic| tm_at "e") => `(tactic| ((with_reducible show EV _ _ _ (Expr.Name _ _) _ _); first | (apply ev_name; (focus tm_at "nm"); (focus rfl))))
local macro_rules | `(tactic| tm_at "e") => `(tactic| ((with_reducible show EV _ _ _ (Expr.Constant _ _ _) _ _); first | exact ev_int | exact ev_bl | exact ev_str | exact ev_non))
local macro_rules | `(tactic| tm_at "t") => `(tactic| ((with_reducible show TV _ _ _ _ _ _); first | (apply tv_val; (focus tm_at "e"); (focus tm_at "auto")) | (apply tv_truthL; (focus tm_at "e"); (focus tm_at "rd"); (focus tm_at "auto")) | (apply tv_truthI; (focus tm_at "e"); (focus tm_at "auto"))))
local macro_rules | `(tactic| tm_at "t") => `(tactic| ((with_reducible show TV _ _ _ (Expr.BoolOp _ _ _) _ _); first | (apply tv_w; (focus tm_at "w"))))
local macro_rules | `(tactic| tm_at "t") => `(tactic| ((with_reducible show TV _ _ _ (Expr.UnaryOp UnaryOp.Not _ _) _ _); first | (apply tv_not; (focus tm_at "t"))))
local macro_rules | `(tactic| tm_at "t") => `(tactic| ((with_reducible show TV _ _ _ (Expr.Compare _ [_, _] [_, _] _) _ _); first | (apply tv_chain2; (focus tm_at "e"); (focus tm_at "e"); (focus tm_at "cmp"); (focus tm_at "e"); (focus tm_at "cmp"); (focus tm_at "auto"))))
local macro_rules | `(tactic| tm_at "t") => `(tactic| ((with_reducible show TV _ _ _ (Expr.Compare _ [_] [_] _) _ _); first | (apply tv_cmp; (focus tm_at "e"); (focus tm_at "e"); (focus tm_at "cmp"); (focus tm_at "auto"))))
local macro_rules | `(tactic| tm_at "w") => `(tactic| ((with_reducible show WV _ _ _ (Expr.BoolOp BoolOp.Or _ _) _ _); first | (apply wv_or; (focus tm_at "t"); (focus tm_at "introw"))))
local macro_rules | `(tactic| tm_at "w") => `(tactic| ((with_reducible show WV _ _ _ (Expr.BoolOp BoolOp.And _ _) _ _); first | (apply wv_and; (focus tm_at "t"); (focus tm_at "introw"))))
local macro_rules | `(tactic| tm_at "w") => `(tactic| ((with_reducible show WV _ _ _ (Expr.BoolOp BoolOp.Or [_] _) _ _); first | (apply wv_or1; (focus tm_at "t"))))
local macro_rules | `(tactic| tm_at "w") => `(tactic| ((with_reducible show WV _ _ _ (Expr.BoolOp BoolOp.And [_] _) _ _); first | (apply wv_and1; (focus tm_at "t"))))
local macro_rules | `(tactic| tm_at "ee") => `(tactic| first
  | (apply EE.of; (focus tm_at "e"); try (tm_at "ee"))
  | (refine ee_call' (by assumption) ?_; apply AE.of; (focus tm_at "a"))
  | (with_reducible refine ee_mod ?_; tm_at "ee")
  | (with_reducible refine ee_add ?_; tm_at "ee")
  | (with_reducible refine ee_sub ?_; tm_at "ee")
  | (with_reducible refine ee_mul ?_; tm_at "ee")
  | (with_reducible refine ee_div ?_; tm_at "ee")
  | (with_reducible refine ee_ixL ?_; tm_at "ee")
  | (refine ⟨_, rfl, ?_⟩; tm_at "ee"))

abbrev B30 : Int := 1000000000000000000000000000000
def S_hours : PSpec := fun args γ P => ∃ ns c γ0 k m, args = [.cl c] ∧ ns.length ≤ 63 ∧ γ = dm ns γ0 c k ∧ c < γ0.length ∧ 0 ≤ k ∧ k ≤ m ∧ m ≤ 900000 ∧ ∀ d k' : Int, 1 ≤ d → d ≤ 1000000000000000000000000000000 → 0 ≤ k' → k' ≤ m + 2 → P (.fz (.int d)) (dm ns γ0 c k')
theorem len_hours {args γ P} (h : S_hours args γ P) : args.length = 1 := by obtain ⟨ns, c, γ0, k, m, rfl, _⟩ := h; rfl
set_option maxHeartbeats 8000000 in
theorem body_hours {P : Program} {w : World} {K : PySem.W.Frag} {mg : Str → Option Value} {base : Heap} (g0 : G0 mg)
    (D_draw : FnD P w K mg base "_law_draw" 1 S_draw)
    {X : Cx} (c : Ctx X P w K mg base N_hours (defScope s_hours) 1) {args : List Itm} {γ : Cells} {Po : EPost} (hγ : Clo γ) (hS : S_hours args γ Po) :
    SVs X (slots0 N_hours args) γ (defBody s_hours) { nx := fun _ g => PL.Fin γ.length Po (.fz .none) g, rt := PL.Fin γ.length Po } := by
  have hX := c.ok
  have hp := c.po
  have v0 : Nm X "_law_m" 0 .local := c.nm 0 .local rfl (by decide +kernel) (.inl rfl) (by decide +kernel) (by decide +kernel)
  have v1 : Nm X "_law_way" 1 .local := c.nm 1 .local rfl (by decide +kernel) (.inl rfl) (by decide +kernel) (by decide +kernel)
  have k_draw : Cal X "_law_draw" S_draw := c.cal D_draw (by decide) (by decide +kernel) (by decide +kernel)
  obtain ⟨ns, cc, γ0, k, m, rfl, hn, rfl, hc, hk0, hkm, hm, hP⟩ := hS
  apply svs_setE hX v1
  tm_at "ee"
  refine use_draw m hn hc hk0 hkm (by omega) (by decide) fun w k1 hw0 hw1 h10 h11 => ?_
  refine svs_if (k := decide (w < 6)) (by tm_at "t") (fun h => ?_) (fun h => svs_nil ?_)
  · have h := of_decide_eq_true h
    apply svs_retE
    refine ee_add (EE.of ev_int ⟨1, rfl, ?_⟩)
    refine ee_call' k_draw (ae_cons (EE.of (ev_name v0.r rfl) (ae_cons (EE.of (ev_ixL (ds := [.int 3, .int 12, .int 1000]) (by tm_at "e") (by tm_at "e") (Rdb.fz _) (d := .int (if w % 3 = 0 then 3 else if w % 3 = 1 then 12 else 1000)) ?_) (ae_nil ?_)))))
    · rcases (show w % 3 = 0 ∨ w % 3 = 1 ∨ w % 3 = 2 by omega) with h | h | h
      · rw [h]; exact ix_0
      · rw [h]; exact ix_1
      · rw [h]; exact ix_2
    refine use_draw (m + 1) hn hc h10 h11 (by omega) (by split <;> (try split) <;> decide) fun d k2 hd0 hd1 h20 h21 => ⟨d, rfl, dm_fin hγ (hP _ _ (by omega) ?_ h20 (by omega))⟩
    have : d < 1000 := Int.lt_of_lt_of_le hd1 (by split <;> (try split) <;> decide)
    omega
  · have h := of_decide_eq_false h
    apply svs_retE
    refine ee_sub (EE.of (γ1 := dm ns γ0 cc k1) (r := .fz (.int (10 ^ (30 : Int).toNat))) (by tm_at "e") ⟨_, rfl, ?_⟩)
    rw [b30]
    refine ee_mul (ee_call' k_draw (AE.of (rs := [.cl cc, .fz (.int (10 ^ (9 : Int).toNat))]) (γ1 := dm ns γ0 cc k1) (by tm_at "a") ?_))
    rw [b9]
    refine use_draw (m + 1) hn hc h10 h11 (by omega) (by decide) fun d k2 hd0 hd1 h20 h21 => ⟨d, rfl, ?_⟩
    have hx : atI [PyData.int 1, .int (10 ^ (21 : Int).toNat)] (w - 6) = some (.int (if w = 6 then 1 else 1000000000000000000000)) := by
      rw [b21]
      rcases (show w = 6 ∨ w = 7 by omega) with h | h <;> subst h
      · exact ix_0
      · exact ix_1
    refine EE.of (ev_ixL (ds := [.int 1, .int (10 ^ (21 : Int).toNat)]) (by tm_at "e") (by tm_at "e") (Rdb.fz _) hx) ⟨_, rfl, ?_, _, rfl, ?_⟩
    · split <;> exact small_mul 200 200 (by omega) (by decide)
    refine dm_fin hγ (hP _ _ ?_ ?_ h20 (by omega))
    · split <;> omega
    · split <;> omega
theorem ok_hours {P : Program} {w : World} {K : PySem.W.Frag} {mg : Str → Option Value} {base : Heap} (g0 : G0 mg)
    (D_draw : FnD P w K mg base "_law_draw" 1 S_draw)
    {f : Addr} {fd : FuncData} (F : Fun K "_law_hours" "_law_hours" s_hours f fd) (hm : mg "_law_hours" = some (.ref f)) : FnD P w K mg base "_law_hours" 2 S_hours :=
  def_ok F sc_hours hm (F.binds (ps := ["_law_m"]) fun _ _ _ _ _ _ us hl => match us, hl with | [_], _ => rfl) (fun args γ P h => len_hours h)
    fun X c args γ Po hγ hS => body_hours g0 D_draw c hγ hS
def S_parts : PSpec := fun args γ P => ∃ ns c γ0 k m total many, args = [.cl c, .fz (.int total), .fz (.int many)] ∧ ns.length ≤ 63 ∧ γ = dm ns γ0 c k ∧ c < γ0.length ∧ 0 ≤ k ∧ k ≤ m ∧ m ≤ 900000 ∧ 0 ≤ many ∧ many ≤ 12 ∧ (0 < many → many ≤ total) ∧ total ≤ 1000000000000000000000000000000 ∧
  ∀ (ps : List Int) (k' : Int), ps.length = many.toNat → (∀ p ∈ ps, 1 ≤ p) → ps.sum = (if 0 < many then total else 0) → 0 ≤ k' → k' ≤ m + 40 → P (.fz (.list (ps.map .int))) (dm ns γ0 c k')
theorem len_parts {args γ P} (h : S_parts args γ P) : args.length = 3 := by obtain ⟨ns, c, γ0, k, m, total, many, rfl, _⟩ := h; rfl
set_option maxHeartbeats 8000000 in
theorem body_parts {P : Program} {w : World} {K : PySem.W.Frag} {mg : Str → Option Value} {base : Heap} (g0 : G0 mg)
    (D_draw : FnD P w K mg base "_law_draw" 1 S_draw)
    {X : Cx} (c : Ctx X P w K mg base N_parts (defScope s_parts) 1) {args : List Itm} {γ : Cells} {Po : EPost} (hγ : Clo γ) (hS : S_parts args γ Po) :
    SVs X (slots0 N_parts args) γ (defBody s_parts) { nx := fun _ g => PL.Fin γ.length Po (.fz .none) g, rt := PL.Fin γ.length Po } := by
  have hX := c.ok
  have hp := c.po
  have v0 : Nm X "_law_m" 0 .local := c.nm 0 .local rfl (by decide +kernel) (.inl rfl) (by decide +kernel) (by decide +kernel)
  have v1 : Nm X "_law_total" 1 .local := c.nm 1 .local rfl (by decide +kernel) (.inl rfl) (by decide +kernel) (by decide +kernel)
  have v2 : Nm X "_law_many" 2 .local := c.nm 2 .local rfl (by decide +kernel) (.inl rfl) (by decide +kernel) (by decide +kernel)
  have v3 : Nm X "_law_found" 3 .local := c.nm 3 .local rfl (by decide +kernel) (.inl rfl) (by decide +kernel) (by decide +kernel)
  have v4 : Nm X "_law_left" 4 .local := c.nm 4 .local rfl (by decide +kernel) (.inl rfl) (by decide +kernel) (by decide +kernel)
  have v5 : Nm X "_law_k" 5 .local := c.nm 5 .local rfl (by decide +kernel) (.inl rfl) (by decide +kernel) (by decide +kernel)
  have v6 : Nm X "_law_size" 6 .local := c.nm 6 .local rfl (by decide +kernel) (.inl rfl) (by decide +kernel) (by decide +kernel)
  have b_range : Bt X "range" := c.bt (by decide +kernel) g0.b_range
  have k_draw : Cal X "_law_draw" S_draw := c.cal D_draw (by decide) (by decide +kernel) (by decide +kernel)
  have b_max : Bt X "max" := c.bt (by decide +kernel) g0.b_max
  have b_int : Bt X "int" := c.bt (by decide +kernel) g0.b_int
  obtain ⟨ns, cc, γ0, k, m, total, many, rfl, hn, rfl, hc, hk0, hkm, hm, hm0, hm1, hmt, ht, hP⟩ := hS
  apply svs_setE hX v3
  refine EE.of (ev_lstC av_nil) ?_
  rw [dm_len, dm_app ns hc]
  apply svs_setE hX v4
  apply EE.of
  · tm_at "e"
  refine svs_for hX hp (itv_rangeD (i := many - 1) (j := 0) b_range (by tm_at "e") ev_int (ev_neg ev_int) (by omega))
    (fun i Γ' g => ∃ (ps : List Int) (k' : Int) (s5 s6 : Option Itm), Γ' = [some (.cl cc), some (.fz (.int total)), some (.fz (.int many)), some (.cl γ0.length), some (.fz (.int (total - ps.sum))), s5, s6] ∧ g = dm ns (γ0 ++ [.lst ((ps.map PyData.int).map Itm.fz)]) cc k' ∧ ps.length = i ∧ (∀ p ∈ ps, 1 ≤ p) ∧ (0 < many → many - (i : Int) ≤ total - ps.sum) ∧ total - ps.sum ≤ total ∧ 0 ≤ k' ∧ k' ≤ m + 3 * (i : Int))
    ⟨[], k, none, none, by simp [List.sum_nil]; rfl, rfl, rfl, by simp, by simpa using hmt, by simp, hk0, by omega⟩ (fun _ _ _ _ _ => trivial) ?_ ?_
  · rintro i x Γ' g hx ⟨ps, k1, s5, s6, rfl, rfl, hl, hp1, hle, htp, h10, h11⟩
    obtain ⟨hi, rfl⟩ := rngD_get hx
    have hi11 : i < 11 := by omega
    have hle := hle (by omega)
    have hc' : cc < (γ0 ++ [Cell.lst ((ps.map PyData.int).map Itm.fz)]).length := by rw [List.length_append]; omega
    refine ⟨_, _, gv_name hX v5, ?_⟩
    apply svs_setE hX v6
    refine ee_add (EE.of ev_int ⟨1, rfl, ?_⟩)
    refine ee_mod (ee_call' k_draw (ae_cons (EE.of (ev_name v0.r rfl) (ae_cons (ee_ixL (EE.of (γ1 := dm ns _ cc k1) (r := .fz (.list [.int 2, .int (10 ^ (9 : Int).toNat)])) (by tm_at "e") ?_))))))
    tm_at "ee"
    refine use_draw (m + 3 * (i : Int)) hn hc' h10 h11 (by omega) (by decide) fun d k2 hd0 hd1 h20 h21 => ?_
    rw [b9]
    refine pick_go (iB 2 1000000000) (by omega) (by simp only [List.length_cons, List.length_nil]; omega) (by tm_at "alli") ?_
    rintro _ ⟨y, rfl, hy0, hy1⟩
    refine ae_nil ?_
    refine use_draw (m + 3 * (i : Int) + 1) hn hc' h20 h21 (by omega) (by omega) fun e k3 he0 he1 h30 h31 => ⟨e, rfl, ?_⟩
    generalize hL : total - ps.sum = L at *
    have hmx : max 1 (L - (many - 1 - (i : Int))) = L - (many - 1 - (i : Int)) := by omega
    refine EE.of (γ1 := dm ns _ cc k3) (r := .fz (.int (max 1 (L - (many - 1 - (i : Int)))))) (by tm_at "e") ⟨_, rfl, by omega, _, rfl, ?_⟩
    rw [hmx]
    have hs0 : 1 ≤ 1 + e % (L - (many - 1 - (i : Int))) := by have := Int.emod_nonneg e (show L - (many - 1 - (i : Int)) ≠ 0 by omega); omega
    have hs1 : 1 + e % (L - (many - 1 - (i : Int))) ≤ L - (many - 1 - (i : Int)) := by have := Int.emod_lt_of_pos e (show 0 < L - (many - 1 - (i : Int)) by omega); omega
    generalize 1 + e % (L - (many - 1 - (i : Int))) = sz at hs0 hs1 ⊢
    apply svs_ifP
    refine tp_cmp ?_
    tm_at "ee"
    refine use_draw (m + 3 * (i : Int) + 2) hn hc' h30 (by omega) (by omega) (by decide) fun f k4 hf0 hf1 h40 h41 => ?_
    refine EE.of ev_int ⟨_, cmp_eqI, fun h => ?_, fun h => svs_nil ?_⟩
    · apply svs_setE hX v6
      refine EE.of (γ1 := dm ns _ cc k4) (r := .fz (.int (max 1 ((L - (many - 1 - (i : Int))) / 2)))) (by tm_at "e") ?_
      generalize hsz : max 1 ((L - (many - 1 - (i : Int))) / 2) = sz2
      have hz0 : 1 ≤ sz2 := by omega
      have hz1 : sz2 ≤ L - (many - 1 - (i : Int)) := by omega
      apply svs_nil
      refine svs_exprE (EE.of (ev_append (ev_name v3.r rfl) (ev_name v6.r rfl) ⟨_, dm_last ns hc k4 _⟩ (dm_last ns hc k4 _) (by simp; omega)) ?_)
      rw [dm_setl ns hc]
      apply svs_setE hX v4
      refine EE.of (ev_sub (ev_name v4.r rfl) (ev_name v6.r rfl)) ?_
      have e1 : L - sz2 = total - (ps ++ [sz2]).sum := by simp; omega
      rw [e1]
      refine svs_nil ⟨ps ++ [sz2], k4, _, _, rfl, by simp, by simp [hl], fun p hp => ?_, fun _ => ?_, ?_, h40, by omega⟩
      · rcases List.mem_append.mp hp with h | h
        · exact hp1 p h
        · have : p = sz2 := by simpa using h
          omega
      · rw [← e1]; omega
      · rw [← e1]; omega
    · refine svs_exprE (EE.of (ev_append (ev_name v3.r rfl) (ev_name v6.r rfl) ⟨_, dm_last ns hc k4 _⟩ (dm_last ns hc k4 _) (by simp; omega)) ?_)
      rw [dm_setl ns hc]
      apply svs_setE hX v4
      refine EE.of (ev_sub (ev_name v4.r rfl) (ev_name v6.r rfl)) ?_
      have e1 : L - sz = total - (ps ++ [sz]).sum := by simp; omega
      rw [e1]
      refine svs_nil ⟨ps ++ [sz], k4, _, _, rfl, by simp, by simp [hl], fun p hp => ?_, fun _ => ?_, ?_, h40, by omega⟩
      · rcases List.mem_append.mp hp with h | h
        · exact hp1 p h
        · have : p = sz := by simpa using h
          omega
      · rw [← e1]; omega
      · rw [← e1]; omega
  · rintro Γ' g ⟨ps, k1, s5, s6, rfl, rfl, hl, hp1, hle, htp, h10, h11⟩
    rw [rngD_length] at hl hle h11
    refine SVs.freeze (i := 3) (c := γ0.length) (ds := ps.map PyData.int) rfl (dm_last ns hc k1 _) ?_
    rw [dm_setl ns hc]
    apply svs_retE
    refine EE.of (ev_catF (ev_name v3.r rfl) (ev_repF (ds := [.int (total - ps.sum)]) (av_cons (ev_name v4.r rfl) av_nil) (ev_intB b_int (ev_cmp (ev_name v2.r rfl) ev_int cmp_gt)) (by simp) (by split <;> simp) (by split <;> decide)) (Rdb.fz _) (Rdb.fz _) ?_) ?_
    · have : (PL.repD [PyData.int (total - ps.sum)] (if decide (0 < many) = true then 1 else 0)).length ≤ 1 := by split <;> simp [PL.repD]
      rw [List.length_map]; omega
    by_cases h0 : 0 < many
    · have e : ps.map PyData.int ++ PL.repD [PyData.int (total - ps.sum)] (if decide (0 < many) = true then 1 else 0) = (ps ++ [total - ps.sum]).map PyData.int := by
        simp [h0, PL.repD]
      rw [e]
      refine dm_finj' hc hγ (hP (ps ++ [total - ps.sum]) k1 (by simp; omega) (fun p hp => ?_) (by rw [if_pos h0]; simp; omega) h10 (by omega))
      have hle := hle h0
      rcases List.mem_append.mp hp with h | h
      · exact hp1 p h
      · have : p = total - ps.sum := by simpa using h
        omega
    · have hps : ps = [] := by
        apply List.eq_nil_of_length_eq_zero; omega
      subst hps
      have e : ([] : List Int).map PyData.int ++ PL.repD [PyData.int (total - ([] : List Int).sum)] (if decide (0 < many) = true then 1 else 0) = ([] : List Int).map PyData.int := by
        simp [h0, PL.repD]
      rw [e]
      exact dm_finj' hc hγ (hP [] k1 (by simp; omega) (by simp) (by rw [if_neg h0]; rfl) h10 (by omega))
theorem ok_parts {P : Program} {w : World} {K : PySem.W.Frag} {mg : Str → Option Value} {base : Heap} (g0 : G0 mg)
    (D_draw : FnD P w K mg base "_law_draw" 1 S_draw)
    {f : Addr} {fd : FuncData} (F : Fun K "_law_parts" "_law_parts" s_parts f fd) (hm : mg "_law_parts" = some (.ref f)) : FnD P w K mg base "_law_parts" 2 S_parts :=
  def_ok F sc_parts hm (F.binds (ps := ["_law_m", "_law_total", "_law_many"]) fun _ _ _ _ _ _ us hl => match us, hl with | [_, _, _], _ => rfl) (fun args γ P h => len_parts h)
    fun X c args γ Po hγ hS => body_parts g0 D_draw c hγ hS
end KK

namespace KK
open PySem PySem.Spec PyProof.Rows L2 PL
local macro_rules | `(tactic| tm_at "nm") => `(tactic| with_reducible first | assumption | exact Nm.r (by assumption))
local macro_rules | `(tactic| tm_at "bt") => `(tactic| with_reducible assumption)
local macro_rules | `(tactic| tm_at "asm") => `(tactic| assumption)
local macro_rules | `(tactic| tm_at "auto") => `(tactic| first | rfl | exact fun _ _ => rfl | (intro _; rfl) | decide | exact nomark _ | (with_unfolding_all rfl))
local macro_rules | `(tactic| tm_at "boot") => `(tactic| decide +kernel)
local macro_rules | `(tactic| tm_at "kit") => `(tactic| first | exact kit_int _ | exact kit_bool _ | exact kit_str _ | exact kit_list _ | exact kit_tuple _ | exact kit_dict _)
local macro_rules | `(tactic| tm_at "side") => `(tactic| first | assumption | decide | omega | (simp only [List.length_map, List.length_cons, List.length_nil, List.length_append]; omega) | (simp; done))
local macro_rules | `(tactic| tm_at "pos") => `(tactic| first | decide | assumption | exact Int.pow_pos (by decide) | omega)
local macro_rules | `(tactic| tm_at "mul") => `(tactic| first | assumption | (exact small_mul 200 200 (by omega) (by omega)))
local macro_rules | `(tactic| tm_at "div") => `(tactic| first | assumption | (exact wide_div (b := 200) (by omega) (by omega) (by decide) (by decide)))
local macro_rules | `(tactic| tm_at "pow") => `(tactic| (refine ⟨?_, ?_, ?_⟩ <;> decide))
local macro_rules | `(tactic| tm_at "rd") => `(tactic| first | exact Rdb.fz _ | exact Rdb.cl (by assumption) | exact Rdb.cl rfl)
local macro_rules | `(tactic| tm_at "rdl") => `(tactic| first | exact .inr rfl | exact .inl (by tm_at "rd"))
local macro_rules | `(tactic| tm_at "ix") => `(tactic| first | assumption | exact ix_0 | exact ix_1 | exact ix_2 | exact ix_3 | exact ix_4 | rfl)
local macro_rules | `(tactic| tm_at "cmp") => `(tactic| first | exact cmp_lt | exact cmp_le | exact cmp_gt | exact cmp_ge | exact cmp_eqI | exact cmp_neI | exact cmp_eqS | exact cmp_neS | exact cmp_leS | exact cmp_ltS | exact cmp_inSign | exact cmp_notInSign | exact cmp_isB | exact cmp_notB | exact cmp_isN | exact cmp_notN | exact cmp_eqB | exact cmp_neB)
local macro_rules | `(tactic| tm_at "intro") => `(tactic| (intro _; tm_at "e"))
local macro_rules | `(tactic| tm_at "introe") => `(tactic| (intro _; tm_at "e"))
local macro_rules | `(tactic| tm_at "introw") => `(tactic| (intro _; tm_at "w"))
local macro_rules | `(tactic| tm_at "a") => `(tactic| first
  | exact av_nil
  | (apply av_cons; (focus tm_at "e"); (focus tm_at "a"); (focus tm_at "auto")))
local macro_rules | `(tactic| tm_at "alli") => `(tactic| (repeat (first | exact all_nil | (refine all_cons ⟨_, rfl, ?_, ?_⟩ ?_; (focus omega); (focus omega)))))
local macro_rules | `(tactic| tm_at "afz") => `(tactic| first
  | exact av_nilF
  | (apply av_consF; (focus tm_at "e"); (focus tm_at "afz"); (focus tm_at "auto")))
local macro_rules | `(tactic| tm_at "o") => `(tactic| first
  | exact ov_none
  | (apply ov_some; (focus tm_at "e")))
local macro_rules | `(tactic| tm_at "e") => `(tactic| ((with_reducible show EV _ _ _ (Expr.Tuple _ _ _) _ _); first | (apply ev_tup; (focus tm_at "afz"); (focus tm_at "side"))))
local macro_rules | `(tactic| tm_at "e") => `(tactic| ((with_reducible show EV _ _ _ (Expr.List _ _) _ _); first | (apply ev_lst; (focus tm_at "afz"); (focus tm_at "side"))))
local macro_rules | `(tactic| tm_at "e") => `(tactic| ((with_reducible show EV _ _ _ (Expr.Call (Expr.Attribute _ _ _) _ _ _) _ _); first | (apply ev_join; (focus tm_at "e"); (focus tm_at "e"); (focus tm_at "rd"); (focus tm_at "side"); (focus tm_at "auto"); (focus tm_at "auto"); (focus tm_at "auto"))))
local macro_rules | `(tactic| tm_at "e") => `(tactic| ((with_reducible show EV _ _ _ (Expr.Call (Expr.Name _ _) _ _ _) _ _); first | (apply ev_lenL; (focus tm_at "bt"); (focus tm_at "e"); (focus tm_at "rd"); (focus tm_at "auto")) | (apply ev_lenC; (focus tm_at "bt"); (focus tm_at "e"); (focus tm_at "ix"); (focus tm_at "auto")) | (apply ev_lenT; (focus tm_at "bt"); (focus tm_at "e"); (focus tm_at "auto")) | (apply ev_lenS; (focus tm_at "bt"); (focus tm_at "e"); (focus tm_at "side"); (focus tm_at "auto")) | (apply ev_max2; (focus tm_at "asm"); (focus tm_at "bt"); (focus tm_at "e"); (focus tm_at "e"); (focus tm_at "auto"); (focus tm_at "auto"); (focus tm_at "auto")) | (apply ev_min2; (focus tm_at "asm"); (focus tm_at "bt"); (focus tm_at "e"); (focus tm_at "e"); (focus tm_at "auto"); (focus tm_at "auto"); (focus tm_at "auto")) | (apply ev_intB; (focus tm_at "bt"); (focus tm_at "e"); (focus tm_at "auto")) | (apply ev_intI; (focus tm_at "bt"); (focus tm_at "e"); (focus tm_at "auto")) | (apply ev_abs; (focus tm_at "bt"); (focus tm_at "e"); (focus tm_at "auto")) | (apply ev_sum; (focus tm_at "asm"); (focus tm_at "bt"); (focus tm_at "e"); (focus tm_at "rd"); (focus tm_at "auto")) | (apply ev_listF; (focus tm_at "bt"); (focus tm_at "e"); (focus tm_at "rdl"); (focus tm_at "auto")) | (apply ev_sorted; (focus tm_at "bt"); (focus tm_at "e"); (focus tm_at "rd"); (focus tm_at "auto")) | (apply ev_isi; (focus tm_at "bt"); (focus tm_at "bt"); (focus tm_at "boot"); (focus tm_at "e"); (focus tm_at "rd"); (focus tm_at "kit"); (focus tm_at "auto"); (focus tm_at "auto"); (focus tm_at "auto"); (focus tm_at "auto"); (focus tm_at "auto"))))
local macro_rules | `(tactic| tm_at "e") => `(tactic| ((with_reducible show EV _ _ _ (Expr.BoolOp BoolOp.Or _ _) _ _); first | (apply ev_or; (focus tm_at "e"); (focus tm_at "introe"))))
local macro_rules | `(tactic| tm_at "e") => `(tactic| ((with_reducible show EV _ _ _ (Expr.BoolOp BoolOp.And _ _) _ _); first | (apply ev_and; (focus tm_at "e"); (focus tm_at "introe"))))
local macro_rules | `(tactic| tm_at "e") => `(tactic| ((with_reducible show EV _ _ _ (Expr.BoolOp _ [_] _) _ _); first | (apply ev_one; (focus tm_at "e"))))
local macro_rules | `(tactic| tm_at "e") => `(tactic| ((with_reducible show EV _ _ _ (Expr.IfExp _ _ _ _) _ _); first | (apply ev_ifx; (focus tm_at "t"); (focus tm_at "intro"); (focus tm_at "intro"))))
local macro_rules | `(tactic| tm_at "e") => `(tactic| ((with_reducible show EV _ _ _ (Expr.Compare _ [_, _] [_, _] _) _ _); first | (apply ev_chain2; (focus tm_at "e"); (focus tm_at "e"); (focus tm_at "cmp"); (focus tm_at "e"); (focus tm_at "cmp"); (focus tm_at "auto"))))
local macro_rules | `(tactic| tm_at "e") => `(tactic| ((with_reducible show EV _ _ _ (Expr.Compare _ [_] [_] _) _ _); first | (apply ev_cmp; (focus tm_at "e"); (focus tm_at "e"); (focus tm_at "cmp"); (focus tm_at "auto"))))
local macro_rules | `(tactic| tm_at "e") => `(tactic| ((with_reducible show EV _ _ _ (Expr.UnaryOp UnaryOp.Not _ _) _ _); first | (apply ev_not; (focus tm_at "e"))))
local macro_rules | `(tactic| tm_at "e") => `(tactic| ((with_reducible show EV _ _ _ (Expr.UnaryOp UnaryOp.USub _ _) _ _); first | (apply ev_neg; (focus tm_at "e"))))
local macro_rules | `(tactic| tm_at "e") => `(tactic| ((with_reducible show EV _ _ _ (Expr.Subscript _ _ _) _ _); first | (apply ev_ixL; (focus tm_at "e"); (focus tm_at "e"); (focus tm_at "rd"); (focus tm_at "ix"); (focus tm_at "auto")) | (apply ev_ixT; (focus tm_at "e"); (focus tm_at "e"); (focus tm_at "ix"); (focus tm_at "auto")) | (apply ev_ixC; (focus tm_at "e"); (focus tm_at "e"); (focus tm_at "ix"); (focus tm_at "ix"); (focus tm_at "auto")) | (apply ev_ixP; (focus tm_at "e"); (focus tm_at "e"); (focus tm_at "ix"); (focus tm_at "auto")) | (apply ev_ixS; (focus tm_at "e"); (focus tm_at "e"); (focus tm_at "side"); (focus tm_at "asm"); (focus tm_at "auto"))))
local macro_rules | `(tactic| tm_at "e") => `(tactic| ((with_reducible show EV _ _ _ (Expr.Subscript _ (Expr.Slice _ _ _ _) _) _ _); first | (apply ev_slL; (focus tm_at "e"); (focus tm_at "o"); (focus tm_at "o"); (focus tm_at "rd")) | (apply ev_slT; (focus tm_at "e"); (focus tm_at "o"); (focus tm_at "o"); (focus tm_at "side")) | (apply ev_slS; (focus tm_at "e"); (focus tm_at "o"); (focus tm_at "o"); (focus tm_at "side"))))
local macro_rules | `(tactic| tm_at "e") => `(tactic| ((with_reducible show EV _ _ _ (Expr.BinOp _ Operator.Pow _ _) _ _); first | (apply ev_pow; (focus tm_at "e"); (focus tm_at "e"); (focus tm_at "pow"))))
local macro_rules | `(tactic| tm_at "e") => `(tactic| ((with_reducible show EV _ _ _ (Expr.BinOp _ Operator.FloorDiv _ _) _ _); first | (apply ev_div; (focus tm_at "e"); (focus tm_at "e"); (focus tm_at "div"))))
local macro_rules | `(tactic| tm_at "e") => `(tactic| ((with_reducible show EV _ _ _ (Expr.BinOp _ Operator.Mod _ _) _ _); first | (apply ev_mod; (focus tm_at "e"); (focus tm_at "e"); (focus tm_at "pos"))))
local macro_rules | `(tactic| tm_at "e") => `(tactic| ((with_reducible show EV _ _ _ (Expr.BinOp _ Operator.Mult _ _) _ _); first | (apply ev_mul; (focus tm_at "e"); (focus tm_at "e"); (focus tm_at "mul")) | (apply ev_repF; (focus tm_at "afz"); (focus tm_at "e"); (focus tm_at "side"); (focus tm_at "side"); (focus tm_at "side"))))
local macro_rules | `(tactic| tm_at "e") => `(tactic| ((with_reducible show EV _ _ _ (Expr.BinOp _ Operator.Sub _ _) _ _); first | (apply ev_sub; (focus tm_at "e"); (focus tm_at "e"))))
local macro_rules | `(tactic| tm_at "e") => `(tactic| ((with_reducible show EV _ _ _ (Expr.BinOp _ Operator.Add _ _) _ _); first | (apply ev_add; (focus tm_at "e"); (focus tm_at "e")) | (apply ev_catF; (focus tm_at "e"); (focus tm_at "e"); (focus tm_at "rd"); (focus tm_at "rd"); (focus tm_at "side")) | (apply ev_addS; (focus tm_at "e"); (focus tm_at "e"); (focus tm_at "side")) | (apply ev_catT; (focus tm_at "e"); (focus tm_at "e"); (focus tm_at "side"))))
local macro_rules | `(tactic| tm_at "e") => `(tactic| ((with_reducible show EV _ _ _ (Expr.Name _ _) _ _); first | (apply ev_name; (focus tm_at "nm"); (focus rfl))))
local macro_rules | `(tactic| tm_at "e") => `(tactic| ((with_reducible show EV _ _ _ (Expr.Constant _ _ _) _ _); first | exact ev_int | exact ev_bl | exact ev_str | exact ev_non))
local macro_rules | `(tactic| tm_at "t") => `(tactic| ((with_reducible show TV _ _ _ _ _ _); first | (apply tv_val; (focus tm_at "e"); (focus tm_at "auto")) | (apply tv_truthL; (focus tm_at "e"); (focus tm_at "rd"); (focus tm_at "auto")) | (apply tv_truthI; (focus tm_at "e"); (focus tm_at "auto"))))
local macro_rules | `(tactic| tm_at "t") => `(tactic| ((with_reducible show TV _ _ _ (Expr.BoolOp _ _ _) _ _); first | (apply tv_w; (focus tm_at "w"))))
local macro_rules | `(tactic| tm_at "t") => `(tactic| ((with_reducible show TV _ _ _ (Expr.UnaryOp UnaryOp.Not _ _) _ _); first | (apply tv_not; (focus tm_at "t"))))
local macro_rules | `(tactic| tm_at "t") => `(tactic| ((with_reducible show TV _ _ _ (Expr.Compare _ [_, _] [_, _] _) _ _); first | (apply tv_chain2; (focus tm_at "e"); (focus tm_at "e"); (focus tm_at "cmp"); (focus tm_at "e"); (focus tm_at "cmp"); (focus tm_at "auto"))))
local macro_rules | `(tactic| tm_at "t") => `(tactic| ((with_reducible show TV _ _ _ (Expr.Compare _ [_] [_] _) _ _); first | (apply tv_cmp; (focus tm_at "e"); (focus tm_at "e"); (focus tm_at "cmp"); (focus tm_at "auto"))))
local macro_rules | `(tactic| tm_at "w") => `(tactic| ((with_reducible show WV _ _ _ (Expr.BoolOp BoolOp.Or _ _) _ _); first | (apply wv_or; (focus tm_at "t"); (focus tm_at "introw"))))
local macro_rules | `(tactic| tm_at "w") => `(tactic| ((with_reducible show WV _ _ _ (Expr.BoolOp BoolOp.And _ _) _ _); first | (apply wv_and; (focus tm_at "t"); (focus tm_at "introw"))))
local macro_rules | `(tactic| tm_at "w") => `(tactic| ((with_reducible show WV _ _ _ (Expr.BoolOp BoolOp.Or [_] _) _ _); first | (apply wv_or1; (focus tm_at "t"))))
local macro_rules | `(tactic| tm_at "w") => `(tactic| ((with_reducible show WV _ _ _ (Expr.BoolOp BoolOp.And [_] _) _ _); first | (apply wv_and1; (focus tm_at "t"))))
local macro_rules | `(tactic| tm_at "ee") => `(tactic| first
  | (apply EE.of; (focus tm_at "e"); try (tm_at "ee"))
  | (refine ee_call' (by assumption) ?_; apply AE.of; (focus tm_at "a"))
  | (with_reducible refine ee_mod ?_; tm_at "ee")
  | (with_reducible refine ee_add ?_; tm_at "ee")
  | (with_reducible refine ee_sub ?_; tm_at "ee")
  | (with_reducible refine ee_mul ?_; tm_at "ee")
  | (with_reducible refine ee_div ?_; tm_at "ee")
  | (with_reducible refine ee_ixL ?_; tm_at "ee")
  | (refine ⟨_, rfl, ?_⟩; tm_at "ee"))

abbrev Pa := Str × Int
def dP (a : Pa) : PyData := .tuple [.str a.1, .int a.2]
def nm (L : List Pa) (i : Nat) : Str := (L[i]?.map (·.1)).getD Str.empty
def hr (L : List Pa) : List Int := L.map (·.2)
abbrev Rw := Nat × Nat × Int
def dJ (gs ts : List Pa) (r : Rw) : PyData := .tuple [.str (nm gs r.1), .str (nm ts r.2.1), .int r.2.2]
def whole (gs ts : List Pa) : List Rw := M9.pr (M9.num 0 (hr gs)) (M9.num 0 (hr ts))
theorem ilt_up {n m : Nat} (hnm : n ≤ m) : ∀ {x : Itm}, ILt n x → ILt m x
  | _, .fz d => .fz d
  | _, .cl h => .cl (by omega)
  | _, .tp h => .tp fun x hx => ilt_up hnm (h x hx)
theorem clt_up {n m : Nat} (hnm : n ≤ m) {o : Cell} (h : CLt n o) : CLt m o := by
  cases o with
  | lst xs => exact fun x hx => ilt_up hnm (h x hx)
  | dic xs => exact fun x hx => ilt_up hnm (h x hx)
  | dit xs => exact fun x hx => ilt_up hnm (h x hx)
  | ins C xs => exact fun x hx => ilt_up hnm (h x hx)
  | raw f => trivial
  | dead => trivial
structure Two (gs ts : List Pa) : Prop where
  lg : gs.length ≤ 12
  lt : ts.length ≤ 12
  pg : ∀ x ∈ hr gs, 1 ≤ x
  pt : ∀ x ∈ hr ts, 1 ≤ x
  sum : (hr gs).sum = (hr ts).sum
theorem hr_len (L : List Pa) : (hr L).length = L.length := by simp [hr]
theorem c2_0 (γ : Cells) (o1 o2 : Cell) : (γ ++ [o1, o2])[γ.length]? = some o1 := by rw [List.getElem?_append_right (Nat.le_refl _)]; simp
theorem c2_1 (γ : Cells) (o1 o2 : Cell) : (γ ++ [o1, o2])[γ.length + 1]? = some o2 := by rw [List.getElem?_append_right (by omega)]; simp
theorem c2_s0 (γ : Cells) (o1 o2 o : Cell) : (γ ++ [o1, o2]).set γ.length o = γ ++ [o, o2] := by rw [List.set_append_right _ _ (by omega)]; simp
theorem c2_s1 (γ : Cells) (o1 o2 o : Cell) : (γ ++ [o1, o2]).set (γ.length + 1) o = γ ++ [o1, o] := by rw [List.set_append_right _ _ (by omega)]; simp
def cI (ns : List Int) : Cell := .lst ((ns.map PyData.int).map Itm.fz)
def cJ (gs ts : List Pa) (rs : List Rw) : Cell := .lst ((rs.map (dJ gs ts)).map Itm.fz)
theorem intAt {ns : List Int} {j : Nat} (h : j < ns.length) : ((ns.map PyData.int).map Itm.fz)[j]? = some (.fz (.int ns[j])) := by
  rw [List.getElem?_map, List.getElem?_map, List.getElem?_eq_getElem h]; rfl
theorem cI_set (ns : List Int) (j : Nat) (x : Int) : ((ns.map PyData.int).map Itm.fz).set j (.fz (.int x)) = ((ns.set j x).map PyData.int).map Itm.fz := by rw [List.map_set, List.map_set]
theorem paAt {L : List Pa} {j : Nat} (h : j < L.length) : atI (L.map dP) (j : Int) = some (.tuple [.str (nm L j), .int L[j].2]) := by
  refine atI_nat ?_
  rw [List.getElem?_map, List.getElem?_eq_getElem h]
  simp [dP, nm, h]
def S_paired : PSpec := fun args γ P => ∃ a b gs ts, args = [.fz a, .fz b] ∧ a = .list (gs.map dP) ∧ b = .list (ts.map dP) ∧ Two gs ts ∧ ∀ o : Cell, Clo (γ ++ [o, cJ gs ts (whole gs ts)]) → P (.cl (γ.length + 1)) (γ ++ [o, cJ gs ts (whole gs ts)])
theorem len_paired {args γ P} (h : S_paired args γ P) : args.length = 2 := by obtain ⟨a, b, gs, ts, rfl, _⟩ := h; rfl
set_option maxHeartbeats 8000000 in
theorem body_paired {P : Program} {w : World} {K : PySem.W.Frag} {mg : Str → Option Value} {base : Heap} (g0 : G0 mg)
    {X : Cx} (c : Ctx X P w K mg base N_paired (defScope s_paired) 0) {args : List Itm} {γ : Cells} {Po : EPost} (hγ : Clo γ) (hS : S_paired args γ Po) :
    SVs X (slots0 N_paired args) γ (defBody s_paired) { nx := fun _ g => PL.Fin γ.length Po (.fz .none) g, rt := PL.Fin γ.length Po } := by
  have hX := c.ok
  have hp := c.po
  have v0 : Nm X "givers" 0 .local := c.nm 0 .local rfl (by decide +kernel) (.inl rfl) (by decide +kernel) (by decide +kernel)
  have v1 : Nm X "takers" 1 .local := c.nm 1 .local rfl (by decide +kernel) (.inl rfl) (by decide +kernel) (by decide +kernel)
  have v2 : Nm X "hours" 2 .local := c.nm 2 .local rfl (by decide +kernel) (.inl rfl) (by decide +kernel) (by decide +kernel)
  have v3 : Nm X "wanted" 3 .local := c.nm 3 .local rfl (by decide +kernel) (.inl rfl) (by decide +kernel) (by decide +kernel)
  have v4 : Nm X "shares" 4 .local := c.nm 4 .local rfl (by decide +kernel) (.inl rfl) (by decide +kernel) (by decide +kernel)
  have v5 : Nm X "at" 5 .local := c.nm 5 .local rfl (by decide +kernel) (.inl rfl) (by decide +kernel) (by decide +kernel)
  have v6 : Nm X "giver" 6 .local := c.nm 6 .local rfl (by decide +kernel) (.inl rfl) (by decide +kernel) (by decide +kernel)
  have v7 : Nm X "left" 7 .local := c.nm 7 .local rfl (by decide +kernel) (.inl rfl) (by decide +kernel) (by decide +kernel)
  have v8 : Nm X "share" 8 .local := c.nm 8 .local rfl (by decide +kernel) (.inl rfl) (by decide +kernel) (by decide +kernel)
  have b_min : Bt X "min" := c.bt (by decide +kernel) g0.b_min
  obtain ⟨_, _, gs, ts, rfl, rfl, rfl, hT, hP⟩ := hS
  have lg := hT.lg
  have lt := hT.lt
  refine svs_setLcAC (own := [("_", 9), ("hours", 2)]) dP ts (fun _ => true) (fun a => .int a.2) hX v3 rfl (by decide +kernel) (by rw [c.N, c.sc]; exact ⟨rfl, by decide +kernel, by decide +kernel, by decide +kernel, by decide +kernel⟩) (ev_name v1.r rfl) (Rdb.fz _) (by omega) (fun a ha => ⟨((slots0 N_paired [.fz (.list (gs.map dP)), .fz (.list (ts.map dP))]).set 9 (some (.fz (.str a.1)))).set 2 (some (.fz (.int a.2))), [9, 2], by simp, fun acc X' hB => ?_⟩) ?_
  ·
    have hX_X' := hB.cok hX rfl
    have w9_X' : Nm X' "_" 9 .local := hB.own (by rw [c.N]; rfl) (by decide +kernel) (by decide +kernel) (by decide +kernel)
    have w2_X' : Nm X' "hours" 2 .local := hB.own (by rw [c.N]; rfl) (by decide +kernel) (by decide +kernel) (by decide +kernel)
    exact ⟨tgt2 (Γ := slots0 N_paired [.fz (.list (gs.map dP)), .fz (.list (ts.map dP))]) (by decide) hX_X' w9_X' w2_X', tvs_nil, fun _ => ev_name w2_X'.r rfl⟩
  rw [PL.filter_all]
  apply svs_setE hX v4
  refine EE.of (ev_lstC av_nil) ?_
  apply svs_setE hX v5
  refine EE.of ev_int ?_
  have e0 : γ ++ [Cell.lst ((ts.map fun a => PyData.int a.2).map Itm.fz)] ++ [Cell.lst []] = γ ++ [cI (hr ts), cJ gs ts []] := by simp [cI, cJ, hr, Function.comp_def]
  have e1 : (γ ++ [Cell.lst ((ts.map fun a => PyData.int a.2).map Itm.fz)]).length = γ.length + 1 := by simp
  rw [e0, e1]
  refine svs_forL dP gs hX hp (ev_name v0.r rfl) (Rdb.fz _)
    (fun i Γ' g => ∃ (at_ : Nat) (w : List Int) (sh : List Rw) (s2 s6 s7 s8 : Option Itm), Γ' = [some (.fz (.list (gs.map dP))), some (.fz (.list (ts.map dP))), s2, some (.cl γ.length), some (.cl (γ.length + 1)), some (.fz (.int (at_ : Int))), s6, s7, s8, none] ∧ g = γ ++ [cI w, cJ gs ts sh] ∧ w.length = ts.length ∧ at_ ≤ ts.length ∧
      sh ++ M9.pr (M9.num i ((hr gs).drop i)) (M9.num at_ (w.drop at_)) = whole gs ts ∧ ((hr gs).drop i).sum = (w.drop at_).sum ∧ ∀ x ∈ w.drop at_, 1 ≤ x)
    ⟨0, hr ts, [], none, none, none, none, rfl, rfl, hr_len ts, by omega, rfl, hT.sum, hT.pt⟩ (fun _ _ _ _ _ => Rdb.fz _) ?_ ?_
  · rintro i a Γ' g hi ha ⟨at_, w, sh, s2, s6, s7, s8, rfl, rfl, q1, q2, q3, q4, q5⟩
    have hil := (List.getElem?_eq_some_iff.mp hi).1
    have hih : i < (hr gs).length := by rw [hr_len]; exact hil
    have hga : (hr gs)[i] = a.2 := by
      have := (List.getElem?_eq_some_iff.mp hi).2
      simp [hr, this]
    have hna : nm gs i = a.1 := by simp [nm, hi]
    refine ⟨_, _, gv_tup hX (gvs_cons (gv_name hX v6) (gvs_cons (gv_name hX v2) gvs_nil)) rfl, ?_⟩
    apply svs_setE hX v7
    refine EE.of (ev_name v2.r rfl) ?_
    have S0 := M9.St.start (th := hr ts) hih hT.pg (by rw [hr_len]; exact q1) (by rw [hr_len]; exact q2) q3 q4 q5
    rw [hga] at S0
    refine svs_while hp (fun m Γ' g => ∃ (left : Int) (at_ : Nat) (w : List Int) (sh : List Rw) (s8 : Option Itm), m = left.toNat ∧ M9.St (hr gs) (hr ts) i left at_ w sh ∧ Γ' = [some (.fz (.list (gs.map dP))), some (.fz (.list (ts.map dP))), some (.fz (.int a.2)), some (.cl γ.length), some (.cl (γ.length + 1)), some (.fz (.int (at_ : Int))), some (.fz (.str a.1)), some (.fz (.int left)), s8, none] ∧ g = γ ++ [cI w, cJ gs ts sh]) a.2.toNat
      ⟨a.2, at_, w, sh, s8, rfl, S0, rfl, rfl⟩ ?_
    rintro m Γ' g ⟨left, at_, w, sh, s8, rfl, S, rfl, rfl⟩
    refine ⟨decide (0 < left), _, tv_cmp (ev_name v7.r rfl) ev_int cmp_gt, fun h => ?_, fun h => ?_⟩
    · have hl := of_decide_eq_true h
      obtain ⟨hlt, hlt2⟩ := S.lt hT.pg hl
      rw [hr_len] at hlt2
      obtain ⟨n1, st1, st2⟩ := S.step hl hlt _ rfl
      have hix : atI ((w.map PyData.int).map Itm.fz) (at_ : Int) = some (.fz (.int w[at_])) := atI_nat (intAt hlt)
      apply svs_setE hX v8
      refine EE.of (ev_min2 hX b_min (ev_name v7.r rfl) (ev_ixC (ev_name v3.r rfl) (ev_name v5.r rfl) (c2_0 ..) hix)) ?_
      generalize hn : min left w[at_] = n at n1 st1 st2 ⊢
      have few := S.few
      rw [hr_len, hr_len] at few
      refine svs_exprE (EE.of (ev_append (r := .fz (dJ gs ts (i, at_, n))) (ev_name v4.r rfl) (ev_tup (ds := [.str (nm gs i), .str (nm ts at_), .int n]) (by rw [hna]; exact av_consF (ev_name v6.r rfl) (av_consF (ev_ixT (ev_ixL (ev_name v1.r rfl) (ev_name v5.r rfl) (Rdb.fz _) (paAt hlt2)) ev_int ix_0) (av_consF (ev_name v8.r rfl) av_nilF)))) ⟨_, c2_1 ..⟩ (c2_1 ..) (by simp; omega)) ?_)
      rw [c2_s1]
      have e2 : Cell.lst ((sh.map (dJ gs ts)).map Itm.fz ++ [.fz (dJ gs ts (i, at_, n))]) = cJ gs ts (sh ++ [(i, at_, n)]) := by simp [cJ]
      rw [e2]
      refine svs_augI hX v7 rfl ip_sub (ev_name v8.r rfl) ?_
      refine sv_augitem (jj := at_) (f := fun a b => a - b) (n := w[at_]) (m := n) (ev_name v3.r rfl) (ev_name v5.r rfl) (c2_0 ..) (intAt hlt) (ev_name v8.r rfl) (c2_0 ..) ip_sub ?_
      rw [c2_s0, cI_set]
      have hlt' : at_ < (w.set at_ (w[at_] - n)).length := by simpa using hlt
      have hix' : atI (((w.set at_ (w[at_] - n)).map PyData.int).map Itm.fz) (at_ : Int) = some (.fz (.int (w[at_] - n))) := by
        have := atI_nat (intAt hlt')
        rwa [List.getElem_set_self] at this
      refine svs_if (tv_cmp (ev_ixC (ev_name v3.r rfl) (ev_name v5.r rfl) (c2_0 ..) hix') ev_int cmp_eqI) (fun h => ?_) (fun h => svs_nil (svs_nil ⟨_, ?_, left - n, at_, _, _, _, rfl, st2 (of_decide_eq_false h), rfl, rfl⟩))
      · refine svs_augI hX v5 rfl ip_add ev_int ?_
        exact svs_nil (svs_nil ⟨_, by omega, left - n, at_ + 1, _, _, _, rfl, st1 (of_decide_eq_true h), rfl, rfl⟩)
      · omega
    · have hl := of_decide_eq_false h
      obtain ⟨g1, g2⟩ := S.fin hl
      exact svs_nil ⟨at_, w, sh, _, _, _, _, rfl, rfl, by rw [S.len, hr_len], by have := S.le; rw [hr_len] at this; exact this, g1, g2, S.pos⟩
  · rintro Γ' g ⟨at_, w, sh, s2, s6, s7, s8, rfl, rfl, q1, q2, q3, q4, q5⟩
    have e3 : (hr gs).drop gs.length = [] := List.drop_eq_nil_of_le (by rw [hr_len]; exact Nat.le_refl _)
    rw [e3] at q3
    have e4 : sh = whole gs ts := by
      rw [← q3]
      simp [M9.num, M9.pr]
    subst e4
    apply svs_retE
    refine EE.of (ev_name v4.r rfl) ?_
    have hclo : Clo (γ ++ [cI w, cJ gs ts (whole gs ts)]) := fun o ho => by
      rcases List.mem_append.mp ho with h | h
      · exact clt_up (by simp) (hγ o h)
      · have : o = cI w ∨ o = cJ gs ts (whole gs ts) := by simpa using h
        rcases this with rfl | rfl <;> exact clt_fz _
    exact ⟨γ ++ [cI w, cJ gs ts (whole gs ts)], [], by simp, by simp, hclo, .cl (by simp), hP _ hclo⟩
theorem ok_paired {P : Program} {w : World} {K : PySem.W.Frag} {mg : Str → Option Value} {base : Heap} (g0 : G0 mg)
    {f : Addr} {fd : FuncData} (F : Fun K "paired" "paired" s_paired f fd) (hm : mg "paired" = some (.ref f)) : FnD P w K mg base "paired" 1 S_paired :=
  def_ok F sc_paired hm (F.binds (ps := ["givers", "takers"]) fun _ _ _ _ _ _ us hl => match us, hl with | [_, _], _ => rfl) (fun args γ P h => len_paired h)
    fun X c args γ Po hγ hS => body_paired g0  c hγ hS
end KK

namespace KK
open PySem PySem.Spec PyProof.Rows L2 PL
local macro_rules | `(tactic| tm_at "nm") => `(tactic| with_reducible first | assumption | exact Nm.r (by assumption))
local macro_rules | `(tactic| tm_at "bt") => `(tactic| with_reducible assumption)
local macro_rules | `(tactic| tm_at "asm") => `(tactic| assumption)
local macro_rules | `(tactic| tm_at "auto") => `(tactic| first | rfl | exact fun _ _ => rfl | (intro _; rfl) | decide | exact nomark _ | (with_unfolding_all rfl))
local macro_rules | `(tactic| tm_at "boot") => `(tactic| decide +kernel)
local macro_rules | `(tactic| tm_at "kit") => `(tactic| first | exact kit_int _ | exact kit_bool _ | exact kit_str _ | exact kit_list _ | exact kit_tuple _ | exact kit_dict _)
local macro_rules | `(tactic| tm_at "side") => `(tactic| first | assumption | decide | omega | (simp only [List.length_map, List.length_cons, List.length_nil, List.length_append]; omega) | (simp; done))
local macro_rules | `(tactic| tm_at "pos") => `(tactic| first | decide | assumption | exact Int.pow_pos (by decide) | omega)
local macro_rules | `(tactic| tm_at "mul") => `(tactic| first | assumption | (exact small_mul 200 200 (by omega) (by omega)))
local macro_rules | `(tactic| tm_at "div") => `(tactic| first | assumption | (exact wide_div (b := 200) (by omega) (by omega) (by decide) (by decide)))
local macro_rules | `(tactic| tm_at "pow") => `(tactic| (refine ⟨?_, ?_, ?_⟩ <;> decide))
local macro_rules | `(tactic| tm_at "rd") => `(tactic| first | exact Rdb.fz _ | exact Rdb.cl (by assumption) | exact Rdb.cl rfl)
local macro_rules | `(tactic| tm_at "rdl") => `(tactic| first | exact .inr rfl | exact .inl (by tm_at "rd"))
local macro_rules | `(tactic| tm_at "ix") => `(tactic| first | assumption | exact ix_0 | exact ix_1 | exact ix_2 | exact ix_3 | exact ix_4 | rfl)
local macro_rules | `(tactic| tm_at "cmp") => `(tactic| first | exact cmp_lt | exact cmp_le | exact cmp_gt | exact cmp_ge | exact cmp_eqI | exact cmp_neI | exact cmp_eqS | exact cmp_neS | exact cmp_leS | exact cmp_ltS | exact cmp_inSign | exact cmp_notInSign | exact cmp_isB | exact cmp_notB | exact cmp_isN | exact cmp_notN | exact cmp_eqB | exact cmp_neB)
local macro_rules | `(tactic| tm_at "intro") => `(tactic| (intro _; tm_at "e"))
local macro_rules | `(tactic| tm_at "introe") => `(tactic| (intro _; tm_at "e"))
local macro_rules | `(tactic| tm_at "introw") => `(tactic| (intro _; tm_at "w"))
local macro_rules | `(tactic| tm_at "a") => `(tactic| first
  | exact av_nil
  | (apply av_cons; (focus tm_at "e"); (focus tm_at "a"); (focus tm_at "auto")))
local macro_rules | `(tactic| tm_at "alli") => `(tactic| (repeat (first | exact all_nil | (refine all_cons ⟨_, rfl, ?_, ?_⟩ ?_; (focus omega); (focus omega)))))
local macro_rules | `(tactic| tm_at "afz") => `(tactic| first
  | exact av_nilF
  | (apply av_consF; (focus tm_at "e"); (focus tm_at "afz"); (focus tm_at "auto")))
local macro_rules | `(tactic| tm_at "o") => `(tactic| first
  | exact ov_none
  | (apply ov_some; (focus tm_at "e")))
local macro_rules | `(tactic| tm_at "e") => `(tactic| ((with_reducible show EV _ _ _ (Expr.Tuple _ _ _) _ _); first | (apply ev_tup; (focus tm_at "afz"); (focus tm_at "side"))))
local macro_rules | `(tactic| tm_at "e") => `(tactic| ((with_reducible show EV _ _ _ (Expr.List _ _) _ _); first | (apply ev_lst; (focus tm_at "afz"); (focus tm_at "side"))))
local macro_rules | `(tactic| tm_at "e") => `(tactic| ((with_reducible show EV _ _ _ (Expr.Call (Expr.Attribute _ _ _) _ _ _) _ _); first | (apply ev_join; (focus tm_at "e"); (focus tm_at "e"); (focus tm_at "rd"); (focus tm_at "side"); (focus tm_at "auto"); (focus tm_at "auto"); (focus tm_at "auto"))))
local macro_rules | `(tactic| tm_at "e") => `(tactic| ((with_reducible show EV _ _ _ (Expr.Call (Expr.Name _ _) _ _ _) _ _); first | (apply ev_lenL; (focus tm_at "bt"); (focus tm_at "e"); (focus tm_at "rd"); (focus tm_at "auto")) | (apply ev_lenC; (focus tm_at "bt"); (focus tm_at "e"); (focus tm_at "ix"); (focus tm_at "auto")) | (apply ev_lenT; (focus tm_at "bt"); (focus tm_at "e"); (focus tm_at "auto")) | (apply ev_lenS; (focus tm_at "bt"); (focus tm_at "e"); (focus tm_at "side"); (focus tm_at "auto")) | (apply ev_max2; (focus tm_at "asm"); (focus tm_at "bt"); (focus tm_at "e"); (focus tm_at "e"); (focus tm_at "auto"); (focus tm_at "auto"); (focus tm_at "auto")) | (apply ev_min2; (focus tm_at "asm"); (focus tm_at "bt"); (focus tm_at "e"); (focus tm_at "e"); (focus tm_at "auto"); (focus tm_at "auto"); (focus tm_at "auto")) | (apply ev_intB; (focus tm_at "bt"); (focus tm_at "e"); (focus tm_at "auto")) | (apply ev_intI; (focus tm_at "bt"); (focus tm_at "e"); (focus tm_at "auto")) | (apply ev_abs; (focus tm_at "bt"); (focus tm_at "e"); (focus tm_at "auto")) | (apply ev_sum; (focus tm_at "asm"); (focus tm_at "bt"); (focus tm_at "e"); (focus tm_at "rd"); (focus tm_at "auto")) | (apply ev_listF; (focus tm_at "bt"); (focus tm_at "e"); (focus tm_at "rdl"); (focus tm_at "auto")) | (apply ev_sorted; (focus tm_at "bt"); (focus tm_at "e"); (focus tm_at "rd"); (focus tm_at "auto")) | (apply ev_isi; (focus tm_at "bt"); (focus tm_at "bt"); (focus tm_at "boot"); (focus tm_at "e"); (focus tm_at "rd"); (focus tm_at "kit"); (focus tm_at "auto"); (focus tm_at "auto"); (focus tm_at "auto"); (focus tm_at "auto"); (focus tm_at "auto"))))
local macro_rules | `(tactic| tm_at "e") => `(tactic| ((with_reducible show EV _ _ _ (Expr.BoolOp BoolOp.Or _ _) _ _); first | (apply ev_or; (focus tm_at "e"); (focus tm_at "introe"))))
local macro_rules | `(tactic| tm_at "e") => `(tactic| ((with_reducible show EV _ _ _ (Expr.BoolOp BoolOp.And _ _) _ _); first | (apply ev_and; (focus tm_at "e"); (focus tm_at "introe"))))
local macro_rules | `(tactic| tm_at "e") => `(tactic| ((with_reducible show EV _ _ _ (Expr.BoolOp _ [_] _) _ _); first | (apply ev_one; (focus tm_at "e"))))
local macro_rules | `(tactic| tm_at "e") => `(tactic| ((with_reducible show EV _ _ _ (Expr.IfExp _ _ _ _) _ _); first | (apply ev_ifx; (focus tm_at "t"); (focus tm_at "intro"); (focus tm_at "intro"))))
local macro_rules | `(tactic| tm_at "e") => `(tactic| ((with_reducible show EV _ _ _ (Expr.Compare _ [_, _] [_, _] _) _ _); first | (apply ev_chain2; (focus tm_at "e"); (focus tm_at "e"); (focus tm_at "cmp"); (focus tm_at "e"); (focus tm_at "cmp"); (focus tm_at "auto"))))
local macro_rules | `(tactic| tm_at "e") => `(tactic| ((with_reducible show EV _ _ _ (Expr.Compare _ [_] [_] _) _ _); first | (apply ev_cmp; (focus tm_at "e"); (focus tm_at "e"); (focus tm_at "cmp"); (focus tm_at "auto"))))
local macro_rules | `(tactic| tm_at "e") => `(tactic| ((with_reducible show EV _ _ _ (Expr.UnaryOp UnaryOp.Not _ _) _ _); first | (apply ev_not; (focus tm_at "e"))))
local macro_rules | `(tactic| tm_at "e") => `(tactic| ((with_reducible show EV _ _ _ (Expr.UnaryOp UnaryOp.USub _ _) _ _); first | (apply ev_neg; (focus tm_at "e"))))
local macro_rules | `(tactic| tm_at "e") => `(tactic| ((with_reducible show EV _ _ _ (Expr.Subscript _ _ _) _ _); first | (apply ev_ixL; (focus tm_at "e"); (focus tm_at "e"); (focus tm_at "rd"); (focus tm_at "ix"); (focus tm_at "auto")) | (apply ev_ixT; (focus tm_at "e"); (focus tm_at "e"); (focus tm_at "ix"); (focus tm_at "auto")) | (apply ev_ixC; (focus tm_at "e"); (focus tm_at "e"); (focus tm_at "ix"); (focus tm_at "ix"); (focus tm_at "auto")) | (apply ev_ixP; (focus tm_at "e"); (focus tm_at "e"); (focus tm_at "ix"); (focus tm_at "auto")) | (apply ev_ixS; (focus tm_at "e"); (focus tm_at "e"); (focus tm_at "side"); (focus tm_at "asm"); (focus tm_at "auto"))))
local macro_rules | `(tactic| tm_at "e") => `(tactic| ((with_reducible show EV _ _ _ (Expr.Subscript _ (Expr.Slice _ _ _ _) _) _ _); first | (apply ev_slL; (focus tm_at "e"); (focus tm_at "o"); (focus tm_at "o"); (focus tm_at "rd")) | (apply ev_slT; (focus tm_at "e"); (focus tm_at "o"); (focus tm_at "o"); (focus tm_at "side")) | (apply ev_slS; (focus tm_at "e"); (focus tm_at "o"); (focus tm_at "o"); (focus tm_at "side"))))
local macro_rules | `(tactic| tm_at "e") => `(tactic| ((with_reducible show EV _ _ _ (Expr.BinOp _ Operator.Pow _ _) _ _); first | (apply ev_pow; (focus tm_at "e"); (focus tm_at "e"); (focus tm_at "pow"))))
local macro_rules | `(tactic| tm_at "e") => `(tactic| ((with_reducible show EV _ _ _ (Expr.BinOp _ Operator.FloorDiv _ _) _ _); first | (apply ev_div; (focus tm_at "e"); (focus tm_at "e"); (focus tm_at "div"))))
local macro_rules | `(tactic| tm_at "e") => `(tactic| ((with_reducible show EV _ _ _ (Expr.BinOp _ Operator.Mod _ _) _ _); first | (apply ev_mod; (focus tm_at "e"); (focus tm_at "e"); (focus tm_at "pos"))))
local macro_rules | `(tactic| tm_at "e") => `(tactic| ((with_reducible show EV _ _ _ (Expr.BinOp _ Operator.Mult _ _) _ _); first | (apply ev_mul; (focus tm_at "e"); (focus tm_at "e"); (focus tm_at "mul")) | (apply ev_repF; (focus tm_at "afz"); (focus tm_at "e"); (focus tm_at "side"); (focus tm_at "side"); (focus tm_at "side"))))
local macro_rules | `(tactic| tm_at "e") => `(tactic| ((with_reducible show EV _ _ _ (Expr.BinOp _ Operator.Sub _ _) _ _); first | (apply ev_sub; (focus tm_at "e"); (focus tm_at "e"))))
local macro_rules | `(tactic| tm_at "e") => `(tactic| ((with_reducible show EV _ _ _ (Expr.BinOp _ Operator.Add _ _) _ _); first | (apply ev_add; (focus tm_at "e"); (focus tm_at "e")) | (apply ev_catF; (focus tm_at "e"); (focus tm_at "e"); (focus tm_at "rd"); (focus tm_at "rd"); (focus tm_at "side")) | (apply ev_addS; (focus tm_at "e"); (focus tm_at "e"); (focus tm_at "side")) | (apply ev_catT; (focus tm_at "e"); (focus tm_at "e"); (focus tm_at "side"))))
local macro_rules | `(tactic| tm_at "e") => `(tactic| ((with_reducible show EV _ _ _ (Expr.Name _ _) _ _); first | (apply ev_name; (focus tm_at "nm"); (focus rfl))))
local macro_rules | `(tactic| tm_at "e") => `(tactic| ((with_reducible show EV _ _ _ (Expr.Constant _ _ _) _ _); first | exact ev_int | exact ev_bl | exact ev_str | exact ev_non))
local macro_rules | `(tactic| tm_at "t") => `(tactic| ((with_reducible show TV _ _ _ _ _ _); first | (apply tv_val; (focus tm_at "e"); (focus tm_at "auto")) | (apply tv_truthL; (focus tm_at "e"); (focus tm_at "rd"); (focus tm_at "auto")) | (apply tv_truthI; (focus tm_at "e"); (focus tm_at "auto"))))
local macro_rules | `(tactic| tm_at "t") => `(tactic| ((with_reducible show TV _ _ _ (Expr.BoolOp _ _ _) _ _); first | (apply tv_w; (focus tm_at "w"))))
local macro_rules | `(tactic| tm_at "t") => `(tactic| ((with_reducible show TV _ _ _ (Expr.UnaryOp UnaryOp.Not _ _) _ _); first | (apply tv_not; (focus tm_at "t"))))
local macro_rules | `(tactic| tm_at "t") => `(tactic| ((with_reducible show TV _ _ _ (Expr.Compare _ [_, _] [_, _] _) _ _); first | (apply tv_chain2; (focus tm_at "e"); (focus tm_at "e"); (focus tm_at "cmp"); (focus tm_at "e"); (focus tm_at "cmp"); (focus tm_at "auto"))))
local macro_rules | `(tactic| tm_at "t") => `(tactic| ((with_reducible show TV _ _ _ (Expr.Compare _ [_] [_] _) _ _); first | (apply tv_cmp; (focus tm_at "e"); (focus tm_at "e"); (focus tm_at "cmp"); (focus tm_at "auto"))))
local macro_rules | `(tactic| tm_at "w") => `(tactic| ((with_reducible show WV _ _ _ (Expr.BoolOp BoolOp.Or _ _) _ _); first | (apply wv_or; (focus tm_at "t"); (focus tm_at "introw"))))
local macro_rules | `(tactic| tm_at "w") => `(tactic| ((with_reducible show WV _ _ _ (Expr.BoolOp BoolOp.And _ _) _ _); first | (apply wv_and; (focus tm_at "t"); (focus tm_at "introw"))))
local macro_rules | `(tactic| tm_at "w") => `(tactic| ((with_reducible show WV _ _ _ (Expr.BoolOp BoolOp.Or [_] _) _ _); first | (apply wv_or1; (focus tm_at "t"))))
local macro_rules | `(tactic| tm_at "w") => `(tactic| ((with_reducible show WV _ _ _ (Expr.BoolOp BoolOp.And [_] _) _ _); first | (apply wv_and1; (focus tm_at "t"))))
local macro_rules | `(tactic| tm_at "ee") => `(tactic| first
  | (apply EE.of; (focus tm_at "e"); try (tm_at "ee"))
  | (refine ee_call' (by assumption) ?_; apply AE.of; (focus tm_at "a"))
  | (with_reducible refine ee_mod ?_; tm_at "ee")
  | (with_reducible refine ee_add ?_; tm_at "ee")
  | (with_reducible refine ee_sub ?_; tm_at "ee")
  | (with_reducible refine ee_mul ?_; tm_at "ee")
  | (with_reducible refine ee_div ?_; tm_at "ee")
  | (with_reducible refine ee_ixL ?_; tm_at "ee")
  | (refine ⟨_, rfl, ?_⟩; tm_at "ee"))

def S_shared : PSpec := fun args γ P => ∃ x gs ts, ∃ rs : List Rw, ∃ L : List Pa, ∃ at_, ∃ sel : Rw → Str, args = [x, .fz (.list (L.map dP)), .fz (.int at_)] ∧ Rdb γ x (.list (rs.map (dJ gs ts))) ∧ rs.length ≤ 1000 ∧ L.length ≤ 1000 ∧
  (∀ r : Rw, atI [PyData.str (nm gs r.1), .str (nm ts r.2.1), .int r.2.2] at_ = some (.str (sel r))) ∧ (∀ a ∈ L, ((rs.filter fun r => decide (sel r = a.1)).map (·.2.2)).sum = a.2) ∧ P (.fz (.bool true)) γ
theorem len_shared {args γ P} (h : S_shared args γ P) : args.length = 3 := by obtain ⟨x, gs, ts, rs, L, at_, sel, rfl, _⟩ := h; rfl
set_option maxHeartbeats 8000000 in
theorem body_shared {P : Program} {w : World} {K : PySem.W.Frag} {mg : Str → Option Value} {base : Heap} (g0 : G0 mg)
    {X : Cx} (c : Ctx X P w K mg base N_shared (defScope s_shared) 0) {args : List Itm} {γ : Cells} {Po : EPost} (hγ : Clo γ) (hS : S_shared args γ Po) :
    SVs X (slots0 N_shared args) γ (defBody s_shared) { nx := fun _ g => PL.Fin γ.length Po (.fz .none) g, rt := PL.Fin γ.length Po } := by
  have hX := c.ok
  have hp := c.po
  have v0 : Nm X "_law_found" 0 .local := c.nm 0 .local rfl (by decide +kernel) (.inl rfl) (by decide +kernel) (by decide +kernel)
  have v1 : Nm X "_law_pairs" 1 .local := c.nm 1 .local rfl (by decide +kernel) (.inl rfl) (by decide +kernel) (by decide +kernel)
  have v2 : Nm X "_law_at" 2 .cell := c.nm 2 .cell rfl (by decide +kernel) (.inr rfl) (by decide +kernel) (by decide +kernel)
  have v3 : Nm X "_law_name" 3 .cell := c.nm 3 .cell rfl (by decide +kernel) (.inr rfl) (by decide +kernel) (by decide +kernel)
  have v4 : Nm X "_law_hours_here" 4 .local := c.nm 4 .local rfl (by decide +kernel) (.inl rfl) (by decide +kernel) (by decide +kernel)
  have b_sum : Bt X "sum" := c.bt (by decide +kernel) g0.b_sum
  obtain ⟨x, gs, ts, rs, L, at_, sel, rfl, hx, hl1, hl2, hat, hsum, hP⟩ := hS
  refine svs_forL dP L hX hp (ev_name v1.r rfl) (Rdb.fz _)
    (fun i Γ' g => ∃ (s3 s4 : Option Itm), Γ' = [some x, some (.fz (.list (L.map dP))), some (.fz (.int at_)), s3, s4, none] ∧ g = γ)
    ⟨none, none, rfl, rfl⟩ (fun _ _ _ _ _ => Rdb.fz _) ?_ ?_
  · rintro i a Γ' g hi ha ⟨s3, s4, rfl, rfl⟩
    refine ⟨_, _, gv_tup hX (gvs_cons (gv_name hX v3) (gvs_cons (gv_name hX v4) gvs_nil)) rfl, ?_⟩
    refine svs_if (k := false) (TV.is (tv_cmp (ev_sum (ns := (rs.filter fun r => decide (sel r = a.1)).map (·.2.2)) hX b_sum (ev_lcL (w := 5) (dJ gs ts) rs (fun r => decide (sel r = a.1)) (fun r => .int r.2.2) hX (by rw [c.N, c.sc]; exact ⟨rfl, by decide +kernel, by decide +kernel, by decide +kernel, by decide +kernel⟩) (fun X' hB => ⟨hB.cok hX rfl, hB.own (by rw [c.N]; rfl) (by decide +kernel) (by decide +kernel) (by decide +kernel)⟩) (ev_name v0.r rfl) hx (by omega) (fun r hr acc X' hB => ?_)) (by rw [List.map_map]; exact Rdb.fz _)) (ev_name v4.r rfl) cmp_neI) ?_) (fun h => by cases h) (fun _ => svs_nil (svs_nil ⟨_, _, rfl, rfl⟩))
    ·
      have hX_X' := hB.cok hX rfl
      have w5_X' : Nm X' "_law_job" 5 .local := hB.own (by rw [c.N]; rfl) (by decide +kernel) (by decide +kernel) (by decide +kernel)
      have w2_X' : Nr X' "_law_at" 2 .cell := hB.cap hX v2.r (by decide +kernel)
      have w3_X' : Nr X' "_law_name" 3 .cell := hB.cap hX v3.r (by decide +kernel)
      exact ⟨tvs_one (tv_cmp (ev_ixT (ds := [.str (nm gs r.1), .str (nm ts r.2.1), .int r.2.2]) (ev_name w5_X'.r rfl) (ev_name w2_X' rfl) (hat r)) (ev_name w3_X' rfl) cmp_eqS), fun _ => ev_ixT (ds := [.str (nm gs r.1), .str (nm ts r.2.1), .int r.2.2]) (ev_name w5_X'.r rfl) ev_int ix_2⟩
    · rw [hsum a ha]; simp
  · rintro Γ' g ⟨s3, s4, rfl, rfl⟩
    apply svs_retE
    refine EE.of ev_bl ?_
    exact fin_same hγ hP
theorem ok_shared {P : Program} {w : World} {K : PySem.W.Frag} {mg : Str → Option Value} {base : Heap} (g0 : G0 mg)
    {f : Addr} {fd : FuncData} (F : Fun K "_law_shared" "_law_shared" s_shared f fd) (hm : mg "_law_shared" = some (.ref f)) : FnD P w K mg base "_law_shared" 1 S_shared :=
  def_ok F sc_shared hm (F.binds (ps := ["_law_found", "_law_pairs", "_law_at"]) fun _ _ _ _ _ _ us hl => match us, hl with | [_, _, _], _ => rfl) (fun args γ P h => len_shared h)
    fun X c args γ Po hγ hS => body_shared g0  c hγ hS
/-! ### the law's look -/
theorem nm_lt {L : List Pa} {i : Nat} (h : i < L.length) : (L.map fun a => PyData.str a.1)[i]? = some (.str (nm L i)) := by
  rw [List.getElem?_map, List.getElem?_eq_getElem h]
  simp [nm, h]
structure Nms (L : List Pa) : Prop where
  nd : (L.map (·.1)).Nodup
  low : ∀ a ∈ L, Lows a.1
theorem Nms.inj {L : List Pa} (h : Nms L) {i j : Nat} (hi : i < L.length) (hj : j < L.length) (e : nm L i = nm L j) : i = j := by
  simp only [nm, List.getElem?_eq_getElem hi, List.getElem?_eq_getElem hj, Option.map_some, Option.getD_some] at e
  have e2 : (L.map (·.1))[i]'(by simpa using hi) = (L.map (·.1))[j]'(by simpa using hj) := by simpa using e
  exact (List.getElem_inj h.nd).mp e2
theorem Nms.lowAt {L : List Pa} (h : Nms L) {i : Nat} (hi : i < L.length) : Lows (nm L i) := by
  simp only [nm, List.getElem?_eq_getElem hi, Option.map_some, Option.getD_some]
  exact h.low _ (List.getElem_mem hi)
theorem shp_nms {L : List Pa} (h : Nms L) : Shp 1 (.list (L.map fun a => PyData.str a.1)) := shp_list (n := 0) fun d hd => by
  obtain ⟨a, ha, rfl⟩ := List.mem_map.mp hd
  exact shp_low (h.low a ha)
theorem in_nms {L : List Pa} {i : Nat} (hi : i < L.length) : ((L.map fun a => PyData.str a.1).any fun z => PyData.eqv z (.str (nm L i))) = true :=
  List.any_eq_true.mpr ⟨_, List.mem_of_getElem? (nm_lt hi), by rw [eqv_str]; simp⟩
theorem whole_lt {gs ts : List Pa} {r : Rw} (h : r ∈ whole gs ts) : r.1 < gs.length ∧ r.2.1 < ts.length := by
  obtain ⟨h1, h2⟩ := M9.pr_mem _ _ r h
  obtain ⟨x, hx, e1⟩ := List.mem_map.mp h1
  obtain ⟨y, hy, e2⟩ := List.mem_map.mp h2
  have a1 := (M9.num_fst hx).2.1
  have a2 := (M9.num_fst hy).2.1
  rw [hr_len] at a1 a2
  omega
theorem whole_len (gs ts : List Pa) (h : Two gs ts) : (whole gs ts).length ≤ 24 := by
  have := M9.pr_le (M9.num 0 (hr gs)) (M9.num 0 (hr ts))
  rw [M9.num_len, M9.num_len, hr_len, hr_len] at this
  have := h.lg
  have := h.lt
  unfold whole
  omega
theorem eqv_pD (a b : Int × Int) : PyData.eqv (pD a) (pD b) = decide (a = b) := by
  obtain ⟨a1, a2⟩ := a
  obtain ⟨b1, b2⟩ := b
  simp only [pD, PyData.eqv, PyData.eqvAll]
  rw [Bool.eq_iff_iff]
  simp
theorem shp_pD (ns : List (Int × Int)) : Shp 2 (.list (ns.map pD)) := shp_list (n := 1) fun d hd => by
  obtain ⟨a, ha, rfl⟩ := List.mem_map.mp hd
  exact shp_tuple (n := 0) fun e he => by
    simp at he
    rcases he with rfl | rfl <;> exact shp_int _
/-- sorted(set(ps)), ps rising already -/
theorem ev_sortedSet {X : Cx} {Γ : Slots} {γ γ1 : Cells} {a : Expr} {r : Itm} {p p2 q pos : Pos} {ns : List (Int × Int)} (hX : Cok X) (bt : Bt X "sorted") (bt2 : Bt X "set") (ha : EV X Γ γ a r γ1) (hr : Rdb γ1 r (.list (ns.map pD))) (hl : ns.length < 64) (hb : ∀ y ∈ ns, (0 ≤ y.1 ∧ y.1 < 64) ∧ (0 ≤ y.2 ∧ y.2 < 64)) (hup : ns.Pairwise (fun y z => y.1 < z.1 ∨ (y.1 = z.1 ∧ y.2 < z.2)))
    (hs : starEach [.Call (.Name "set" p2) [a] [] q] X.env = (false, eval (.Call (.Name "set" p2) [a] [] q) X.env) :: starEach [] X.env := by rfl) (hs2 : starEach [a] X.env = (false, eval a X.env) :: starEach [] X.env := by rfl) :
    EV X Γ γ (.Call (.Name "sorted" p) [.Call (.Name "set" p2) [a] [] q] [] pos) (.fz (.list (ns.map pD))) γ1 :=
  EE.imp (ee_sortedSetP hX bt bt2 ha hr hl hb hs hs2) fun r g ⟨qs, h1, h2, h3, h4⟩ => by
    have : qs = ns := sorted_ext (lt := fun y z : Int × Int => y.1 < z.1 ∨ (y.1 = z.1 ∧ y.2 < z.2)) (fun a => by omega) (fun a b c => by omega) h3 hup h4
    subst this
    exact ⟨h1, h2⟩
def S_good : PSpec := fun args γ P => ∃ x gs ts, args = [x, .fz (.list (gs.map dP)), .fz (.list (ts.map dP))] ∧ Rdb γ x (.list ((whole gs ts).map (dJ gs ts))) ∧ Two gs ts ∧ Nms gs ∧ Nms ts ∧ P (.fz (.bool true)) γ
theorem len_good {args γ P} (h : S_good args γ P) : args.length = 3 := by obtain ⟨x, gs, ts, rfl, _⟩ := h; rfl
theorem all_true {α : Type} (L : List α) : ((L.map fun _ => true).all id) = true := by simp
set_option maxHeartbeats 16000000 in
theorem body_good {P : Program} {w : World} {K : PySem.W.Frag} {mg : Str → Option Value} {base : Heap} (g0 : G0 mg)
    (D_shared : FnD P w K mg base "_law_shared" 1 S_shared)
    {X : Cx} (c : Ctx X P w K mg base N_good (defScope s_good) 1) {args : List Itm} {γ : Cells} {Po : EPost} (hγ : Clo γ) (hS : S_good args γ Po) :
    SVs X (slots0 N_good args) γ (defBody s_good) { nx := fun _ g => PL.Fin γ.length Po (.fz .none) g, rt := PL.Fin γ.length Po } := by
  have hX := c.ok
  have hp := c.po
  have v0 : Nm X "_law_found" 0 .local := c.nm 0 .local rfl (by decide +kernel) (.inl rfl) (by decide +kernel) (by decide +kernel)
  have v1 : Nm X "_law_givers" 1 .local := c.nm 1 .local rfl (by decide +kernel) (.inl rfl) (by decide +kernel) (by decide +kernel)
  have v2 : Nm X "_law_takers" 2 .local := c.nm 2 .local rfl (by decide +kernel) (.inl rfl) (by decide +kernel) (by decide +kernel)
  have v3 : Nm X "_law_first" 3 .cell := c.nm 3 .cell rfl (by decide +kernel) (.inr rfl) (by decide +kernel) (by decide +kernel)
  have v4 : Nm X "_law_second" 4 .cell := c.nm 4 .cell rfl (by decide +kernel) (.inr rfl) (by decide +kernel) (by decide +kernel)
  have v5 : Nm X "_law_rows" 5 .local := c.nm 5 .local rfl (by decide +kernel) (.inl rfl) (by decide +kernel) (by decide +kernel)
  have b_isinstance : Bt X "isinstance" := c.bt (by decide +kernel) g0.b_isinstance
  have b_list : Bt X "list" := c.bt (by decide +kernel) g0.b_list
  have b_all : Bt X "all" := c.bt (by decide +kernel) g0.b_all
  have b_sorted : Bt X "sorted" := c.bt (by decide +kernel) g0.b_sorted
  have b_set : Bt X "set" := c.bt (by decide +kernel) g0.b_set
  have b_len : Bt X "len" := c.bt (by decide +kernel) g0.b_len
  have k_shared : Cal X "_law_shared" S_shared := c.cal D_shared (by decide) (by decide +kernel) (by decide +kernel)
  obtain ⟨x, gs, ts, rfl, hx, hT, hG, hU, hP⟩ := hS
  have h24 := whole_len gs ts hT
  have lg := hT.lg
  have lt := hT.lt
  have hxl := hx
  generalize hw : whole gs ts = rs at hx h24
  have hpos : ∀ r ∈ rs, 1 ≤ r.2.2 := by rw [← hw]; exact M9.pr_pos _ _ (M9.num_pos hT.pg) (M9.num_pos hT.pt)
  have hlt : ∀ r ∈ rs, r.1 < gs.length ∧ r.2.1 < ts.length := by rw [← hw]; exact fun r hr => whole_lt hr
  -- forms
  refine svs_if (k := false) (TV.is (tv_w (wv_or (tv_not (tv_val (ev_isi b_isinstance b_list (by decide +kernel) (ev_name v0.r rfl) hx (kit_list _)))) fun _ => wv_or1 (tv_not (tv_val (ev_allB (ns := rs.map fun _ => true) hX b_all (ev_lcM (w := 6) (dJ gs ts) rs (fun _ => .bool true) hX (by rw [c.N, c.sc]; exact ⟨rfl, by decide +kernel, by decide +kernel, by decide +kernel, by decide +kernel⟩) (fun X' hB => ⟨hB.cok hX rfl, hB.own (by rw [c.N]; rfl) (by decide +kernel) (by decide +kernel) (by decide +kernel)⟩) (ev_name v0.r rfl) hx (by omega) (fun r hr acc X' hB => ?_)) (by rw [List.map_map]; exact Rdb.fz _)))))) ?_) (fun h => by cases h) (fun _ => svs_nil ?_)
  ·
    have hX_X' := hB.cok hX rfl
    have w6_X' : Nm X' "_law_job" 6 .local := hB.own (by rw [c.N]; rfl) (by decide +kernel) (by decide +kernel) (by decide +kernel)
    have b_isinstance_X' : Bt X' "isinstance" := hB.bt (c.mg ▸ g0.b_isinstance) (by decide +kernel)
    have b_tuple_X' : Bt X' "tuple" := hB.bt (c.mg ▸ g0.b_tuple) (by decide +kernel)
    have b_len_X' : Bt X' "len" := hB.bt (c.mg ▸ g0.b_len) (by decide +kernel)
    exact EV.is (ev_and (ev_isi b_isinstance_X' b_tuple_X' (by decide +kernel) (ev_name w6_X'.r rfl) (Rdb.fz _) (kit_tuple _)) fun _ => ev_one (ev_cmp (ev_lenT b_len_X' (ev_name w6_X'.r rfl)) ev_int cmp_eqI)) rfl
  · rw [all_true]; rfl
  refine svs_if (k := false) (TV.is (tv_not (tv_val (ev_allB (ns := rs.map fun r => decide (0 < r.2.2)) hX b_all (ev_lcM (w := 6) (dJ gs ts) rs (fun r => .bool (decide (0 < r.2.2))) hX (by rw [c.N, c.sc]; exact ⟨rfl, by decide +kernel, by decide +kernel, by decide +kernel, by decide +kernel⟩) (fun X' hB => ⟨hB.cok hX rfl, hB.own (by rw [c.N]; rfl) (by decide +kernel) (by decide +kernel) (by decide +kernel)⟩) (ev_name v0.r rfl) hx (by omega) (fun r hr acc X' hB => ?_)) (by rw [List.map_map]; exact Rdb.fz _)))) ?_) (fun h => by cases h) (fun _ => svs_nil ?_)
  ·
    have hX_X' := hB.cok hX rfl
    have w6_X' : Nm X' "_law_job" 6 .local := hB.own (by rw [c.N]; rfl) (by decide +kernel) (by decide +kernel) (by decide +kernel)
    have b_isinstance_X' : Bt X' "isinstance" := hB.bt (c.mg ▸ g0.b_isinstance) (by decide +kernel)
    have b_int_X' : Bt X' "int" := hB.bt (c.mg ▸ g0.b_int) (by decide +kernel)
    have b_bool_X' : Bt X' "bool" := hB.bt (c.mg ▸ g0.b_bool) (by decide +kernel)
    have j2 : ∀ pos p1 p2 j0, EV X' ((slots0 N_good [x, .fz (.list (gs.map dP)), .fz (.list (ts.map dP))]).set 6 (some (.fz (dJ gs ts r)))) (γ ++ [.lst acc]) (.Subscript (.Name "_law_job" p1) (.Constant (.int 2) j0 p2) pos) (.fz (.int r.2.2)) (γ ++ [.lst acc]) := fun _ _ _ _ => ev_ixT (ds := [.str (nm gs r.1), .str (nm ts r.2.1), .int r.2.2]) (ev_name w6_X'.r rfl) ev_int ix_2
    exact EV.is (ev_and (ev_isi b_isinstance_X' b_int_X' (by decide +kernel) (j2 _ _ _ _) (Rdb.fz _) (kit_int _)) fun _ => ev_and (ev_not (ev_isi b_isinstance_X' b_bool_X' (by decide +kernel) (j2 _ _ _ _) (Rdb.fz _) (kit_bool _))) fun _ => ev_one (ev_cmp (j2 _ _ _ _) ev_int cmp_gt)) rfl
  · have : ((rs.map fun r => decide (0 < r.2.2)).all id) = true := List.all_eq_true.mpr fun b hb => by
      obtain ⟨r, hr, rfl⟩ := List.mem_map.mp hb
      have := hpos r hr
      simp
      omega
    rw [this]; rfl
  -- names
  refine svs_asg (r := .fz (.tuple [.list (gs.map fun a => .str a.1), .list (ts.map fun a => .str a.1)])) (γ1 := γ) (ev_tup (ds := [_, _]) (av_consF (ev_lcM (w := 7) dP gs (fun a => .str a.1) hX (by rw [c.N, c.sc]; exact ⟨rfl, by decide +kernel, by decide +kernel, by decide +kernel, by decide +kernel⟩) (fun X' hB => ⟨hB.cok hX rfl, hB.own (by rw [c.N]; rfl) (by decide +kernel) (by decide +kernel) (by decide +kernel)⟩) (ev_name v1.r rfl) (Rdb.fz _) (by omega) (fun a ha acc X' hB => ?_)) (av_consF (ev_lcM (w := 7) dP ts (fun a => .str a.1) hX (by rw [c.N, c.sc]; exact ⟨rfl, by decide +kernel, by decide +kernel, by decide +kernel, by decide +kernel⟩) (fun X' hB => ⟨hB.cok hX rfl, hB.own (by rw [c.N]; rfl) (by decide +kernel) (by decide +kernel) (by decide +kernel)⟩) (ev_name v2.r rfl) (Rdb.fz _) (by omega) (fun a ha acc X' hB => ?_)) av_nilF))) (gv_tup hX (gvs_cons (gv_name hX v3) (gvs_cons (gv_name hX v4) gvs_nil)) rfl) ?_ (hw := sw_cell v3.r.kd v4.r.kd)
  ·
    have hX_X' := hB.cok hX rfl
    have w7_X' : Nm X' "_law_one" 7 .local := hB.own (by rw [c.N]; rfl) (by decide +kernel) (by decide +kernel) (by decide +kernel)
    exact ev_ixT (ds := [.str a.1, .int a.2]) (ev_name w7_X'.r rfl) ev_int ix_0
  ·
    have hX_X' := hB.cok hX rfl
    have w7_X' : Nm X' "_law_one" 7 .local := hB.own (by rw [c.N]; rfl) (by decide +kernel) (by decide +kernel) (by decide +kernel)
    exact ev_ixT (ds := [.str a.1, .int a.2]) (ev_name w7_X'.r rfl) ev_int ix_0
  -- strangers
  refine svs_if (k := false) (TV.is (tv_cmp (EV.is (d' := .list []) (ev_lcL (w := 6) (dJ gs ts) rs (fun _ => false) (dJ gs ts) hX (by rw [c.N, c.sc]; exact ⟨rfl, by decide +kernel, by decide +kernel, by decide +kernel, by decide +kernel⟩) (fun X' hB => ⟨hB.cok hX rfl, hB.own (by rw [c.N]; rfl) (by decide +kernel) (by decide +kernel) (by decide +kernel)⟩) (ev_name v0.r rfl) hx (by omega) (fun r hr acc X' hB => ?_)) (by simp)) (ev_lst (ds := []) av_nil) (cmp_neD hX (Rdb.fz _) (Rdb.fz _) (shp_list (n := 0) (by simp)).shaped (shp_list (n := 0) (by simp)).shaped)) (by simp [PyData.eqv, PyData.eqvAll])) (fun h => by cases h) (fun _ => svs_nil ?_)
  ·
    have hX_X' := hB.cok hX rfl
    have w6_X' : Nm X' "_law_job" 6 .local := hB.own (by rw [c.N]; rfl) (by decide +kernel) (by decide +kernel) (by decide +kernel)
    have w3_X' : Nr X' "_law_first" 3 .cell := hB.cap hX v3.r (by decide +kernel)
    have w4_X' : Nr X' "_law_second" 4 .cell := hB.cap hX v4.r (by decide +kernel)
    obtain ⟨h1, h2⟩ := hlt r hr
    refine ⟨tvs_one (TV.is (tv_w (wv_or (tv_cmp (ev_ixT (ds := [.str (nm gs r.1), .str (nm ts r.2.1), .int r.2.2]) (ev_name w6_X'.r rfl) ev_int ix_0) (ev_name w3_X' rfl) (cmp_notInD hX_X' (Rdb.fz _) (Rdb.fz _) (shp_low (hG.lowAt h1)).shaped (shp_nms hG).shaped)) fun _ => wv_or1 (tv_cmp (ev_ixT (ds := [.str (nm gs r.1), .str (nm ts r.2.1), .int r.2.2]) (ev_name w6_X'.r rfl) ev_int ix_1) (ev_name w4_X' rfl) (cmp_notInD hX_X' (Rdb.fz _) (Rdb.fz _) (shp_low (hU.lowAt h2)).shaped (shp_nms hU).shaped)))) ?_), fun h => by cases h⟩
    rw [in_nms h1, in_nms h2]; rfl
  -- places
  refine svs_setLcM (w := 6) (dJ gs ts) rs (fun r => pD ((r.1 : Int), (r.2.1 : Int))) hX v5 rfl (by decide +kernel) (by rw [c.N, c.sc]; exact ⟨rfl, by decide +kernel, by decide +kernel, by decide +kernel, by decide +kernel⟩) (fun X' hB => ⟨hB.cok hX rfl, hB.own (by rw [c.N]; rfl) (by decide +kernel) (by decide +kernel) (by decide +kernel)⟩) (ev_name v0.r rfl) hx (by omega) (fun r hr acc X' hB => ?_) ?_
  ·
    have hX_X' := hB.cok hX rfl
    have w6_X' : Nm X' "_law_job" 6 .local := hB.own (by rw [c.N]; rfl) (by decide +kernel) (by decide +kernel) (by decide +kernel)
    have w3_X' : Nr X' "_law_first" 3 .cell := hB.cap hX v3.r (by decide +kernel)
    have w4_X' : Nr X' "_law_second" 4 .cell := hB.cap hX v4.r (by decide +kernel)
    obtain ⟨h1, h2⟩ := hlt r hr
    refine ev_tup (ds := [.int (r.1 : Int), .int (r.2.1 : Int)]) (av_consF (ev_index (t := r.1) (ds := gs.map fun a => .str a.1) (d := .str (nm gs r.1)) (z := .str (nm gs r.1)) hX_X' (ev_name w3_X' rfl) (ev_ixT (ds := [.str (nm gs r.1), .str (nm ts r.2.1), .int r.2.2]) (ev_name w6_X'.r rfl) ev_int ix_0) (Rdb.fz _) (Rdb.fz _) (Rdb.fz _) (shp_nms hG).shaped (shp_low (hG.lowAt h1)).shaped (nm_lt h1) (by rw [eqv_str]; simp) fun m z' hm hz => ?_)
      (av_consF (ev_index (t := r.2.1) (ds := ts.map fun a => .str a.1) (d := .str (nm ts r.2.1)) (z := .str (nm ts r.2.1)) hX_X' (ev_name w4_X' rfl) (ev_ixT (ds := [.str (nm gs r.1), .str (nm ts r.2.1), .int r.2.2]) (ev_name w6_X'.r rfl) ev_int ix_1) (Rdb.fz _) (Rdb.fz _) (Rdb.fz _) (shp_nms hU).shaped (shp_low (hU.lowAt h2)).shaped (nm_lt h2) (by rw [eqv_str]; simp) fun m z' hm hz => ?_) av_nilF))
    · rw [nm_lt (by omega)] at hz
      cases hz
      rw [eqv_str]
      exact decide_eq_false fun e => absurd (hG.inj (by omega) h1 e) (by omega)
    · rw [nm_lt (by omega)] at hz
      cases hz
      rw [eqv_str]
      exact decide_eq_false fun e => absurd (hU.inj (by omega) h2 e) (by omega)
  have erw : rs.map (fun r => pD ((r.1 : Int), (r.2.1 : Int))) = (rs.map fun r => ((r.1 : Int), (r.2.1 : Int))).map pD := by rw [List.map_map]; rfl
  rw [erw]
  have hlex : (rs.map fun r => ((r.1 : Int), (r.2.1 : Int))).Pairwise (fun y z => y.1 < z.1 ∨ (y.1 = z.1 ∧ y.2 < z.2)) := by
    rw [List.pairwise_map, ← hw]
    refine (M9.pr_lex _ _ (M9.num_up 0 _) (M9.num_up 0 _)).imp fun {a b} h => ?_
    show ((a.1 : Int) < b.1) ∨ ((a.1 : Int) = b.1 ∧ (a.2.1 : Int) < b.2.1)
    rcases h with h | h
    · exact .inl (by omega)
    · exact .inr ⟨by omega, by omega⟩
  have hempty : ∀ b, PyData.eqv (.list (rs.map (dJ gs ts))) (.list []) = b → b = rs.isEmpty := fun b h => by
    rw [← h]
    cases rs <;> simp [PyData.eqv, PyData.eqvAll]
  have shJ : SeqAt.shaped (.list (rs.map (dJ gs ts))) = true := (shp_list (n := 1) fun d hd => by
    obtain ⟨r, hr, rfl⟩ := List.mem_map.mp hd
    obtain ⟨h1, h2⟩ := hlt r hr
    exact shp_tuple (n := 0) fun e he => by
      simp at he
      rcases he with rfl | rfl | rfl
      · exact shp_low (hG.lowAt h1)
      · exact shp_low (hU.lowAt h2)
      · exact shp_int _).shaped
  refine svs_if (k := false) (TV.is (tv_w (wv_or (tv_cmp (ev_name v5.r rfl) (ev_sortedSet hX b_sorted b_set (ev_name v5.r rfl) (Rdb.fz _) (by simp; omega) (fun y hy => ?_) hlex) (cmp_neD hX (Rdb.fz _) (Rdb.fz _) (shp_pD _).shaped (shp_pD _).shaped)) fun _ => wv_or1 (tv_w (wv_and (tv_cmp (ev_name v0.r rfl) (ev_lst (ds := []) av_nil) (cmp_neD hX hx (Rdb.fz _) shJ (shp_list (n := 0) (by simp)).shaped)) fun _ => wv_and1 (tv_cmp (ev_lenL b_len (ev_name v0.r rfl) hx) (ev_add (ev_lenL b_len (ev_name v1.r rfl) (Rdb.fz _)) (ev_lenL b_len (ev_name v2.r rfl) (Rdb.fz _))) cmp_ge))))) ?_) (fun h => by cases h) (fun _ => svs_nil ?_)
  · obtain ⟨r, hr, rfl⟩ := List.mem_map.mp hy
    obtain ⟨h1, h2⟩ := hlt r hr
    show (0 ≤ (r.1 : Int) ∧ (r.1 : Int) < 64) ∧ (0 ≤ (r.2.1 : Int) ∧ (r.2.1 : Int) < 64)
    omega
  · rw [eqv_list eqv_pD, hempty _ rfl]
    simp only [List.length_map, decide_true, Bool.not_true, Bool.false_or]
    cases hrs : rs with
    | nil => rfl
    | cons r0 rs0 =>
      have hne : M9.num 0 (hr gs) ≠ [] := fun e => by
        rw [← hw] at hrs
        unfold whole at hrs
        rw [e, M9.pr] at hrs
        cases hrs
      have few := M9.pr_few (M9.num 0 (hr gs)) (M9.num 0 (hr ts)) (M9.num_pos hT.pg) (M9.num_pos hT.pt) (by rw [M9.num_tot, M9.num_tot]; exact hT.sum) hne
      rw [M9.num_len, M9.num_len, hr_len, hr_len] at few
      have e2 : (M9.pr (M9.num 0 (hr gs)) (M9.num 0 (hr ts))).length = (r0 :: rs0).length := by rw [← hrs, ← hw]; rfl
      rw [e2] at few
      simp only [List.isEmpty_cons, Bool.not_false, Bool.true_and]
      exact decide_eq_false (by omega)
  -- sums
  have hsums := M9.pr_sums (M9.num 0 (hr gs)) (M9.num 0 (hr ts)) (M9.num_pos hT.pg) (M9.num_pos hT.pt) (by rw [M9.num_tot, M9.num_tot]; exact hT.sum)
  have hw' : M9.pr (M9.num 0 (hr gs)) (M9.num 0 (hr ts)) = rs := hw
  rw [hw'] at hsums
  have hs0 : ∀ a ∈ gs, ((rs.filter fun r => decide (nm gs r.1 = a.1)).map (·.2.2)).sum = a.2 := fun a ha => by
    obtain ⟨i, hi, e⟩ := List.mem_iff_getElem.mp ha
    have en : a.1 = nm gs i := by simp [nm, hi, e]
    have ef : rs.filter (fun r => decide (nm gs r.1 = a.1)) = rs.filter (fun r => decide (r.1 = i)) := List.filter_congr fun r hr => by
      rw [en]
      by_cases h : r.1 = i
      · simp [h]
      · rw [decide_eq_false h, decide_eq_false fun e => h (hG.inj (hlt r hr).1 hi e)]
    rw [ef]
    have := (hsums i).1
    unfold M9.gsum at this
    rw [this, M9.num_isum, if_pos (Nat.zero_le _)]
    simp [hr, hi, e]
  have hs1 : ∀ a ∈ ts, ((rs.filter fun r => decide (nm ts r.2.1 = a.1)).map (·.2.2)).sum = a.2 := fun a ha => by
    obtain ⟨i, hi, e⟩ := List.mem_iff_getElem.mp ha
    have en : a.1 = nm ts i := by simp [nm, hi, e]
    have ef : rs.filter (fun r => decide (nm ts r.2.1 = a.1)) = rs.filter (fun r => decide (r.2.1 = i)) := List.filter_congr fun r hr => by
      rw [en]
      by_cases h : r.2.1 = i
      · simp [h]
      · rw [decide_eq_false h, decide_eq_false fun e => h (hU.inj (hlt r hr).2 hi e)]
    rw [ef]
    have := (hsums i).2
    unfold M9.tsum at this
    rw [this, M9.num_isum, if_pos (Nat.zero_le _)]
    simp [hr, hi, e]
  apply svs_retE
  refine EE.of (r := .fz (if true = true then .bool true else .bool false)) (γ1 := γ) (ev_and (ev_call k_shared (av_cons (ev_name v0.r rfl) (av_cons (ev_name v1.r rfl) (av_cons ev_int av_nil))) ⟨x, gs, ts, rs, gs, 0, fun r => nm gs r.1, rfl, hx, by omega, by omega, fun r => ix_0, hs0, rfl, rfl⟩) fun _ => ev_one (ev_call k_shared (av_cons (ev_name v0.r rfl) (av_cons (ev_name v2.r rfl) (av_cons ev_int av_nil))) ⟨x, gs, ts, rs, ts, 1, fun r => nm ts r.2.1, rfl, hx, by omega, by omega, fun r => ix_1, hs1, rfl, rfl⟩)) ?_
  exact fin_same hγ hP
theorem ok_good {P : Program} {w : World} {K : PySem.W.Frag} {mg : Str → Option Value} {base : Heap} (g0 : G0 mg)
    (D_shared : FnD P w K mg base "_law_shared" 1 S_shared)
    {f : Addr} {fd : FuncData} (F : Fun K "_law_good" "_law_good" s_good f fd) (hm : mg "_law_good" = some (.ref f)) : FnD P w K mg base "_law_good" 2 S_good :=
  def_ok F sc_good hm (F.binds (ps := ["_law_found", "_law_givers", "_law_takers"]) fun _ _ _ _ _ _ us hl => match us, hl with | [_, _, _], _ => rfl) (fun args γ P h => len_good h)
    fun X c args γ Po hγ hS => body_good g0 D_shared c hγ hS
end KK

namespace PL
open PySem PySem.Spec PyProof.Rows L2
section
variable {X : Cx} {Γ : Slots} {γ γ1 γ2 γ3 : Cells} {e a b o c : Expr} {es : List Expr} {rs : List Itm} {r ra rb : Itm} {pos p : Pos} {x : Str} {k : Bool} {P : EPost}
theorem ee_callB {id : String} {t : List V → Hp → VK → Prop} (hc : CallR X (.builtin id) t) (bt : Bt X x) (hv : bootBuiltins x = some (.builtin id))
    (h : AE X Γ γ (e :: es) fun rs g => ∀ F as H vs, Rep X.K F as g H → ItmsR X.K F as rs vs → ∀ Q : VK, (∀ v r g' F' as' H', P r g' → Ext F as F' as' → Rep X.K F' as' g' H' → ItmR X.K F' as' r v → Q v H') → t vs H Q)
    (hn : x ≠ "__name__" := by decide) (hdb : (x == ("__debug__" : Str)) = false := by decide)
    (he : starEach (e :: es) X.env = (false, eval e X.env) :: starEach es X.env := by rfl) (hpl : (backTo pos (starEach es X.env)).any (·.1) = false := by rfl) : EE X Γ γ (.Call (.Name x p) (e :: es) [] pos) P := fun F as σ H R E Q q => by
  refine ⟨_, pe_callB hc bt.gl bt.mg hv pa_wp hn hdb he hpl, ?_⟩
  refine h F as σ H R E _ fun vs rs g F1 as1 H1 h1 x1 R1 i1 => ?_
  exact h1 F1 as1 H1 vs R1 i1 Q fun v r g' F2 as2 H2 hp x2 R2 i2 => q v r g' F2 as2 H2 hp (x1.trans x2) R2 i2
theorem ee_max2 (hX : Cok X) (bt : Bt X "max") (h : AE X Γ γ [a, b] fun rs g => ∃ i j : Int, rs = [.fz (.int i), .fz (.int j)] ∧ P (.fz (.int (max i j))) g) (hs : starEach [a, b] X.env = (false, eval a X.env) :: starEach [b] X.env := by rfl) (hpl : (backTo pos (starEach [b] X.env)).any (·.1) = false := by rfl) :
    EE X Γ γ (.Call (.Name "max" p) [a, b] [] pos) P :=
  ee_callB (call_max2 hX.calm) bt (by decide +kernel) (fun F as σ H R E Q q => h F as σ H R E Q fun vs rs g F' as' H' ⟨i, j, e, hp⟩ => q vs rs g F' as' H' (fun F as H vs R i' Q q => by
    subst e
    obtain ⟨v, u, rfl, h, h'⟩ := itms2 i'
    refine ⟨i, j, by rw [itm_int.mp h, itm_int.mp h'], ?_⟩
    have e : (if j > i then j else i) = max i j := by omega
    rw [e]
    exact q _ _ _ F as H hp (Ext.refl F as) R (itm_int.mpr rfl))) (he := hs) (hpl := hpl)
theorem ee_min2 (hX : Cok X) (bt : Bt X "min") (h : AE X Γ γ [a, b] fun rs g => ∃ i j : Int, rs = [.fz (.int i), .fz (.int j)] ∧ P (.fz (.int (min i j))) g) (hs : starEach [a, b] X.env = (false, eval a X.env) :: starEach [b] X.env := by rfl) (hpl : (backTo pos (starEach [b] X.env)).any (·.1) = false := by rfl) :
    EE X Γ γ (.Call (.Name "min" p) [a, b] [] pos) P :=
  ee_callB (call_min2 hX.calm) bt (by decide +kernel) (fun F as σ H R E Q q => h F as σ H R E Q fun vs rs g F' as' H' ⟨i, j, e, hp⟩ => q vs rs g F' as' H' (fun F as H vs R i' Q q => by
    subst e
    obtain ⟨v, u, rfl, h, h'⟩ := itms2 i'
    refine ⟨i, j, by rw [itm_int.mp h, itm_int.mp h'], ?_⟩
    have e : (if j < i then j else i) = min i j := by omega
    rw [e]
    exact q _ _ _ F as H hp (Ext.refl F as) R (itm_int.mpr rfl))) (he := hs) (hpl := hpl)
theorem ee_ifx (h : TV X Γ γ c k γ1) (h1 : k = true → EE X Γ γ1 a P) (h2 : k = false → EE X Γ γ1 b P) : EE X Γ γ (.IfExp c a b pos) P := fun F as σ H R E Q q =>
  ⟨_, pe_ifExp pt_wp pe_wp pe_wp, h F as σ H R E _ fun F1 as1 H1 x1 R1 => by
    cases k with
    | true => exact iteT (h1 rfl F1 as1 σ H1 R1 (E.mono x1) Q fun v r g F2 as2 H2 hp x2 R2 i2 => q v r g F2 as2 H2 hp (x1.trans x2) R2 i2)
    | false => exact iteF (h2 rfl F1 as1 σ H1 R1 (E.mono x1) Q fun v r g F2 as2 H2 hp x2 R2 i2 => q v r g F2 as2 H2 hp (x1.trans x2) R2 i2)⟩
end
theorem cut_take {α : Type} (xs : List α) (n : Nat) : PL.cutD xs none (some (n : Int)) = xs.take n := by
  unfold PL.cutD
  rw [HT.sIx_none, HT.sIx_nat, List.drop_zero, Nat.sub_zero]
  rcases Nat.le_total n xs.length with h | h
  · rw [Nat.min_eq_left h]
  · rw [Nat.min_eq_right h, List.take_length, List.take_of_length_le h]
theorem cut_drop {α : Type} (xs : List α) (n : Nat) : PL.cutD xs (some (n : Int)) none = xs.drop n := by
  unfold PL.cutD
  rw [HT.sIx_none, HT.sIx_nat]
  rcases Nat.le_total n xs.length with h | h
  · rw [Nat.min_eq_left h, List.take_of_length_le (by rw [List.length_drop]; exact Nat.le_refl _)]
  · rw [Nat.min_eq_right h, Nat.sub_self, List.drop_eq_nil_of_le h]
    rfl
theorem turned_map {α β : Type} (f : α → β) (b : Bool) (xs : List α) : turned b (xs.map f) = (turned b xs).map f := by cases b <;> simp [turned]
theorem turned_len {α : Type} (b : Bool) (xs : List α) : (turned b xs).length = xs.length := by cases b <;> simp [turned]
theorem turned_mem {α : Type} {b : Bool} {xs : List α} {x : α} : x ∈ turned b xs ↔ x ∈ xs := by cases b <;> simp [turned]
theorem turned_nodup {α : Type} {b : Bool} {xs : List α} (h : xs.Nodup) : (turned b xs).Nodup := by
  cases b with
  | false => exact h
  | true => exact List.pairwise_reverse.mpr (h.imp fun h => Ne.symm h)
theorem zipP_map {α β : Type} (f : α → PyData) (g : β → PyData) (xs : List α) (ys : List β) : zipP (xs.map f) (ys.map g) = (xs.zip ys).map fun q => .tuple [f q.1, g q.2] := by
  unfold zipP
  rw [List.zip_map, List.map_map]
  rfl
end PL

namespace KK
open PySem PySem.Spec PyProof.Rows L2 PL
local macro_rules | `(tactic| tm_at "nm") => `(tactic| with_reducible first | assumption | exact Nm.r (by assumption))
local macro_rules | `(tactic| tm_at "bt") => `(tactic| with_reducible assumption)
local macro_rules | `(tactic| tm_at "asm") => `(tactic| assumption)
local macro_rules | `(tactic| tm_at "auto") => `(tactic| first | rfl | exact fun _ _ => rfl | (intro _; rfl) | decide | exact nomark _ | (with_unfolding_all rfl))
local macro_rules | `(tactic| tm_at "boot") => `(tactic| decide +kernel)
local macro_rules | `(tactic| tm_at "kit") => `(tactic| first | exact kit_int _ | exact kit_bool _ | exact kit_str _ | exact kit_list _ | exact kit_tuple _ | exact kit_dict _)
local macro_rules | `(tactic| tm_at "side") => `(tactic| first | assumption | decide | omega | (simp only [List.length_map, List.length_cons, List.length_nil, List.length_append]; omega) | (simp; done))
local macro_rules | `(tactic| tm_at "pos") => `(tactic| first | decide | assumption | exact Int.pow_pos (by decide) | omega)
local macro_rules | `(tactic| tm_at "mul") => `(tactic| first | assumption | (exact small_mul 200 200 (by omega) (by omega)))
local macro_rules | `(tactic| tm_at "div") => `(tactic| first | assumption | (exact wide_div (b := 200) (by omega) (by omega) (by decide) (by decide)))
local macro_rules | `(tactic| tm_at "pow") => `(tactic| (refine ⟨?_, ?_, ?_⟩ <;> decide))
local macro_rules | `(tactic| tm_at "rd") => `(tactic| first | exact Rdb.fz _ | exact Rdb.cl (by assumption) | exact Rdb.cl rfl)
local macro_rules | `(tactic| tm_at "rdl") => `(tactic| first | exact .inr rfl | exact .inl (by tm_at "rd"))
local macro_rules | `(tactic| tm_at "ix") => `(tactic| first | assumption | exact ix_0 | exact ix_1 | exact ix_2 | exact ix_3 | exact ix_4 | rfl)
local macro_rules | `(tactic| tm_at "cmp") => `(tactic| first | exact cmp_lt | exact cmp_le | exact cmp_gt | exact cmp_ge | exact cmp_eqI | exact cmp_neI | exact cmp_eqS | exact cmp_neS | exact cmp_leS | exact cmp_ltS | exact cmp_inSign | exact cmp_notInSign | exact cmp_isB | exact cmp_notB | exact cmp_isN | exact cmp_notN | exact cmp_eqB | exact cmp_neB)
local macro_rules | `(tactic| tm_at "intro") => `(tactic| (intro _; tm_at "e"))
local macro_rules | `(tactic| tm_at "introe") => `(tactic| (intro _; tm_at "e"))
local macro_rules | `(tactic| tm_at "introw") => `(tactic| (intro _; tm_at "w"))
local macro_rules | `(tactic| tm_at "a") => `(tactic| first
  | exact av_nil
  | (apply av_cons; (focus tm_at "e"); (focus tm_at "a"); (focus tm_at "auto")))
local macro_rules | `(tactic| tm_at "alli") => `(tactic| (repeat (first | exact all_nil | (refine all_cons ⟨_, rfl, ?_, ?_⟩ ?_; (focus omega); (focus omega)))))
local macro_rules | `(tactic| tm_at "afz") => `(tactic| first
  | exact av_nilF
  | (apply av_consF; (focus tm_at "e"); (focus tm_at "afz"); (focus tm_at "auto")))
local macro_rules | `(tactic| tm_at "o") => `(tactic| first
  | exact ov_none
  | (apply ov_some; (focus tm_at "e")))
local macro_rules | `(tactic| tm_at "e") => `(tactic| ((with_reducible show EV _ _ _ (Expr.Tuple _ _ _) _ _); first | (apply ev_tup; (focus tm_at "afz"); (focus tm_at "side"))))
local macro_rules | `(tactic| tm_at "e") => `(tactic| ((with_reducible show EV _ _ _ (Expr.List _ _) _ _); first | (apply ev_lst; (focus tm_at "afz"); (focus tm_at "side"))))
local macro_rules | `(tactic| tm_at "e") => `(tactic| ((with_reducible show EV _ _ _ (Expr.Call (Expr.Attribute _ _ _) _ _ _) _ _); first | (apply ev_join; (focus tm_at "e"); (focus tm_at "e"); (focus tm_at "rd"); (focus tm_at "side"); (focus tm_at "auto"); (focus tm_at "auto"); (focus tm_at "auto"))))
local macro_rules | `(tactic| tm_at "e") => `(tactic| ((with_reducible show EV _ _ _ (Expr.Call (Expr.Name _ _) _ _ _) _ _); first | (apply ev_lenL; (focus tm_at "bt"); (focus tm_at "e"); (focus tm_at "rd"); (focus tm_at "auto")) | (apply ev_lenC; (focus tm_at "bt"); (focus tm_at "e"); (focus tm_at "ix"); (focus tm_at "auto")) | (apply ev_lenT; (focus tm_at "bt"); (focus tm_at "e"); (focus tm_at "auto")) | (apply ev_lenS; (focus tm_at "bt"); (focus tm_at "e"); (focus tm_at "side"); (focus tm_at "auto")) | (apply ev_max2; (focus tm_at "asm"); (focus tm_at "bt"); (focus tm_at "e"); (focus tm_at "e"); (focus tm_at "auto"); (focus tm_at "auto"); (focus tm_at "auto")) | (apply ev_min2; (focus tm_at "asm"); (focus tm_at "bt"); (focus tm_at "e"); (focus tm_at "e"); (focus tm_at "auto"); (focus tm_at "auto"); (focus tm_at "auto")) | (apply ev_intB; (focus tm_at "bt"); (focus tm_at "e"); (focus tm_at "auto")) | (apply ev_intI; (focus tm_at "bt"); (focus tm_at "e"); (focus tm_at "auto")) | (apply ev_abs; (focus tm_at "bt"); (focus tm_at "e"); (focus tm_at "auto")) | (apply ev_sum; (focus tm_at "asm"); (focus tm_at "bt"); (focus tm_at "e"); (focus tm_at "rd"); (focus tm_at "auto")) | (apply ev_listF; (focus tm_at "bt"); (focus tm_at "e"); (focus tm_at "rdl"); (focus tm_at "auto")) | (apply ev_sorted; (focus tm_at "bt"); (focus tm_at "e"); (focus tm_at "rd"); (focus tm_at "auto")) | (apply ev_isi; (focus tm_at "bt"); (focus tm_at "bt"); (focus tm_at "boot"); (focus tm_at "e"); (focus tm_at "rd"); (focus tm_at "kit"); (focus tm_at "auto"); (focus tm_at "auto"); (focus tm_at "auto"); (focus tm_at "auto"); (focus tm_at "auto"))))
local macro_rules | `(tactic| tm_at "e") => `(tactic| ((with_reducible show EV _ _ _ (Expr.BoolOp BoolOp.Or _ _) _ _); first | (apply ev_or; (focus tm_at "e"); (focus tm_at "introe"))))
local macro_rules | `(tactic| tm_at "e") => `(tactic| ((with_reducible show EV _ _ _ (Expr.BoolOp BoolOp.And _ _) _ _); first | (apply ev_and; (focus tm_at "e"); (focus tm_at "introe"))))
local macro_rules | `(tactic| tm_at "e") => `(tactic| ((with_reducible show EV _ _ _ (Expr.BoolOp _ [_] _) _ _); first | (apply ev_one; (focus tm_at "e"))))
local macro_rules | `(tactic| tm_at "e") => `(tactic| ((with_reducible show EV _ _ _ (Expr.IfExp _ _ _ _) _ _); first | (apply ev_ifx; (focus tm_at "t"); (focus tm_at "intro"); (focus tm_at "intro"))))
local macro_rules | `(tactic| tm_at "e") => `(tactic| ((with_reducible show EV _ _ _ (Expr.Compare _ [_, _] [_, _] _) _ _); first | (apply ev_chain2; (focus tm_at "e"); (focus tm_at "e"); (focus tm_at "cmp"); (focus tm_at "e"); (focus tm_at "cmp"); (focus tm_at "auto"))))
local macro_rules | `(tactic| tm_at "e") => `(tactic| ((with_reducible show EV _ _ _ (Expr.Compare _ [_] [_] _) _ _); first | (apply ev_cmp; (focus tm_at "e"); (focus tm_at "e"); (focus tm_at "cmp"); (focus tm_at "auto"))))
local macro_rules | `(tactic| tm_at "e") => `(tactic| ((with_reducible show EV _ _ _ (Expr.UnaryOp UnaryOp.Not _ _) _ _); first | (apply ev_not; (focus tm_at "e"))))
local macro_rules | `(tactic| tm_at "e") => `(tactic| ((with_reducible show EV _ _ _ (Expr.UnaryOp UnaryOp.USub _ _) _ _); first | (apply ev_neg; (focus tm_at "e"))))
local macro_rules | `(tactic| tm_at "e") => `(tactic| ((with_reducible show EV _ _ _ (Expr.Subscript _ _ _) _ _); first | (apply ev_ixL; (focus tm_at "e"); (focus tm_at "e"); (focus tm_at "rd"); (focus tm_at "ix"); (focus tm_at "auto")) | (apply ev_ixT; (focus tm_at "e"); (focus tm_at "e"); (focus tm_at "ix"); (focus tm_at "auto")) | (apply ev_ixC; (focus tm_at "e"); (focus tm_at "e"); (focus tm_at "ix"); (focus tm_at "ix"); (focus tm_at "auto")) | (apply ev_ixP; (focus tm_at "e"); (focus tm_at "e"); (focus tm_at "ix"); (focus tm_at "auto")) | (apply ev_ixS; (focus tm_at "e"); (focus tm_at "e"); (focus tm_at "side"); (focus tm_at "asm"); (focus tm_at "auto"))))
local macro_rules | `(tactic| tm_at "e") => `(tactic| ((with_reducible show EV _ _ _ (Expr.Subscript _ (Expr.Slice _ _ _ _) _) _ _); first | (apply ev_slL; (focus tm_at "e"); (focus tm_at "o"); (focus tm_at "o"); (focus tm_at "rd")) | (apply ev_slT; (focus tm_at "e"); (focus tm_at "o"); (focus tm_at "o"); (focus tm_at "side")) | (apply ev_slS; (focus tm_at "e"); (focus tm_at "o"); (focus tm_at "o"); (focus tm_at "side"))))
local macro_rules | `(tactic| tm_at "e") => `(tactic| ((with_reducible show EV _ _ _ (Expr.BinOp _ Operator.Pow _ _) _ _); first | (apply ev_pow; (focus tm_at "e"); (focus tm_at "e"); (focus tm_at "pow"))))
local macro_rules | `(tactic| tm_at "e") => `(tactic| ((with_reducible show EV _ _ _ (Expr.BinOp _ Operator.FloorDiv _ _) _ _); first | (apply ev_div; (focus tm_at "e"); (focus tm_at "e"); (focus tm_at "div"))))
local macro_rules | `(tactic| tm_at "e") => `(tactic| ((with_reducible show EV _ _ _ (Expr.BinOp _ Operator.Mod _ _) _ _); first | (apply ev_mod; (focus tm_at "e"); (focus tm_at "e"); (focus tm_at "pos"))))
local macro_rules | `(tactic| tm_at "e") => `(tactic| ((with_reducible show EV _ _ _ (Expr.BinOp _ Operator.Mult _ _) _ _); first | (apply ev_mul; (focus tm_at "e"); (focus tm_at "e"); (focus tm_at "mul")) | (apply ev_repF; (focus tm_at "afz"); (focus tm_at "e"); (focus tm_at "side"); (focus tm_at "side"); (focus tm_at "side"))))
local macro_rules | `(tactic| tm_at "e") => `(tactic| ((with_reducible show EV _ _ _ (Expr.BinOp _ Operator.Sub _ _) _ _); first | (apply ev_sub; (focus tm_at "e"); (focus tm_at "e"))))
local macro_rules | `(tactic| tm_at "e") => `(tactic| ((with_reducible show EV _ _ _ (Expr.BinOp _ Operator.Add _ _) _ _); first | (apply ev_add; (focus tm_at "e"); (focus tm_at "e")) | (apply ev_catF; (focus tm_at "e"); (focus tm_at "e"); (focus tm_at "rd"); (focus tm_at "rd"); (focus tm_at "side")) | (apply ev_addS; (focus tm_at "e"); (focus tm_at "e"); (focus tm_at "side")) | (apply ev_catT; (focus tm_at "e"); (focus tm_at "e"); (focus tm_at "side"))))
local macro_rules | `(tactic| tm_at "e") => `(tactic| ((with_reducible show EV _ _ _ (Expr.Name _ _) _ _); first | (apply ev_name; (focus tm_at "nm"); (focus rfl))))
local macro_rules | `(tactic| tm_at "e") => `(tactic| ((with_reducible show EV _ _ _ (Expr.Constant _ _ _) _ _); first | exact ev_int | exact ev_bl | exact ev_str | exact ev_non))
local macro_rules | `(tactic| tm_at "t") => `(tactic| ((with_reducible show TV _ _ _ _ _ _); first | (apply tv_val; (focus tm_at "e"); (focus tm_at "auto")) | (apply tv_truthL; (focus tm_at "e"); (focus tm_at "rd"); (focus tm_at "auto")) | (apply tv_truthI; (focus tm_at "e"); (focus tm_at "auto"))))
local macro_rules | `(tactic| tm_at "t") => `(tactic| ((with_reducible show TV _ _ _ (Expr.BoolOp _ _ _) _ _); first | (apply tv_w; (focus tm_at "w"))))
local macro_rules | `(tactic| tm_at "t") => `(tactic| ((with_reducible show TV _ _ _ (Expr.UnaryOp UnaryOp.Not _ _) _ _); first | (apply tv_not; (focus tm_at "t"))))
local macro_rules | `(tactic| tm_at "t") => `(tactic| ((with_reducible show TV _ _ _ (Expr.Compare _ [_, _] [_, _] _) _ _); first | (apply tv_chain2; (focus tm_at "e"); (focus tm_at "e"); (focus tm_at "cmp"); (focus tm_at "e"); (focus tm_at "cmp"); (focus tm_at "auto"))))
local macro_rules | `(tactic| tm_at "t") => `(tactic| ((with_reducible show TV _ _ _ (Expr.Compare _ [_] [_] _) _ _); first | (apply tv_cmp; (focus tm_at "e"); (focus tm_at "e"); (focus tm_at "cmp"); (focus tm_at "auto"))))
local macro_rules | `(tactic| tm_at "w") => `(tactic| ((with_reducible show WV _ _ _ (Expr.BoolOp BoolOp.Or _ _) _ _); first | (apply wv_or; (focus tm_at "t"); (focus tm_at "introw"))))
local macro_rules | `(tactic| tm_at "w") => `(tactic| ((with_reducible show WV _ _ _ (Expr.BoolOp BoolOp.And _ _) _ _); first | (apply wv_and; (focus tm_at "t"); (focus tm_at "introw"))))
local macro_rules | `(tactic| tm_at "w") => `(tactic| ((with_reducible show WV _ _ _ (Expr.BoolOp BoolOp.Or [_] _) _ _); first | (apply wv_or1; (focus tm_at "t"))))
local macro_rules | `(tactic| tm_at "w") => `(tactic| ((with_reducible show WV _ _ _ (Expr.BoolOp BoolOp.And [_] _) _ _); first | (apply wv_and1; (focus tm_at "t"))))
local macro_rules | `(tactic| tm_at "ee") => `(tactic| first
  | (apply EE.of; (focus tm_at "e"); try (tm_at "ee"))
  | (refine ee_call' (by assumption) ?_; apply AE.of; (focus tm_at "a"))
  | (with_reducible refine ee_mod ?_; tm_at "ee")
  | (with_reducible refine ee_add ?_; tm_at "ee")
  | (with_reducible refine ee_sub ?_; tm_at "ee")
  | (with_reducible refine ee_mul ?_; tm_at "ee")
  | (with_reducible refine ee_div ?_; tm_at "ee")
  | (with_reducible refine ee_ixL ?_; tm_at "ee")
  | (refine ⟨_, rfl, ?_⟩; tm_at "ee"))

theorem eqv_dP (a b : Pa) : PyData.eqv (dP a) (dP b) = decide (a = b) := by
  obtain ⟨a1, a2⟩ := a
  obtain ⟨b1, b2⟩ := b
  simp only [dP, PyData.eqv, PyData.eqvAll]
  rw [Bool.eq_iff_iff]
  simp
theorem shp_dPs {L : List Pa} (h : ∀ a ∈ L, Lows a.1) : Shp 2 (.list (L.map dP)) := shp_list (n := 1) fun d hd => by
  obtain ⟨a, ha, rfl⟩ := List.mem_map.mp hd
  exact shp_tuple (n := 0) fun e he => by
    simp at he
    rcases he with rfl | rfl
    · exact shp_low (h a ha)
    · exact shp_int _
theorem eqv_two (gs ts : List Pa) : PyData.eqv (.tuple [.list (gs.map dP), .list (ts.map dP)]) (.tuple [.list (gs.map dP), .list (ts.map dP)]) = true := by
  simp only [PyData.eqv, PyData.eqvAll]
  rw [eqvAll_map eqv_dP, eqvAll_map eqv_dP]
  simp
theorem shp_two {gs ts : List Pa} (h : ∀ a ∈ gs, Lows a.1) (h2 : ∀ a ∈ ts, Lows a.1) : Shp 3 (.tuple [.list (gs.map dP), .list (ts.map dP)]) := shp_tuple (n := 2) fun d hd => by
  simp at hd
  rcases hd with rfl | rfl
  · exact shp_dPs h
  · exact shp_dPs h2
theorem eqv_dJ {gs ts : List Pa} (rs : List Rw) : PyData.eqv (.list (rs.map (dJ gs ts))) (.list (rs.map (dJ gs ts))) = true := by
  have e : rs.map (dJ gs ts) = (rs.map fun r => (nm gs r.1, nm ts r.2.1, r.2.2)).map fun t : Str × Str × Int => PyData.tuple [.str t.1, .str t.2.1, .int t.2.2] := by rw [List.map_map]; rfl
  rw [e, eqv_list (fun a b => ?_)]
  · simp
  · obtain ⟨a1, a2, a3⟩ := a
    obtain ⟨b1, b2, b3⟩ := b
    simp only [PyData.eqv, PyData.eqvAll]
    rw [Bool.eq_iff_iff]
    simp
def S_law : PSpec := fun args γ P => ∃ ns : List Int, args = [.fz (.list (ns.map .int))] ∧ γ = [] ∧ ns.length ≤ 63 ∧ P (.fz (.bool true)) []
theorem len_law {args γ P} (h : S_law args γ P) : args.length = 1 := by obtain ⟨a, rfl, _⟩ := h; rfl
theorem zip_fst {α β : Type} (xs : List α) (ys : List β) (h : xs.length ≤ ys.length) : (xs.zip ys).map (·.1) = xs := List.map_fst_zip h
theorem zip_snd {α β : Type} (xs : List α) (ys : List β) (h : ys.length ≤ xs.length) : (xs.zip ys).map (·.2) = ys := List.map_snd_zip h
theorem nms_zip {zs : List Str} {ps : List Int} (hn : zs.Nodup) (hl : ∀ z ∈ zs, Lows z) : Nms (zs.zip ps) := by
  constructor
  · have : ((zs.zip ps).map (·.1)).Sublist zs := by
      rcases Nat.le_total zs.length ps.length with h | h
      · rw [zip_fst _ _ h]; exact List.Sublist.refl _
      · have e : zs.zip ps = (zs.take ps.length).zip ps := by rw [List.zip_eq_zip_take_min]; simp [Nat.min_eq_right h]
        rw [e, zip_fst _ _ (by rw [List.length_take]; exact Nat.min_le_left _ _)]
        exact List.take_sublist _ _
    exact this.nodup hn
  · intro a ha
    exact hl _ (List.of_mem_zip ha).1
set_option maxHeartbeats 16000000 in
theorem body_law {P : Program} {w : World} {K : PySem.W.Frag} {mg : Str → Option Value} {base : Heap} (g0 : G0 mg)
    (D_paired : FnD P w K mg base "paired" 1 S_paired)
    (D_draw : FnD P w K mg base "_law_draw" 1 S_draw)
    (D_names : FnD P w K mg base "_law_names" 2 S_names)
    (D_hours : FnD P w K mg base "_law_hours" 2 S_hours)
    (D_parts : FnD P w K mg base "_law_parts" 2 S_parts)
    (D_good : FnD P w K mg base "_law_good" 2 S_good)
    {X : Cx} (c : Ctx X P w K mg base N_law (defScope s_law) 2) {args : List Itm} {γ : Cells} {Po : EPost} (hγ : Clo γ) (hS : S_law args γ Po) :
    SVs X (slots0 N_law args) γ (defBody s_law) { nx := fun _ g => PL.Fin γ.length Po (.fz .none) g, rt := PL.Fin γ.length Po } := by
  have hX := c.ok
  have hp := c.po
  have v0 : Nm X "_law_script" 0 .local := c.nm 0 .local rfl (by decide +kernel) (.inl rfl) (by decide +kernel) (by decide +kernel)
  have v1 : Nm X "_law_m" 1 .local := c.nm 1 .local rfl (by decide +kernel) (.inl rfl) (by decide +kernel) (by decide +kernel)
  have v2 : Nm X "_law_names_here" 2 .local := c.nm 2 .local rfl (by decide +kernel) (.inl rfl) (by decide +kernel) (by decide +kernel)
  have v3 : Nm X "_law_k" 3 .local := c.nm 3 .local rfl (by decide +kernel) (.inl rfl) (by decide +kernel) (by decide +kernel)
  have v4 : Nm X "_law_many" 4 .local := c.nm 4 .local rfl (by decide +kernel) (.inl rfl) (by decide +kernel) (by decide +kernel)
  have v5 : Nm X "_law_more" 5 .local := c.nm 5 .local rfl (by decide +kernel) (.inl rfl) (by decide +kernel) (by decide +kernel)
  have v6 : Nm X "_law_total" 6 .local := c.nm 6 .local rfl (by decide +kernel) (.inl rfl) (by decide +kernel) (by decide +kernel)
  have v7 : Nm X "_law_order" 7 .local := c.nm 7 .local rfl (by decide +kernel) (.inl rfl) (by decide +kernel) (by decide +kernel)
  have v8 : Nm X "_law_givers" 8 .local := c.nm 8 .local rfl (by decide +kernel) (.inl rfl) (by decide +kernel) (by decide +kernel)
  have v9 : Nm X "_law_takers" 9 .local := c.nm 9 .local rfl (by decide +kernel) (.inl rfl) (by decide +kernel) (by decide +kernel)
  have v10 : Nm X "_law_handed" 10 .local := c.nm 10 .local rfl (by decide +kernel) (.inl rfl) (by decide +kernel) (by decide +kernel)
  have v11 : Nm X "_law_found" 11 .local := c.nm 11 .local rfl (by decide +kernel) (.inl rfl) (by decide +kernel) (by decide +kernel)
  have v12 : Nm X "_law_kept" 12 .local := c.nm 12 .local rfl (by decide +kernel) (.inl rfl) (by decide +kernel) (by decide +kernel)
  have k_names : Cal X "_law_names" S_names := c.cal D_names (by decide) (by decide +kernel) (by decide +kernel)
  have b_range : Bt X "range" := c.bt (by decide +kernel) g0.b_range
  have b_max : Bt X "max" := c.bt (by decide +kernel) g0.b_max
  have b_len : Bt X "len" := c.bt (by decide +kernel) g0.b_len
  have k_draw : Cal X "_law_draw" S_draw := c.cal D_draw (by decide) (by decide +kernel) (by decide +kernel)
  have k_hours : Cal X "_law_hours" S_hours := c.cal D_hours (by decide) (by decide +kernel) (by decide +kernel)
  have b_int : Bt X "int" := c.bt (by decide +kernel) g0.b_int
  have b_list : Bt X "list" := c.bt (by decide +kernel) g0.b_list
  have b_zip : Bt X "zip" := c.bt (by decide +kernel) g0.b_zip
  have k_parts : Cal X "_law_parts" S_parts := c.cal D_parts (by decide) (by decide +kernel) (by decide +kernel)
  have k_paired : Cal X "paired" S_paired := c.cal D_paired (by decide) (by decide +kernel) (by decide +kernel)
  have k_good : Cal X "_law_good" S_good := c.cal D_good (by decide) (by decide +kernel) (by decide +kernel)
  obtain ⟨ns, rfl, rfl, hn, hP⟩ := hS
  have hFin : ∀ junk : Cells, PL.Fin 0 Po (.fz (.bool true)) junk := fun junk => fin_junk (γ := []) hγ hP
  have h00 : ∀ ex : Cells, 0 < (Cell.dead :: ex).length := fun ex => by simp
  apply svs_setE hX v1
  refine EE.of (ev_disp (prs := [(kScr, .fz (.list (ns.map .int))), (kAt, .fz (.int 0))]) (pv_cons ev_str rfl (ev_name v0.r rfl) (pv_cons ev_str rfl ev_int pv_nil)) rfl) ?_
  have e0 : ([] ++ [Cell.dic []]).set ([] : Cells).length (.dic (mergeI [] [(kScr, .fz (.list (ns.map .int))), (kAt, .fz (.int 0))])) = dm ns [.dead] 0 0 := by
    have : mergeI [] [(kScr, .fz (.list (ns.map .int))), (kAt, .fz (.int 0))] = [(kScr, .fz (.list (ns.map .int))), (kAt, .fz (.int 0))] := by
      have : ¬ (kScr = kAt) := kne'
      simp only [mergeI, List.foldl_cons, List.foldl_nil]
      unfold putI
      simp [this]
    rw [this]
    rfl
  rw [e0]
  apply svs_setE hX v2
  refine ee_call' k_names (AE.of (γ1 := dm ns [.dead] 0 0) (rs := [.cl 0, .fz (.int 24)]) (by tm_at "a") ⟨ns, 0, [.dead], 0, 0, rfl, hn, rfl, h00 _, by decide, by decide, by decide, fun zs k1 hzl hzn hzo h10 h11 => ?_⟩)
  refine svs_for hX hp (itv_range1 (n := max 1 ((ns.map PyData.int).length : Int)) b_range (by tm_at "e") (by simp; omega) (by simp; omega))
    (fun i Γ' g => ∃ (k : Int) (ex : Cells) (s3 s4 s5 s6 s7 s8 s9 s10 s11 s12 : Option Itm), Γ' = [some (.fz (.list (ns.map .int))), some (.cl 0), some (.fz (.list (zs.map .str))), s3, s4, s5, s6, s7, s8, s9, s10, s11, s12] ∧ g = dm ns (.dead :: ex) 0 k ∧ 0 ≤ k ∧ k ≤ 3 + 100 * (i : Int))
    ⟨k1, [], _, _, _, _, _, _, _, _, _, _, rfl, rfl, h10, by omega⟩ (fun _ _ _ _ _ => trivial) ?_ ?_
  · rintro i x Γ' g hx ⟨k, ex, s3, s4, s5, s6, s7, s8, s9, s10, s11, s12, rfl, rfl, hk0, hk1⟩
    obtain ⟨hi, rfl⟩ := rngL_get hx
    have hi63 : i < 63 := by simp at hi; omega
    have h0 := h00 ex
    refine ⟨_, _, gv_name hX v3, ?_⟩
    -- many
    apply svs_setE hX v4
    tm_at "ee"
    refine use_draw (3 + 100 * (i : Int)) hn h0 hk0 hk1 (by omega) (by decide) fun many k2 hm0 hm1 h20 h21 => ?_
    obtain ⟨n, rfl⟩ : ∃ n : Nat, many = (n : Int) := ⟨many.toNat, by omega⟩
    -- more
    apply svs_setE hX v5
    refine EE.imp (ee_ifx (P := fun r g => ∃ (mo : Nat) (k3 : Int), r = .fz (.int (mo : Int)) ∧ g = dm ns (.dead :: ex) 0 k3 ∧ mo ≤ 12 ∧ (0 < n → 0 < mo) ∧ (n = 0 → mo = 0) ∧ 0 ≤ k3 ∧ k3 ≤ 3 + 100 * (i : Int) + 2) (k := decide ((0 : Int) < (n : Int))) (by tm_at "t") (fun h => ?_) (fun h => ?_)) ?_
    · have h := of_decide_eq_true h
      tm_at "ee"
      refine ⟨_, rfl, ?_⟩
      tm_at "ee"
      refine use_draw (3 + 100 * (i : Int) + 1) hn h0 h20 h21 (by omega) (by decide) fun d k3 hd0 hd1 h30 h31 => ⟨d, rfl, (1 + d).toNat, k3, ?_, rfl, by omega, fun _ => by omega, fun _ => by omega, h30, by omega⟩
      rw [show ((1 + d).toNat : Int) = 1 + d by omega]
    · have h := of_decide_eq_false h
      exact EE.of ev_int ⟨0, k2, rfl, rfl, by omega, fun _ => by omega, fun _ => rfl, h20, by omega⟩
    rintro _ _ ⟨mo, k3, rfl, rfl, hmo, hmo1, hmo2, h30, h31⟩
    -- total
    apply svs_setE hX v6
    refine EE.imp (P := fun r g => ∃ (tl k4 : Int), r = .fz (.int tl) ∧ g = dm ns (.dead :: ex) 0 k4 ∧ (0 < n → 12 ≤ tl) ∧ tl ≤ 1000000000000000000000000000000 ∧ 0 ≤ k4 ∧ k4 ≤ 3 + 100 * (i : Int) + 4) (ee_mul (ee_max2 hX b_max (ae_cons (EE.of ev_int (ae_cons (ee_call' k_hours (AE.of (rs := [.cl 0]) (γ1 := dm ns (.dead :: ex) 0 k3) (by tm_at "a") ⟨ns, 0, .dead :: ex, k3, 3 + 100 * (i : Int) + 2, rfl, hn, rfl, h0, h30, h31, by omega, fun h k4 hh0 hh1 h40 h41 => ae_nil ⟨12, h, rfl, _, rfl, ?_⟩⟩))))))) ?_
    · refine EE.of (ev_intB b_int (k := decide ((0 : Int) < (n : Int))) (ev_cmp (ev_name v4.r rfl) ev_int cmp_gt)) ⟨_, rfl, ?_, _, k4, rfl, rfl, fun hn0 => ?_, ?_, h40, by omega⟩
      · exact small_mul 200 200 (by omega) (by split <;> decide)
      · rw [if_pos (decide_eq_true (by omega))]; omega
      · split <;> omega
    rintro _ _ ⟨tl, k4, rfl, rfl, ht0, ht1, h40, h41⟩
    -- order
    apply svs_setE hX v7
    refine ee_turn (EE.of (ev_name v2.r rfl) (ee_sub (EE.of ev_int ⟨1, rfl, ee_mul (EE.of ev_int ⟨2, rfl, ?_⟩)⟩)))
    tm_at "ee"
    refine use_draw (3 + 100 * (i : Int) + 4) hn h0 h40 h41 (by omega) (by decide) fun d k5 hd0 hd1 h50 h51 => ⟨d, rfl, small_mul 200 200 (by decide) (by omega), _, rfl, zs.map .str, decide (d = 1), Rdb.fz _, ?_, ?_⟩
    · rcases (show d = 0 ∨ d = 1 by omega) with h | h <;> subst h <;> rfl
    rw [turned_map]
    have hol : (turned (decide (d = 1)) zs).length = 24 := by rw [turned_len]; exact hzl
    have hon : (turned (decide (d = 1)) zs).Nodup := turned_nodup hzn
    have hoo : ∀ z ∈ turned (decide (d = 1)) zs, Lows z := fun z hz => hzo z (turned_mem.mp hz)
    generalize turned (decide (d = 1)) zs = os at hol hon hoo ⊢
    -- givers
    apply svs_setE hX v8
    refine ee_listZip hX b_list b_zip (ae_cons (EE.of (ev_slL (ev_name v7.r rfl) ov_none (ov_some (ev_name v4.r rfl)) (Rdb.fz _)) (ae_cons (ee_call' k_parts (AE.of (rs := [.cl 0, .fz (.int tl), .fz (.int (n : Int))]) (γ1 := dm ns (.dead :: ex) 0 k5) (by tm_at "a") ⟨ns, 0, .dead :: ex, k5, 3 + 100 * (i : Int) + 5, tl, (n : Int), rfl, hn, rfl, h0, h50, by omega, by omega, by omega, by omega, fun h => by have := ht0 (by omega); omega, ht1, fun ps k6 hpl hp1 hps h60 h61 => ae_nil ⟨_, _, _, _, rfl, Rdb.fz _, Rdb.fz _, ?_, ?_⟩⟩)))))
    · have := cutD_length (os.map PyData.str) none (some (n : Int)); simp at this ⊢; omega
    rw [cut_take, ← List.map_take, zipP_map]
    -- takers
    apply svs_setE hX v9
    refine ee_listZip hX b_list b_zip (ae_cons (EE.of (ev_slL (ev_name v7.r rfl) (ov_some (ev_name v4.r rfl)) ov_none (Rdb.fz _)) (ae_cons (ee_call' k_parts (AE.of (rs := [.cl 0, .fz (.int tl), .fz (.int (mo : Int))]) (γ1 := dm ns (.dead :: ex) 0 k6) (by tm_at "a") ⟨ns, 0, .dead :: ex, k6, 3 + 100 * (i : Int) + 45, tl, (mo : Int), rfl, hn, rfl, h0, h60, by omega, by omega, by omega, by omega, fun h => ?_, ht1, fun qs k7 hql hq1 hqs h70 h71 => ae_nil ⟨_, _, _, _, rfl, Rdb.fz _, Rdb.fz _, ?_, ?_⟩⟩)))))
    · have : 0 < n := by
        rcases Nat.eq_zero_or_pos n with h0 | h0
        · have := hmo2 h0; omega
        · exact h0
      have := ht0 this
      omega
    · have := cutD_length (os.map PyData.str) (some (n : Int)) none; simp at this ⊢; omega
    rw [cut_drop, ← List.map_drop, zipP_map]
    have eg : ((os.take n).zip ps).map (fun q => PyData.tuple [.str q.1, .int q.2]) = ((os.take n).zip ps).map dP := rfl
    have et : ((os.drop n).zip qs).map (fun q => PyData.tuple [.str q.1, .int q.2]) = ((os.drop n).zip qs).map dP := rfl
    rw [eg, et]
    have hT : Two ((os.take n).zip ps) ((os.drop n).zip qs) := by
      have e1 : hr ((os.take n).zip ps) = ps := zip_snd _ _ (by simp; omega)
      have e2 : hr ((os.drop n).zip qs) = qs := zip_snd _ _ (by simp; omega)
      refine ⟨by simp; omega, by simp; omega, by rw [e1]; exact hp1, by rw [e2]; exact hq1, ?_⟩
      rw [e1, e2, hps, hqs]
      by_cases h : 0 < n
      · rw [if_pos (by omega), if_pos (by have := hmo1 h; omega)]
      · rw [if_neg (by omega), if_neg (by have := hmo2 (by omega); omega)]
    have hG : Nms ((os.take n).zip ps) := nms_zip ((List.take_sublist n os).nodup hon) fun z hz => hoo z (List.mem_of_mem_take hz)
    have hU : Nms ((os.drop n).zip qs) := nms_zip ((List.drop_sublist n os).nodup hon) fun z hz => hoo z (List.mem_of_mem_drop hz)
    generalize (os.take n).zip ps = gs at hT hG ⊢
    generalize (os.drop n).zip qs = ts at hT hU ⊢
    -- handed
    apply svs_setE hX v10
    refine EE.of (ev_tup (ds := [.list (gs.map dP), .list (ts.map dP)]) (av_consF (ev_listF (ds := gs.map dP) b_list (ev_name v8.r rfl) (.inl (Rdb.fz _))) (av_consF (ev_listF (ds := ts.map dP) b_list (ev_name v9.r rfl) (.inl (Rdb.fz _))) av_nilF))) ?_
    apply svs_setE hX v11
    refine ee_call' k_paired (AE.of (γ1 := dm ns (.dead :: ex) 0 k7) (rs := [.fz (.list (gs.map dP)), .fz (.list (ts.map dP))]) (av_cons (ev_ixT (ds := [.list (gs.map dP), .list (ts.map dP)]) (ev_name v10.r rfl) ev_int ix_0) (av_cons (ev_ixT (ds := [.list (gs.map dP), .list (ts.map dP)]) (ev_name v10.r rfl) ev_int ix_1) av_nil)) ⟨_, _, gs, ts, rfl, rfl, rfl, hT, fun o _ => ?_⟩)
    rw [dm_len]
    have hcell := c2_1 (dm ns (.dead :: ex) 0 k7) o (cJ gs ts (whole gs ts))
    have hset := fun o' => c2_s1 (dm ns (.dead :: ex) 0 k7) o (cJ gs ts (whole gs ts)) o'
    rw [dm_len] at hcell hset
    have h24 := whole_len gs ts hT
    generalize hgg : dm ns (.dead :: ex) 0 k7 ++ [o, cJ gs ts (whole gs ts)] = gg at hcell hset ⊢
    refine svs_if (k := false) (TV.is (tv_w (wv_or (tv_not (tv_val (ev_call k_good (av_cons (ev_name v11.r rfl) (av_cons (ev_name v8.r rfl) (av_cons (ev_name v9.r rfl) av_nil))) ⟨_, gs, ts, rfl, Rdb.cl hcell, hT, hG, hU, rfl, rfl⟩))) fun _ => wv_or1 (tv_cmp (ev_name v10.r rfl) (ev_tup (ds := [.list (gs.map dP), .list (ts.map dP)]) (av_consF (ev_name v8.r rfl) (av_consF (ev_name v9.r rfl) av_nilF))) (cmp_neD hX (Rdb.fz _) (Rdb.fz _) (shp_two hG.low hU.low).shaped (shp_two hG.low hU.low).shaped)))) (by rw [eqv_two]; rfl)) (fun h => by cases h) (fun _ => svs_nil ?_)
    apply svs_setE hX v12
    refine EE.of (ev_listF (ds := (whole gs ts).map (dJ gs ts)) b_list (ev_name v11.r rfl) (.inl (Rdb.cl hcell))) ?_
    refine svs_exprE (EE.of (ev_append (ev_name v11.r rfl) ev_non ⟨_, hcell⟩ hcell (by simp; omega)) ?_)
    rw [hset]
    apply svs_ifP
    refine tp_cmp ?_
    refine ee_call' k_paired (AE.of (rs := [.fz (.list (gs.map dP)), .fz (.list (ts.map dP))]) (av_cons (ev_ixT (ds := [.list (gs.map dP), .list (ts.map dP)]) (ev_name v10.r rfl) ev_int ix_0) (av_cons (ev_ixT (ds := [.list (gs.map dP), .list (ts.map dP)]) (ev_name v10.r rfl) ev_int ix_1) av_nil)) ⟨_, _, gs, ts, rfl, rfl, rfl, hT, fun o2 _ => ?_⟩)
    have hcell2 := c2_1 (dm ns (.dead :: ex) 0 k7 ++ [o, Cell.lst (((whole gs ts).map (dJ gs ts)).map Itm.fz ++ [Itm.fz .none])]) o2 (cJ gs ts (whole gs ts))
    have shJ : SeqAt.shaped (.list ((whole gs ts).map (dJ gs ts))) = true := (shp_list (n := 1) fun d hd => by
      obtain ⟨r, hr, rfl⟩ := List.mem_map.mp hd
      obtain ⟨h1, h2⟩ := whole_lt hr
      exact shp_tuple (n := 0) fun e he => by
        simp at he
        rcases he with rfl | rfl | rfl
        · exact shp_low (hG.lowAt h1)
        · exact shp_low (hU.lowAt h2)
        · exact shp_int _).shaped
    refine EE.of (ev_name v12.r rfl) ⟨_, cmp_neD hX (Rdb.cl hcell2) (Rdb.fz _) shJ shJ, fun h => ?_, fun _ => svs_nil (svs_nil ⟨k7, ex ++ [o, Cell.lst (((whole gs ts).map (dJ gs ts)).map Itm.fz ++ [Itm.fz .none])] ++ [o2, cJ gs ts (whole gs ts)], _, _, _, _, _, _, _, _, _, _, rfl, ?_, h70, by omega⟩)⟩
    · rw [eqv_dJ] at h; cases h
    · rw [dm_app ns h0, dm_app ns (by rw [List.length_append]; omega)]
      rfl
  · rintro Γ' g ⟨k, ex, s3, s4, s5, s6, s7, s8, s9, s10, s11, s12, rfl, rfl, hk0, hk1⟩
    apply svs_retE
    refine ee_cmp (ee_call' k_paired (AE.of (rs := [.fz (.list ([].map dP)), .fz (.list ([].map dP))]) (γ1 := dm ns (.dead :: ex) 0 k) (av_cons (ev_lst (ds := []) av_nil) (av_cons (ev_lst (ds := []) av_nil) av_nil)) ⟨_, _, [], [], rfl, rfl, rfl, ⟨by decide, by decide, by simp [hr], by simp [hr], rfl⟩, fun o _ => ?_⟩))
    have hcell := c2_1 (dm ns (.dead :: ex) 0 k) o (cJ [] [] (whole [] []))
    have hw0 : whole [] [] = [] := by unfold whole; rw [show M9.num 0 (hr []) = [] from rfl, M9.pr]
    rw [hw0] at hcell ⊢
    refine EE.of (ev_lst (ds := []) av_nil) ⟨_, cmp_eqD hX (Rdb.cl (ds := []) hcell) (Rdb.fz _) (shp_list (n := 0) (by simp)).shaped (shp_list (n := 0) (by simp)).shaped, ?_⟩
    rw [show PyData.eqv (.list []) (.list []) = true by simp [PyData.eqv, PyData.eqvAll]]
    exact hFin _
theorem ok_law {P : Program} {w : World} {K : PySem.W.Frag} {mg : Str → Option Value} {base : Heap} (g0 : G0 mg)
    (D_paired : FnD P w K mg base "paired" 1 S_paired)
    (D_draw : FnD P w K mg base "_law_draw" 1 S_draw)
    (D_names : FnD P w K mg base "_law_names" 2 S_names)
    (D_hours : FnD P w K mg base "_law_hours" 2 S_hours)
    (D_parts : FnD P w K mg base "_law_parts" 2 S_parts)
    (D_good : FnD P w K mg base "_law_good" 2 S_good)
    {f : Addr} {fd : FuncData} (F : Fun K "law" "law" s_law f fd) (hm : mg "law" = some (.ref f)) : FnD P w K mg base "law" 3 S_law :=
  def_ok F sc_law hm (F.binds (ps := ["_law_script"]) fun _ _ _ _ _ _ us hl => match us, hl with | [_], _ => rfl) (fun args γ P h => len_law h)
    fun X c args γ Po hγ hS => body_law g0 D_paired D_draw D_names D_hours D_parts D_good c hγ hS
end KK

namespace KK
open PySem PySem.Spec PyProof.Rows L2 PL
def spLaw (K : PySem.W.Frag) : Sp := fun vs H Q _ => ∃ (a : Addr) (ns : List Int), vs = [.ref a] ∧ SqL K H a (ns.map V.int) ∧ ns.length ≤ 63 ∧ ∀ H', Q (.bl true) H'
theorem law_sp {K : PySem.W.Frag} (vs : List V) (H : Hp) (Q : VK) (E : XK) (h : spLaw K vs H Q E) : spPL K S_law vs H Q E := by
  obtain ⟨a, ns, rfl, hS, hl, hq⟩ := h
  refine ⟨H, [], [], [.fz (.list (ns.map .int))], fun r g => r = .fz (.bool true), ⟨fun _ _ h => h, by simp, rfl, by simp, fun c o h => by simp at h⟩, .cons (itm_lst.mpr ⟨a, ns.map V.int, rfl, hS, dpAll_ints ns⟩) .nil, ⟨ns, rfl, rfl, hl, rfl⟩, ?_⟩
  rintro v r g F' as' H' rfl x R i
  rw [itm_bl.mp i]
  exact hq H'
theorem law_fn {P : Program} {w : World} {K : PySem.W.Frag} {mg : Str → Option Value} {base : Heap} {qual x : Str} {st : Stmt} {f : Addr} {fd : FuncData} {N ps : List Str} {k : Nat} {S : PSpec} {sp : Sp} (F : Fun K x qual st f fd) (SC : FnScope N ps (defScope st))
    (len : ∀ args γ P, S args γ P → args.length = ps.length)
    (body : ∀ X : Cx, PL.Ctx X P w K mg base N (defScope st) k → ∀ args γ Po, Clo γ → S args γ Po → SVs X (slots0 N args) γ (defBody st) { nx := fun _ g => PL.Fin γ.length Po (.fz .none) g, rt := PL.Fin γ.length Po })
    (hsp : ∀ vs H Q E, sp vs H Q E → spPL K S vs H Q E) : FnOk P w K mg base CX0 (k + 1) f fd ps sp := by
  refine FnOk.imp (sp := spPL K S) (F.ok SC (fun vs H Q E h => ?_) (fun cdv A outer s H vs Q E hr h => ?_)) hsp
  · obtain ⟨F, as, γ, args, Po, R, i, hs, _⟩ := h
    rw [← itms_length i]
    exact len _ _ _ hs
  · obtain ⟨F', as, γ, args, Po, R, i, hs, q⟩ := h
    refine ⟨_, pss_wp, ?_⟩
    have c : PL.Ctx (cxOf CX0 P w K mg base N qual (defScope st) f cdv A outer s H E).nox P w K mg base N (defScope st) k :=
      ⟨rfl, rfl, rfl, rfl, rfl, rfl, rfl, rfl, ⟨rfl, SC.nd, SC.kind, by have := hr.un; show (A.deeper (envOfC qual (defScope st) s.heap.objs.size f cdv)).units + 100 < cLine; omega⟩, hr, PassesOwn.never⟩
    refine body _ c args γ Po R.clo hs F' as (start N vs) H _ R (env_start i) ⟨fun Γ' g F1 as1 σ1 H1 hn x1 R1 E1 => ?_, fun r g F1 as1 v H1 hn x1 R1 i1 => ?_, fun _ _ _ _ _ _ z => z.elim, fun _ _ _ _ _ _ z => z.elim⟩
    · obtain ⟨g', junk, rfl, hl, hc, hi, hp⟩ := hn
      refine q _ _ g' F1 (as1.take g'.length) H1 hp ⟨x1.1, ?_⟩ (R1.cut hc) (itm_non.mpr rfl)
      obtain ⟨_, t, rfl⟩ := x1
      rw [List.take_append, List.take_of_length_le (by rw [R.len]; exact hl)]
      exact ⟨_, rfl⟩
    · obtain ⟨g', junk, rfl, hl, hc, hi, hp⟩ := hn
      refine q _ _ g' F1 (as1.take g'.length) H1 hp ⟨x1.1, ?_⟩ (R1.cut hc) (itm_cut i1 hi)
      obtain ⟨_, t, rfl⟩ := x1
      rw [List.take_append, List.take_of_length_le (by rw [R.len]; exact hl)]
      exact ⟨_, rfl⟩
theorem all_mk {l : PySem.W.OpenLaw} {w : World} {K : PySem.W.Frag} {h : Heap} {mg : Str → Option Value} {fa f0 f1 f2 f3 f4 f5 f6 f7 : Addr} (X : K.In h) (G : h.Ns mainGlobals mg) (hfa : mg "law" = some (.ref fa))
    {od0 an0 od1 an1 od2 an2 od3 an3 od4 an4 od5 an5 od6 an6 od7 an7 : Option Addr} {sl0 sl1 sl2 sl3 sl4 sl5 sl6 sl7 : Array (Option Value)} {oc0 kV0 dc0 pm0 cd0 ct0 oc1 kV1 dc1 pm1 cd1 ct1 oc2 kV2 dc2 pm2 cd2 ct2 oc3 kV3 dc3 pm3 cd3 ct3 oc4 kV4 dc4 pm4 cd4 ct4 oc5 kV5 dc5 pm5 cd5 ct5 oc6 kV6 dc6 pm6 cd6 ct6 oc7 kV7 dc7 pm7 cd7 ct7 : Value}
    (a0 : PySem.W.nsIn K mainGlobals "paired" = some (some (.ref f0))) (l0 : K.lookup f0 = some ⟨oc0, od0, .func (PySem.W.fnOf "paired" "paired" (defArgs s_paired) (defBody s_paired) (defScope s_paired) .none kV0 dc0 pm0 an0 cd0 ct0), sl0⟩) (c0 : PySem.W.codeIn K cd0 "paired" = true) (k0 : PySem.W.keepIn K (.ref f0) = true)
    (a1 : PySem.W.nsIn K mainGlobals "_law_draw" = some (some (.ref f1))) (l1 : K.lookup f1 = some ⟨oc1, od1, .func (PySem.W.fnOf "_law_draw" "_law_draw" (defArgs s_draw) (defBody s_draw) (defScope s_draw) .none kV1 dc1 pm1 an1 cd1 ct1), sl1⟩) (c1 : PySem.W.codeIn K cd1 "_law_draw" = true) (k1 : PySem.W.keepIn K (.ref f1) = true)
    (a2 : PySem.W.nsIn K mainGlobals "_law_names" = some (some (.ref f2))) (l2 : K.lookup f2 = some ⟨oc2, od2, .func (PySem.W.fnOf "_law_names" "_law_names" (defArgs s_names) (defBody s_names) (defScope s_names) .none kV2 dc2 pm2 an2 cd2 ct2), sl2⟩) (c2 : PySem.W.codeIn K cd2 "_law_names" = true) (k2 : PySem.W.keepIn K (.ref f2) = true)
    (a3 : PySem.W.nsIn K mainGlobals "_law_hours" = some (some (.ref f3))) (l3 : K.lookup f3 = some ⟨oc3, od3, .func (PySem.W.fnOf "_law_hours" "_law_hours" (defArgs s_hours) (defBody s_hours) (defScope s_hours) .none kV3 dc3 pm3 an3 cd3 ct3), sl3⟩) (c3 : PySem.W.codeIn K cd3 "_law_hours" = true) (k3 : PySem.W.keepIn K (.ref f3) = true)
    (a4 : PySem.W.nsIn K mainGlobals "_law_parts" = some (some (.ref f4))) (l4 : K.lookup f4 = some ⟨oc4, od4, .func (PySem.W.fnOf "_law_parts" "_law_parts" (defArgs s_parts) (defBody s_parts) (defScope s_parts) .none kV4 dc4 pm4 an4 cd4 ct4), sl4⟩) (c4 : PySem.W.codeIn K cd4 "_law_parts" = true) (k4 : PySem.W.keepIn K (.ref f4) = true)
    (a5 : PySem.W.nsIn K mainGlobals "_law_shared" = some (some (.ref f5))) (l5 : K.lookup f5 = some ⟨oc5, od5, .func (PySem.W.fnOf "_law_shared" "_law_shared" (defArgs s_shared) (defBody s_shared) (defScope s_shared) .none kV5 dc5 pm5 an5 cd5 ct5), sl5⟩) (c5 : PySem.W.codeIn K cd5 "_law_shared" = true) (k5 : PySem.W.keepIn K (.ref f5) = true)
    (a6 : PySem.W.nsIn K mainGlobals "_law_good" = some (some (.ref f6))) (l6 : K.lookup f6 = some ⟨oc6, od6, .func (PySem.W.fnOf "_law_good" "_law_good" (defArgs s_good) (defBody s_good) (defScope s_good) .none kV6 dc6 pm6 an6 cd6 ct6), sl6⟩) (c6 : PySem.W.codeIn K cd6 "_law_good" = true) (k6 : PySem.W.keepIn K (.ref f6) = true)
    (a7 : PySem.W.nsIn K mainGlobals "law" = some (some (.ref f7))) (l7 : K.lookup f7 = some ⟨oc7, od7, .func (PySem.W.fnOf "law" "law" (defArgs s_law) (defBody s_law) (defScope s_law) .none kV7 dc7 pm7 an7 cd7 ct7), sl7⟩) (c7 : PySem.W.codeIn K cd7 "law" = true) (k7 : PySem.W.keepIn K (.ref f7) = true)
    (z_all : PySem.W.nsIn K mainGlobals "all" = some none)
    (z_bool : PySem.W.nsIn K mainGlobals "bool" = some none)
    (z_int : PySem.W.nsIn K mainGlobals "int" = some none)
    (z_isinstance : PySem.W.nsIn K mainGlobals "isinstance" = some none)
    (z_len : PySem.W.nsIn K mainGlobals "len" = some none)
    (z_list : PySem.W.nsIn K mainGlobals "list" = some none)
    (z_max : PySem.W.nsIn K mainGlobals "max" = some none)
    (z_min : PySem.W.nsIn K mainGlobals "min" = some none)
    (z_range : PySem.W.nsIn K mainGlobals "range" = some none)
    (z_set : PySem.W.nsIn K mainGlobals "set" = some none)
    (z_sorted : PySem.W.nsIn K mainGlobals "sorted" = some none)
    (z_sum : PySem.W.nsIn K mainGlobals "sum" = some none)
    (z_tuple : PySem.W.nsIn K mainGlobals "tuple" = some none)
    (z_zip : PySem.W.nsIn K mainGlobals "zip" = some none)
    : ∃ fd : FuncData, (∀ (s : Shared) (v : Value), BindsTo s fd ⟨[v], []⟩ [("_law_script", v)]) ∧ ∀ base : Heap, K.In base → base.Ns mainGlobals mg → FnOk l.prog w K mg base CX0 3 fa fd ["_law_script"] (spLaw K) := by
  have e := hfa.symm.trans (PySem.W.mg_of X G a7)
  cases e
  have g0 : G0 mg := ⟨PySem.W.mg_none_of X G z_all, PySem.W.mg_none_of X G z_bool, PySem.W.mg_none_of X G z_int, PySem.W.mg_none_of X G z_isinstance, PySem.W.mg_none_of X G z_len, PySem.W.mg_none_of X G z_list, PySem.W.mg_none_of X G z_max, PySem.W.mg_none_of X G z_min, PySem.W.mg_none_of X G z_range, PySem.W.mg_none_of X G z_set, PySem.W.mg_none_of X G z_sorted, PySem.W.mg_none_of X G z_sum, PySem.W.mg_none_of X G z_tuple, PySem.W.mg_none_of X G z_zip⟩
  refine ⟨PySem.W.fnOf "law" "law" (defArgs s_law) (defBody s_law) (defScope s_law) .none kV7 dc7 pm7 an7 cd7 ct7, fun s v => .of_eq rfl, fun base _ _ => ?_⟩
  have D_paired : FnD l.prog w K mg base "paired" 1 S_paired := ok_paired g0  (fun_mk (st := s_paired) l0 c0 k0) (PySem.W.mg_of X G a0)
  have D_draw : FnD l.prog w K mg base "_law_draw" 1 S_draw := ok_draw g0  (fun_mk (st := s_draw) l1 c1 k1) (PySem.W.mg_of X G a1)
  have D_names : FnD l.prog w K mg base "_law_names" 2 S_names := ok_names g0 D_draw (fun_mk (st := s_names) l2 c2 k2) (PySem.W.mg_of X G a2)
  have D_hours : FnD l.prog w K mg base "_law_hours" 2 S_hours := ok_hours g0 D_draw (fun_mk (st := s_hours) l3 c3 k3) (PySem.W.mg_of X G a3)
  have D_parts : FnD l.prog w K mg base "_law_parts" 2 S_parts := ok_parts g0 D_draw (fun_mk (st := s_parts) l4 c4 k4) (PySem.W.mg_of X G a4)
  have D_shared : FnD l.prog w K mg base "_law_shared" 1 S_shared := ok_shared g0  (fun_mk (st := s_shared) l5 c5 k5) (PySem.W.mg_of X G a5)
  have D_good : FnD l.prog w K mg base "_law_good" 2 S_good := ok_good g0 D_shared (fun_mk (st := s_good) l6 c6 k6) (PySem.W.mg_of X G a6)
  exact law_fn (F := fun_mk (st := s_law) l7 c7 k7) sc_law (fun args γ P h => len_law h) (fun X c args γ Po hγ hS => body_law g0 D_paired D_draw D_names D_hours D_parts D_good c hγ hS) law_sp
end KK
open PySem PySem.W PyProof.Rows in
set_option maxRecDepth 100000 in
set_option maxHeartbeats 0 in
theorem PySem.Challenge.cw_hourring_k09_givers_and_takers_paired_holds : PySem.Challenge.rw_hourring_k09_givers_and_takers_paired.Holds := by
  w_on; o_law; k_head; (case hw => w_witness2)
  k_fill
  refine L2.walk_of (l := PySem.Challenge.rw_hourring_k09_givers_and_takers_paired) (n := 63) (k := 3) (x := "_law_script") (CX := fun _ => L2.CX0) (sp := fun w => KK.spLaw _) rfl (by decide) rfl ⟨rfl, by decide, by decide⟩ (fun w h Y => PySem.W.kIn_of Y) ?F (fun _ _ a ns hl _ hS => ⟨a, ns, rfl, hS, hl, fun _ => rfl⟩) (fun _ _ _ _ _ h => h)
  case F =>
    intro w mg fa h KX G hmg
    refine' KK.all_mk KX G hmg ?a0 ?l0 ?c0 ?k0 ?a1 ?l1 ?c1 ?k1 ?a2 ?l2 ?c2 ?k2 ?a3 ?l3 ?c3 ?k3 ?a4 ?l4 ?c4 ?k4 ?a5 ?l5 ?c5 ?k5 ?a6 ?l6 ?c6 ?k6 ?a7 ?l7 ?c7 ?k7 ?z_all ?z_bool ?z_int ?z_isinstance ?z_len ?z_list ?z_max ?z_min ?z_range ?z_set ?z_sorted ?z_sum ?z_tuple ?z_zip
    (case a0 => k_is)
    (case l0 => k_is)
    (case c0 => k_is)
    (case k0 => k_is)
    (case a1 => k_is)
    (case l1 => k_is)
    (case c1 => k_is)
    (case k1 => k_is)
    (case a2 => k_is)
    (case l2 => k_is)
    (case c2 => k_is)
    (case k2 => k_is)
    (case a3 => k_is)
    (case l3 => k_is)
    (case c3 => k_is)
    (case k3 => k_is)
    (case a4 => k_is)
    (case l4 => k_is)
    (case c4 => k_is)
    (case k4 => k_is)
    (case a5 => k_is)
    (case l5 => k_is)
    (case c5 => k_is)
    (case k5 => k_is)
    (case a6 => k_is)
    (case l6 => k_is)
    (case c6 => k_is)
    (case k6 => k_is)
    (case a7 => k_is)
    (case l7 => k_is)
    (case c7 => k_is)
    (case k7 => k_is)
    (case z_all => k_is)
    (case z_bool => k_is)
    (case z_int => k_is)
    (case z_isinstance => k_is)
    (case z_len => k_is)
    (case z_list => k_is)
    (case z_max => k_is)
    (case z_min => k_is)
    (case z_range => k_is)
    (case z_set => k_is)
    (case z_sorted => k_is)
    (case z_sum => k_is)
    (case z_tuple => k_is)
    (case z_zip => k_is)

