import PyProof.Rows.All
import Wide.All
import OpenK.AllK
import Wide.FinOn
import HandS.ForMost
import HandS.ForExc
import HandS.Wide
import HandS.Flow
import HandS.Deep
import HandS.IsInst
import HandS.Style
import HandS.SortInts
import HandS.TupSets
import HandS.DictComp
import HandS.SetBool
import HandS.SetKeys
import HandS.TryOnly
import KE.KDictZip
import HandS.DictSubView
import KE.KDictPairs
import KE.KDictCopyH
import PyProof.MaxThree
import PySem.Challenge.RW_hourring_k02_exchanges_told
set_option Elab.async false
set_option linter.all false
set_option maxRecDepth 100000
namespace PL
open PySem PySem.Spec PyProof.Rows L2

/-! ### data, items, cells -/
inductive Itm where
  | fz (d : PyData)
  | cl (c : Nat)
  | tp (xs : List Itm)
inductive Cell where
  | lst (xs : List Itm)
  | dic (kvs : List (Key × Itm))
  | dit (kvs : List (List Key × Itm))
  | ins (C : Addr) (fs : List (Str × Itm))
  | raw (f : Addr → HO)
  | dead
abbrev Slots := List (Option Itm)
abbrev Cells := List Cell
abbrev EPost := Itm → Cells → Prop

section
variable {K : PySem.W.Frag}
theorem same_rd {F F' : Hp} {a : Addr} {u : HO} (e : Same F F') (h : Rd F a u) : Rd F' a u := by
  rcases h with h | ⟨o, h⟩
  · exact .inl (e a _ h)
  · exact .inr ⟨o, e a _ h⟩
theorem same_l {F F' : Hp} {a : Addr} {xs : List V} (e : Same F F') (h : SqL K F a xs) : SqL K F' a xs := h.imp (same_rd e) id
theorem same_t {F F' : Hp} {a : Addr} {xs : List V} (e : Same F F') (h : SqT K F a xs) : SqT K F' a xs := h.imp (same_rd e) id
mutual
/-- data that lies in the heap: its tuples are ones that no one froze; one empty dict -/
inductive Dq (K : PySem.W.Frag) (H : Hp) : V → PyData → Prop
  | non : Dq K H .non .none
  | bl (b : Bool) : Dq K H (.bl b) (.bool b)
  | int (i : Int) : Dq K H (.int i) (.int i)
  | str (x : Str) : Dq K H (.str x) (.str x)
  | lst {a : Addr} {vs : List V} {ds : List PyData} : SqL K H a vs → DqAll K H vs ds → Dq K H (.ref a) (.list ds)
  | tup {a : Addr} {vs : List V} {ds : List PyData} : H a = some (.tup vs) → DqAll K H vs ds → Dq K H (.ref a) (.tuple ds)
  | emp {a : Addr} : H a = some (.dK []) → Dq K H (.ref a) (.dict [])
inductive DqAll (K : PySem.W.Frag) (H : Hp) : List V → List PyData → Prop
  | nil : DqAll K H [] []
  | cons {v : V} {d : PyData} {vs : List V} {ds : List PyData} : Dq K H v d → DqAll K H vs ds → DqAll K H (v :: vs) (d :: ds)
end
mutual
theorem Dq.dp {H : Hp} : ∀ {v : V} {d : PyData}, Dq K H v d → d.canLay0 = true → Dp K H v d
  | _, _, .non, _ => .non
  | _, _, .bl b, _ => .bl b
  | _, _, .int i, _ => .int i
  | _, _, .str x, _ => .str x
  | _, _, .lst h r, l => .lst h (r.dp (by simpa [PyData.canLay0] using l))
  | _, _, .tup h r, l => .tup (SqT.of h) (r.dp (by simpa [PyData.canLay0] using l))
  | _, _, .emp h, l => by simp [PyData.canLay0] at l
theorem DqAll.dp {H : Hp} : ∀ {vs : List V} {ds : List PyData}, DqAll K H vs ds → PyData.canLayAll0 ds = true → DpAll K H vs ds
  | _, _, .nil, _ => .nil
  | _, _, .cons h r, l => by
    simp only [PyData.canLayAll0, Bool.and_eq_true] at l
    exact .cons (h.dp l.1) (r.dp l.2)
end
theorem shaped_lay {d : PyData} (h : SeqAt.shaped d = true) : d.canLay0 = true := by
  have h' : (d.canLay0 && decide (d.depth ≤ 64)) = true := h
  rw [Bool.and_eq_true] at h'
  exact h'.1
mutual
theorem dp_mono {F F' : Hp} (e : Same F F') : ∀ {v : V} {d : PyData}, Dq K F v d → Dq K F' v d
  | _, _, .non => .non
  | _, _, .bl b => .bl b
  | _, _, .int i => .int i
  | _, _, .str x => .str x
  | _, _, .lst h r => .lst (same_l e h) (dpAll_mono e r)
  | _, _, .tup h r => .tup (e _ _ h) (dpAll_mono e r)
  | _, _, .emp h => .emp (e _ _ h)
theorem dpAll_mono {F F' : Hp} (e : Same F F') : ∀ {vs : List V} {ds : List PyData}, DqAll K F vs ds → DqAll K F' vs ds
  | _, _, .nil => .nil
  | _, _, .cons h r => .cons (dp_mono e h) (dpAll_mono e r)
end
end

mutual
inductive ItmR (K : PySem.W.Frag) (F : Hp) (as : List Addr) : Itm → V → Prop
  | fz {d : PyData} {v : V} : Dq K F v d → ItmR K F as (.fz d) v
  | cl {c : Nat} {a : Addr} : as[c]? = some a → ItmR K F as (.cl c) (.ref a)
  | tp {a : Addr} {vs : List V} {xs : List Itm} : F a = some (.tup vs) → ItmsR K F as xs vs → ItmR K F as (.tp xs) (.ref a)
inductive ItmsR (K : PySem.W.Frag) (F : Hp) (as : List Addr) : List Itm → List V → Prop
  | nil : ItmsR K F as [] []
  | cons {x : Itm} {v : V} {xs : List Itm} {vs : List V} : ItmR K F as x v → ItmsR K F as xs vs → ItmsR K F as (x :: xs) (v :: vs)
end
def Ext (F : Hp) (as : List Addr) (F' : Hp) (as' : List Addr) : Prop := Same F F' ∧ ∃ t, as' = as ++ t
theorem Ext.refl (F : Hp) (as : List Addr) : Ext F as F as := ⟨Same.refl F, [], by simp⟩
theorem Ext.trans {F as F1 as1 F2 as2} (a : Ext F as F1 as1) (b : Ext F1 as1 F2 as2) : Ext F as F2 as2 := by
  obtain ⟨s1, t1, rfl⟩ := a
  obtain ⟨s2, t2, rfl⟩ := b
  exact ⟨s1.trans s2, t1 ++ t2, by simp⟩
theorem Ext.get {F as F' as'} (e : Ext F as F' as') {c : Nat} {a : Addr} (h : as[c]? = some a) : as'[c]? = some a := by
  obtain ⟨_, t, rfl⟩ := e
  have := (List.getElem?_eq_some_iff.mp h).1
  rw [List.getElem?_append_left this]
  exact h
section
variable {K : PySem.W.Frag} {F F' : Hp} {as as' : List Addr}
mutual
theorem itm_mono (e : Ext F as F' as') : ∀ {x : Itm} {v : V}, ItmR K F as x v → ItmR K F' as' x v
  | _, _, .fz h => .fz (dp_mono e.1 h)
  | _, _, .cl h => .cl (e.get h)
  | _, _, .tp h r => .tp (e.1 _ _ h) (itms_mono e r)
theorem itms_mono (e : Ext F as F' as') : ∀ {xs : List Itm} {vs : List V}, ItmsR K F as xs vs → ItmsR K F' as' xs vs
  | _, _, .nil => .nil
  | _, _, .cons h r => .cons (itm_mono e h) (itms_mono e r)
end
def SlotR (K : PySem.W.Frag) (F : Hp) (as : List Addr) : Option Itm → Option V → Prop
  | none, _ => True
  | some i, o => ∃ v, o = some v ∧ ItmR K F as i v
theorem slot_mono (e : Ext F as F' as') {x : Option Itm} {o : Option V} (h : SlotR K F as x o) : SlotR K F' as' x o := by
  cases x with
  | none => trivial
  | some i => obtain ⟨v, h1, h2⟩ := h; exact ⟨v, h1, itm_mono e h2⟩
def CellR (K : PySem.W.Frag) (F : Hp) (as : List Addr) (H : Hp) (a : Addr) : Cell → Prop
  | .lst xs => ∃ vs, H a = some (.lst vs) ∧ ItmsR K F as xs vs
  | .dic kvs => ∃ ks, H a = some (.dK ks) ∧ Paired (fun (p : Key × Itm) (q : Key × V) => p.1 = q.1 ∧ ItmR K F as p.2 q.2) kvs ks
  | .dit kvs => ∃ ks, H a = some (.dT ks) ∧ Paired (fun (p : List Key × Itm) (q : List Key × V) => p.1 = q.1 ∧ ItmR K F as p.2 q.2) kvs ks
  | .ins C fs => ∃ dx gs, H a = some (.ins C dx gs) ∧ Paired (fun (p : Str × Itm) (q : Str × V) => p.1 = q.1 ∧ ItmR K F as p.2 q.2) fs gs
  | .raw f => H a = some (f a) ∧ ∀ vs, f a ≠ .tup vs
  | .dead => True
theorem paired_mono {α : Type} (e : Ext F as F' as') : ∀ {xs : List (α × Itm)} {ys : List (α × V)}, Paired (fun (p : α × Itm) (q : α × V) => p.1 = q.1 ∧ ItmR K F as p.2 q.2) xs ys → Paired (fun (p : α × Itm) (q : α × V) => p.1 = q.1 ∧ ItmR K F' as' p.2 q.2) xs ys
  | _, _, .nil => .nil
  | _, _, .cons h r => .cons ⟨h.1, itm_mono e h.2⟩ (paired_mono e r)
theorem cell_mono (e : Ext F as F' as') {H H' : Hp} {a : Addr} {o : Cell} (hH : o ≠ .dead → H' a = H a) (h : CellR K F as H a o) : CellR K F' as' H' a o := by
  cases o with
  | lst xs => obtain ⟨vs, h1, h2⟩ := h; exact ⟨vs, by rw [hH (by simp)]; exact h1, itms_mono e h2⟩
  | dic xs => obtain ⟨vs, h1, h2⟩ := h; exact ⟨vs, by rw [hH (by simp)]; exact h1, paired_mono e h2⟩
  | dit xs => obtain ⟨vs, h1, h2⟩ := h; exact ⟨vs, by rw [hH (by simp)]; exact h1, paired_mono e h2⟩
  | ins C xs => obtain ⟨dx, vs, h1, h2⟩ := h; exact ⟨dx, vs, by rw [hH (by simp)]; exact h1, paired_mono e h2⟩
  | raw f => exact ⟨by rw [hH (by simp)]; exact h.1, h.2⟩
  | dead => trivial
end

/-- the abstract heap H: F frozen, the cells γ at the addresses as -/
structure Rep (K : PySem.W.Frag) (F : Hp) (as : List Addr) (γ : Cells) (H : Hp) : Prop where
  fr : Same F H
  nd : as.Nodup
  len : as.length = γ.length
  th : ∀ a ∈ as, ∃ o, H a = some o
  at_ : ∀ (c : Nat) (o : Cell), γ[c]? = some o → ∃ a, as[c]? = some a ∧ (o ≠ .dead → F a = none) ∧ CellR K F as H a o
def EnvR (K : PySem.W.Frag) (F : Hp) (as : List Addr) (Γ : Slots) (σ : L2.St) : Prop := Γ.length = σ.length ∧ ∀ (i : Nat) (x : Itm), Γ[i]? = some (some x) → ∃ v, σ[i]? = some (some v) ∧ ItmR K F as x v
section
variable {K : PySem.W.Frag} {F F' : Hp} {as as' : List Addr} {γ γ' : Cells} {H H' : Hp} {Γ : Slots} {σ : L2.St}
theorem EnvR.mono (h : EnvR K F as Γ σ) (e : Ext F as F' as') : EnvR K F' as' Γ σ := ⟨h.1, fun i x q => let ⟨v, a, b⟩ := h.2 i x q; ⟨v, a, itm_mono e b⟩⟩
theorem EnvR.set (h : EnvR K F as Γ σ) {i : Nat} {x : Itm} {v : V} (r : ItmR K F as x v) : EnvR K F as (Γ.set i (some x)) (σ.set i (some v)) := by
  refine ⟨by simpa using h.1, fun j y q => ?_⟩
  by_cases hj : i = j
  · subst hj
    by_cases hl : i < Γ.length
    · rw [List.getElem?_set_self hl] at q
      obtain rfl : x = y := by simpa using q
      exact ⟨v, by rw [List.getElem?_set_self (h.1 ▸ hl)], r⟩
    · rw [List.getElem?_eq_none (by simpa using hl)] at q
      cases q
  · rw [List.getElem?_set_ne hj] at q
    obtain ⟨w, a, b⟩ := h.2 j y q
    exact ⟨w, by rw [List.getElem?_set_ne hj]; exact a, b⟩
theorem EnvR.unset (h : EnvR K F as Γ σ) {i : Nat} : EnvR K F as (Γ.set i none) (σ.set i none) := by
  refine ⟨by simpa using h.1, fun j y q => ?_⟩
  by_cases hj : i = j
  · subst hj
    by_cases hl : i < Γ.length
    · rw [List.getElem?_set_self hl] at q; cases q
    · rw [List.getElem?_eq_none (by simpa using hl)] at q; cases q
  · rw [List.getElem?_set_ne hj] at q
    obtain ⟨w, a, b⟩ := h.2 j y q
    exact ⟨w, by rw [List.getElem?_set_ne hj]; exact a, b⟩
/-- forgetting what a slot holds -/
theorem EnvR.weak (h : EnvR K F as Γ σ) {Γ' : Slots} (hl : Γ'.length = Γ.length) (w : ∀ (i : Nat) (x : Itm), Γ'[i]? = some (some x) → Γ[i]? = some (some x)) : EnvR K F as Γ' σ := ⟨hl.trans h.1, fun i x q => h.2 i x (w i x q)⟩
theorem ne_none_of {a : Addr} {o : HO} (h : F a = some o) (h' : F a = none) : False := by rw [h] at h'; cases h'
/-- a frozen object more -/
theorem Rep.new (R : Rep K F as γ H) {p : Addr} (o : HO) (hp : H p = none) : Rep K (upd F p o) as γ (upd H p o) := by
  have hF : F p = none := by
    cases q : F p with
    | none => rfl
    | some u => rw [R.fr p u q] at hp; cases hp
  have sm : Same F (upd F p o) := fun b u e => by rw [upd_ne (ne_of_none e hF)]; exact e
  refine ⟨fun b u e => ?_, R.nd, R.len, fun a ha => ?_, fun c cell q => ?_⟩
  · by_cases hb : b = p
    · subst hb; rw [upd_same] at e ⊢; exact e
    · rw [upd_ne hb] at e ⊢; exact R.fr b u e
  · obtain ⟨o', h'⟩ := R.th a ha
    exact ⟨o', by rw [upd_ne (ne_of_none h' hp)]; exact h'⟩
  · obtain ⟨a, h1, h2, h3⟩ := R.at_ c cell q
    have hne : cell ≠ .dead → a ≠ p := fun hd e => by
      subst e
      cases cell with
      | dead => exact hd rfl
      | lst xs => obtain ⟨vs, h4, _⟩ := h3; exact ne_none_of h4 hp
      | dic xs => obtain ⟨vs, h4, _⟩ := h3; exact ne_none_of h4 hp
      | dit xs => obtain ⟨vs, h4, _⟩ := h3; exact ne_none_of h4 hp
      | ins C xs => obtain ⟨dx, vs, h4, _⟩ := h3; exact ne_none_of h4 hp
      | raw f => exact ne_none_of h3.1 hp
    exact ⟨a, h1, fun hd => by rw [upd_ne (hne hd)]; exact h2 hd, cell_mono ⟨sm, [], by simp⟩ (fun hd => upd_ne (hne hd)) h3⟩
theorem Rep.sameNew (R : Rep K F as γ H) {p : Addr} (o : HO) (hp : H p = none) : Same F (upd F p o) := fun b u e => by
  have hF : F p = none := by
    cases q : F p with
    | none => rfl
    | some u => rw [R.fr p u q] at hp; cases hp
  rw [upd_ne (ne_of_none e hF)]; exact e
/-- a cell more -/
theorem Rep.newCell (R : Rep K F as γ H) {p : Addr} {o : HO} {cell : Cell} (hp : H p = none) (hc : CellR K F (as ++ [p]) (upd H p o) p cell) : Rep K F (as ++ [p]) (γ ++ [cell]) (upd H p o) := by
  have hF : F p = none := by
    cases q : F p with
    | none => rfl
    | some u => rw [R.fr p u q] at hp; cases hp
  have hnd : p ∉ as := fun hm => by
    obtain ⟨o', h'⟩ := R.th p hm
    exact ne_none_of h' hp
  refine ⟨fun b u e => by rw [upd_ne (ne_of_none e hF)]; exact R.fr b u e, List.nodup_append.mpr ⟨R.nd, by simp, fun a ha b hb e => hnd (by simp at hb; rw [← hb, ← e]; exact ha)⟩, by simp [R.len], fun a ha => ?_, fun c cl q => ?_⟩
  · rcases List.mem_append.mp ha with ha | ha
    · obtain ⟨o', h'⟩ := R.th a ha
      exact ⟨o', by rw [upd_ne (ne_of_none h' hp)]; exact h'⟩
    · obtain rfl : a = p := by simpa using ha
      exact ⟨o, upd_same⟩
  by_cases hl : c < γ.length
  · rw [List.getElem?_append_left hl] at q
    obtain ⟨a, h1, h2, h3⟩ := R.at_ c cl q
    have hap : a ≠ p := fun e => hnd (e ▸ List.mem_of_getElem? h1)
    exact ⟨a, Ext.get (F := F) (F' := F) ⟨Same.refl F, [p], rfl⟩ h1, h2, cell_mono ⟨Same.refl F, [p], rfl⟩ (fun _ => upd_ne hap) h3⟩
  · have hc' : c = γ.length := by
      have h := (List.getElem?_eq_some_iff.mp q).1
      simp at h
      omega
    subst hc'
    rw [List.getElem?_append_right (Nat.le_refl _)] at q
    simp at q
    subst q
    refine ⟨p, by rw [← R.len, List.getElem?_append_right (Nat.le_refl _)]; simp, fun _ => hF, hc⟩
/-- a cell's object is changed -/
theorem Rep.write (R : Rep K F as γ H) {c : Nat} {a : Addr} {old cell : Cell} {o : HO} (hg : γ[c]? = some old) (hd : old ≠ .dead) (ha : as[c]? = some a) (hc : CellR K F as (upd H a o) a cell) : Rep K F as (γ.set c cell) (upd H a o) := by
  obtain ⟨a', h1, h2, _⟩ := R.at_ c old hg
  rw [ha] at h1
  cases h1
  have hF := h2 hd
  refine ⟨fun b u e => by rw [upd_ne (ne_of_none e hF)]; exact R.fr b u e, R.nd, by simpa using R.len, fun b hb => ?_, fun c' cl q => ?_⟩
  · by_cases hba : b = a
    · exact ⟨o, by rw [hba]; exact upd_same⟩
    · rw [upd_ne hba]; exact R.th b hb
  by_cases hcc : c = c'
  · subst hcc
    rw [List.getElem?_set_self (List.getElem?_eq_some_iff.mp hg).1] at q
    cases q
    exact ⟨a, ha, fun _ => hF, hc⟩
  · rw [List.getElem?_set_ne hcc] at q
    obtain ⟨b, h1, h2, h3⟩ := R.at_ c' cl q
    have hne : b ≠ a := fun e => by
      subst e
      obtain ⟨p1, e1⟩ := List.getElem?_eq_some_iff.mp ha
      obtain ⟨p2, e2⟩ := List.getElem?_eq_some_iff.mp h1
      exact hcc ((List.getElem_inj R.nd).mp (e1.trans e2.symm))
    exact ⟨b, h1, h2, cell_mono (Ext.refl F as) (fun _ => upd_ne hne) h3⟩
/-- a cell is frozen: it is never written again -/
theorem Rep.freeze (R : Rep K F as γ H) {c : Nat} {a : Addr} {old : Cell} {o : HO} (hg : γ[c]? = some old) (hd : old ≠ .dead) (ha : as[c]? = some a) (ho : H a = some o) : Rep K (upd F a o) as (γ.set c .dead) H ∧ Same F (upd F a o) := by
  obtain ⟨a', h1, h2, _⟩ := R.at_ c old hg
  rw [ha] at h1
  cases h1
  have hF := h2 hd
  have sm : Same F (upd F a o) := fun b u e => by rw [upd_ne (ne_of_none e hF)]; exact e
  refine ⟨⟨fun b u e => ?_, R.nd, by simpa using R.len, R.th, fun c' cl q => ?_⟩, sm⟩
  · by_cases hb : b = a
    · subst hb; rw [upd_same] at e; rw [← e]; exact ho
    · rw [upd_ne hb] at e; exact R.fr b u e
  · by_cases hcc : c = c'
    · subst hcc
      rw [List.getElem?_set_self (List.getElem?_eq_some_iff.mp hg).1] at q
      cases q
      exact ⟨a, ha, fun z => (z rfl).elim, trivial⟩
    · rw [List.getElem?_set_ne hcc] at q
      obtain ⟨b, h1, h2, h3⟩ := R.at_ c' cl q
      have hne : b ≠ a := fun e => by
        subst e
        obtain ⟨p1, e1⟩ := List.getElem?_eq_some_iff.mp ha
        obtain ⟨p2, e2⟩ := List.getElem?_eq_some_iff.mp h1
        exact hcc ((List.getElem_inj R.nd).mp (e1.trans e2.symm))
      exact ⟨b, h1, fun z => by rw [upd_ne hne]; exact h2 z, cell_mono ⟨sm, [], by simp⟩ (fun _ => rfl) h3⟩
theorem Rep.cellAt (R : Rep K F as γ H) {c : Nat} {o : Cell} (hg : γ[c]? = some o) : ∃ a, as[c]? = some a ∧ CellR K F as H a o := let ⟨a, h1, _, h3⟩ := R.at_ c o hg; ⟨a, h1, h3⟩
end
/-! ### values of frozen data -/
section
variable {K : PySem.W.Frag} {F : Hp} {as : List Addr} {v : V}
theorem itm_int {i : Int} : ItmR K F as (.fz (.int i)) v ↔ v = .int i := ⟨fun h => by cases h with | fz h => cases h; rfl, fun h => h ▸ .fz (.int i)⟩
theorem itm_bl {b : Bool} : ItmR K F as (.fz (.bool b)) v ↔ v = .bl b := ⟨fun h => by cases h with | fz h => cases h; rfl, fun h => h ▸ .fz (.bl b)⟩
theorem itm_str {x : Str} : ItmR K F as (.fz (.str x)) v ↔ v = .str x := ⟨fun h => by cases h with | fz h => cases h; rfl, fun h => h ▸ .fz (.str x)⟩
theorem itm_non : ItmR K F as (.fz .none) v ↔ v = .non := ⟨fun h => by cases h with | fz h => cases h; rfl, fun h => h ▸ .fz .non⟩
theorem itm_lst {ds : List PyData} : ItmR K F as (.fz (.list ds)) v ↔ ∃ a vs, v = .ref a ∧ SqL K F a vs ∧ DqAll K F vs ds :=
  ⟨fun h => by cases h with | fz h => cases h with | lst h r => exact ⟨_, _, rfl, h, r⟩, fun ⟨a, vs, e, h, r⟩ => e ▸ .fz (.lst h r)⟩
theorem itm_tup {ds : List PyData} : ItmR K F as (.fz (.tuple ds)) v ↔ ∃ a vs, v = .ref a ∧ F a = some (.tup vs) ∧ DqAll K F vs ds :=
  ⟨fun h => by cases h with | fz h => cases h with | tup h r => exact ⟨_, _, rfl, h, r⟩, fun ⟨a, vs, e, h, r⟩ => e ▸ .fz (.tup h r)⟩
theorem itm_cl {c : Nat} : ItmR K F as (.cl c) v ↔ ∃ a, as[c]? = some a ∧ v = .ref a := ⟨fun h => by cases h with | cl h => exact ⟨_, h, rfl⟩, fun ⟨a, h, e⟩ => e ▸ .cl h⟩
theorem itm_fz {d : PyData} : ItmR K F as (.fz d) v ↔ Dq K F v d := ⟨fun h => by cases h with | fz h => exact h, .fz⟩
theorem dpAll_length : ∀ {vs : List V} {ds : List PyData}, DqAll K F vs ds → vs.length = ds.length
  | _, _, .nil => rfl
  | _, _, .cons _ r => by simp [dpAll_length r]
theorem dpAll_get : ∀ {vs : List V} {ds : List PyData} {i : Nat} {d : PyData}, DqAll K F vs ds → ds[i]? = some d → ∃ v, vs[i]? = some v ∧ Dq K F v d
  | _, _, _, _, .nil, e => by simp at e
  | _, _, 0, _, .cons h _, e => by simp at e; subst e; exact ⟨_, rfl, h⟩
  | _, _, i + 1, d, .cons _ r, e => by
    obtain ⟨v, h1, h2⟩ := dpAll_get (i := i) (d := d) r (by simpa using e)
    exact ⟨v, by simpa using h1, h2⟩
theorem dpAll_get' : ∀ {vs : List V} {ds : List PyData} {i : Nat} {v : V}, DqAll K F vs ds → vs[i]? = some v → ∃ d, ds[i]? = some d ∧ Dq K F v d
  | _, _, _, _, .nil, e => by simp at e
  | _, _, 0, _, .cons h _, e => by simp at e; subst e; exact ⟨_, rfl, h⟩
  | _, _, i + 1, v, .cons _ r, e => by
    obtain ⟨d, h1, h2⟩ := dpAll_get' (i := i) (v := v) r (by simpa using e)
    exact ⟨d, by simpa using h1, h2⟩
theorem dpAll_append : ∀ {vs ws : List V} {ds es : List PyData}, DqAll K F vs ds → DqAll K F ws es → DqAll K F (vs ++ ws) (ds ++ es)
  | _, _, _, _, .nil, s => s
  | _, _, _, _, .cons h r, s => .cons h (dpAll_append r s)
theorem dpAll_ints : ∀ ns : List Int, DqAll K F (ns.map V.int) (ns.map PyData.int)
  | [] => .nil
  | n :: ns => .cons (.int n) (dpAll_ints ns)
theorem dpAll_ints_inv : ∀ {ns : List Int} {vs : List V}, DqAll K F vs (ns.map PyData.int) → vs = ns.map V.int
  | [], _, h => by cases h; rfl
  | n :: ns, _, h => by
    cases h with
    | cons h r => cases h; rw [dpAll_ints_inv r]; rfl
theorem itms_fz : ∀ {vs : List V} {ds : List PyData}, ItmsR K F as (ds.map Itm.fz) vs → DqAll K F vs ds
  | vs, [], h => by cases h; exact .nil
  | vs, d :: ds, h => by
    cases h with
    | cons h r => exact .cons (itm_fz.mp h) (itms_fz r)
theorem itms_of_dp : ∀ {vs : List V} {ds : List PyData}, DqAll K F vs ds → ItmsR K F as (ds.map Itm.fz) vs
  | _, _, .nil => .nil
  | _, _, .cons h r => .cons (.fz h) (itms_of_dp r)
theorem itms_length : ∀ {xs : List Itm} {vs : List V}, ItmsR K F as xs vs → xs.length = vs.length
  | _, _, .nil => rfl
  | _, _, .cons _ r => by simp [itms_length r]
theorem itms_get : ∀ {xs : List Itm} {vs : List V} {i : Nat} {x : Itm}, ItmsR K F as xs vs → xs[i]? = some x → ∃ v, vs[i]? = some v ∧ ItmR K F as x v
  | _, _, _, _, .nil, e => by simp at e
  | _, _, 0, _, .cons h _, e => by simp at e; subst e; exact ⟨_, rfl, h⟩
  | _, _, i + 1, x, .cons _ r, e => by
    obtain ⟨v, h1, h2⟩ := itms_get (i := i) (x := x) r (by simpa using e)
    exact ⟨v, by simpa using h1, h2⟩
theorem itms_set : ∀ {xs : List Itm} {vs : List V} {x : Itm} {v : V} (i : Nat), ItmsR K F as xs vs → ItmR K F as x v → ItmsR K F as (xs.set i x) (vs.set i v)
  | _, _, _, _, _, .nil, _ => .nil
  | _, _, _, _, 0, .cons _ r, h => .cons h r
  | _, _, _, _, i + 1, .cons q r, h => .cons q (itms_set i r h)
theorem itms_append : ∀ {xs ys : List Itm} {vs ws : List V}, ItmsR K F as xs vs → ItmsR K F as ys ws → ItmsR K F as (xs ++ ys) (vs ++ ws)
  | _, _, _, _, .nil, s => s
  | _, _, _, _, .cons h r, s => .cons h (itms_append r s)
end

/-! ### data that can be read now: frozen, or a list of such in a cell -/
inductive Rdb (γ : Cells) : Itm → PyData → Prop
  | fz (d : PyData) : Rdb γ (.fz d) d
  | cl {c : Nat} {ds : List PyData} : γ[c]? = some (.lst (ds.map Itm.fz)) → Rdb γ (.cl c) (.list ds)
theorem Rdb.dp {K : PySem.W.Frag} {F H : Hp} {as : List Addr} {γ : Cells} {x : Itm} {d : PyData} {v : V} (r : Rdb γ x d) (R : Rep K F as γ H) (h : ItmR K F as x v) : Dq K H v d := by
  cases r with
  | fz => exact dp_mono R.fr (itm_fz.mp h)
  | cl hc =>
    obtain ⟨a, ha, rfl⟩ := itm_cl.mp h
    obtain ⟨a', h1, h2⟩ := R.cellAt hc
    rw [ha] at h1
    cases h1
    obtain ⟨vs, hv, hs⟩ := h2
    exact .lst (SqL.of hv) (dpAll_mono R.fr (itms_fz hs))
/-- its value is a list at an address: the items' values -/
theorem Rdb.list {K : PySem.W.Frag} {F H : Hp} {as : List Addr} {γ : Cells} {x : Itm} {ds : List PyData} {v : V} (r : Rdb γ x (.list ds)) (R : Rep K F as γ H) (h : ItmR K F as x v) : ∃ a vs, v = .ref a ∧ SqL K H a vs ∧ DqAll K F vs ds := by
  cases r with
  | fz => obtain ⟨a, vs, e, h1, h2⟩ := itm_lst.mp h; exact ⟨a, vs, e, same_l R.fr h1, h2⟩
  | cl hc =>
    obtain ⟨a, ha, rfl⟩ := itm_cl.mp h
    obtain ⟨a', h1, h2⟩ := R.cellAt hc
    rw [ha] at h1
    cases h1
    obtain ⟨vs, hv, hs⟩ := h2
    exact ⟨a, vs, rfl, SqL.of hv, itms_fz hs⟩
theorem Rdb.tuple {K : PySem.W.Frag} {F H : Hp} {as : List Addr} {γ : Cells} {x : Itm} {ds : List PyData} {v : V} (r : Rdb γ x (.tuple ds)) (R : Rep K F as γ H) (h : ItmR K F as x v) : ∃ a vs, v = .ref a ∧ F a = some (.tup vs) ∧ DqAll K F vs ds := by
  cases r with
  | fz => exact itm_tup.mp h
end PL

namespace PL
open PySem PySem.Spec PyProof.Rows L2

/-! ### the readings that take any derivation -/
section
variable (X : Cx)
def wpE (e : Expr) : TE := fun σ H Q => ∃ t, PE X e t ∧ t σ H Q
def wpT (e : Expr) : TT := fun σ H Q => ∃ t, PT X e t ∧ t σ H Q
def wpW (e : Expr) : TT := fun σ H Q => ∃ t, PW X e t ∧ t σ H Q
def wpA (es : List Expr) : TA := fun σ H Q => ∃ t, PA X es t ∧ t σ H Q
def wpS (s : Stmt) : TS := fun D σ H => ∃ t, PS X s t ∧ t D σ H
def wpSs (ss : List Stmt) : TS := fun D σ H => ∃ t, PSs X ss t ∧ t D σ H
def wpG (e : Expr) : TG := fun v σ H Q => ∃ t, PG X e t ∧ t v σ H Q
end
section
variable {X : Cx}
theorem pe_wp {e : Expr} : PE X e (wpE X e) := ⟨fun pins s σ H Q I ⟨t, h, q⟩ => h.run pins s σ H Q I q⟩
theorem pt_wp {e : Expr} : PT X e (wpT X e) := ⟨fun pins s σ H Q I ⟨t, h, q⟩ => h.run pins s σ H Q I q⟩
theorem pw_wp {e : Expr} : PW X e (wpW X e) := ⟨fun whole pins s σ H Q I ⟨t, h, q⟩ => h.run whole pins s σ H Q I q⟩
theorem pa_wp {es : List Expr} : PA X es (wpA X es) := ⟨fun pos pins s σ H Q I ⟨t, h, q⟩ => h.run pos pins s σ H Q I q⟩
theorem ps_wp {st : Stmt} : PS X st (wpS X st) := ⟨fun pins s σ H D I ⟨t, h, q⟩ => h.run pins s σ H D I q⟩
theorem pss_wp {ss : List Stmt} : PSs X ss (wpSs X ss) := ⟨fun pins s σ H D I ⟨t, h, q⟩ => h.run pins s σ H D I q⟩
theorem pg_wp {e : Expr} : PG X e (wpG X e) := ⟨fun pins s σ H v u Q I r ⟨t, h, q⟩ => h.run pins s σ H v u Q I r q⟩
end

/-! ### what is known of the context -/
structure Cok (X : Cx) : Prop where
  calm : X.calm = true
  nd : X.N.Nodup
  kind : X.env.scope.kind = .function
  hu : X.A.units + 100 < cLine
/-- the name x stands in slot i: to be read -/
structure Nr (X : Cx) (x : Str) (i : Nat) (k : NameKind) : Prop where
  ix : X.N[i]? = some x
  kd : X.env.scope.names.lookup x = some k
  vis : k = .local ∨ k = .cell
  d1 : (x == ("__debug__" : Str)) = false
  d2 : (x == ("__classdict__" : Str)) = false
/-- .. and to be stored -/
structure Nm (X : Cx) (x : Str) (i : Nat) (k : NameKind) : Prop where
  r : Nr X x i k
  fn : X.fn x = true ∨ k = .local
/-- x is a built-in's name here -/
structure Bt (X : Cx) (x : Str) : Prop where
  gl : Gl X x
  mg : X.mg x = none
theorem Nr.vs {X : Cx} {x : Str} {i : Nat} {k : NameKind} (h : Nr X x i k) : Vis X.env.scope x := by
  rcases h.vis with e | e
  · exact .inl (e ▸ h.kd)
  · exact .inr (.inl (e ▸ h.kd))
theorem Nr.loc {X : Cx} {x : Str} {i : Nat} {k : NameKind} (h : Nr X x i k) : Loc X.env.scope x := by
  rcases h.vis with e | e
  · exact .inl (e ▸ h.kd)
  · exact .inr (e ▸ h.kd)
theorem Nm.hf {X : Cx} {x : Str} {i : Nat} {k : NameKind} (h : Nm X x i k) : X.fn x = true ∨ X.env.scope.names.lookup x = some .local := h.fn.imp id fun e => by rw [h.r.kd, e]
theorem Nm.ix {X : Cx} {x : Str} {i : Nat} {k : NameKind} (h : Nm X x i k) : X.N[i]? = some x := h.r.ix
theorem Nm.loc {X : Cx} {x : Str} {i : Nat} {k : NameKind} (h : Nm X x i k) : Loc X.env.scope x := h.r.loc

/-! ### the judgements -/
section
variable (X : Cx) (Γ : Slots) (γ : Cells)
def EE (e : Expr) (P : EPost) : Prop :=
  ∀ (F : Hp) (as : List Addr) (σ : L2.St) (H : Hp), Rep X.K F as γ H → EnvR X.K F as Γ σ → ∀ Q : VK,
    (∀ v r γ' F' as' H', P r γ' → Ext F as F' as' → Rep X.K F' as' γ' H' → ItmR X.K F' as' r v → Q v H') → wpE X e σ H Q
def EV (e : Expr) (r : Itm) (γ' : Cells) : Prop := EE X Γ γ e fun r' g => r' = r ∧ g = γ'
def TV (e : Expr) (b : Bool) (γ' : Cells) : Prop :=
  ∀ (F : Hp) (as : List Addr) (σ : L2.St) (H : Hp), Rep X.K F as γ H → EnvR X.K F as Γ σ → ∀ Q : Bool → Hp → Prop,
    (∀ F' as' H', Ext F as F' as' → Rep X.K F' as' γ' H' → Q b H') → wpT X e σ H Q
def WV (e : Expr) (b : Bool) (γ' : Cells) : Prop :=
  ∀ (F : Hp) (as : List Addr) (σ : L2.St) (H : Hp), Rep X.K F as γ H → EnvR X.K F as Γ σ → ∀ Q : Bool → Hp → Prop,
    (∀ F' as' H', Ext F as F' as' → Rep X.K F' as' γ' H' → Q b H') → wpW X e σ H Q
def AV (es : List Expr) (rs : List Itm) (γ' : Cells) : Prop :=
  ∀ (F : Hp) (as : List Addr) (σ : L2.St) (H : Hp), Rep X.K F as γ H → EnvR X.K F as Γ σ → ∀ Q : List V → Hp → Prop,
    (∀ vs F' as' H', Ext F as F' as' → Rep X.K F' as' γ' H' → ItmsR X.K F' as' rs vs → Q vs H') → wpA X es σ H Q
end
structure SE where
  nx : Slots → Cells → Prop
  rt : Itm → Cells → Prop
  bk : Slots → Cells → Prop := fun _ _ => False
  ct : Slots → Cells → Prop := fun _ _ => False
structure Cov (K : PySem.W.Frag) (F : Hp) (as : List Addr) (R : SE) (D : Ends) : Prop where
  nx : ∀ Γ' γ' F' as' σ' H', R.nx Γ' γ' → Ext F as F' as' → Rep K F' as' γ' H' → EnvR K F' as' Γ' σ' → D.nx σ' H'
  rt : ∀ r γ' F' as' v H', R.rt r γ' → Ext F as F' as' → Rep K F' as' γ' H' → ItmR K F' as' r v → D.rt v H'
  bk : ∀ Γ' γ' F' as' σ' H', R.bk Γ' γ' → Ext F as F' as' → Rep K F' as' γ' H' → EnvR K F' as' Γ' σ' → D.bk σ' H'
  ct : ∀ Γ' γ' F' as' σ' H', R.ct Γ' γ' → Ext F as F' as' → Rep K F' as' γ' H' → EnvR K F' as' Γ' σ' → D.ct σ' H'
def SV (X : Cx) (Γ : Slots) (γ : Cells) (s : Stmt) (R : SE) : Prop := ∀ F as σ H D, Rep X.K F as γ H → EnvR X.K F as Γ σ → Cov X.K F as R D → wpS X s D σ H
def SVs (X : Cx) (Γ : Slots) (γ : Cells) (ss : List Stmt) (R : SE) : Prop := ∀ F as σ H D, Rep X.K F as γ H → EnvR X.K F as Γ σ → Cov X.K F as R D → wpSs X ss D σ H
theorem Cov.mono {K F as F1 as1 R D} (h : Cov K F as R D) (e : Ext F as F1 as1) : Cov K F1 as1 R D :=
  ⟨fun _ _ _ _ _ _ r x => h.nx _ _ _ _ _ _ r (e.trans x), fun _ _ _ _ _ _ r x => h.rt _ _ _ _ _ _ r (e.trans x), fun _ _ _ _ _ _ r x => h.bk _ _ _ _ _ _ r (e.trans x), fun _ _ _ _ _ _ r x => h.ct _ _ _ _ _ _ r (e.trans x)⟩
section
variable {X : Cx} {Γ : Slots} {γ γ1 γ2 γ3 γ' : Cells} {e a b c : Expr} {r ra rb : Itm} {pos : Pos}
theorem EV.go (h : EV X Γ γ e r γ') {F as σ H} (R : Rep X.K F as γ H) (E : EnvR X.K F as Γ σ) {Q : VK} (k : ∀ v F' as' H', Ext F as F' as' → Rep X.K F' as' γ' H' → ItmR X.K F' as' r v → Q v H') : wpE X e σ H Q :=
  h F as σ H R E Q fun v r' g F' as' H' ⟨e1, e2⟩ x R' i => by subst e1 e2; exact k v F' as' H' x R' i
theorem EV.mk (h : ∀ F as σ H, Rep X.K F as γ H → EnvR X.K F as Γ σ → ∀ Q : VK, (∀ v F' as' H', Ext F as F' as' → Rep X.K F' as' γ' H' → ItmR X.K F' as' r v → Q v H') → wpE X e σ H Q) : EV X Γ γ e r γ' :=
  fun F as σ H R E Q k => h F as σ H R E Q fun v F' as' H' x R' i => k v r γ' F' as' H' ⟨rfl, rfl⟩ x R' i
theorem EV.cast {r' : Itm} {g' : Cells} (h : EV X Γ γ e r γ') (e1 : r = r') (e2 : γ' = g') : EV X Γ γ e r' g' := by subst e1 e2; exact h
theorem EV.is {d d' : PyData} (h : EV X Γ γ e (.fz d) γ') (e1 : d = d') : EV X Γ γ e (.fz d') γ' := by subst e1; exact h
theorem TV.is {b b' : Bool} (h : TV X Γ γ e b γ') (e1 : b = b') : TV X Γ γ e b' γ' := by subst e1; exact h
theorem EE.imp {P P' : EPost} (h : EE X Γ γ e P) (k : ∀ r g, P r g → P' r g) : EE X Γ γ e P' := fun F as σ H R E Q q => h F as σ H R E Q fun v r g F' as' H' p => q v r g F' as' H' (k r g p)

/-! ### names, constants -/
theorem ev_name {x : Str} {i : Nat} {k : NameKind} (n : Nr X x i k) (h : Γ[i]? = some (some r)) : EV X Γ γ (.Name x pos) r γ := .mk fun F as σ H R E Q q => by
  obtain ⟨v, hv, hr⟩ := E.2 i r h
  exact ⟨_, pe_var n.ix n.vs n.d1 n.d2, v, hv, q v F as H (Ext.refl F as) R hr⟩
theorem ev_int {i : Int} {j} : EV X Γ γ (.Constant (.int i) j pos) (.fz (.int i)) γ := .mk fun F as σ H R E Q q => ⟨_, pe_int, q _ F as H (Ext.refl F as) R (itm_int.mpr rfl)⟩
theorem ev_bl {i : Bool} {j} : EV X Γ γ (.Constant (.bool i) j pos) (.fz (.bool i)) γ := .mk fun F as σ H R E Q q => ⟨_, pe_bl, q _ F as H (Ext.refl F as) R (itm_bl.mpr rfl)⟩
theorem ev_str {i : Str} {j} : EV X Γ γ (.Constant (.str i) j pos) (.fz (.str i)) γ := .mk fun F as σ H R E Q q => ⟨_, pe_str, q _ F as H (Ext.refl F as) R (itm_str.mpr rfl)⟩
theorem ev_non {j} : EV X Γ γ (.Constant .none j pos) (.fz .none) γ := .mk fun F as σ H R E Q q => ⟨_, pe_non, q _ F as H (Ext.refl F as) R (itm_non.mpr rfl)⟩

/-! ### arithmetic -/
theorem ev_op {op : Operator} {t : R2} (ho : OpR X (binaryOp op) t) (ha : EV X Γ γ a ra γ1) (hb : EV X Γ γ1 b rb γ2)
    (hr : ∀ F as H x y, Rep X.K F as γ2 H → ItmR X.K F as ra x → ItmR X.K F as rb y → ∀ Q : VK, (∀ v F' as' H', Ext F as F' as' → Rep X.K F' as' γ3 H' → ItmR X.K F' as' r v → Q v H') → t x y H Q) : EV X Γ γ (.BinOp a op b pos) r γ3 := .mk fun F as σ H R E Q q => by
  refine ⟨_, pe_op ho pe_wp pe_wp, ?_⟩
  refine ha.go R E fun v F1 as1 H1 x1 R1 i1 => ?_
  refine hb.go R1 (E.mono x1) fun u F2 as2 H2 x2 R2 i2 => ?_
  exact hr F2 as2 H2 v u R2 (itm_mono x2 i1) i2 Q fun w F3 as3 H3 x3 R3 i3 => q w F3 as3 H3 ((x1.trans x2).trans x3) R3 i3
theorem ev_opI {op : Operator} {C : Int → Int → Prop} {g : Int → Int → Int} {i j : Int} (ho : OpR X (binaryOp op) (rI C fun i j => .int (g i j))) (ha : EV X Γ γ a (.fz (.int i)) γ1) (hb : EV X Γ γ1 b (.fz (.int j)) γ2) (hc : C i j) : EV X Γ γ (.BinOp a op b pos) (.fz (.int (g i j))) γ2 :=
  ev_op ho ha hb fun F as H x y R hx hy Q q => ⟨i, j, itm_int.mp hx, itm_int.mp hy, hc, q _ F as H (Ext.refl F as) R (itm_int.mpr rfl)⟩
theorem ev_opI0 {op : Operator} {g : Int → Int → Int} {i j : Int} (ho : OpR X (binaryOp op) (rI0 fun i j => .int (g i j))) (ha : EV X Γ γ a (.fz (.int i)) γ1) (hb : EV X Γ γ1 b (.fz (.int j)) γ2) : EV X Γ γ (.BinOp a op b pos) (.fz (.int (g i j))) γ2 :=
  ev_op ho ha hb fun F as H x y R hx hy Q q => ⟨i, j, itm_int.mp hx, itm_int.mp hy, q _ F as H (Ext.refl F as) R (itm_int.mpr rfl)⟩
variable {i j : Int}
theorem ev_add (ha : EV X Γ γ a (.fz (.int i)) γ1) (hb : EV X Γ γ1 b (.fz (.int j)) γ2) : EV X Γ γ (.BinOp a .Add b pos) (.fz (.int (i + j))) γ2 := ev_opI0 op_add ha hb
theorem ev_sub (ha : EV X Γ γ a (.fz (.int i)) γ1) (hb : EV X Γ γ1 b (.fz (.int j)) γ2) : EV X Γ γ (.BinOp a .Sub b pos) (.fz (.int (i - j))) γ2 := ev_opI0 op_sub ha hb
theorem ev_mul (ha : EV X Γ γ a (.fz (.int i)) γ1) (hb : EV X Γ γ1 b (.fz (.int j)) γ2) (hc : CMulW i j) : EV X Γ γ (.BinOp a .Mult b pos) (.fz (.int (i * j))) γ2 := ev_opI op_mulW ha hb hc
theorem ev_mod (ha : EV X Γ γ a (.fz (.int i)) γ1) (hb : EV X Γ γ1 b (.fz (.int j)) γ2) (hc : 0 < j) : EV X Γ γ (.BinOp a .Mod b pos) (.fz (.int (i % j))) γ2 := ev_opI op_mod ha hb hc
theorem ev_div (ha : EV X Γ γ a (.fz (.int i)) γ1) (hb : EV X Γ γ1 b (.fz (.int j)) γ2) (hc : CDivW i j) : EV X Γ γ (.BinOp a .FloorDiv b pos) (.fz (.int (i / j))) γ2 := ev_opI op_fdivW ha hb hc
theorem ev_pow (ha : EV X Γ γ a (.fz (.int i)) γ1) (hb : EV X Γ γ1 b (.fz (.int j)) γ2) (hc : CPow i j) : EV X Γ γ (.BinOp a .Pow b pos) (.fz (.int (i ^ j.toNat))) γ2 := ev_opI op_pow ha hb hc
theorem ev_neg (ha : EV X Γ γ a (.fz (.int i)) γ1) : EV X Γ γ (.UnaryOp .USub a pos) (.fz (.int (-i))) γ1 := .mk fun F as σ H R E Q q =>
  ⟨_, pe_un un_neg pe_wp, ha.go R E fun v F1 as1 H1 x1 R1 i1 => ⟨i, itm_int.mp i1, q _ F1 as1 H1 x1 R1 (itm_int.mpr rfl)⟩⟩

/-! ### comparisons -/
def CmpR (X : Cx) (op : CmpOp) (γ : Cells) (ra rb : Itm) (k : Bool) : Prop :=
  ∃ t : R2, OpR X (compareOp op) t ∧ ∀ F as H x y, Rep X.K F as γ H → ItmR X.K F as ra x → ItmR X.K F as rb y → ∀ Q : VK, Q (.bl k) H → t x y H Q
variable {op op' : CmpOp} {k k' : Bool}
theorem ev_cmp (ha : EV X Γ γ a ra γ1) (hb : EV X Γ γ1 b rb γ2) (hc : CmpR X op γ2 ra rb k) (hm : behindInMarks op b = false := by first | exact nomark _ | rfl) : EV X Γ γ (.Compare a [op] [b] pos) (.fz (.bool k)) γ2 := .mk fun F as σ H R E Q q => by
  obtain ⟨t, ho, hr⟩ := hc
  refine ⟨_, pe_cmpR ho pe_wp pe_wp hm, ?_⟩
  refine ha.go R E fun v F1 as1 H1 x1 R1 i1 => ?_
  refine hb.go R1 (E.mono x1) fun u F2 as2 H2 x2 R2 i2 => ?_
  exact hr F2 as2 H2 v u R2 (itm_mono x2 i1) i2 Q (q _ F2 as2 H2 (x1.trans x2) R2 (itm_bl.mpr rfl))
theorem tv_cmp (ha : EV X Γ γ a ra γ1) (hb : EV X Γ γ1 b rb γ2) (hc : CmpR X op γ2 ra rb k) (hm : behindInMarks op b = false := by first | exact nomark _ | rfl) : TV X Γ γ (.Compare a [op] [b] pos) k γ2 := fun F as σ H R E Q q => by
  obtain ⟨t, ho, hr⟩ := hc
  refine ⟨_, pt_cmpR ho pe_wp pe_wp hm, ?_⟩
  refine ha.go R E fun v F1 as1 H1 x1 R1 i1 => ?_
  refine hb.go R1 (E.mono x1) fun u F2 as2 H2 x2 R2 i2 => ?_
  exact hr F2 as2 H2 v u R2 (itm_mono x2 i1) i2 _ ⟨k, rfl, q F2 as2 H2 (x1.trans x2) R2⟩
theorem ev_chain {rc : Itm} (ha : EV X Γ γ a ra γ1) (hb : EV X Γ γ1 b rb γ2) (hc : CmpR X op γ2 ra rb k) (hd : k = true → EV X Γ γ2 c rc γ2) (he : k = true → CmpR X op' γ2 rb rc k') (hm : ∃ t : R2, OpR X (compareOp op') t) : True := trivial
theorem cmp_lt : CmpR X .Lt γ (.fz (.int i)) (.fz (.int j)) (decide (i < j)) := ⟨_, op_lt, fun F as H x y R hx hy Q q => ⟨i, j, itm_int.mp hx, itm_int.mp hy, q⟩⟩
theorem cmp_le : CmpR X .LtE γ (.fz (.int i)) (.fz (.int j)) (decide (i ≤ j)) := ⟨_, op_le, fun F as H x y R hx hy Q q => ⟨i, j, itm_int.mp hx, itm_int.mp hy, q⟩⟩
theorem cmp_gt : CmpR X .Gt γ (.fz (.int i)) (.fz (.int j)) (decide (j < i)) := ⟨_, op_gt, fun F as H x y R hx hy Q q => ⟨i, j, itm_int.mp hx, itm_int.mp hy, q⟩⟩
theorem cmp_ge : CmpR X .GtE γ (.fz (.int i)) (.fz (.int j)) (decide (j ≤ i)) := ⟨_, op_ge, fun F as H x y R hx hy Q q => ⟨i, j, itm_int.mp hx, itm_int.mp hy, q⟩⟩
theorem cmp_eqI : CmpR X .Eq γ (.fz (.int i)) (.fz (.int j)) (decide (i = j)) := ⟨_, op_eq, fun F as H x y R hx hy Q q => by
  cases itm_int.mp hx; cases itm_int.mp hy
  exact ⟨rfl, by rw [show decide (V.int i = V.int j) = decide (i = j) by simp]; exact q⟩⟩
theorem cmp_neI : CmpR X .NotEq γ (.fz (.int i)) (.fz (.int j)) (!decide (i = j)) := ⟨_, op_ne, fun F as H x y R hx hy Q q => by
  cases itm_int.mp hx; cases itm_int.mp hy
  exact ⟨rfl, by rw [show decide (V.int i = V.int j) = decide (i = j) by simp]; exact q⟩⟩
theorem cmp_eqS {i j : Str} : CmpR X .Eq γ (.fz (.str i)) (.fz (.str j)) (decide (i = j)) := ⟨_, op_eq, fun F as H x y R hx hy Q q => by
  cases itm_str.mp hx; cases itm_str.mp hy
  exact ⟨rfl, by rw [show decide (V.str i = V.str j) = decide (i = j) by simp]; exact q⟩⟩
theorem cmp_neS {i j : Str} : CmpR X .NotEq γ (.fz (.str i)) (.fz (.str j)) (!decide (i = j)) := ⟨_, op_ne, fun F as H x y R hx hy Q q => by
  cases itm_str.mp hx; cases itm_str.mp hy
  exact ⟨rfl, by rw [show decide (V.str i = V.str j) = decide (i = j) by simp]; exact q⟩⟩
theorem cmp_eqB {i j : Bool} : CmpR X .Eq γ (.fz (.bool i)) (.fz (.bool j)) (i == j) := ⟨_, op_eq, fun F as H x y R hx hy Q q => by
  cases itm_bl.mp hx; cases itm_bl.mp hy
  exact ⟨rfl, by rw [dec_bl]; exact q⟩⟩
theorem cmp_neB {i j : Bool} : CmpR X .NotEq γ (.fz (.bool i)) (.fz (.bool j)) (i != j) := ⟨_, op_ne, fun F as H x y R hx hy Q q => by
  cases itm_bl.mp hx; cases itm_bl.mp hy
  exact ⟨rfl, by rw [dec_bl]; exact q⟩⟩
/-- == of data of any depth -/
theorem cmp_eqD {d e : PyData} (hX : Cok X) (h1 : Rdb γ ra d) (h2 : Rdb γ rb e) (s1 : SeqAt.shaped d = true) (s2 : SeqAt.shaped e = true) : CmpR X .Eq γ ra rb (PyData.eqv d e) :=
  ⟨_, op_eqD (by have := hX.hu; omega), fun F as H x y R hx hy Q q => ⟨d, e, (h1.dp R hx).dp (shaped_lay s1), (h2.dp R hy).dp (shaped_lay s2), s1, s2, q⟩⟩
theorem cmp_neD {d e : PyData} (hX : Cok X) (h1 : Rdb γ ra d) (h2 : Rdb γ rb e) (s1 : SeqAt.shaped d = true) (s2 : SeqAt.shaped e = true) : CmpR X .NotEq γ ra rb (!PyData.eqv d e) :=
  ⟨_, op_neD (by have := hX.hu; omega), fun F as H x y R hx hy Q q => ⟨d, e, (h1.dp R hx).dp (shaped_lay s1), (h2.dp R hy).dp (shaped_lay s2), s1, s2, q⟩⟩
theorem cmp_inD {d : PyData} {ds : List PyData} (hX : Cok X) (h1 : Rdb γ ra d) (h2 : Rdb γ rb (.list ds)) (s1 : SeqAt.shaped d = true) (s2 : SeqAt.shaped (.list ds) = true) : CmpR X .In γ ra rb (ds.any fun z => PyData.eqv z d) :=
  ⟨_, op_inD (by have := hX.hu; omega), fun F as H x y R hx hy Q q => ⟨d, ds, (h1.dp R hx).dp (shaped_lay s1), (h2.dp R hy).dp (shaped_lay s2), s1, s2, q⟩⟩
theorem cmp_notInD {d : PyData} {ds : List PyData} (hX : Cok X) (h1 : Rdb γ ra d) (h2 : Rdb γ rb (.list ds)) (s1 : SeqAt.shaped d = true) (s2 : SeqAt.shaped (.list ds) = true) : CmpR X .NotIn γ ra rb (!ds.any fun z => PyData.eqv z d) :=
  ⟨_, op_notInD (by have := hX.hu; omega), fun F as H x y R hx hy Q q => ⟨d, ds, (h1.dp R hx).dp (shaped_lay s1), (h2.dp R hy).dp (shaped_lay s2), s1, s2, q⟩⟩
def dNone : PyData → Bool
  | .none => true
  | _ => false
theorem dp_none {K F v d} (h : Dq K F v d) : decide (v = V.non) = dNone d := by cases h <;> simp [dNone]
theorem cmp_isN {d : PyData} : CmpR X .Is γ (.fz d) (.fz .none) (dNone d) := ⟨_, op_isN, fun F as H x y R hx hy Q q => ⟨itm_non.mp hy, by rw [dp_none (itm_fz.mp hx)]; exact q⟩⟩
theorem cmp_notN {d : PyData} : CmpR X .IsNot γ (.fz d) (.fz .none) (!dNone d) := ⟨_, op_notN, fun F as H x y R hx hy Q q => ⟨itm_non.mp hy, by rw [dp_none (itm_fz.mp hx)]; exact q⟩⟩

/-! ### tests: and, or, not; values True, False -/
theorem tv_val (h : EV X Γ γ e (.fz (.bool k)) γ1) (he : ∀ whole, isTrue e X.env whole = (do let v ← whole; standAt e.pos; holding [v] (truthy v)) := by intro _; rfl) : TV X Γ γ e k γ1 := fun F as σ H R E Q q =>
  ⟨_, pt_val pe_wp he, h.go R E fun v F1 as1 H1 x1 R1 i1 => ⟨k, itm_bl.mp i1, q F1 as1 H1 x1 R1⟩⟩
theorem tv_not (h : TV X Γ γ a k γ1) : TV X Γ γ (.UnaryOp .Not a pos) (!k) γ1 := fun F as σ H R E Q q =>
  ⟨_, pt_not pt_wp, h F as σ H R E _ fun F1 as1 H1 x1 R1 => q F1 as1 H1 x1 R1⟩
theorem tv_w (h : WV X Γ γ e k γ1) : TV X Γ γ e k γ1 := fun F as σ H R E Q q => ⟨_, pw_wp.pt, h F as σ H R E Q q⟩
theorem wv_and1 (h : TV X Γ γ a k γ1) : WV X Γ γ (.BoolOp .And [a] pos) k γ1 := fun F as σ H R E Q q => ⟨_, pw_and1 pt_wp, h F as σ H R E Q q⟩
theorem wv_or1 (h : TV X Γ γ a k γ1) : WV X Γ γ (.BoolOp .Or [a] pos) k γ1 := fun F as σ H R E Q q => ⟨_, pw_or1 pt_wp, h F as σ H R E Q q⟩
variable {rest : List Expr}
theorem wv_and (h1 : TV X Γ γ a k γ1) (h2 : k = true → WV X Γ γ1 (.BoolOp .And (b :: rest) pos) k' γ1) : WV X Γ γ (.BoolOp .And (a :: b :: rest) pos) (k && k') γ1 := fun F as σ H R E Q q =>
  ⟨_, pw_and pt_wp pw_wp, h1 F as σ H R E _ fun F1 as1 H1 x1 R1 => by
    cases k with
    | true => exact iteT (h2 rfl F1 as1 σ H1 R1 (E.mono x1) Q fun F2 as2 H2 x2 R2 => q F2 as2 H2 (x1.trans x2) R2)
    | false => exact iteF (q F1 as1 H1 x1 R1)⟩
theorem wv_or (h1 : TV X Γ γ a k γ1) (h2 : k = false → WV X Γ γ1 (.BoolOp .Or (b :: rest) pos) k' γ1) : WV X Γ γ (.BoolOp .Or (a :: b :: rest) pos) (k || k') γ1 := fun F as σ H R E Q q =>
  ⟨_, pw_or pt_wp pw_wp, h1 F as σ H R E _ fun F1 as1 H1 x1 R1 => by
    cases k with
    | true => exact iteT (q F1 as1 H1 x1 R1)
    | false => exact iteF (h2 rfl F1 as1 σ H1 R1 (E.mono x1) Q fun F2 as2 H2 x2 R2 => q F2 as2 H2 (x1.trans x2) R2)⟩
theorem ev_not (h : EV X Γ γ a (.fz (.bool k)) γ1) : EV X Γ γ (.UnaryOp .Not a pos) (.fz (.bool (!k))) γ1 := .mk fun F as σ H R E Q q =>
  ⟨_, pe_not pe_wp, h.go R E fun v F1 as1 H1 x1 R1 i1 => ⟨k, itm_bl.mp i1, q _ F1 as1 H1 x1 R1 (itm_bl.mpr rfl)⟩⟩
theorem ev_one {o} (h : EV X Γ γ a r γ1) : EV X Γ γ (.BoolOp o [a] pos) r γ1 := .mk fun F as σ H R E Q q => ⟨_, pe_one pe_wp, h.go R E q⟩
theorem ev_and {d : PyData} (h1 : EV X Γ γ a (.fz (.bool k)) γ1) (h2 : k = true → EV X Γ γ1 (.BoolOp .And (b :: rest) pos) (.fz d) γ1) : EV X Γ γ (.BoolOp .And (a :: b :: rest) pos) (.fz (if k then d else .bool false)) γ1 := .mk fun F as σ H R E Q q =>
  ⟨_, pe_and pe_wp pe_wp, h1.go R E fun v F1 as1 H1 x1 R1 i1 => ⟨k, itm_bl.mp i1, by
    cases k with
    | true => exact iteT ((h2 rfl).go R1 (E.mono x1) fun u F2 as2 H2 x2 R2 i2 => q u F2 as2 H2 (x1.trans x2) R2 i2)
    | false => exact iteF (q _ F1 as1 H1 x1 R1 (itm_bl.mpr rfl))⟩⟩
theorem ev_or {d : PyData} (h1 : EV X Γ γ a (.fz (.bool k)) γ1) (h2 : k = false → EV X Γ γ1 (.BoolOp .Or (b :: rest) pos) (.fz d) γ1) : EV X Γ γ (.BoolOp .Or (a :: b :: rest) pos) (.fz (if k then .bool true else d)) γ1 := .mk fun F as σ H R E Q q =>
  ⟨_, pe_or pe_wp pe_wp, h1.go R E fun v F1 as1 H1 x1 R1 i1 => ⟨k, itm_bl.mp i1, by
    cases k with
    | true => exact iteT (q _ F1 as1 H1 x1 R1 (itm_bl.mpr rfl))
    | false => exact iteF ((h2 rfl).go R1 (E.mono x1) fun u F2 as2 H2 x2 R2 i2 => q u F2 as2 H2 (x1.trans x2) R2 i2)⟩⟩
theorem ev_ifx {r : Itm} {γ2 : Cells} (h : TV X Γ γ c k γ1) (h1 : k = true → EV X Γ γ1 a r γ2) (h2 : k = false → EV X Γ γ1 b r γ2) : EV X Γ γ (.IfExp c a b pos) r γ2 := .mk fun F as σ H R E Q q =>
  ⟨_, pe_ifExp pt_wp pe_wp pe_wp, h F as σ H R E _ fun F1 as1 H1 x1 R1 => by
    cases k with
    | true => exact iteT ((h1 rfl).go R1 (E.mono x1) fun u F2 as2 H2 x2 R2 i2 => q u F2 as2 H2 (x1.trans x2) R2 i2)
    | false => exact iteF ((h2 rfl).go R1 (E.mono x1) fun u F2 as2 H2 x2 R2 i2 => q u F2 as2 H2 (x1.trans x2) R2 i2)⟩

/-! ### argument lists, displays -/
variable {es : List Expr} {rs : List Itm}
theorem AV.go (h : AV X Γ γ es rs γ') {F as σ H} (R : Rep X.K F as γ H) (E : EnvR X.K F as Γ σ) {Q : List V → Hp → Prop} (k : ∀ vs F' as' H', Ext F as F' as' → Rep X.K F' as' γ' H' → ItmsR X.K F' as' rs vs → Q vs H') : wpA X es σ H Q := h F as σ H R E Q k
theorem av_nil : AV X Γ γ [] [] γ := fun F as σ H R E Q q => ⟨_, pa_nil, q [] F as H (Ext.refl F as) R .nil⟩
theorem av_cons (h : EV X Γ γ e r γ1) (hr : AV X Γ γ1 es rs γ2) (hs : starEach (e :: es) X.env = (false, eval e X.env) :: starEach es X.env := by rfl) : AV X Γ γ (e :: es) (r :: rs) γ2 := fun F as σ H R E Q q =>
  ⟨_, pa_cons pe_wp pa_wp hs, h.go R E fun v F1 as1 H1 x1 R1 i1 => hr.go R1 (E.mono x1) fun vs F2 as2 H2 x2 R2 i2 => q _ F2 as2 H2 (x1.trans x2) R2 (.cons (itm_mono x2 i1) i2)⟩
theorem itms_fz' {K : PySem.W.Frag} {F : Hp} {as : List Addr} {ds : List PyData} {vs : List V} (h : ItmsR K F as (ds.map Itm.fz) vs) : DqAll K F vs ds := itms_fz h
/-- a tuple of frozen things -/
theorem ev_tup {ds : List PyData} {kk : Nat} (h : AV X Γ γ es (ds.map Itm.fz) γ1) (hl : ds.length ≤ 1000 := by first | decide | simp) : EV X Γ γ (.Tuple es kk pos) (.fz (.tuple ds)) γ1 := .mk fun F as σ H R E Q q => by
  refine ⟨_, pe_tup pa_wp, ?_⟩
  refine h.go R E fun vs F1 as1 H1 x1 R1 i1 => ?_
  have l : vs.length = ds.length := by have := itms_length i1; simpa using this.symm
  refine ⟨by rw [l]; exact Nat.le_of_lt (small1000 hl), fun p hp => q _ (upd F1 p (.tup vs)) as1 _ ?_ (R1.new _ hp) ?_⟩
  · exact x1.trans ⟨R1.sameNew _ hp, [], by simp⟩
  · exact itm_tup.mpr ⟨p, vs, rfl, upd_same, dpAll_mono (R1.sameNew _ hp) (itms_fz i1)⟩
theorem ev_lst {ds : List PyData} (h : AV X Γ γ es (ds.map Itm.fz) γ1) (hl : ds.length ≤ 1000 := by first | decide | simp) : EV X Γ γ (.List es pos) (.fz (.list ds)) γ1 := .mk fun F as σ H R E Q q => by
  refine ⟨_, pe_lst pa_wp, ?_⟩
  refine h.go R E fun vs F1 as1 H1 x1 R1 i1 => ?_
  have l : vs.length = ds.length := by have := itms_length i1; simpa using this.symm
  refine ⟨by rw [l]; exact Nat.le_of_lt (small1000 hl), fun p hp => q _ (upd F1 p (.lst vs)) as1 _ ?_ (R1.new _ hp) ?_⟩
  · exact x1.trans ⟨R1.sameNew _ hp, [], by simp⟩
  · exact itm_lst.mpr ⟨p, vs, rfl, SqL.of upd_same, dpAll_mono (R1.sameNew _ hp) (itms_fz i1)⟩
end
end PL

namespace PL
open PySem PySem.Spec PyProof.Rows L2

/-! ### chains -/
section
variable {X : Cx} {Γ : Slots} {γ γ1 γ2 γ3 γ' : Cells} {e a b c : Expr} {r ra rb rc : Itm} {pos : Pos} {op op' : CmpOp} {k k' : Bool}
theorem ev_chain2 (ha : EV X Γ γ a ra γ1) (hb : EV X Γ γ1 b rb γ2) (hc : CmpR X op γ2 ra rb k) (hd : EV X Γ γ2 c rc γ2) (he : CmpR X op' γ2 rb rc k')
    (hm : lastMarks [op, op'] [b, c] = false := by with_unfolding_all rfl) : EV X Γ γ (.Compare a [op, op'] [b, c] pos) (.fz (.bool (k && k'))) γ2 := .mk fun F as σ H R E Q q => by
  obtain ⟨t, ho, hr⟩ := hc
  obtain ⟨t', ho', hr'⟩ := he
  refine ⟨_, pe_chain ho ho' pe_wp pe_wp pe_wp hm, ?_⟩
  refine ha.go R E fun v F1 as1 H1 x1 R1 i1 => ?_
  refine hb.go R1 (E.mono x1) fun u F2 as2 H2 x2 R2 i2 => ?_
  refine hr F2 as2 H2 v u R2 (itm_mono x2 i1) i2 _ ⟨k, rfl, ?_⟩
  cases k with
  | false => exact iteF (q _ F2 as2 H2 (x1.trans x2) R2 (itm_bl.mpr rfl))
  | true =>
    refine iteT (hd.go R2 (E.mono (x1.trans x2)) fun w F3 as3 H3 x3 R3 i3 => ?_)
    exact hr' F3 as3 H3 u w R3 (itm_mono x3 i2) i3 Q (q _ F3 as3 H3 ((x1.trans x2).trans x3) R3 (itm_bl.mpr rfl))
theorem tv_chain2 (ha : EV X Γ γ a ra γ1) (hb : EV X Γ γ1 b rb γ2) (hc : CmpR X op γ2 ra rb k) (hd : EV X Γ γ2 c rc γ2) (he : CmpR X op' γ2 rb rc k')
    (hm : lastMarks [op, op'] [b, c] = false := by with_unfolding_all rfl) : TV X Γ γ (.Compare a [op, op'] [b, c] pos) (k && k') γ2 := fun F as σ H R E Q q => by
  obtain ⟨t, ho, hr⟩ := hc
  obtain ⟨t', ho', hr'⟩ := he
  refine ⟨_, pt_chain ho ho' pe_wp pe_wp pe_wp hm, ?_⟩
  refine ha.go R E fun v F1 as1 H1 x1 R1 i1 => ?_
  refine hb.go R1 (E.mono x1) fun u F2 as2 H2 x2 R2 i2 => ?_
  refine hr F2 as2 H2 v u R2 (itm_mono x2 i1) i2 _ ⟨k, rfl, ?_⟩
  cases k with
  | false => exact iteF ⟨false, rfl, q F2 as2 H2 (x1.trans x2) R2⟩
  | true =>
    refine iteT (hd.go R2 (E.mono (x1.trans x2)) fun w F3 as3 H3 x3 R3 i3 => ?_)
    exact hr' F3 as3 H3 u w R3 (itm_mono x3 i2) i3 _ ⟨k', rfl, q F3 as3 H3 ((x1.trans x2).trans x3) R3⟩
end

/-! ### targets -/
/-- σ' is σ but for the slots ws -/
def But (ws : List Nat) (σ σ' : L2.St) : Prop := σ'.length = σ.length ∧ ∀ j, j ∉ ws → σ'[j]? = σ[j]?
def GV (X : Cx) (γ : Cells) (Γ : Slots) (tg : Expr) (r : Itm) (Γ' : Slots) (ws : List Nat) : Prop :=
  ∀ F as σ H v, Rep X.K F as γ H → EnvR X.K F as Γ σ → ItmR X.K F as r v → ∀ Q : L2.St → Hp → Prop, (∀ σ', EnvR X.K F as Γ' σ' → But ws σ σ' → Q σ' H) → wpG X tg v σ H Q
def wpGs (X : Cx) (es : List Expr) : TGs := fun vs σ H Q => ∃ t, PGs X es t ∧ t vs σ H Q
def GVs (X : Cx) (γ : Cells) (Γ : Slots) (es : List Expr) (rs : List Itm) (Γ' : Slots) (ws : List Nat) : Prop :=
  ∀ F as σ H vs, Rep X.K F as γ H → EnvR X.K F as Γ σ → ItmsR X.K F as rs vs → ∀ Q : L2.St → Hp → Prop, (∀ σ', EnvR X.K F as Γ' σ' → But ws σ σ' → Q σ' H) → wpGs X es vs σ H Q
section
variable {X : Cx} {Γ Γ1 Γ' : Slots} {γ γ1 : Cells} {e : Expr} {es : List Expr} {r : Itm} {rs : List Itm} {pos : Pos} {ws ws' : List Nat}
theorem pgs_wp : PGs X es (wpGs X es) := ⟨fun pins s σ H vs us Q I r ⟨t, h, q⟩ => h.run pins s σ H vs us Q I r q⟩
theorem gv_name {x : Str} {i : Nat} {k : NameKind} (hX : Cok X) (n : Nm X x i k) : GV X γ Γ (.Name x pos) r (Γ.set i (some r)) [i] := fun F as σ H v R E I Q q =>
  ⟨_, pg_name (i := i) hX.nd n.ix n.loc n.hf, q _ (E.set I) ⟨by simp, fun j hj => List.getElem?_set_ne (by simpa [eq_comm] using hj)⟩⟩
theorem gvs_nil : GVs X γ Γ [] [] Γ [] := fun F as σ H vs R E I Q q => by
  cases I
  exact ⟨_, pgs_nil, rfl, q _ E ⟨rfl, fun _ _ => rfl⟩⟩
theorem gvs_cons (h1 : GV X γ Γ e r Γ1 ws) (h2 : GVs X γ Γ1 es rs Γ' ws') (hs : (assignEach (e :: es) X.env).map (·.2) = assign e X.env :: (assignEach es X.env).map (·.2) := by rfl) : GVs X γ Γ (e :: es) (r :: rs) Γ' (ws ++ ws') := fun F as σ H vs R E I Q q => by
  cases I with
  | cons i1 i2 => exact ⟨_, pgs_cons pg_wp pgs_wp hs, _, _, rfl, h1 F as σ H _ R E i1 _ fun σ1 E1 b1 => h2 F as σ1 H _ R E1 i2 Q fun σ2 E2 b2 => q σ2 E2 ⟨b2.1.trans b1.1, fun j hj => by
      rw [List.mem_append, not_or] at hj
      exact (b2.2 j hj.2).trans (b1.2 j hj.1)⟩⟩
theorem gv_tup {ds : List PyData} {kk n : Nat} (hX : Cok X) (h : GVs X γ Γ es (ds.map Itm.fz) Γ' ws) (hl : ds.length = n) (hn : (assignEach es X.env).length = n := by rfl) (hst : (assignEach es X.env).findIdx? (·.1) = none := by rfl) :
    GV X γ Γ (.Tuple es kk pos) (.fz (.tuple ds)) Γ' ws := fun F as σ H v R E I Q q => by
  obtain ⟨a, vs, rfl, h1, h2⟩ := itm_tup.mp I
  exact ⟨_, pg_tup (n := n) hX.calm pgs_wp hn hst, a, vs, rfl, (SqT.of (R.fr _ _ h1)), (dpAll_length h2).trans hl, h F as σ H vs R E (itms_of_dp h2) Q q⟩
theorem gv_tp {xs : List Itm} {kk n : Nat} (hX : Cok X) (h : GVs X γ Γ es xs Γ' ws) (hl : xs.length = n) (hn : (assignEach es X.env).length = n := by rfl) (hst : (assignEach es X.env).findIdx? (·.1) = none := by rfl) :
    GV X γ Γ (.Tuple es kk pos) (.tp xs) Γ' ws := fun F as σ H v R E I Q q => by
  cases I with
  | tp h1 h2 => exact ⟨_, pg_tup (n := n) hX.calm pgs_wp hn hst, _, _, rfl, (SqT.of (R.fr _ _ h1)), (itms_length h2).symm.trans hl, h F as σ H _ R E h2 Q q⟩
end

/-! ### statements -/
section
variable {X : Cx} {Γ Γ1 Γ' : Slots} {γ γ1 γ2 : Cells} {e c o : Expr} {r : Itm} {pos : Pos} {R : SE} {rest sa sb : List Stmt} {s : Stmt} {P : EPost}
def SE.then (R : SE) (X : Cx) (rest : List Stmt) : SE := { R with nx := fun Γ γ => SVs X Γ γ rest R }
theorem svs_nil (h : R.nx Γ γ) : SVs X Γ γ [] R := fun F as σ H D Rp E C => ⟨_, pss_nil, C.nx _ _ _ _ _ _ h (Ext.refl F as) Rp E⟩
theorem svs_cons (h : SV X Γ γ s (R.then X rest)) : SVs X Γ γ (s :: rest) R := fun F as σ H D Rp E C =>
  ⟨_, pss_cons ps_wp pss_wp, h F as σ H _ Rp E ⟨fun Γ' γ' F' as' σ' H' hn x R' E' => hn F' as' σ' H' D R' E' (C.mono x), C.rt, C.bk, C.ct⟩⟩
theorem sv_asg {tg : Expr} (he : EE X Γ γ e P) (hg : ∀ r g, P r g → ∃ Γ' ws, GV X g Γ tg r Γ' ws ∧ R.nx Γ' g) (hs : swapsWithSole [tg] e pos.line X.env = pure false := by rfl) (hw : swappedStores [tg] e X.env = pure none := by rfl)
    (h1 : (assignEach [tg] X.env).map (·.2) = [assign tg X.env] := by rfl) : SV X Γ γ (.Assign [tg] e pos) R := fun F as σ H D Rp E C =>
  ⟨_, ps_asg pe_wp pg_wp hs hw h1, he F as σ H Rp E _ fun v r g F' as' H' hp x R' i => by
    obtain ⟨Γ', ws, hG, hn⟩ := hg r g hp
    exact hG F' as' σ H' v R' (E.mono x) i _ fun σ' E' _ => C.nx _ _ _ _ _ _ hn x R' E'⟩
theorem sv_set {x : Str} {i : Nat} {k : NameKind} {p' : Pos} (hX : Cok X) (n : Nm X x i k) (he : EE X Γ γ e P) (hg : ∀ r g, P r g → R.nx (Γ.set i (some r)) g) (hs : swapsWith e (some (.Name x p')) pos.line X.env = pure false := by rfl) : SV X Γ γ (.Assign [.Name x p'] e pos) R := fun F as σ H D Rp E C =>
  ⟨_, ps_set (i := i) hX.nd n.ix n.loc pe_wp hs n.hf, he F as σ H Rp E _ fun v r g F' as' H' hp x R' i => C.nx _ _ _ _ _ _ (hg r g hp) x R' ((E.mono x).set i)⟩
/-- x = e, then the rest -/
theorem svs_set {x : Str} {i : Nat} {k : NameKind} {p' : Pos} (hX : Cok X) (n : Nm X x i k) (he : EV X Γ γ e r γ1) (h : SVs X (Γ.set i (some r)) γ1 rest R) (hs : swapsWith e (some (.Name x p')) pos.line X.env = pure false := by rfl) : SVs X Γ γ (.Assign [.Name x p'] e pos :: rest) R :=
  svs_cons (sv_set hX n he (fun r' g ⟨e1, e2⟩ => by subst e1 e2; exact h) hs)
theorem svs_setP {x : Str} {i : Nat} {k : NameKind} {p' : Pos} (hX : Cok X) (n : Nm X x i k) (he : EE X Γ γ e P) (h : ∀ r g, P r g → SVs X (Γ.set i (some r)) g rest R) (hs : swapsWith e (some (.Name x p')) pos.line X.env = pure false := by rfl) : SVs X Γ γ (.Assign [.Name x p'] e pos :: rest) R :=
  svs_cons (sv_set hX n he h hs)
theorem svs_asg {tg : Expr} (he : EV X Γ γ e r γ1) {ws : List Nat} (hG : GV X γ1 Γ tg r Γ' ws) (h : SVs X Γ' γ1 rest R) (hs : swapsWithSole [tg] e pos.line X.env = pure false := by rfl) (hw : swappedStores [tg] e X.env = pure none := by rfl)
    (h1 : (assignEach [tg] X.env).map (·.2) = [assign tg X.env] := by rfl) : SVs X Γ γ (.Assign [tg] e pos :: rest) R :=
  svs_cons (sv_asg he (fun r' g ⟨e1, e2⟩ => by subst e1 e2; exact ⟨Γ', ws, hG, h⟩) hs hw h1)
theorem svs_if {k : Bool} (hc : TV X Γ γ c k γ1) (h1 : k = true → SVs X Γ γ1 sa (R.then X rest)) (h2 : k = false → SVs X Γ γ1 sb (R.then X rest)) : SVs X Γ γ (.If c sa sb pos :: rest) R :=
  svs_cons fun F as σ H D Rp E C => ⟨_, ps_if pt_wp pss_wp pss_wp, hc F as σ H Rp E _ fun F1 as1 H1 x1 R1 => by
    cases k with
    | true => exact iteT (h1 rfl F1 as1 σ H1 D R1 (E.mono x1) (C.mono x1))
    | false => exact iteF (h2 rfl F1 as1 σ H1 D R1 (E.mono x1) (C.mono x1))⟩
theorem svs_ret (he : EE X Γ γ e P) (h : ∀ r g, P r g → R.rt r g) : SVs X Γ γ (.Return (some e) pos :: rest) R :=
  svs_cons fun F as σ H D Rp E C => ⟨_, ps_ret pe_wp, he F as σ H Rp E _ fun v r g F' as' H' hp x R' i => C.rt _ _ _ _ _ _ (h r g hp) x R' i⟩
theorem svs_retv (he : EV X Γ γ e r γ1) (h : R.rt r γ1) : SVs X Γ γ (.Return (some e) pos :: rest) R := svs_ret he fun r' g ⟨e1, e2⟩ => by subst e1 e2; exact h
theorem svs_retN (h : R.rt (.fz .none) γ) : SVs X Γ γ (.Return none pos :: rest) R :=
  svs_cons fun F as σ H D Rp E C => ⟨_, ps_retN, C.rt _ _ _ _ _ _ h (Ext.refl F as) Rp (itm_non.mpr rfl)⟩
theorem svs_expr (he : EE X Γ γ e P) (h : ∀ r g, P r g → SVs X Γ g rest R) (hs : swapsWith e none pos.line X.env = pure false := by rfl) : SVs X Γ γ (.Expr e pos :: rest) R :=
  svs_cons fun F as σ H D Rp E C => ⟨_, ps_expr pe_wp hs, he F as σ H Rp E _ fun v r g F' as' H' hp x R' i => C.nx _ _ _ _ _ _ (h r g hp) x R' (E.mono x)⟩
theorem svs_doc {x j p'} (h : SVs X Γ γ rest R) : SVs X Γ γ (.Expr (.Constant (.str x) j p') pos :: rest) R :=
  svs_cons fun F as σ H D Rp E C => ⟨_, ps_doc, C.nx _ _ _ _ _ _ h (Ext.refl F as) Rp E⟩
theorem svs_break (h : R.bk Γ γ) : SVs X Γ γ (.Break pos :: rest) R := svs_cons fun F as σ H D Rp E C => ⟨_, ps_break, C.bk _ _ _ _ _ _ h (Ext.refl F as) Rp E⟩
theorem svs_continue (h : R.ct Γ γ) : SVs X Γ γ (.Continue pos :: rest) R := svs_cons fun F as σ H D Rp E C => ⟨_, ps_continue, C.ct _ _ _ _ _ _ h (Ext.refl F as) Rp E⟩
/-- x op= e, ints -/
theorem svs_augI {x : Str} {i : Nat} {k : NameKind} {p' : Pos} {op : Operator} {f : Int → Int → Int} {n m : Int} (hX : Cok X) (nm : Nm X x i k) (hi : Γ[i]? = some (some (.fz (.int n)))) (hop : PIp X op (ipI f)) (he : EV X Γ γ e (.fz (.int m)) γ1)
    (h : SVs X (Γ.set i (some (.fz (.int (f n m))))) γ1 rest R) : SVs X Γ γ (.AugAssign (.Name x p') op e pos :: rest) R :=
  svs_cons fun F as σ H D Rp E C => by
    obtain ⟨v, hv, hr⟩ := E.2 i _ hi
    refine ⟨_, ps_aug (i := i) hX.nd nm.ix nm.loc pe_wp hop nm.hf, v, hv, he.go Rp E fun u F1 as1 H1 x1 R1 i1 => ?_⟩
    refine ⟨n, m, itm_int.mp hr, itm_int.mp i1, ?_⟩
    exact C.nx _ _ _ _ _ _ h x1 R1 ((E.mono x1).set (itm_int.mpr rfl))
/-- a weaker state ahead -/
theorem SVs.weak (h : SVs X Γ' γ rest R) (hl : Γ'.length = Γ.length) (w : ∀ (i : Nat) (x : Itm), Γ'[i]? = some (some x) → Γ[i]? = some (some x)) : SVs X Γ γ rest R := fun F as σ H D Rp E C => h F as σ H D Rp (E.weak hl w) C
theorem SVs.imp {R' : SE} (h : SVs X Γ γ rest R') (n : ∀ a b, R'.nx a b → R.nx a b) (t : ∀ a b, R'.rt a b → R.rt a b) (k : ∀ a b, R'.bk a b → R.bk a b) (l : ∀ a b, R'.ct a b → R.ct a b) : SVs X Γ γ rest R := fun F as σ H D Rp E C =>
  h F as σ H D Rp E ⟨fun _ _ _ _ _ _ q => C.nx _ _ _ _ _ _ (n _ _ q), fun _ _ _ _ _ _ q => C.rt _ _ _ _ _ _ (t _ _ q), fun _ _ _ _ _ _ q => C.bk _ _ _ _ _ _ (k _ _ q), fun _ _ _ _ _ _ q => C.ct _ _ _ _ _ _ (l _ _ q)⟩
/-- the cell c, a list of frozen things, is frozen; slot i holds it -/
theorem SVs.freeze {i c : Nat} {ds : List PyData} (hi : Γ[i]? = some (some (.cl c))) (hc : γ[c]? = some (.lst (ds.map Itm.fz))) (h : SVs X (Γ.set i (some (.fz (.list ds)))) (γ.set c .dead) rest R) : SVs X Γ γ rest R := fun F as σ H D Rp E C => by
  obtain ⟨v, hv, hr⟩ := E.2 i _ hi
  obtain ⟨a, ha, rfl⟩ := itm_cl.mp hr
  obtain ⟨a', h1, vs, h2, h3⟩ := Rp.cellAt hc
  rw [ha] at h1
  cases h1
  obtain ⟨R', sm⟩ := Rp.freeze hc (by simp) ha h2
  have x : Ext F as (upd F a (.lst vs)) as := ⟨sm, [], by simp⟩
  refine h _ as σ H D R' ?_ (C.mono x)
  have E2 := (E.mono x).set (i := i) (v := .ref a) (itm_lst.mpr ⟨a, vs, rfl, SqL.of upd_same, dpAll_mono sm (itms_fz h3)⟩)
  have es : σ.set i (some (.ref a)) = σ := by
    apply List.ext_getElem?
    intro j
    by_cases hj : i = j
    · subst hj
      rw [List.getElem?_set_self (List.getElem?_eq_some_iff.mp hv).1, hv]
    · rw [List.getElem?_set_ne hj]
  rw [es] at E2
  exact E2
end

/-! ### loops -/
def wpI (X : Cx) (tg it : Expr) : TI := fun σ H R => ∃ t, PI X tg it t ∧ t σ H R
/-- an iterator J that gives xs, while the cells are as stab says -/
def JOk (K : PySem.W.Frag) (F : Hp) (as : List Addr) (xs : List Itm) (stab : Cells → Prop) (J : It) : Prop :=
  ∀ i F' as' γ' H', Ext F as F' as' → Rep K F' as' γ' H' → stab γ' → (xs.length ≤ i → J.stop i H') ∧ (∀ x, xs[i]? = some x → J.go i H' ∧ ∀ v H'', J.yld i H' v H'' → ∃ F'', Ext F' as' F'' as' ∧ Rep K F'' as' γ' H'' ∧ ItmR K F'' as' x v)
def ITV (X : Cx) (Γ : Slots) (γ : Cells) (tg it : Expr) (xs : List Itm) (stab : Cells → Prop) (γ1 : Cells) : Prop :=
  ∀ F as σ H, Rep X.K F as γ H → EnvR X.K F as Γ σ → ∀ Q : It → Hp → Prop, (∀ J F' as' H', Ext F as F' as' → Rep X.K F' as' γ1 H' → JOk X.K F' as' xs stab J → Q J H') → wpI X tg it σ H Q
section
variable {X : Cx} {Γ Γ1 Γ' : Slots} {γ γ1 γ2 : Cells} {e c o it tg : Expr} {r : Itm} {pos : Pos} {R : SE} {rest sa sb body : List Stmt} {s : Stmt} {P : EPost} {xs : List Itm} {stab : Cells → Prop}
theorem pi_wp : PI X tg it (wpI X tg it) := ⟨fun pins s σ H R I ⟨t, h, q⟩ => h.run pins s σ H R I q⟩
theorem svs_for (hX : Cok X) (hp : PassesOwn (model X.prog X.w) X.A X.env X.xe) (hi : ITV X Γ γ tg it xs stab γ1) (Inv : Nat → Slots → Cells → Prop) (h0 : Inv 0 Γ γ1)
    (hst : ∀ i Γ' γ', i ≤ xs.length → Inv i Γ' γ' → stab γ')
    (hb : ∀ i x Γ' γ', xs[i]? = some x → Inv i Γ' γ' → ∃ Γ2 ws, GV X γ' Γ' tg x Γ2 ws ∧ SVs X Γ2 γ' body { nx := Inv (i + 1), ct := Inv (i + 1), bk := fun a b => SVs X a b rest R, rt := R.rt })
    (hd : ∀ Γ' γ', Inv xs.length Γ' γ' → SVs X Γ' γ' rest R)
    (hs : ∀ x, foldedSetIterable it X.env x = pure x := by intro _; rfl) : SVs X Γ γ (.For tg it body [] pos :: rest) R := by
  refine svs_cons fun F as σ H D Rp E C => ⟨_, ps_for hp hX.calm pi_wp pg_wp pss_wp hs, hi F as σ H Rp E _ fun J F1 as1 H1 x1 R1 hJ => ?_⟩
  refine ⟨fun i m σ' H' => m = xs.length - i ∧ i ≤ xs.length ∧ ∃ Γ' γ' F' as', Ext F1 as1 F' as' ∧ Rep X.K F' as' γ' H' ∧ EnvR X.K F' as' Γ' σ' ∧ Inv i Γ' γ', ⟨xs.length, by simp, Nat.zero_le _, Γ, γ1, F1, as1, Ext.refl _ _, R1, E.mono x1, h0⟩, ?_⟩
  rintro i m σ' H' ⟨rfl, hle, Γ', γ', F', as', x', R', E', inv⟩
  obtain ⟨j1, j2⟩ := hJ i F' as' γ' H' x' R' (hst i Γ' γ' hle inv)
  by_cases hlt : i < xs.length
  · obtain ⟨g1, g2⟩ := j2 xs[i] (List.getElem?_eq_getElem hlt)
    refine .inr ⟨g1, fun σ' H' => ∃ Γ' γ' F' as', Ext F1 as1 F' as' ∧ Rep X.K F' as' γ' H' ∧ EnvR X.K F' as' Γ' σ' ∧ Inv (i + 1) Γ' γ', fun σ' H' q => ⟨xs.length - (i + 1), by omega, rfl, hlt, q⟩, fun v H'' y => ?_⟩
    obtain ⟨F'', x'', R'', i''⟩ := g2 v H'' y
    obtain ⟨Γ2, ws, hG, hB⟩ := hb i xs[i] Γ' γ' (List.getElem?_eq_getElem hlt) inv
    refine hG F'' as' σ' H'' v R'' (E'.mono x'') i'' _ fun σ2 E2 _ => ?_
    have xx := (x1.trans x').trans x''
    refine hB F'' as' σ2 H'' _ R'' E2 ⟨fun Γ3 γ3 F3 as3 σ3 H3 n x3 R3 E3 => ⟨Γ3, γ3, F3, as3, (x'.trans x'').trans x3, R3, E3, n⟩, fun a b c d e f g x3 => (C.mono xx).rt a b c d e f g x3,
      fun Γ3 γ3 F3 as3 σ3 H3 n x3 R3 E3 => (C.mono xx).nx Γ3 γ3 F3 as3 σ3 H3 n x3 R3 E3, fun Γ3 γ3 F3 as3 σ3 H3 n x3 R3 E3 => ⟨Γ3, γ3, F3, as3, (x'.trans x'').trans x3, R3, E3, n⟩⟩
  · have e : i = xs.length := by omega
    subst e
    exact .inl ⟨j1 (Nat.le_refl _), C.nx Γ' γ' F' as' σ' H' (hd Γ' γ' inv) (x1.trans x') R' E'⟩
/-- over a list of data: frozen, or a cell -/
theorem itv_list {ds : List PyData} (h : EV X Γ γ it r γ1) (hr : Rdb γ1 r (.list ds)) : ITV X Γ γ tg it (ds.map Itm.fz) (fun g => Rdb g r (.list ds)) γ1 := fun F as σ H R E Q q => by
  refine ⟨_, pi_list pe_wp, h.go R E fun v F1 as1 H1 x1 R1 i1 => ?_⟩
  obtain ⟨a, vs, rfl, h1, h2⟩ := hr.list R1 i1
  refine ⟨a, rfl, ⟨vs, h1⟩, q _ F1 as1 H1 x1 R1 fun i F' as' γ' H' x' R' st => ?_⟩
  obtain ⟨a', vs', e, h1', h2'⟩ := st.list R' (itm_mono x' i1)
  cases e
  refine ⟨fun hl => ⟨vs', h1', by rw [dpAll_length h2']; simpa using hl⟩, fun x hx => ?_⟩
  rw [List.getElem?_map] at hx
  cases hd : ds[i]? with
  | none => rw [hd] at hx; cases hx
  | some d =>
    rw [hd] at hx
    cases hx
    obtain ⟨u, hu, hdp⟩ := dpAll_get h2' hd
    refine ⟨⟨vs', u, h1', hu⟩, fun v H'' y => ?_⟩
    obtain ⟨rfl, y⟩ := y
    cases hu.symm.trans (y vs' h1')
    exact ⟨F', Ext.refl _ _, R', .fz hdp⟩
theorem itv_tup {ds : List PyData} (h : EV X Γ γ it (.fz (.tuple ds)) γ1) : ITV X Γ γ tg it (ds.map Itm.fz) (fun _ => True) γ1 := fun F as σ H R E Q q => by
  refine ⟨_, pi_tup pe_wp, h.go R E fun v F1 as1 H1 x1 R1 i1 => ?_⟩
  obtain ⟨a, vs, rfl, h1, h2⟩ := itm_tup.mp i1
  refine ⟨a, rfl, ⟨vs, (SqT.of (R1.fr _ _ h1))⟩, q _ F1 as1 H1 x1 R1 fun i F' as' γ' H' x' R' st => ?_⟩
  have h1' : SqT X.K H' a vs := (SqT.of (R'.fr _ _ (x'.1 _ _ h1)))
  have h2' := dpAll_mono x'.1 h2
  refine ⟨fun hl => ⟨vs, h1', by rw [dpAll_length h2']; simpa using hl⟩, fun x hx => ?_⟩
  rw [List.getElem?_map] at hx
  cases hd : ds[i]? with
  | none => rw [hd] at hx; cases hx
  | some d =>
    rw [hd] at hx
    cases hx
    obtain ⟨u, hu, hdp⟩ := dpAll_get h2' hd
    refine ⟨⟨vs, u, h1', hu⟩, fun v H'' y => ?_⟩
    obtain ⟨rfl, y⟩ := y
    cases hu.symm.trans (y vs h1')
    exact ⟨F', Ext.refl _ _, R', .fz hdp⟩
def rngL (lo : Int) (n : Nat) : List Itm := (List.range n).map fun (i : Nat) => Itm.fz (.int (lo + (i : Int)))
theorem rngL_length (lo : Int) (n : Nat) : (rngL lo n).length = n := by simp [rngL]
theorem rngL_get {lo : Int} {n i : Nat} {x : Itm} (h : (rngL lo n)[i]? = some x) : i < n ∧ x = .fz (.int (lo + i)) := by
  unfold rngL at h
  rw [List.getElem?_map] at h
  cases hd : (List.range n)[i]? with
  | none => rw [hd] at h; cases h
  | some d =>
    rw [hd] at h
    obtain ⟨h1, h2⟩ := List.getElem?_eq_some_iff.mp hd
    simp at h1 h2
    subst h2
    exact ⟨h1, (Option.some.inj h).symm⟩
theorem jok_range {K : PySem.W.Frag} {F : Hp} {as : List Addr} {lo : Int} {n : Nat} : JOk K F as (rngL lo n) (fun _ => True) (Itr lo n) := fun i F' as' γ' H' x' R' st =>
  ⟨fun hl => by rw [rngL_length] at hl; exact hl, fun x hx => by
    obtain ⟨h1, rfl⟩ := rngL_get hx
    refine ⟨h1, fun v H'' y => ?_⟩
    obtain ⟨rfl, rfl⟩ := y
    exact ⟨F', Ext.refl _ _, R', itm_int.mpr rfl⟩⟩
theorem itv_range1 {a : Expr} {p : Pos} {n : Int} (b : Bt X "range") (h : EV X Γ γ a (.fz (.int n)) γ1) (hn : n < 2 ^ 62) (hn' : -(2 ^ 62) ≤ n) (hs : starEach [a] X.env = [(false, eval a X.env)] := by rfl) : ITV X Γ γ tg (.Call (.Name "range" p) [a] [] pos) (rngL 0 n.toNat) (fun _ => True) γ1 := fun F as σ H R E Q q =>
  ⟨_, pi_range1 b.gl b.mg (pa_cons pe_wp pa_nil hs) hs, h.go R E fun v F1 as1 H1 x1 R1 i1 => ⟨n, by rw [itm_int.mp i1], hn', hn, q _ F1 as1 H1 x1 R1 jok_range⟩⟩
theorem itv_range2 {a b : Expr} {p : Pos} {lo n : Int} (bt : Bt X "range") (h : EV X Γ γ a (.fz (.int lo)) γ1) (h' : EV X Γ γ1 b (.fz (.int n)) γ2) (hn : -(2 ^ 62) ≤ lo ∧ lo < 2 ^ 62 ∧ -(2 ^ 62) ≤ n ∧ n < 2 ^ 62) (hs : starEach [a, b] X.env = [(false, eval a X.env), (false, eval b X.env)] := by rfl) (hs2 : starEach [b] X.env = [(false, eval b X.env)] := by rfl) :
    ITV X Γ γ tg (.Call (.Name "range" p) [a, b] [] pos) (rngL lo (n - lo).toNat) (fun _ => True) γ2 := fun F as σ H R E Q q =>
  ⟨_, pi_range2 bt.gl bt.mg (pa_cons pe_wp (pa_cons pe_wp pa_nil hs2) (by rw [hs, hs2])) hs hs2, h.go R E fun v F1 as1 H1 x1 R1 i1 => h'.go R1 (E.mono x1) fun u F2 as2 H2 x2 R2 i2 => ⟨lo, n, by rw [itm_int.mp i1, itm_int.mp i2], hn, q _ F2 as2 H2 (x1.trans x2) R2 jok_range⟩⟩
/-- while -/
theorem svs_while (hp : PassesOwn (model X.prog X.w) X.A X.env X.xe) (Inv : Nat → Slots → Cells → Prop) (m0 : Nat) (h0 : Inv m0 Γ γ)
    (hb : ∀ m Γ' γ', Inv m Γ' γ' → ∃ k γ2, TV X Γ' γ' c k γ2 ∧ (k = true → SVs X Γ' γ2 body { nx := fun a b => ∃ m', m' < m ∧ Inv m' a b, ct := fun a b => ∃ m', m' < m ∧ Inv m' a b, bk := fun a b => SVs X a b rest R, rt := R.rt }) ∧ (k = false → SVs X Γ' γ2 rest R)) :
    SVs X Γ γ (.While c body [] pos :: rest) R := by
  refine svs_cons fun F as σ H D Rp E C => ⟨_, ps_while hp pt_wp pss_wp, ?_⟩
  refine ⟨fun m σ' H' => ∃ Γ' γ' F' as', Ext F as F' as' ∧ Rep X.K F' as' γ' H' ∧ EnvR X.K F' as' Γ' σ' ∧ Inv m Γ' γ', ⟨m0, Γ, γ, F, as, Ext.refl _ _, Rp, E, h0⟩, ?_⟩
  rintro m σ' H' ⟨Γ', γ', F', as', x', R', E', inv⟩
  obtain ⟨k, γ2, ht, hy, hn⟩ := hb m Γ' γ' inv
  refine ht F' as' σ' H' R' E' _ fun F1 as1 H1 x1 R1 => ?_
  have xx := x'.trans x1
  cases k with
  | true =>
    refine iteT ⟨fun σ3 H3 => ∃ m', m' < m ∧ ∃ Γ' γ' F' as', Ext F as F' as' ∧ Rep X.K F' as' γ' H3 ∧ EnvR X.K F' as' Γ' σ3 ∧ Inv m' Γ' γ', fun σ3 H3 q => q, ?_⟩
    refine hy rfl F1 as1 σ' H1 _ R1 (E'.mono x1) ⟨fun Γ3 γ3 F3 as3 σ3 H3 n x3 R3 E3 => ?_, fun a b c d e f g x3 => (C.mono xx).rt a b c d e f g x3, fun Γ3 γ3 F3 as3 σ3 H3 n x3 R3 E3 => (C.mono xx).nx Γ3 γ3 F3 as3 σ3 H3 n x3 R3 E3, fun Γ3 γ3 F3 as3 σ3 H3 n x3 R3 E3 => ?_⟩
    · obtain ⟨m', hm, n⟩ := n
      exact ⟨m', hm, Γ3, γ3, F3, as3, xx.trans x3, R3, E3, n⟩
    · obtain ⟨m', hm, n⟩ := n
      exact ⟨m', hm, Γ3, γ3, F3, as3, xx.trans x3, R3, E3, n⟩
  | false => exact iteF (C.nx _ _ _ _ _ _ (hn rfl) xx R1 (E'.mono x1))
end
end PL

namespace PL
open PySem PySem.Spec PyProof.Rows L2

/-! ### items below n -/
inductive ILt (n : Nat) : Itm → Prop
  | fz (d : PyData) : ILt n (.fz d)
  | cl {c : Nat} (h : c < n) : ILt n (.cl c)
  | tp {xs : List Itm} (h : ∀ x ∈ xs, ILt n x) : ILt n (.tp xs)
def CLt (n : Nat) : Cell → Prop
  | .lst xs => ∀ x ∈ xs, ILt n x
  | .dic kvs => ∀ p ∈ kvs, ILt n p.2
  | .dit kvs => ∀ p ∈ kvs, ILt n p.2
  | .ins _ fs => ∀ p ∈ fs, ILt n p.2
  | .raw _ => True
  | .dead => True
def Clo (γ : Cells) : Prop := ∀ o ∈ γ, CLt γ.length o
section
variable {K : PySem.W.Frag} {F : Hp} {as : List Addr} {n : Nat}
mutual
theorem itm_lt : ∀ {x : Itm} {v : V}, ItmR K F as x v → ILt as.length x
  | _, _, .fz _ => .fz _
  | _, _, .cl h => .cl (List.getElem?_eq_some_iff.mp h).1
  | _, _, .tp _ r => .tp (itms_lt r)
theorem itms_lt : ∀ {xs : List Itm} {vs : List V}, ItmsR K F as xs vs → ∀ x ∈ xs, ILt as.length x
  | _, _, .nil, _, h => by simp at h
  | _, _, .cons h r, x, hm => by
    rcases List.mem_cons.mp hm with e | hm
    · rw [e]; exact itm_lt h
    · exact itms_lt r x hm
end
theorem paired_lt {α : Type} : ∀ {xs : List (α × Itm)} {ys : List (α × V)}, Paired (fun (p : α × Itm) (q : α × V) => p.1 = q.1 ∧ ItmR K F as p.2 q.2) xs ys → ∀ p ∈ xs, ILt as.length p.2
  | _, _, .nil, _, h => by simp at h
  | _, _, .cons h r, x, hm => by
    rcases List.mem_cons.mp hm with e | hm
    · rw [e]; exact itm_lt h.2
    · exact paired_lt r x hm
theorem cell_lt {H : Hp} {a : Addr} {o : Cell} (h : CellR K F as H a o) : CLt as.length o := by
  cases o with
  | lst xs => obtain ⟨vs, h1, h2⟩ := h; exact itms_lt h2
  | dic xs => obtain ⟨vs, h1, h2⟩ := h; exact paired_lt h2
  | dit xs => obtain ⟨vs, h1, h2⟩ := h; exact paired_lt h2
  | ins C xs => obtain ⟨dx, vs, h1, h2⟩ := h; exact paired_lt h2
  | raw f => trivial
  | dead => trivial
theorem Rep.clo {γ : Cells} {H : Hp} (R : Rep K F as γ H) : Clo γ := fun o ho => by
  obtain ⟨c, hc⟩ := List.getElem?_of_mem ho
  obtain ⟨a, h1, h2⟩ := R.cellAt hc
  rw [← R.len]
  exact cell_lt h2
mutual
theorem itm_cut : ∀ {x : Itm} {v : V}, ItmR K F as x v → ILt n x → ItmR K F (as.take n) x v
  | _, _, .fz h, _ => .fz h
  | _, _, .cl h, l => by
    cases l with
    | cl l => exact .cl (by rw [List.getElem?_take_of_lt l]; exact h)
  | _, _, .tp h r, l => by
    cases l with
    | tp l => exact .tp h (itms_cut r l)
theorem itms_cut : ∀ {xs : List Itm} {vs : List V}, ItmsR K F as xs vs → (∀ x ∈ xs, ILt n x) → ItmsR K F (as.take n) xs vs
  | _, _, .nil, _ => .nil
  | _, _, .cons h r, l => .cons (itm_cut h (l _ List.mem_cons_self)) (itms_cut r fun x hx => l x (List.mem_cons_of_mem _ hx))
end
theorem paired_cut {α : Type} : ∀ {xs : List (α × Itm)} {ys : List (α × V)}, Paired (fun (p : α × Itm) (q : α × V) => p.1 = q.1 ∧ ItmR K F as p.2 q.2) xs ys → (∀ p ∈ xs, ILt n p.2) → Paired (fun (p : α × Itm) (q : α × V) => p.1 = q.1 ∧ ItmR K F (as.take n) p.2 q.2) xs ys
  | _, _, .nil, _ => .nil
  | _, _, .cons h r, l => .cons ⟨h.1, itm_cut h.2 (l _ List.mem_cons_self)⟩ (paired_cut r fun x hx => l x (List.mem_cons_of_mem _ hx))
theorem cell_cut {H : Hp} {a : Addr} {o : Cell} (h : CellR K F as H a o) (l : CLt n o) : CellR K F (as.take n) H a o := by
  cases o with
  | lst xs => obtain ⟨vs, h1, h2⟩ := h; exact ⟨vs, h1, itms_cut h2 l⟩
  | dic xs => obtain ⟨vs, h1, h2⟩ := h; exact ⟨vs, h1, paired_cut h2 l⟩
  | dit xs => obtain ⟨vs, h1, h2⟩ := h; exact ⟨vs, h1, paired_cut h2 l⟩
  | ins C xs => obtain ⟨dx, vs, h1, h2⟩ := h; exact ⟨dx, vs, h1, paired_cut h2 l⟩
  | raw f => exact h
  | dead => trivial
/-- the last cells are forgotten -/
theorem Rep.cut {γ junk : Cells} {H : Hp} (R : Rep K F as (γ ++ junk) H) (c : Clo γ) : Rep K F (as.take γ.length) γ H := by
  have hl : γ.length ≤ as.length := by rw [R.len]; simp
  refine ⟨R.fr, (List.take_sublist _ _).nodup R.nd, by simp [Nat.min_eq_left hl], fun a ha => R.th a (List.mem_of_mem_take ha), fun i o h => ?_⟩
  have hi := (List.getElem?_eq_some_iff.mp h).1
  obtain ⟨a, h1, h2, h3⟩ := R.at_ i o (by rw [List.getElem?_append_left hi]; exact h)
  exact ⟨a, by rw [List.getElem?_take_of_lt hi]; exact h1, h2, cell_cut h3 (c o (List.mem_of_getElem? h))⟩
end

/-! ### what a def promises -/
abbrev PSpec := List Itm → Cells → EPost → Prop
/-- at a def's end: the cells without the last ones, which nothing names -/
def Fin (n : Nat) (P : EPost) (r : Itm) (g : Cells) : Prop := ∃ g' junk, g = g' ++ junk ∧ n ≤ g'.length ∧ Clo g' ∧ ILt g'.length r ∧ P r g'
def spPL (K : PySem.W.Frag) (S : PSpec) : Sp := fun vs H Q _ => ∃ F as γ args P, Rep K F as γ H ∧ ItmsR K F as args vs ∧ S args γ P ∧
  ∀ v r γ' F' as' H', P r γ' → Ext F as F' as' → Rep K F' as' γ' H' → ItmR K F' as' r v → Q v H'
structure FnD (P : Program) (w : World) (K : PySem.W.Frag) (mg : Str → Option Value) (base : Heap) (x : Str) (k : Nat) (S : PSpec) : Prop where
  ex : ∃ f fd ps, FnOk P w K mg base CX0 k f fd ps (spPL K S) ∧ mg x = some (.ref f) ∧ PySem.W.keepIn K (.ref f) = true ∧ Binds K fd ps []
/-- the def x may be called here -/
structure Cal (X : Cx) (x : Str) (S : PSpec) : Prop where
  ex : ∃ k, FnD X.prog X.w X.K X.mg X.base x k S ∧ Room k X.A
  gl : Gl X x
  d1 : (x == ("__debug__" : Str)) = false
section
variable {X : Cx} {Γ : Slots} {γ γ1 : Cells} {e : Expr} {es : List Expr} {rs : List Itm} {r : Itm} {pos p : Pos} {x : Str} {S : PSpec} {P : EPost}
theorem ee_call (h : Cal X x S) (ha : AV X Γ γ (e :: es) rs γ1) (hs : S rs γ1 P) (he : starEach (e :: es) X.env = (false, eval e X.env) :: starEach es X.env := by rfl) (hpl : (backTo pos (starEach es X.env)).any (·.1) = false := by rfl) :
    EE X Γ γ (.Call (.Name x p) (e :: es) [] pos) P := fun F as σ H R E Q q => by
  obtain ⟨k, ⟨f, fd, ps, G, hm, hk, hb⟩, hr⟩ := h.ex
  refine ⟨_, pe_call G hr h.gl hm hk hb .nil pass0 pa_wp h.d1 he hpl, ?_⟩
  refine ha.go R E fun vs F1 as1 H1 x1 R1 i1 => ?_
  show spPL X.K S (vs ++ []) H1 Q E0
  rw [List.append_nil]
  exact ⟨F1, as1, γ1, rs, P, R1, i1, hs, fun v r g F2 as2 H2 hp x2 R2 i2 => q v r g F2 as2 H2 hp (x1.trans x2) R2 i2⟩
theorem ev_call {γ2 : Cells} (h : Cal X x S) (ha : AV X Γ γ (e :: es) rs γ1) (hs : S rs γ1 fun r' g => r' = r ∧ g = γ2) (he : starEach (e :: es) X.env = (false, eval e X.env) :: starEach es X.env := by rfl) (hpl : (backTo pos (starEach es X.env)).any (·.1) = false := by rfl) :
    EV X Γ γ (.Call (.Name x p) (e :: es) [] pos) r γ2 := ee_call h ha hs he hpl
end
/-- the context of a def's body -/
structure Ctx (X : Cx) (P : Program) (w : World) (K : PySem.W.Frag) (mg : Str → Option Value) (base : Heap) (N : List Str) (sc : Scope) (k : Nat) : Prop where
  prog : X.prog = P
  w : X.w = w
  K : X.K = K
  mg : X.mg = mg
  base : X.base = base
  N : X.N = N
  sc : X.env.scope = sc
  fn : X.fn = fun _ => true
  ok : Cok X
  room : Room k X.A
  po : PassesOwn (model X.prog X.w) X.A X.env X.xe
section
variable {P : Program} {w : World} {K : PySem.W.Frag} {mg : Str → Option Value} {base : Heap} {N : List Str} {sc : Scope} {X : Cx} {x : Str} {k : Nat} {S : PSpec}
theorem Ctx.nm (c : Ctx X P w K mg base N sc k) (i : Nat) (kd : NameKind) (h1 : N[i]? = some x) (h2 : sc.names.lookup x = some kd) (hv : kd = .local ∨ kd = .cell) (d1 : (x == ("__debug__" : Str)) = false) (d2 : (x == ("__classdict__" : Str)) = false) : Nm X x i kd :=
  ⟨⟨by rw [c.N]; exact h1, by rw [c.sc]; exact h2, hv, d1, d2⟩, .inl (by rw [c.fn])⟩
theorem Ctx.bt (c : Ctx X P w K mg base N sc k) (h1 : sc.names.lookup x = some .globalImplicit) (h2 : mg x = none) : Bt X x := ⟨by show X.env.scope.names.lookup x = _; rw [c.sc]; exact h1, by rw [c.mg]; exact h2⟩
theorem Ctx.cal {j : Nat} (c : Ctx X P w K mg base N sc k) (F : FnD P w K mg base x j S) (hj : j ≤ k) (h1 : sc.names.lookup x = some .globalImplicit) (d1 : (x == ("__debug__" : Str)) = false) : Cal X x S :=
  ⟨⟨j, by rw [c.prog, c.w, c.K, c.mg, c.base]; exact F, c.room.mono hj⟩, by show X.env.scope.names.lookup x = _; rw [c.sc]; exact h1, d1⟩
def slots0 (N : List Str) (args : List Itm) : Slots := args.map some ++ List.replicate (N.length - args.length) none
theorem env_start {F : Hp} {as : List Addr} {args : List Itm} {vs : List V} (h : ItmsR K F as args vs) : EnvR K F as (slots0 N args) (start N vs) := by
  have l := itms_length h
  refine ⟨by simp [slots0, L2.start, l], fun i x hx => ?_⟩
  unfold slots0 at hx
  by_cases hi : i < args.length
  · rw [List.getElem?_append_left (by simpa using hi), List.getElem?_map] at hx
    cases hd : args[i]? with
    | none => rw [hd] at hx; cases hx
    | some y =>
      rw [hd] at hx
      obtain rfl : y = x := by simpa using hx
      obtain ⟨v, h1, h2⟩ := itms_get h hd
      refine ⟨v, ?_, h2⟩
      unfold L2.start
      rw [List.getElem?_append_left (by simp; omega), List.getElem?_map, h1]
      rfl
  · rw [List.getElem?_append_right (by simp; omega)] at hx
    have := List.mem_of_getElem? hx
    simp at this
/-- THE RULE for a def -/
theorem def_ok {qual : Str} {st : Stmt} {f : Addr} {fd : FuncData} {ps : List Str} (F : Fun K x qual st f fd) (SC : FnScope N ps (defScope st)) (hm : mg x = some (.ref f)) (hb : Binds K fd ps [])
    (len : ∀ args γ P, S args γ P → args.length = ps.length)
    (body : ∀ X : Cx, Ctx X P w K mg base N (defScope st) k → ∀ args γ Po, Clo γ → S args γ Po → SVs X (slots0 N args) γ (defBody st) { nx := fun _ g => Fin γ.length Po (.fz .none) g, rt := Fin γ.length Po }) : FnD P w K mg base x (k + 1) S := by
  refine ⟨f, fd, ps, F.ok SC (fun vs H Q E h => ?_) (fun cdv A outer s H vs Q E hr h => ?_), hm, F.kp, hb⟩
  · obtain ⟨F, as, γ, args, Po, R, i, hs, _⟩ := h
    rw [← itms_length i]
    exact len _ _ _ hs
  · obtain ⟨F', as, γ, args, Po, R, i, hs, q⟩ := h
    refine ⟨_, pss_wp, ?_⟩
    have c : Ctx (cxOf CX0 P w K mg base N qual (defScope st) f cdv A outer s H E).nox P w K mg base N (defScope st) k :=
      ⟨rfl, rfl, rfl, rfl, rfl, rfl, rfl, rfl, ⟨rfl, SC.nd, SC.kind, by have := hr.un; show (A.deeper (envOfC qual (defScope st) s.heap.objs.size f cdv)).units + 100 < cLine; omega⟩, hr, PassesOwn.never⟩
    refine body _ c args γ Po R.clo hs F' as (start N vs) H _ R (env_start i) ⟨fun Γ' g F1 as1 σ1 H1 hn x1 R1 E1 => ?_, fun r g F1 as1 v H1 hn x1 R1 i1 => ?_, fun _ _ _ _ _ _ z => z.elim, fun _ _ _ _ _ _ z => z.elim⟩
    · obtain ⟨g', junk, rfl, hl, hc, hi, hp⟩ := hn
      refine q _ _ g' F1 (as1.take g'.length) H1 hp ⟨x1.1, ?_⟩ (R1.cut hc) (itm_non.mpr rfl)
      obtain ⟨_, t, rfl⟩ := x1
      rw [List.take_append, List.take_of_length_le (by rw [R.len]; exact hl)]
      exact ⟨_, rfl⟩
    · obtain ⟨g', junk, rfl, hl, hc, hi, hp⟩ := hn
      refine q _ _ g' F1 (as1.take g'.length) H1 hp ⟨x1.1, ?_⟩ (R1.cut hc) (itm_cut i1 hi)
      obtain ⟨_, t, rfl⟩ := x1
      rw [List.take_append, List.take_of_length_le (by rw [R.len]; exact hl)]
      exact ⟨_, rfl⟩
theorem clo_set {γ : Cells} {c : Nat} {o : Cell} (h : Clo γ) (ho : CLt γ.length o) : Clo (γ.set c o) := fun q hq => by
  rw [List.length_set]
  rcases List.mem_or_eq_of_mem_set hq with hq | e
  · exact h q hq
  · rw [e]; exact ho
theorem clt_fz {n : Nat} (ds : List PyData) : CLt n (.lst (ds.map Itm.fz)) := fun x hx => by
  obtain ⟨d, _, rfl⟩ := List.mem_map.mp hx
  exact .fz d
theorem fin_same {P : EPost} {d : PyData} {γ : Cells} (h : Clo γ) (hp : P (.fz d) γ) : Fin γ.length P (.fz d) γ := ⟨γ, [], by simp, Nat.le_refl _, h, .fz d, hp⟩
theorem fin_junk {P : EPost} {d : PyData} {γ junk : Cells} (h : Clo γ) (hp : P (.fz d) γ) : Fin γ.length P (.fz d) (γ ++ junk) := ⟨γ, junk, rfl, Nat.le_refl _, h, .fz d, hp⟩
theorem fin_of {P : EPost} {d : PyData} {γ g g' junk : Cells} (e : g = g' ++ junk) (hl : γ.length = g'.length) (h : Clo g') (hp : P (.fz d) g') : Fin γ.length P (.fz d) g := ⟨g', junk, e, Nat.le_of_eq hl, h, .fz d, hp⟩
end
end PL

namespace PL
open PySem PySem.Spec PyProof.Rows L2

/-! ### own rules at the value level -/
section
variable {X : Cx}
/-- list + list, both only read -/
def rCatS (K : PySem.W.Frag) : R2 := fun x y H Q => ∃ l b xs zs, x = .ref l ∧ y = .ref b ∧ SqL K H l xs ∧ SqL K H b zs ∧ xs.length + zs.length ≤ sizeLine ∧ ∀ p, H p = none → Q (.ref p) (upd H p (.lst (xs ++ zs)))
theorem op_catS : OpR X (binaryOp .Add) (rCatS X.K) := by
  intro pins s σ H x y v u Q I rx ry h
  obtain ⟨l, b, xs, zs, rfl, rfl, hH, hB, hz, q⟩ := h
  cases rx
  cases ry
  obtain ⟨its, r, pl, _⟩ := I.list hH
  obtain ⟨its2, r2, pl2, _⟩ := I.list hB
  obtain ⟨⟨cls, dd, data, sl⟩, n, ho, hc, hd0, hd⟩ := pl
  obtain ⟨⟨cls2, dd2, data2, sl2⟩, n2, ho2, hc2, hd02, hd2⟩ := pl2
  simp only at hc hd hc2 hd2
  subst hc hd hc2 hd2
  have l1 := r.length
  have l2 := r2.length
  have e : its.toArray ++ its2.toArray = (its ++ its2).toArray := by simp
  refine concat_meets ⟨_, ho, rfl⟩ ⟨_, ho2, rfl⟩ noFill_list_add seq_list_add PySem.F.slot_list_add PySem.F.entry_list_add (PySem.F.args_list_add_2 _ _) (PyProof.Rows.list_addW l b its.toArray its2.toArray n n2 dd dd2 sl sl2 (by simp; omega)) ⟨ho, ho2, ?_⟩
  rw [e]
  exact ⟨.ref _, _, I.lnew (t' := s.toks) (r.append r2) (by rw [List.length_append]; omega), rfl, q _ I.fresh⟩
/-- any, all of a list of ints -/
theorem truth_ints {prog : Program} {w : World} {A : Around} {ns : List Int} {its : List Value} (e : IntsAre its ns) :
    TruthOf prog w A (fun i v => its.toArray[i]? = some v) (fun i => (ns.map (· != 0)).getD i false) := fun i v s Q E hv hq => by
  have hv' : its[i]? = some v := by simpa using hv
  have key : ∀ (its : List Value) (ns : List Int) (i : Nat), IntsAre its ns → its[i]? = some v → ∃ n t, v = Value.int n t ∧ ns[i]? = some n := by
    intro its ns i e
    induction e generalizing i with
    | nil => intro h; simp at h
    | cons n t r ih =>
      intro h
      cases i with
      | zero => simp at h; exact ⟨n, t, h.symm, by simp⟩
      | succ i => simp at h; obtain ⟨m, t', h1, h2⟩ := ih i h; exact ⟨m, t', h1, by simpa using h2⟩
  obtain ⟨n, t, rfl, hn⟩ := key its ns i e hv'
  have hg : (ns.map (· != 0)).getD i false = (n != 0) := by rw [List.getD_eq_getElem?_getD, List.getElem?_map, hn] <;> rfl
  have hq' : Q ((ns.map (· != 0)).getD i false) s := hq
  rw [hg] at hq'
  exact PySem.P.truthy_int hq'
def rAnyI (K : PySem.W.Frag) : List V → Hp → VK → Prop := fun vs H Q => ∃ (a : Addr) (ns : List Int), vs = [V.ref a] ∧ SqL K H a (ns.map V.int) ∧ Q (.bl (ns.any (· != 0))) H
theorem cr_anyI (hc : X.calm = true) : CallR X (.builtin "any") (rAnyI X.K) := by
  intro pins s σ H vs us Q I r h
  obtain ⟨a, bs, rfl, hs, q⟩ := h
  obtain ⟨its, rv, hl, _⟩ := I.list hs
  rw [Vals.ref1 r]
  have hb := rv.ints
  refine call_any_walk (iter_any hl.isList fun s₂ e2 st hne => ?_)
  subst e2
  refine ⟨_, _, _, _, _, _, _, rfl, Walks.list (A := X.A.in1) (I.ok.hd hc) _ a hne its.toArray, st, truth_ints hb, fun h' tk hk => ?_⟩
  refine ⟨.bl _, H, I.kept fun b o eo => hk b o (fun hmem => ?_) (Heap.get?_push_of_some _ eo), ?_, q⟩
  · rcases List.mem_cons.mp hmem with e1 | hmem
    · exact absurd (e1 ▸ Heap.lt_size eo) (Nat.lt_irrefl _)
    · cases hmem
  · show Value.bool _ = Value.bool _
    have e : its.toArray.size = (bs.map (· != 0)).length := by rw [List.size_toArray, List.length_map, hb.length]
    rw [e, L2.any_range, List.any_map]
    rfl
/-- o[i] by values, a list -/
theorem get_list : PGet X (fun x y H Q => ∃ (p : Addr) (xs : List V) (j : Nat) (v : V), x = .ref p ∧ y = .int j ∧ SqL X.K H p xs ∧ xs[j]? = some v ∧ Q v H) := by
  intro pins s σ H x y v u Q I rx ry h
  obtain ⟨p, xs, j, z, rfl, rfl, hq, he, q⟩ := h
  cases rx
  obtain ⟨t, rfl⟩ := ry
  obtain ⟨its, r, pl, hz⟩ := I.list hq
  obtain ⟨w, ew, rw'⟩ := r.get he
  have hl := r.length
  have hn := line63
  have hj := (List.getElem?_eq_some_iff.mp he).1
  exact wpAny_getItem_list pl.isList (by omega) (by omega) (by simpa using ew) ⟨z, H, I, rw', q⟩
end

/-! ### built-in calls -/
section
variable {X : Cx} {Γ : Slots} {γ γ1 γ2 γ3 : Cells} {e a b o c : Expr} {es : List Expr} {rs : List Itm} {r ra rb : Itm} {pos p : Pos} {x : Str} {R : SE} {rest : List Stmt} {k : Bool} {i j n : Int} {ds es' : List PyData} {d : PyData}
theorem ev_callB {id : String} {t : List V → Hp → VK → Prop} (hc : CallR X (.builtin id) t) (bt : Bt X x) (hv : bootBuiltins x = some (.builtin id)) (ha : AV X Γ γ (e :: es) rs γ1)
    (hr : ∀ F as H vs, Rep X.K F as γ1 H → ItmsR X.K F as rs vs → ∀ Q : VK, (∀ v F' as' H', Ext F as F' as' → Rep X.K F' as' γ2 H' → ItmR X.K F' as' r v → Q v H') → t vs H Q)
    (hn : x ≠ "__name__" := by decide) (hdb : (x == ("__debug__" : Str)) = false := by decide)
    (he : starEach (e :: es) X.env = (false, eval e X.env) :: starEach es X.env := by rfl) (hpl : (backTo pos (starEach es X.env)).any (·.1) = false := by rfl) : EV X Γ γ (.Call (.Name x p) (e :: es) [] pos) r γ2 := .mk fun F as σ H R E Q q => by
  refine ⟨_, pe_callB hc bt.gl bt.mg hv pa_wp hn hdb he hpl, ?_⟩
  refine ha.go R E fun vs F1 as1 H1 x1 R1 i1 => ?_
  exact hr F1 as1 H1 vs R1 i1 Q fun v F2 as2 H2 x2 R2 i2 => q v F2 as2 H2 (x1.trans x2) R2 i2
theorem ev_callTy {T : String} {t : List V → Hp → VK → Prop} (hc : CallR X (.type T) t) (bt : Bt X x) (hv : bootBuiltins x = some (.type T)) (ha : AV X Γ γ (e :: es) rs γ1)
    (hr : ∀ F as H vs, Rep X.K F as γ1 H → ItmsR X.K F as rs vs → ∀ Q : VK, (∀ v F' as' H', Ext F as F' as' → Rep X.K F' as' γ2 H' → ItmR X.K F' as' r v → Q v H') → t vs H Q)
    (hn : x ≠ "__name__" := by decide) (hdb : (x == ("__debug__" : Str)) = false := by decide)
    (he : starEach (e :: es) X.env = (false, eval e X.env) :: starEach es X.env := by rfl) (hpl : (backTo pos (starEach es X.env)).any (·.1) = false := by rfl) : EV X Γ γ (.Call (.Name x p) (e :: es) [] pos) r γ2 := .mk fun F as σ H R E Q q => by
  refine ⟨_, pe_callTy hc bt.gl bt.mg hv pa_wp hn hdb he hpl, ?_⟩
  refine ha.go R E fun vs F1 as1 H1 x1 R1 i1 => ?_
  exact hr F1 as1 H1 vs R1 i1 Q fun v F2 as2 H2 x2 R2 i2 => q v F2 as2 H2 (x1.trans x2) R2 i2
theorem itms1 {K F as} {x : Itm} {vs : List V} (h : ItmsR K F as [x] vs) : ∃ v, vs = [v] ∧ ItmR K F as x v := by
  cases h with
  | cons h r => cases r; exact ⟨_, rfl, h⟩
theorem itms2 {K F as} {x y : Itm} {vs : List V} (h : ItmsR K F as [x, y] vs) : ∃ v u, vs = [v, u] ∧ ItmR K F as x v ∧ ItmR K F as y u := by
  cases h with
  | cons h r =>
    obtain ⟨u, rfl, h2⟩ := itms1 r
    exact ⟨_, _, rfl, h, h2⟩
/-- len of a list, of a tuple, of a text -/
theorem ev_lenL (bt : Bt X "len") (ha : EV X Γ γ a r γ1) (hr : Rdb γ1 r (.list ds)) (hs : starEach [a] X.env = (false, eval a X.env) :: starEach [] X.env := by rfl) : EV X Γ γ (.Call (.Name "len" p) [a] [] pos) (.fz (.int (ds.length : Int))) γ1 :=
  ev_callB call_len_seq bt PySem.boot_len (av_cons ha av_nil hs) (fun F as H vs R i Q q => by
    obtain ⟨v, rfl, h⟩ := itms1 i
    obtain ⟨l, us, rfl, h1, h2⟩ := hr.list R h
    exact ⟨l, us, rfl, .inl h1, by rw [dpAll_length h2]; exact q _ F as H (Ext.refl F as) R (itm_int.mpr rfl)⟩) (he := hs)
theorem ev_lenC {cc : Nat} {xs : List Itm} (bt : Bt X "len") (ha : EV X Γ γ a (.cl cc) γ1) (hr : γ1[cc]? = some (.lst xs)) (hs : starEach [a] X.env = (false, eval a X.env) :: starEach [] X.env := by rfl) : EV X Γ γ (.Call (.Name "len" p) [a] [] pos) (.fz (.int (xs.length : Int))) γ1 :=
  ev_callB call_len_seq bt PySem.boot_len (av_cons ha av_nil hs) (fun F as H vs R i Q q => by
    obtain ⟨v, rfl, h⟩ := itms1 i
    obtain ⟨l, hl, rfl⟩ := itm_cl.mp h
    obtain ⟨l', h1, us, h2, h3⟩ := R.cellAt hr
    rw [hl] at h1
    cases h1
    exact ⟨l, us, rfl, .inl (SqL.of h2), by rw [← itms_length h3]; exact q _ F as H (Ext.refl F as) R (itm_int.mpr rfl)⟩) (he := hs)
theorem ev_lenT (bt : Bt X "len") (ha : EV X Γ γ a (.fz (.tuple ds)) γ1) (hs : starEach [a] X.env = (false, eval a X.env) :: starEach [] X.env := by rfl) : EV X Γ γ (.Call (.Name "len" p) [a] [] pos) (.fz (.int (ds.length : Int))) γ1 :=
  ev_callB call_len_seq bt PySem.boot_len (av_cons ha av_nil hs) (fun F as H vs R i Q q => by
    obtain ⟨v, rfl, h⟩ := itms1 i
    obtain ⟨l, us, rfl, h1, h2⟩ := itm_tup.mp h
    exact ⟨l, us, rfl, .inr ((SqT.of (R.fr _ _ h1))), by rw [dpAll_length h2]; exact q _ F as H (Ext.refl F as) R (itm_int.mpr rfl)⟩) (he := hs)
theorem ev_lenS {z : Str} (bt : Bt X "len") (ha : EV X Γ γ a (.fz (.str z)) γ1) (hz : z.length ≤ sizeLine) (hs : starEach [a] X.env = (false, eval a X.env) :: starEach [] X.env := by rfl) : EV X Γ γ (.Call (.Name "len" p) [a] [] pos) (.fz (.int (z.length : Int))) γ1 :=
  ev_callB call_len_str bt PySem.boot_len (av_cons ha av_nil hs) (fun F as H vs R i Q q => by
    obtain ⟨v, rfl, h⟩ := itms1 i
    obtain rfl := itm_str.mp h
    exact ⟨z, rfl, hz, q _ F as H (Ext.refl F as) R (itm_int.mpr rfl)⟩) (he := hs)
theorem ev_max2 (hX : Cok X) (bt : Bt X "max") (ha : EV X Γ γ a (.fz (.int i)) γ1) (hb : EV X Γ γ1 b (.fz (.int j)) γ2) (hs : starEach [a, b] X.env = (false, eval a X.env) :: starEach [b] X.env := by rfl) (hs2 : starEach [b] X.env = (false, eval b X.env) :: starEach [] X.env := by rfl) (hpl : (backTo pos (starEach [b] X.env)).any (·.1) = false := by rfl) :
    EV X Γ γ (.Call (.Name "max" p) [a, b] [] pos) (.fz (.int (max i j))) γ2 :=
  ev_callB (call_max2 hX.calm) bt (by decide +kernel) (av_cons ha (av_cons hb av_nil hs2) hs) (fun F as H vs R i' Q q => by
    obtain ⟨v, u, rfl, h, h'⟩ := itms2 i'
    refine ⟨i, j, by rw [itm_int.mp h, itm_int.mp h'], ?_⟩
    have e : (if j > i then j else i) = max i j := by omega
    rw [e]
    exact q _ F as H (Ext.refl F as) R (itm_int.mpr rfl)) (he := hs) (hpl := hpl)
theorem ev_min2 (hX : Cok X) (bt : Bt X "min") (ha : EV X Γ γ a (.fz (.int i)) γ1) (hb : EV X Γ γ1 b (.fz (.int j)) γ2) (hs : starEach [a, b] X.env = (false, eval a X.env) :: starEach [b] X.env := by rfl) (hs2 : starEach [b] X.env = (false, eval b X.env) :: starEach [] X.env := by rfl) (hpl : (backTo pos (starEach [b] X.env)).any (·.1) = false := by rfl) :
    EV X Γ γ (.Call (.Name "min" p) [a, b] [] pos) (.fz (.int (min i j))) γ2 :=
  ev_callB (call_min2 hX.calm) bt (by decide +kernel) (av_cons ha (av_cons hb av_nil hs2) hs) (fun F as H vs R i' Q q => by
    obtain ⟨v, u, rfl, h, h'⟩ := itms2 i'
    refine ⟨i, j, by rw [itm_int.mp h, itm_int.mp h'], ?_⟩
    have e : (if j < i then j else i) = min i j := by omega
    rw [e]
    exact q _ F as H (Ext.refl F as) R (itm_int.mpr rfl)) (he := hs) (hpl := hpl)
def intsD (ns : List Int) : PyData := .list (ns.map .int)
def boolsD (bs : List Bool) : PyData := .list (bs.map .bool)
theorem dpAll_bools_inv {K F} : ∀ {ns : List Bool} {vs : List V}, DqAll K F vs (ns.map PyData.bool) → vs = ns.map V.bl
  | [], _, h => by cases h; rfl
  | n :: ns, _, h => by
    cases h with
    | cons h r => cases h; rw [dpAll_bools_inv r]; rfl
theorem Rdb.ints {K F H as γ v} {ns : List Int} (r : Rdb γ ra (.list (ns.map .int))) (R : Rep K F as γ H) (h : ItmR K F as ra v) : ∃ l, v = .ref l ∧ SqL K H l (ns.map V.int) := by
  obtain ⟨l, vs, e, h1, h2⟩ := r.list R h
  rw [dpAll_ints_inv h2] at h1
  exact ⟨l, e, h1⟩
theorem Rdb.bools {K F H as γ v} {ns : List Bool} (r : Rdb γ ra (.list (ns.map .bool))) (R : Rep K F as γ H) (h : ItmR K F as ra v) : ∃ l, v = .ref l ∧ SqL K H l (ns.map V.bl) := by
  obtain ⟨l, vs, e, h1, h2⟩ := r.list R h
  rw [dpAll_bools_inv h2] at h1
  exact ⟨l, e, h1⟩
theorem ev_sum {ns : List Int} (hX : Cok X) (bt : Bt X "sum") (ha : EV X Γ γ a r γ1) (hr : Rdb γ1 r (.list (ns.map .int))) (hs : starEach [a] X.env = (false, eval a X.env) :: starEach [] X.env := by rfl) : EV X Γ γ (.Call (.Name "sum" p) [a] [] pos) (.fz (.int ns.sum)) γ1 :=
  ev_callB (cr_sum hX.calm) bt (by decide +kernel) (av_cons ha av_nil hs) (fun F as H vs R i Q q => by
    obtain ⟨v, rfl, h⟩ := itms1 i
    obtain ⟨l, rfl, h1⟩ := hr.ints R h
    exact ⟨l, ns, rfl, h1, q _ F as H (Ext.refl F as) R (itm_int.mpr rfl)⟩) (he := hs)
theorem ev_anyB {ns : List Bool} (hX : Cok X) (bt : Bt X "any") (ha : EV X Γ γ a r γ1) (hr : Rdb γ1 r (.list (ns.map .bool))) (hs : starEach [a] X.env = (false, eval a X.env) :: starEach [] X.env := by rfl) : EV X Γ γ (.Call (.Name "any" p) [a] [] pos) (.fz (.bool (ns.any id))) γ1 :=
  ev_callB (cr_any hX.calm) bt (by decide +kernel) (av_cons ha av_nil hs) (fun F as H vs R i Q q => by
    obtain ⟨v, rfl, h⟩ := itms1 i
    obtain ⟨l, rfl, h1⟩ := hr.bools R h
    exact ⟨l, ns, rfl, h1, q _ F as H (Ext.refl F as) R (itm_bl.mpr rfl)⟩) (he := hs)
theorem ev_allB {ns : List Bool} (hX : Cok X) (bt : Bt X "all") (ha : EV X Γ γ a r γ1) (hr : Rdb γ1 r (.list (ns.map .bool))) (hs : starEach [a] X.env = (false, eval a X.env) :: starEach [] X.env := by rfl) : EV X Γ γ (.Call (.Name "all" p) [a] [] pos) (.fz (.bool (ns.all id))) γ1 :=
  ev_callB (cr_all hX.calm) bt (by decide +kernel) (av_cons ha av_nil hs) (fun F as H vs R i Q q => by
    obtain ⟨v, rfl, h⟩ := itms1 i
    obtain ⟨l, rfl, h1⟩ := hr.bools R h
    exact ⟨l, ns, rfl, h1, q _ F as H (Ext.refl F as) R (itm_bl.mpr rfl)⟩) (he := hs)
theorem ev_anyI {ns : List Int} (hX : Cok X) (bt : Bt X "any") (ha : EV X Γ γ a r γ1) (hr : Rdb γ1 r (.list (ns.map .int))) (hs : starEach [a] X.env = (false, eval a X.env) :: starEach [] X.env := by rfl) : EV X Γ γ (.Call (.Name "any" p) [a] [] pos) (.fz (.bool (ns.any (· != 0)))) γ1 :=
  ev_callB (cr_anyI hX.calm) bt (by decide +kernel) (av_cons ha av_nil hs) (fun F as H vs R i Q q => by
    obtain ⟨v, rfl, h⟩ := itms1 i
    obtain ⟨l, rfl, h1⟩ := hr.ints R h
    exact ⟨l, ns, rfl, h1, q _ F as H (Ext.refl F as) R (itm_bl.mpr rfl)⟩) (he := hs)
/-- max, min of a list of ints -/
def lmax : List Int → Int
  | [] => 0
  | [x] => x
  | x :: y :: r => max x (lmax (y :: r))
def lmin : List Int → Int
  | [] => 0
  | [x] => x
  | x :: y :: r => min x (lmin (y :: r))
theorem lmax_mem : ∀ {ns : List Int}, ns ≠ [] → lmax ns ∈ ns
  | [x], _ => by simp [lmax]
  | x :: y :: r, _ => by
    have h := lmax_mem (ns := y :: r) (by simp)
    simp only [lmax]
    rcases Int.le_total x (lmax (y :: r)) with q | q
    · rw [Int.max_eq_right q]; exact List.mem_cons_of_mem _ h
    · rw [Int.max_eq_left q]; exact List.mem_cons_self
theorem lmax_ge : ∀ {ns : List Int} {y : Int}, y ∈ ns → y ≤ lmax ns
  | [x], y, h => by simp at h; simp [lmax, h]
  | x :: z :: r, y, h => by
    simp only [lmax]
    rcases List.mem_cons.mp h with e | h
    · omega
    · have := lmax_ge h; omega
theorem lmin_mem : ∀ {ns : List Int}, ns ≠ [] → lmin ns ∈ ns
  | [x], _ => by simp [lmin]
  | x :: y :: r, _ => by
    have h := lmin_mem (ns := y :: r) (by simp)
    simp only [lmin]
    rcases Int.le_total x (lmin (y :: r)) with q | q
    · rw [Int.min_eq_left q]; exact List.mem_cons_self
    · rw [Int.min_eq_right q]; exact List.mem_cons_of_mem _ h
theorem lmin_le : ∀ {ns : List Int} {y : Int}, y ∈ ns → lmin ns ≤ y
  | [x], y, h => by simp at h; simp [lmin, h]
  | x :: z :: r, y, h => by
    simp only [lmin]
    rcases List.mem_cons.mp h with e | h
    · omega
    · have := lmin_le h; omega
theorem ev_minL {ns : List Int} (hX : Cok X) (bt : Bt X "min") (ha : EV X Γ γ a r γ1) (hr : Rdb γ1 r (.list (ns.map .int))) (hne : ns ≠ []) (hs : starEach [a] X.env = (false, eval a X.env) :: starEach [] X.env := by rfl) : EV X Γ γ (.Call (.Name "min" p) [a] [] pos) (.fz (.int (lmin ns))) γ1 :=
  ev_callB (cr_min hX.calm) bt (by decide +kernel) (av_cons ha av_nil hs) (fun F as H vs R i Q q => by
    obtain ⟨v, rfl, h⟩ := itms1 i
    obtain ⟨l, rfl, h1⟩ := hr.ints R h
    refine ⟨l, ns, rfl, h1, List.length_pos_iff.mpr hne, fun m hm hle => ?_⟩
    have e : m = lmin ns := Int.le_antisymm (hle _ (lmin_mem hne)) (lmin_le hm)
    rw [e]
    exact q _ F as H (Ext.refl F as) R (itm_int.mpr rfl)) (he := hs)
theorem ev_maxL {ns : List Int} (hX : Cok X) (bt : Bt X "max") (ha : EV X Γ γ a r γ1) (hr : Rdb γ1 r (.list (ns.map .int))) (hne : ns ≠ []) (hs : starEach [a] X.env = (false, eval a X.env) :: starEach [] X.env := by rfl) : EV X Γ γ (.Call (.Name "max" p) [a] [] pos) (.fz (.int (lmax ns))) γ1 :=
  ev_callB (cr_max hX.calm) bt (by decide +kernel) (av_cons ha av_nil hs) (fun F as H vs R i Q q => by
    obtain ⟨v, rfl, h⟩ := itms1 i
    obtain ⟨l, rfl, h1⟩ := hr.ints R h
    refine ⟨l, ns, rfl, h1, List.length_pos_iff.mpr hne, fun m hm hle => ?_⟩
    have e : m = lmax ns := Int.le_antisymm (lmax_ge hm) (hle _ (lmax_mem hne))
    rw [e]
    exact q _ F as H (Ext.refl F as) R (itm_int.mpr rfl)) (he := hs)
theorem ev_intB (bt : Bt X "int") (ha : EV X Γ γ a (.fz (.bool k)) γ1) (hs : starEach [a] X.env = (false, eval a X.env) :: starEach [] X.env := by rfl) : EV X Γ γ (.Call (.Name "int" p) [a] [] pos) (.fz (.int (if k then 1 else 0))) γ1 :=
  ev_callTy call_int1 bt (by decide +kernel) (av_cons ha av_nil hs) (fun F as H vs R i Q q => by
    obtain ⟨v, rfl, h⟩ := itms1 i
    exact .inr ⟨k, by rw [itm_bl.mp h], q _ F as H (Ext.refl F as) R (itm_int.mpr rfl)⟩) (he := hs)
theorem ev_intI (bt : Bt X "int") (ha : EV X Γ γ a (.fz (.int i)) γ1) (hs : starEach [a] X.env = (false, eval a X.env) :: starEach [] X.env := by rfl) : EV X Γ γ (.Call (.Name "int" p) [a] [] pos) (.fz (.int i)) γ1 :=
  ev_callTy call_int1 bt (by decide +kernel) (av_cons ha av_nil hs) (fun F as H vs R i Q q => by
    obtain ⟨v, rfl, h⟩ := itms1 i
    exact .inl ⟨_, by rw [itm_int.mp h], q _ F as H (Ext.refl F as) R (itm_int.mpr rfl)⟩) (he := hs)
theorem ev_abs (bt : Bt X "abs") (ha : EV X Γ γ a (.fz (.int i)) γ1) (hs : starEach [a] X.env = (false, eval a X.env) :: starEach [] X.env := by rfl) : EV X Γ γ (.Call (.Name "abs" p) [a] [] pos) (.fz (.int (i.natAbs : Int))) γ1 :=
  ev_callB call_abs bt (by decide +kernel) (av_cons ha av_nil hs) (fun F as H vs R i' Q q => by
    obtain ⟨v, rfl, h⟩ := itms1 i'
    refine ⟨i, by rw [itm_int.mp h], ?_⟩
    have e : (if i < 0 then -i else i) = (i.natAbs : Int) := by split <;> omega
    rw [e]
    exact q _ F as H (Ext.refl F as) R (itm_int.mpr rfl)) (he := hs)
/-- list(x): a copy, frozen or a cell -/
theorem ev_listF (bt : Bt X "list") (ha : EV X Γ γ a r γ1) (hr : Rdb γ1 r (.list ds) ∨ r = .fz (.tuple ds)) (hs : starEach [a] X.env = (false, eval a X.env) :: starEach [] X.env := by rfl) : EV X Γ γ (.Call (.Name "list" p) [a] [] pos) (.fz (.list ds)) γ1 :=
  ev_callTy call_list_of bt (by decide +kernel) (av_cons ha av_nil hs) (fun F as H vs R i Q q => by
    obtain ⟨v, rfl, h⟩ := itms1 i
    have fin : ∀ us, DqAll X.K F us ds → ∀ l, H l = none → Q (.ref l) (upd H l (.lst us)) := fun us h2 l hl => q _ (upd F l (.lst us)) as _ ⟨R.sameNew _ hl, [], by simp⟩ (R.new _ hl) (itm_lst.mpr ⟨l, us, rfl, SqL.of upd_same, dpAll_mono (R.sameNew _ hl) h2⟩)
    rcases hr with hr | rfl
    · obtain ⟨l, us, rfl, h1, h2⟩ := hr.list R h
      exact ⟨l, us, rfl, .inl h1, fin us h2⟩
    · obtain ⟨l, us, rfl, h1, h2⟩ := itm_tup.mp h
      exact ⟨l, us, rfl, .inr ((SqT.of (R.fr _ _ h1))), fin us h2⟩) (he := hs)
theorem newCellL {K F as γ H} (R : Rep K F as γ H) {xs : List Itm} {us : List V} (h : ItmsR K F as xs us) {l : Addr} (hl : H l = none) : Rep K F (as ++ [l]) (γ ++ [.lst xs]) (upd H l (.lst us)) ∧ ItmR K F (as ++ [l]) (.cl γ.length) (.ref l) := by
  refine ⟨R.newCell hl ⟨us, upd_same, itms_mono ⟨Same.refl F, [l], rfl⟩ h⟩, itm_cl.mpr ⟨l, ?_, rfl⟩⟩
  rw [← R.len, List.getElem?_append_right (Nat.le_refl _)]
  simp
theorem ev_listC (bt : Bt X "list") (ha : EV X Γ γ a r γ1) (hr : Rdb γ1 r (.list ds) ∨ r = .fz (.tuple ds)) (hs : starEach [a] X.env = (false, eval a X.env) :: starEach [] X.env := by rfl) : EV X Γ γ (.Call (.Name "list" p) [a] [] pos) (.cl γ1.length) (γ1 ++ [.lst (ds.map Itm.fz)]) :=
  ev_callTy call_list_of bt (by decide +kernel) (av_cons ha av_nil hs) (fun F as H vs R i Q q => by
    obtain ⟨v, rfl, h⟩ := itms1 i
    have fin : ∀ us, DqAll X.K F us ds → ∀ l, H l = none → Q (.ref l) (upd H l (.lst us)) := fun us h2 l hl => by
      obtain ⟨R', i'⟩ := newCellL R (itms_of_dp h2) hl
      exact q _ F (as ++ [l]) _ ⟨Same.refl F, [l], rfl⟩ R' i'
    rcases hr with hr | rfl
    · obtain ⟨l, us, rfl, h1, h2⟩ := hr.list R h
      exact ⟨l, us, rfl, .inl h1, fin us h2⟩
    · obtain ⟨l, us, rfl, h1, h2⟩ := itm_tup.mp h
      exact ⟨l, us, rfl, .inr ((SqT.of (R.fr _ _ h1))), fin us h2⟩) (he := hs)
/-- [a, b, ..] that will be changed -/
theorem ev_lstC (h : AV X Γ γ es rs γ1) (hl : rs.length ≤ 1000 := by first | decide | simp) : EV X Γ γ (.List es pos) (.cl γ1.length) (γ1 ++ [.lst rs]) := .mk fun F as σ H R E Q q => by
  refine ⟨_, pe_lst pa_wp, ?_⟩
  refine h.go R E fun vs F1 as1 H1 x1 R1 i1 => ?_
  refine ⟨by rw [← itms_length i1]; exact Nat.le_of_lt (small1000 hl), fun p hp => ?_⟩
  obtain ⟨R', i'⟩ := newCellL R1 i1 hp
  exact q _ F1 (as1 ++ [p]) _ (x1.trans ⟨Same.refl F1, [p], rfl⟩) R' i'
/-- + and * of lists -/
theorem ev_catF (ha : EV X Γ γ a ra γ1) (hb : EV X Γ γ1 b rb γ2) (h1 : Rdb γ2 ra (.list ds)) (h2 : Rdb γ2 rb (.list es')) (hz : ds.length + es'.length ≤ 1000000) : EV X Γ γ (.BinOp a .Add b pos) (.fz (.list (ds ++ es'))) γ2 :=
  ev_op op_catS ha hb fun F as H x y R hx hy Q q => by
    obtain ⟨l, us, rfl, p1, p2⟩ := h1.list R hx
    obtain ⟨l', us', rfl, p1', p2'⟩ := h2.list R hy
    have e := dpAll_length p2
    have e' := dpAll_length p2'
    exact ⟨l, l', us, us', rfl, rfl, p1, p1', by rw [sizeLine_eq]; omega, fun p hp => q _ (upd F p (.lst (us ++ us'))) as _ ⟨R.sameNew _ hp, [], by simp⟩ (R.new _ hp) (itm_lst.mpr ⟨p, us ++ us', rfl, SqL.of upd_same, dpAll_mono (R.sameNew _ hp) (dpAll_append p2 p2')⟩)⟩
theorem ev_catC (ha : EV X Γ γ a ra γ1) (hb : EV X Γ γ1 b rb γ2) (h1 : Rdb γ2 ra (.list ds)) (h2 : Rdb γ2 rb (.list es')) (hz : ds.length + es'.length ≤ 1000000) : EV X Γ γ (.BinOp a .Add b pos) (.cl γ2.length) (γ2 ++ [.lst ((ds ++ es').map Itm.fz)]) :=
  ev_op op_catS ha hb fun F as H x y R hx hy Q q => by
    obtain ⟨l, us, rfl, p1, p2⟩ := h1.list R hx
    obtain ⟨l', us', rfl, p1', p2'⟩ := h2.list R hy
    have e := dpAll_length p2
    have e' := dpAll_length p2'
    refine ⟨l, l', us, us', rfl, rfl, p1, p1', by rw [sizeLine_eq]; omega, fun p hp => ?_⟩
    obtain ⟨R', i'⟩ := newCellL R (itms_of_dp (dpAll_append p2 p2')) hp
    exact q _ F (as ++ [p]) _ ⟨Same.refl F, [p], rfl⟩ R' i'
end
end PL

namespace PL
open PySem PySem.Spec PyProof.Rows L2

/-! ### kinds of data -/
def tyD : PyData → String
  | .none => "NoneType"
  | .bool _ => "bool"
  | .int _ => "int"
  | .str _ => "str"
  | .list _ => "list"
  | .tuple _ => "tuple"
  | .dict _ => "dict"
def isI : PyData → Bool
  | .int _ => true
  | .bool _ => true
  | _ => false
def isB : PyData → Bool
  | .bool _ => true
  | _ => false
def isS : PyData → Bool
  | .str _ => true
  | _ => false
def isL : PyData → Bool
  | .list _ => true
  | _ => false
def isT : PyData → Bool
  | .tuple _ => true
  | _ => false
def isD : PyData → Bool
  | .dict _ => true
  | _ => false
theorem kit_int (d : PyData) : kitB (tyD d) "int" = some (isI d) := by cases d <;> (simp only [tyD, isI]; decide +kernel)
theorem kit_bool (d : PyData) : kitB (tyD d) "bool" = some (isB d) := by cases d <;> (simp only [tyD, isB]; decide +kernel)
theorem kit_str (d : PyData) : kitB (tyD d) "str" = some (isS d) := by cases d <;> (simp only [tyD, isS]; decide +kernel)
theorem kit_list (d : PyData) : kitB (tyD d) "list" = some (isL d) := by cases d <;> (simp only [tyD, isL]; decide +kernel)
theorem kit_tuple (d : PyData) : kitB (tyD d) "tuple" = some (isT d) := by cases d <;> (simp only [tyD, isT]; decide +kernel)
theorem kit_dict (d : PyData) : kitB (tyD d) "dict" = some (isD d) := by cases d <;> (simp only [tyD, isD]; decide +kernel)
theorem dp_ty {K : PySem.W.Frag} {H : Hp} {v : V} {d : PyData} (h : Dq K H v d) : TyX K H v (.type (tyD d)) := by
  cases h with
  | non => exact .base .non
  | bl b => exact .base (.bl b)
  | int i => exact .base (.int i)
  | str x => exact .base (.str x)
  | lst h r =>
    rcases h with (h | ⟨o, h⟩) | ⟨o, its, n, h1, h2, _⟩
    · exact .base (.lst h)
    · exact .base (.frz h)
    · exact .kList h1 h2
  | tup h r => exact .base (.tup h)
  | emp h => exact .base (.dK h)
section
variable {X : Cx} {Γ : Slots} {γ γ1 γ2 γ3 : Cells} {e a b o c : Expr} {es : List Expr} {rs : List Itm} {r ra rb : Itm} {pos p p2 pos' : Pos} {x : Str} {R : SE} {rest : List Stmt} {k : Bool} {i j n : Int} {ds es' : List PyData} {d : PyData}
theorem ev_isi {T : String} {Tn : Str} {q : Pos} (bt : Bt X "isinstance") (bT : Bt X Tn) (hv : bootBuiltins Tn = some (.type T)) (ha : EV X Γ γ a r γ1) (hr : Rdb γ1 r d) (hk : kitB (tyD d) T = some k)
    (hn : Tn ≠ "__name__" := by decide) (hd : (Tn == ("__debug__" : Str)) = false := by decide)
    (hs : starEach [a, .Name Tn q] X.env = (false, eval a X.env) :: starEach [.Name Tn q] X.env := by rfl) (hs2 : starEach [.Name Tn q] X.env = (false, eval (.Name Tn q) X.env) :: starEach [] X.env := by rfl) (hpl : (backTo pos (starEach [.Name Tn q] X.env)).any (·.1) = false := by rfl) :
    EV X Γ γ (.Call (.Name "isinstance" p) [a, .Name Tn q] [] pos) (.fz (.bool k)) γ1 := .mk fun F as σ H R E Q q' => by
  refine ⟨_, pe_callB call_isi bt.gl bt.mg (by decide +kernel) (pa_cons pe_wp (pa_cons (pe_bltn (v := .ty T) bT.gl bT.mg hv rfl hn hd) pa_nil hs2) hs) (by decide) (by decide) hs hpl, ?_⟩
  refine ha.go R E fun v F1 as1 H1 x1 R1 i1 => ?_
  exact ⟨v, .ty T, _, _, k, rfl, .ty T, dp_ty (hr.dp R1 i1), kit_ty hk, q' _ F1 as1 H1 x1 R1 (itm_bl.mpr rfl)⟩
/-- is True, is False -/
theorem cmp_isB {b1 b2 : Bool} : CmpR X .Is γ (.fz (.bool b1)) (.fz (.bool b2)) (b1 == b2) := ⟨_, op_isBl, fun F as H x y R hx hy Q q => ⟨b1, b2, itm_bl.mp hx, itm_bl.mp hy, by
  rw [show decide (b1 = b2) = (b1 == b2) from by cases b1 <;> cases b2 <;> rfl]; exact q⟩⟩
theorem cmp_notB {b1 b2 : Bool} : CmpR X .IsNot γ (.fz (.bool b1)) (.fz (.bool b2)) (b1 != b2) := ⟨_, op_notBl, fun F as H x y R hx hy Q q => ⟨b1, b2, itm_bl.mp hx, itm_bl.mp hy, by
  rw [show (!decide (b1 = b2)) = (b1 != b2) from by cases b1 <;> cases b2 <;> rfl]; exact q⟩⟩
/-- a list's truth -/
theorem tv_truthL (ha : EV X Γ γ a r γ1) (hr : Rdb γ1 r (.list ds)) (he : ∀ whole, isTrue a X.env whole = (do let v ← whole; standAt a.pos; holding [v] (truthy v)) := by intro _; rfl) : TV X Γ γ a (!ds.isEmpty) γ1 := fun F as σ H R E Q q => by
  refine ⟨_, pt_truth pe_wp he, ha.go R E fun v F1 as1 H1 x1 R1 i1 => ?_⟩
  obtain ⟨l, us, rfl, h1, h2⟩ := hr.list R1 i1
  have e := dpAll_length h2
  have e2 : (!us.isEmpty) = (!ds.isEmpty) := by cases us <;> cases ds <;> simp_all
  exact ⟨_, .inl ⟨us, h1, rfl⟩, by rw [e2]; exact q F1 as1 H1 x1 R1⟩
theorem tv_truthI (ha : EV X Γ γ a (.fz (.int i)) γ1) (he : ∀ whole, isTrue a X.env whole = (do let v ← whole; standAt a.pos; holding [v] (truthy v)) := by intro _; rfl) : TV X Γ γ a (i != 0) γ1 := fun F as σ H R E Q q => by
  refine ⟨_, pt_truth pe_wp he, ha.go R E fun v F1 as1 H1 x1 R1 i1 => ?_⟩
  cases itm_int.mp i1
  exact ⟨_, rfl, q F1 as1 H1 x1 R1⟩

/-! ### items -/
theorem atI_lt {α : Type} {xs : List α} {i : Int} {v : α} (h : atI xs i = some v) : ∃ j, xs[j]? = some v ∧ ixN xs.length i = some j := by
  unfold atI at h
  cases q : ixN xs.length i with
  | none => rw [q] at h; cases h
  | some j => rw [q] at h; exact ⟨j, h, rfl⟩
theorem atI_of {α β : Type} {xs : List α} {ys : List β} {i : Int} {j : Nat} {v : β} (hl : ys.length = xs.length) (hi : ixN xs.length i = some j) (h : ys[j]? = some v) : atI ys i = some v := by
  unfold atI
  rw [hl, hi]
  exact h
theorem ev_ixL (ha : EV X Γ γ a ra γ1) (hb : EV X Γ γ1 b (.fz (.int i)) γ2) (hr : Rdb γ2 ra (.list ds)) (hi : atI ds i = some d) (hs : PlainIx b := by exact fun _ _ => rfl) : EV X Γ γ (.Subscript a b pos) (.fz d) γ2 := .mk fun F as σ H R E Q q => by
  refine ⟨_, pe_ix ix_list pe_wp pe_wp hs, ha.go R E fun v F1 as1 H1 x1 R1 i1 => hb.go R1 (E.mono x1) fun u F2 as2 H2 x2 R2 i2 => ?_⟩
  obtain ⟨l, us, rfl, h1, h2⟩ := hr.list R2 (itm_mono x2 i1)
  obtain ⟨j, hj, hx⟩ := atI_lt hi
  obtain ⟨w, hw, hd⟩ := dpAll_get h2 hj
  exact ⟨l, us, i, w, rfl, itm_int.mp i2, h1, atI_of (dpAll_length h2) hx hw, q _ F2 as2 H2 (x1.trans x2) R2 (.fz hd)⟩
theorem ev_ixC {cc : Nat} {xs : List Itm} (ha : EV X Γ γ a (.cl cc) γ1) (hb : EV X Γ γ1 b (.fz (.int i)) γ2) (hr : γ2[cc]? = some (.lst xs)) (hi : atI xs i = some r) (hs : PlainIx b := by exact fun _ _ => rfl) : EV X Γ γ (.Subscript a b pos) r γ2 := .mk fun F as σ H R E Q q => by
  refine ⟨_, pe_ix ix_list pe_wp pe_wp hs, ha.go R E fun v F1 as1 H1 x1 R1 i1 => hb.go R1 (E.mono x1) fun u F2 as2 H2 x2 R2 i2 => ?_⟩
  obtain ⟨l, hl, rfl⟩ := itm_cl.mp (itm_mono x2 i1)
  obtain ⟨l', h1, us, h2, h3⟩ := R2.cellAt hr
  rw [hl] at h1
  cases h1
  obtain ⟨j, hj, hx⟩ := atI_lt hi
  obtain ⟨w, hw, hd⟩ := itms_get h3 hj
  exact ⟨l, us, i, w, rfl, itm_int.mp i2, SqL.of h2, atI_of (itms_length h3).symm hx hw, q _ F2 as2 H2 (x1.trans x2) R2 hd⟩
theorem ev_ixT (ha : EV X Γ γ a (.fz (.tuple ds)) γ1) (hb : EV X Γ γ1 b (.fz (.int i)) γ2) (hi : atI ds i = some d) (hs : PlainIx b := by exact fun _ _ => rfl) : EV X Γ γ (.Subscript a b pos) (.fz d) γ2 := .mk fun F as σ H R E Q q => by
  refine ⟨_, pe_ix ix_tup pe_wp pe_wp hs, ha.go R E fun v F1 as1 H1 x1 R1 i1 => hb.go R1 (E.mono x1) fun u F2 as2 H2 x2 R2 i2 => ?_⟩
  obtain ⟨l, us, rfl, h1, h2⟩ := itm_tup.mp (itm_mono x2 i1)
  obtain ⟨j, hj, hx⟩ := atI_lt hi
  obtain ⟨w, hw, hd⟩ := dpAll_get h2 hj
  exact ⟨l, us, i, w, rfl, itm_int.mp i2, (SqT.of (R2.fr _ _ h1)), atI_of (dpAll_length h2) hx hw, q _ F2 as2 H2 (x1.trans x2) R2 (.fz hd)⟩
theorem ev_ixP {xs : List Itm} (ha : EV X Γ γ a (.tp xs) γ1) (hb : EV X Γ γ1 b (.fz (.int i)) γ2) (hi : atI xs i = some r) (hs : PlainIx b := by exact fun _ _ => rfl) : EV X Γ γ (.Subscript a b pos) r γ2 := .mk fun F as σ H R E Q q => by
  refine ⟨_, pe_ix ix_tup pe_wp pe_wp hs, ha.go R E fun v F1 as1 H1 x1 R1 i1 => hb.go R1 (E.mono x1) fun u F2 as2 H2 x2 R2 i2 => ?_⟩
  cases itm_mono x2 i1 with
  | tp h1 h2 =>
    obtain ⟨j, hj, hx⟩ := atI_lt hi
    obtain ⟨w, hw, hd⟩ := itms_get h2 hj
    exact ⟨_, _, i, w, rfl, itm_int.mp i2, (SqT.of (R2.fr _ _ h1)), atI_of (itms_length h2).symm hx hw, q _ F2 as2 H2 (x1.trans x2) R2 hd⟩
theorem ev_ixS {z : Str} {cp : Nat} (ha : EV X Γ γ a (.fz (.str z)) γ1) (hb : EV X Γ γ1 b (.fz (.int i)) γ2) (hz : z.length ≤ sizeLine) (hi : atI z.cps.toList i = some cp) (hs : PlainIx b := by exact fun _ _ => rfl) : EV X Γ γ (.Subscript a b pos) (.fz (.str ⟨#[cp]⟩)) γ2 := .mk fun F as σ H R E Q q => by
  refine ⟨_, pe_ix ix_str pe_wp pe_wp hs, ha.go R E fun v F1 as1 H1 x1 R1 i1 => hb.go R1 (E.mono x1) fun u F2 as2 H2 x2 R2 i2 => ?_⟩
  exact ⟨z, i, cp, itm_str.mp (itm_mono x2 i1), itm_int.mp i2, hz, hi, q _ F2 as2 H2 (x1.trans x2) R2 (itm_str.mpr rfl)⟩

/-! ### slices of lists, of tuples -/
def cutD {α : Type} (xs : List α) (lo hi : Option Int) : List α := (xs.drop (HT.sIx xs.length 0 lo)).take (HT.sIx xs.length xs.length hi - HT.sIx xs.length 0 lo)
theorem dpAll_drop {K F} : ∀ {vs : List V} {ds : List PyData} (n : Nat), DqAll K F vs ds → DqAll K F (vs.drop n) (ds.drop n)
  | _, _, 0, h => h
  | _, _, _ + 1, .nil => .nil
  | _, _, n + 1, .cons _ r => dpAll_drop n r
theorem dpAll_take {K F} : ∀ {vs : List V} {ds : List PyData} (n : Nat), DqAll K F vs ds → DqAll K F (vs.take n) (ds.take n)
  | _, _, 0, _ => .nil
  | _, _, _ + 1, .nil => .nil
  | _, _, n + 1, .cons h r => .cons h (dpAll_take n r)
theorem dpAll_cut {K F} {vs : List V} {ds : List PyData} (h : DqAll K F vs ds) (lo hi : Option Int) : DqAll K F (cutV vs lo hi) (cutD ds lo hi) := by
  unfold cutV cutD
  rw [dpAll_length h]
  exact dpAll_take _ (dpAll_drop _ h)
/-- a slice's part -/
def wpO (X : Cx) (e : Option Expr) : TO := fun σ H Q => ∃ t, PO X e t ∧ t σ H Q
theorem po_wp {e : Option Expr} : PO X e (wpO X e) := ⟨fun pins s σ H Q I ⟨t, h, q⟩ => h.run pins s σ H Q I q⟩
def OV (X : Cx) (Γ : Slots) (γ : Cells) (e : Option Expr) (o : Option Int) (γ' : Cells) : Prop :=
  ∀ F as σ H, Rep X.K F as γ H → EnvR X.K F as Γ σ → ∀ Q : Option Int → Hp → Prop, (∀ F' as' H', Ext F as F' as' → Rep X.K F' as' γ' H' → Q o H') → wpO X e σ H Q
theorem ov_none : OV X Γ γ none none γ := fun F as σ H R E Q q => ⟨_, po_none, q F as H (Ext.refl F as) R⟩
theorem ov_some (h : EV X Γ γ e (.fz (.int i)) γ1) : OV X Γ γ (some e) (some i) γ1 := fun F as σ H R E Q q => ⟨_, po_some pe_wp, h.go R E fun v F1 as1 H1 x1 R1 i1 => ⟨i, itm_int.mp i1, q F1 as1 H1 x1 R1⟩⟩
variable {lo hi : Option Expr} {ol oh : Option Int}
theorem ev_slL (ha : EV X Γ γ a ra γ1) (h1 : OV X Γ γ1 lo ol γ2) (h2 : OV X Γ γ2 hi oh γ3) (hr : Rdb γ3 ra (.list ds)) : EV X Γ γ (.Subscript a (.Slice lo hi none p2) pos) (.fz (.list (cutD ds ol oh))) γ3 := .mk fun F as σ H R E Q q => by
  refine ⟨_, pe_slice sl_list pe_wp po_wp po_wp, ha.go R E fun v F1 as1 H1 x1 R1 i1 => h1 F1 as1 σ H1 R1 (E.mono x1) _ fun F2 as2 H2 x2 R2 => h2 F2 as2 σ H2 R2 (E.mono (x1.trans x2)) _ fun F3 as3 H3 x3 R3 => ?_⟩
  obtain ⟨l, us, rfl, p1, p2⟩ := hr.list R3 (itm_mono (x2.trans x3) i1)
  exact ⟨l, us, rfl, p1, fun p hp => q _ (upd F3 p (.lst (cutV us ol oh))) as3 _ (((x1.trans x2).trans x3).trans ⟨R3.sameNew _ hp, [], by simp⟩) (R3.new _ hp) (itm_lst.mpr ⟨p, _, rfl, SqL.of upd_same, dpAll_mono (R3.sameNew _ hp) (dpAll_cut p2 ol oh)⟩)⟩
theorem ev_slT (ha : EV X Γ γ a (.fz (.tuple ds)) γ1) (h1 : OV X Γ γ1 lo ol γ2) (h2 : OV X Γ γ2 hi oh γ3) (hw : ¬ (HT.sIx ds.length 0 ol = 0 ∧ HT.sIx ds.length ds.length oh = ds.length)) : EV X Γ γ (.Subscript a (.Slice lo hi none p2) pos) (.fz (.tuple (cutD ds ol oh))) γ3 := .mk fun F as σ H R E Q q => by
  refine ⟨_, pe_slice sl_tup pe_wp po_wp po_wp, ha.go R E fun v F1 as1 H1 x1 R1 i1 => h1 F1 as1 σ H1 R1 (E.mono x1) _ fun F2 as2 H2 x2 R2 => h2 F2 as2 σ H2 R2 (E.mono (x1.trans x2)) _ fun F3 as3 H3 x3 R3 => ?_⟩
  obtain ⟨l, us, rfl, p1, p2⟩ := itm_tup.mp (itm_mono (x2.trans x3) i1)
  exact ⟨l, us, rfl, (SqT.of (R3.fr _ _ p1)), by rw [dpAll_length p2]; exact hw, fun p hp => q _ (upd F3 p (.tup (cutV us ol oh))) as3 _ (((x1.trans x2).trans x3).trans ⟨R3.sameNew _ hp, [], by simp⟩) (R3.new _ hp) (itm_tup.mpr ⟨p, _, rfl, upd_same, dpAll_mono (R3.sameNew _ hp) (dpAll_cut p2 ol oh)⟩)⟩

/-! ### a list times a number -/
def repD {α : Type} (xs : List α) (k : Int) : List α := (List.replicate k.toNat xs).flatten
theorem itms_rep {K F as} {xs : List Itm} {vs : List V} (h : ItmsR K F as xs vs) : ∀ k : Nat, ItmsR K F as (List.replicate k xs).flatten (List.replicate k vs).flatten
  | 0 => .nil
  | k + 1 => by
    rw [List.replicate_succ, List.replicate_succ, List.flatten_cons, List.flatten_cons]
    exact itms_append h (itms_rep h k)
/-- [..] * k, a display times a number: frozen, a cell -/
theorem ev_repC {k : Int} (ha : AV X Γ γ es rs γ1) (hb : EV X Γ γ1 b (.fz (.int k)) γ2) (hl : rs.length ≤ 1000) (hk : rs.length * k.toNat ≤ 1000000) (hk2 : -(2 ^ 63) ≤ k ∧ k < 2 ^ 63) : EV X Γ γ (.BinOp (.List es p) .Mult b pos) (.cl γ2.length) (γ2 ++ [.lst (repD rs k)]) := .mk fun F as σ H R E Q q => by
  refine ⟨_, pe_op op_rep (pe_lst pa_wp) pe_wp, ha.go R E fun vs F1 as1 H1 x1 R1 i1 => ?_⟩
  have l := itms_length i1
  refine ⟨by rw [← l]; exact Nat.le_of_lt (small1000 hl), fun t ht => ?_⟩
  have x2 : Ext F1 as1 (upd F1 t (.lst vs)) as1 := ⟨R1.sameNew _ ht, [], by simp⟩
  refine hb.go (R1.new _ ht) (E.mono (x1.trans x2)) fun u F3 as3 H3 x3 R3 i3 => ?_
  refine ⟨t, k, vs, rfl, itm_int.mp i3, R3.fr t _ (x3.1 t _ upd_same), hk2.1, hk2.2, by rw [← l, sizeLine_eq]; omega, fun p' hp => ?_⟩
  obtain ⟨R', i'⟩ := newCellL R3 (itms_rep (itms_mono (x2.trans x3) i1) k.toNat) hp
  exact q _ F3 (as3 ++ [p']) _ (((x1.trans x2).trans x3).trans ⟨Same.refl F3, [p'], rfl⟩) R' i'
theorem ev_repF {k : Int} (ha : AV X Γ γ es (ds.map Itm.fz) γ1) (hb : EV X Γ γ1 b (.fz (.int k)) γ2) (hl : ds.length ≤ 1000) (hk : ds.length * k.toNat ≤ 1000000) (hk2 : -(2 ^ 63) ≤ k ∧ k < 2 ^ 63) : EV X Γ γ (.BinOp (.List es p) .Mult b pos) (.fz (.list (repD ds k))) γ2 := .mk fun F as σ H R E Q q => by
  refine ⟨_, pe_op op_rep (pe_lst pa_wp) pe_wp, ha.go R E fun vs F1 as1 H1 x1 R1 i1 => ?_⟩
  have l := itms_length i1
  rw [List.length_map] at l
  refine ⟨by rw [← l]; exact Nat.le_of_lt (small1000 hl), fun t ht => ?_⟩
  have x2 : Ext F1 as1 (upd F1 t (.lst vs)) as1 := ⟨R1.sameNew _ ht, [], by simp⟩
  refine hb.go (R1.new _ ht) (E.mono (x1.trans x2)) fun u F3 as3 H3 x3 R3 i3 => ?_
  refine ⟨t, k, vs, rfl, itm_int.mp i3, R3.fr t _ (x3.1 t _ upd_same), hk2.1, hk2.2, by rw [← l, sizeLine_eq]; omega, fun p' hp => ?_⟩
  have hrep := itms_rep (itms_mono (x2.trans x3) i1) k.toNat
  have e : (List.replicate k.toNat (ds.map Itm.fz)).flatten = (repD ds k).map Itm.fz := by
    unfold repD
    rw [List.map_flatten, List.map_replicate]
  rw [e] at hrep
  exact q _ (upd F3 p' _) as3 _ (((x1.trans x2).trans x3).trans ⟨R3.sameNew _ hp, [], by simp⟩) (R3.new _ hp) (itm_lst.mpr ⟨p', _, rfl, SqL.of upd_same, dpAll_mono (R3.sameNew _ hp) (itms_fz hrep)⟩)

/-! ### stores into a list -/
theorem ev_append {apos : Pos} {cc : Nat} {xs : List Itm} (ho : EV X Γ γ o (.cl cc) γ1) (he : EV X Γ γ1 e r γ2) (h1 : ∃ ys, γ1[cc]? = some (.lst ys)) (h2 : γ2[cc]? = some (.lst xs)) (hl : xs.length ≤ 1000000)
    (hbase : attributeBase o "append" X.env (eval o X.env) = eval o X.env := by rfl)
    (hfew : ((backTo pos (starEach [e] X.env)).all (fun x => !x.1) && (backToKw pos (keywordEach [] X.env)).all (fun x => x.1.isSome) && decide ([e].length + ([] : List Keyword).length + (if ([] : List Keyword).isEmpty then 0 else 1) < 30)) = true := by rfl)
    (hline : (apos.endLine == pos.line) = true := by rfl) (hs : starEach [e] X.env = (false, eval e X.env) :: starEach [] X.env := by rfl) :
    EV X Γ γ (.Call (.Attribute o "append" apos) [e] [] pos) (.fz .none) (γ2.set cc (.lst (xs ++ [r]))) := .mk fun F as σ H R E Q q => by
  refine ⟨_, pe_bm PySem.F.plainAttrs_list PySem.F.slot_list_append PySem.F.type_list_append mt_append pe_wp (pa_cons pe_wp pa_nil hs) hbase hfew hline hs rfl, ?_⟩
  refine ho.go R E fun v F1 as1 H1 x1 R1 i1 => ?_
  obtain ⟨l, hl1, rfl⟩ := itm_cl.mp i1
  obtain ⟨ys, h1⟩ := h1
  obtain ⟨l1, k1, us, k2, k3⟩ := R1.cellAt h1
  rw [hl1] at k1
  cases k1
  refine ⟨.inl ⟨rfl, us, SqL.of k2⟩, ?_⟩
  refine he.go R1 (E.mono x1) fun u F2 as2 H2 x2 R2 i2 => ?_
  have hl2 := x2.get hl1
  obtain ⟨l2, k1, us2, k4, k5⟩ := R2.cellAt h2
  rw [hl2] at k1
  cases k1
  have e := itms_length k5
  refine ⟨l, us2, u, rfl, rfl, k4, by rw [← e, sizeLine_eq]; omega, ?_⟩
  refine q _ F2 as2 _ (x1.trans x2) (R2.write h2 (by simp) hl2 ⟨_, upd_same, itms_append k5 (.cons i2 .nil)⟩) (itm_non.mpr rfl)
theorem sv_setitem {cc : Nat} {xs : List Itm} {i : Int} {jj : Nat} (he : EV X Γ γ e r γ1) (ho : EV X Γ γ1 o (.cl cc) γ2) (hi : EV X Γ γ2 b (.fz (.int i)) γ3) (hc : γ3[cc]? = some (.lst xs)) (hj : ixN xs.length i = some jj) (h : SVs X Γ (γ3.set cc (.lst (xs.set jj r))) rest R)
    (hs : swapsWithSole [.Subscript o b p] e pos.line X.env = pure false := by rfl) (hw : swappedStores [.Subscript o b p] e X.env = pure none := by rfl)
    (h1 : (assignEach [.Subscript o b p] X.env).map (·.2) = [assign (.Subscript o b p) X.env] := by rfl)
    (ha : ∀ v, assign (.Subscript o b p) X.env v = (do
      let ov ← holding [v] (eval o X.env)
      let iv ← holding [v, ov] (eval b X.env)
      standAt p
      holding [v, ov, iv] (setItem ov iv v)
      release [v, ov, iv] []) := by intro _; rfl) : SVs X Γ γ (.Assign [.Subscript o b p] e pos :: rest) R :=
  svs_cons fun F as σ H D Rp E C => ⟨_, ps_asg pe_wp (pg_sub pe_wp pe_wp set_list ha) hs hw h1, he.go Rp E fun v F1 as1 H1 x1 R1 i1 => ho.go R1 (E.mono x1) fun u F2 as2 H2 x2 R2 i2 => hi.go R2 (E.mono (x1.trans x2)) fun w F3 as3 H3 x3 R3 i3 => by
    obtain ⟨l, hl, rfl⟩ := itm_cl.mp (itm_mono x3 i2)
    obtain ⟨l', k1, us, k2, k3⟩ := R3.cellAt hc
    rw [hl] at k1
    cases k1
    refine ⟨l, us, i, jj, rfl, itm_int.mp i3, k2, by rw [← itms_length k3]; exact hj, ?_⟩
    exact C.nx _ _ _ _ _ _ h ((x1.trans x2).trans x3) (R3.write hc (by simp) hl ⟨_, upd_same, itms_set jj k3 (itm_mono (x2.trans x3) i1)⟩) (E.mono ((x1.trans x2).trans x3))⟩
/-- xs[i] += e: ints -/
theorem sv_augitem {cc jj : Nat} {xs : List Itm} {op : Operator} {f : Int → Int → Int} {m : Int} (ho : EV X Γ γ o (.cl cc) γ1) (hi : EV X Γ γ1 b (.fz (.int (jj : Int))) γ2) (hc : γ2[cc]? = some (.lst xs)) (hx : xs[jj]? = some (.fz (.int n))) (he : EV X Γ γ2 e (.fz (.int m)) γ3) (hc' : γ3[cc]? = some (.lst xs)) (hop : PIp X op (ipI f))
    (h : SVs X Γ (γ3.set cc (.lst (xs.set jj (.fz (.int (f n m)))))) rest R)
    (ha : ∀ ov iv new, augStore b ov iv new = (do holding [new, ov, iv] (setItem ov iv new); release [new, ov, iv] []; pure .next) := by intros; rfl) : SVs X Γ γ (.AugAssign (.Subscript o b p) op e pos :: rest) R :=
  svs_cons fun F as σ H D Rp E C => ⟨_, ps_augS pe_wp pe_wp get_list pe_wp hop set_list ha, ho.go Rp E fun v F1 as1 H1 x1 R1 i1 => hi.go R1 (E.mono x1) fun u F2 as2 H2 x2 R2 i2 => by
    obtain ⟨l, hl, rfl⟩ := itm_cl.mp (itm_mono x2 i1)
    obtain ⟨l', k1, us, k2, k3⟩ := R2.cellAt hc
    rw [hl] at k1
    cases k1
    obtain ⟨w, hw, hd⟩ := itms_get k3 hx
    obtain rfl := itm_int.mp hd
    refine ⟨l, us, jj, .int n, rfl, itm_int.mp i2, SqL.of k2, hw, ?_⟩
    refine he.go R2 (E.mono (x1.trans x2)) fun w F3 as3 H3 x3 R3 i3 => ?_
    have hl3 := x3.get hl
    obtain ⟨l', k1, us3, k4, k5⟩ := R3.cellAt hc'
    rw [hl3] at k1
    cases k1
    refine ⟨n, m, rfl, itm_int.mp i3, l, us3, (jj : Int), jj, rfl, itm_int.mp i2, k4, ?_, ?_⟩
    · have hj := (List.getElem?_eq_some_iff.mp hx).1
      unfold ixN
      rw [if_pos (by omega), if_pos (by rw [← itms_length k5]; omega), Int.toNat_natCast]
    · exact C.nx _ _ _ _ _ _ h ((x1.trans x2).trans x3) (R3.write hc' (by simp) hl3 ⟨_, upd_same, itms_set jj k5 (itm_int.mpr rfl)⟩) (E.mono ((x1.trans x2).trans x3))⟩
end

/-! ### zip, enumerate -/
section
variable {X : Cx} {Γ : Slots} {γ γ1 γ2 : Cells} {e a b : Expr} {r ra rb : Itm} {pos p tpos : Pos} {ds es' : List PyData} {elts : List Expr} {kk : Nat}
def zipD (ds es : List PyData) : List Itm := (ds.zip es).map fun q => .fz (.tuple [q.1, q.2])
theorem itv_zip (bt : Bt X "zip") (ha : EV X Γ γ a ra γ1) (hb : EV X Γ γ1 b rb γ2) (h1 : Rdb γ2 ra (.list ds)) (h2 : Rdb γ2 rb (.list es')) (hs : starEach [a, b] X.env = (false, eval a X.env) :: starEach [b] X.env := by rfl) (hs2 : starEach [b] X.env = (false, eval b X.env) :: starEach [] X.env := by rfl) (hpl : (backTo pos (starEach [b] X.env)).any (·.1) = false := by rfl) :
    ITV X Γ γ (.Tuple elts kk tpos) (.Call (.Name "zip" p) [a, b] [] pos) (zipD ds es') (fun g => Rdb g ra (.list ds) ∧ Rdb g rb (.list es')) γ2 := fun F as σ H R E Q q => by
  refine ⟨_, pi_zip bt.gl bt.mg (pa_cons pe_wp (pa_cons pe_wp pa_nil hs2) hs) hs hpl, ha.go R E fun v F1 as1 H1 x1 R1 i1 => hb.go R1 (E.mono x1) fun u F2 as2 H2 x2 R2 i2 => ?_⟩
  have i1' := itm_mono x2 i1
  obtain ⟨l, us, rfl, p1, p2⟩ := h1.list R2 i1'
  obtain ⟨l', us', rfl, p1', p2'⟩ := h2.list R2 i2
  refine ⟨l, l', us, us', rfl, p1, p1', q _ F2 as2 H2 (x1.trans x2) R2 fun i F' as' γ' H' x' R' st => ?_⟩
  obtain ⟨m, ws, e1, q1, q2⟩ := st.1.list R' (itm_mono x' i1')
  obtain ⟨m', ws', e2, q1', q2'⟩ := st.2.list R' (itm_mono x' i2)
  cases e1
  cases e2
  have l1 := dpAll_length q2
  have l2 := dpAll_length q2'
  refine ⟨fun hl => ?_, fun x hx => ?_⟩
  · refine ⟨ws, ws', q1, q1', ?_⟩
    unfold zipD at hl
    simp at hl
    omega
  · unfold zipD at hx
    rw [List.getElem?_map] at hx
    cases hd : (ds.zip es')[i]? with
    | none => rw [hd] at hx; cases hx
    | some d =>
      rw [hd] at hx
      cases hx
      obtain ⟨d1, d2⟩ := d
      rw [List.getElem?_zip_eq_some] at hd
      obtain ⟨w1, hw1, hp1⟩ := dpAll_get q2 hd.1
      obtain ⟨w2, hw2, hp2⟩ := dpAll_get q2' hd.2
      refine ⟨⟨ws, ws', w1, w2, q1, q1', hw1, hw2⟩, fun v H'' y => ?_⟩
      obtain ⟨T, y1, y2, rfl, nT, rfl, f1, f2⟩ := y
      cases hw1.symm.trans (f1 ws q1)
      cases hw2.symm.trans (f2 ws' q1')
      refine ⟨upd F' T (.tup [w1, w2]), ⟨R'.sameNew _ nT, [], by simp⟩, R'.new _ nT, itm_tup.mpr ⟨T, _, rfl, upd_same, ?_⟩⟩
      exact .cons (dp_mono (R'.sameNew _ nT) hp1) (.cons (dp_mono (R'.sameNew _ nT) hp2) .nil)
def enumD (ds : List PyData) : List Itm := ((List.range ds.length).zip ds).map fun q => .fz (.tuple [.int (q.1 : Nat), q.2])
theorem itv_enum (bt : Bt X "enumerate") (ha : EV X Γ γ a ra γ1) (h1 : Rdb γ1 ra (.list ds)) (hs : starEach [a] X.env = [(false, eval a X.env)] := by rfl) :
    ITV X Γ γ (.Tuple elts kk tpos) (.Call (.Name "enumerate" p) [a] [] pos) (enumD ds) (fun g => Rdb g ra (.list ds)) γ1 := fun F as σ H R E Q q => by
  refine ⟨_, pi_enum bt.gl bt.mg (pa_cons pe_wp pa_nil hs) hs, ha.go R E fun v F1 as1 H1 x1 R1 i1 => ?_⟩
  obtain ⟨l, us, rfl, p1, p2⟩ := h1.list R1 i1
  refine ⟨l, us, rfl, p1, q _ F1 as1 H1 x1 R1 fun i F' as' γ' H' x' R' st => ?_⟩
  obtain ⟨m, ws, e1, q1, q2⟩ := st.list R' (itm_mono x' i1)
  cases e1
  have l1 := dpAll_length q2
  refine ⟨fun hl => ?_, fun x hx => ?_⟩
  · refine ⟨ws, q1, ?_⟩
    unfold enumD at hl
    simp at hl
    omega
  · unfold enumD at hx
    rw [List.getElem?_map] at hx
    cases hd : ((List.range ds.length).zip ds)[i]? with
    | none => rw [hd] at hx; cases hx
    | some d =>
      rw [hd] at hx
      cases hx
      obtain ⟨d1, d2⟩ := d
      rw [List.getElem?_zip_eq_some] at hd
      have hi : d1 = i := by
        obtain ⟨_, h⟩ := List.getElem?_eq_some_iff.mp hd.1
        simp at h
        exact h.symm
      subst hi
      obtain ⟨w2, hw2, hp2⟩ := dpAll_get q2 hd.2
      refine ⟨⟨ws, w2, q1, hw2⟩, fun v H'' y => ?_⟩
      obtain ⟨T, y2, rfl, nT, rfl, f2⟩ := y
      cases hw2.symm.trans (f2 ws q1)
      refine ⟨upd F' T (.tup [.int (d1 : Nat), w2]), ⟨R'.sameNew _ nT, [], by simp⟩, R'.new _ nT, itm_tup.mpr ⟨T, _, rfl, upd_same, ?_⟩⟩
      exact .cons (.int _) (.cons (dp_mono (R'.sameNew _ nT) hp2) .nil)
end
end PL

namespace PL
open PySem PySem.Spec PyProof.Rows L2

/-! ### a comprehension's block -/
def Blk (X : Cx) (scope : Scope) (X' : Cx) : Prop := ∃ s H C cl fp, X' = X.blk s H scope (compEnvC scope cl C X.env) fp
theorem relabel_cap {env : Env} (hk : env.scope.kind = .function) : ∀ {names : List (Str × NameKind)} {x : Str}, names.lookup x = some .free → env.kindOf x = some .cell →
    (names.map fun (n, k) => if (k == NameKind.free && env.scope.kind == .function && env.kindOf n == some .cell) then (n, NameKind.cell) else (n, k)).lookup x = some .cell
  | [], _, h, _ => by simp at h
  | (n, k₀) :: r, x, h, hc => by
    have ih := @relabel_cap env hk r x
    show List.lookup x ((if (k₀ == NameKind.free && env.scope.kind == .function && env.kindOf n == some .cell) = true then (n, NameKind.cell) else (n, k₀)) :: (r.map _)) = some .cell
    cases hx : x == n with
    | true =>
      have e : x = n := by simpa using hx
      subst e
      simp only [List.lookup_cons, hx] at h
      cases h
      have : (NameKind.free == NameKind.free && env.scope.kind == .function && env.kindOf x == some .cell) = true := by rw [hk, hc]; rfl
      rw [if_pos this]
      simp only [List.lookup_cons, hx]
    | false =>
      simp only [List.lookup_cons, hx] at h
      by_cases hq : (k₀ == NameKind.free && env.scope.kind == .function && env.kindOf n == some .cell) = true
      · rw [if_pos hq]; simp only [List.lookup_cons, hx]; exact ih h hc
      · rw [if_neg hq]; simp only [List.lookup_cons, hx]; exact ih h hc
theorem relabel_keep {env : Env} {names : List (Str × NameKind)} {x : Str} {k : NameKind} (hk : k ≠ .free) (h : names.lookup x = some k) :
    (names.map fun (n, k) => if (k == NameKind.free && env.scope.kind == .function && env.kindOf n == some .cell) then (n, NameKind.cell) else (n, k)).lookup x = some k := by
  induction names with
  | nil => simp at h
  | cons a r ih =>
    obtain ⟨n, k₀⟩ := a
    show List.lookup x ((if (k₀ == NameKind.free && env.scope.kind == .function && env.kindOf n == some .cell) = true then (n, NameKind.cell) else (n, k₀)) :: (r.map _)) = some k
    cases hx : x == n with
    | true =>
      simp only [List.lookup_cons, hx] at h
      cases h
      have : ¬ (k == NameKind.free && env.scope.kind == .function && env.kindOf n == some .cell) = true := by simp [hk]
      rw [if_neg this]
      simp only [List.lookup_cons, hx]
    | false =>
      simp only [List.lookup_cons, hx] at h
      by_cases hq : (k₀ == NameKind.free && env.scope.kind == .function && env.kindOf n == some .cell) = true
      · rw [if_pos hq]; simp only [List.lookup_cons, hx]; exact ih h
      · rw [if_neg hq]; simp only [List.lookup_cons, hx]; exact ih h
section
variable {X X' : Cx} {scope : Scope} {x : Str} {i : Nat} {k : NameKind} {S : PSpec}
theorem Blk.cok (b : Blk X scope X') (h : Cok X) (hk : scope.kind = .function) : Cok X' := by
  obtain ⟨s, H, C, cl, fp, rfl⟩ := b
  exact ⟨h.calm, h.nd, hk, h.hu⟩
theorem Blk.own (b : Blk X scope X') (hi : X.N[i]? = some x) (h : scope.names.lookup x = some .local) (d1 : (x == ("__debug__" : Str)) = false) (d2 : (x == ("__classdict__" : Str)) = false) : Nm X' x i .local := by
  obtain ⟨s, H, C, cl, fp, rfl⟩ := b
  exact ⟨⟨hi, relabel_keep (by decide) h, .inl rfl, d1, d2⟩, .inr rfl⟩
theorem Blk.ownC (b : Blk X scope X') (hi : X.N[i]? = some x) (h : scope.names.lookup x = some .cell) (d1 : (x == ("__debug__" : Str)) = false) (d2 : (x == ("__classdict__" : Str)) = false) : Nm X' x i .cell := by
  obtain ⟨s, H, C, cl, fp, rfl⟩ := b
  exact ⟨⟨hi, relabel_keep (by decide) h, .inr rfl, d1, d2⟩, .inl (by show (scope.names.lookup x == some .cell) = true; rw [h]; rfl)⟩
theorem Blk.cap (b : Blk X scope X') (hX : Cok X) (n : Nr X x i .cell) (h : scope.names.lookup x = some .free) : Nr X' x i .cell := by
  obtain ⟨s, H, C, cl, fp, rfl⟩ := b
  exact ⟨n.ix, relabel_cap hX.kind h n.kd, .inr rfl, n.d1, n.d2⟩
theorem Blk.bt (b : Blk X scope X') (n : X.mg x = none) (h : scope.names.lookup x = some .globalImplicit) : Bt X' x := by
  obtain ⟨s, H, C, cl, fp, rfl⟩ := b
  exact ⟨relabel_keep (by decide) h, n⟩
theorem Blk.cal (b : Blk X scope X') (n : Cal X x S) (h : scope.names.lookup x = some .globalImplicit) : Cal X' x S := by
  obtain ⟨s, H, C, cl, fp, rfl⟩ := b
  exact ⟨n.ex, relabel_keep (by decide) h, n.d1⟩
end
/-- the slots of the block's own names forgotten -/
def wipeS (Γ : Slots) : List Nat → Slots
  | [] => Γ
  | v :: vs => (wipeS Γ vs).set v none
theorem env_wipe {K F as} {Γ : Slots} {σ : L2.St} (h : EnvR K F as Γ σ) : ∀ vs, EnvR K F as (wipeS Γ vs) (wipe σ vs)
  | [] => h
  | v :: vs => (env_wipe h vs).unset
theorem wipe_at (σ : L2.St) : ∀ (vs : List Nat) (j : Nat), (wipe σ vs)[j]? = if j ∈ vs ∧ j < σ.length then some none else σ[j]?
  | [], j => by simp [wipe]
  | v :: vs, j => by
    unfold wipe
    by_cases hj : v = j
    · subst hj
      by_cases hl : v < σ.length
      · rw [List.getElem?_set_self (by rw [wipe_length]; exact hl)]
        simp [hl]
      · rw [List.getElem?_eq_none (by rw [List.length_set, wipe_length]; omega), List.getElem?_eq_none (by omega)]
        simp [hl]
    · rw [List.getElem?_set_ne hj, wipe_at σ vs j]
      simp [Ne.symm hj]
theorem wipe_but {σ σ' : L2.St} {ws vs : List Nat} (b : But ws (wipe σ vs) σ') (h : ∀ j ∈ ws, j ∈ vs) : wipe σ' vs = wipe σ vs := by
  apply List.ext_getElem?
  intro j
  have hl := b.1
  rw [wipe_length] at hl
  rw [wipe_at, wipe_at, hl]
  by_cases hj : j ∈ vs ∧ j < σ.length
  · rw [if_pos hj, if_pos hj]
  · rw [if_neg hj, if_neg hj]
    by_cases hw : j ∈ ws
    · have : ¬ j < σ.length := fun q => hj ⟨h j hw, q⟩
      rw [List.getElem?_eq_none (by omega), List.getElem?_eq_none (by omega)]
    · rw [b.2 j hw, wipe_at, if_neg hj]

def wpTs (X : Cx) (ifs : List Expr) : TT := fun σ H Q => ∃ t, PTs X ifs t ∧ t σ H Q
def TVs (X : Cx) (Γ : Slots) (γ : Cells) (ifs : List Expr) (k : Bool) (γ' : Cells) : Prop :=
  ∀ F as σ H, Rep X.K F as γ H → EnvR X.K F as Γ σ → ∀ Q : Bool → Hp → Prop, (∀ F' as' H', Ext F as F' as' → Rep X.K F' as' γ' H' → Q k H') → wpTs X ifs σ H Q
section
variable {X : Cx} {Γ : Slots} {γ γ1 : Cells} {c : Expr} {k : Bool} {ifs : List Expr}
theorem pts_wp : PTs X ifs (wpTs X ifs) := ⟨fun pins s σ H Q I ⟨t, h, q⟩ => h.run pins s σ H Q I q⟩
theorem tvs_nil : TVs X Γ γ [] true γ := fun F as σ H R E Q q => ⟨_, pts_nil, q F as H (Ext.refl F as) R⟩
theorem tvs_one (h : TV X Γ γ c k γ1) : TVs X Γ γ [c] k γ1 := fun F as σ H R E Q q => ⟨_, pts_one pt_wp, h F as σ H R E Q q⟩
end
/-! ### list comprehensions -/
section
variable {X : Cx} {Γ : Slots} {γ γ1 : Cells} {tg it elt : Expr} {ifs : List Expr} {scope : Scope} {own : List (Str × Nat)} {pos : Pos} {xs : List Itm} {stab : Cells → Prop} {P : EPost}
/-- the block's readings, for every block -/
def wbE (X : Cx) (scope : Scope) (e : Expr) : TE := fun σ H Q => ∀ X', Blk X scope X' → wpE X' e σ H Q
def wbT (X : Cx) (scope : Scope) (e : List Expr) : TT := fun σ H Q => ∀ X', Blk X scope X' → wpTs X' e σ H Q
def wbG (X : Cx) (scope : Scope) (e : Expr) : TG := fun v σ H Q => ∀ X', Blk X scope X' → wpG X' e v σ H Q
theorem lc_reads (hi : ITV X Γ γ tg it xs stab γ1) (Pv : Nat → List Itm → Cells → Prop) (h0 : Pv 0 [] γ1) (hst : ∀ i acc g, i ≤ xs.length → Pv i acc g → stab (g ++ [.lst acc])) (hlen : ∀ i acc g, Pv i acc g → g.length = γ1.length ∧ acc.length ≤ i)
    (hsz : xs.length ≤ 1000000)
    (hb : ∀ i x acc g, xs[i]? = some x → Pv i acc g → ∃ Γ2 ws k g2, (∀ j ∈ ws, j ∈ own.map (·.2)) ∧ g2.length = γ1.length ∧ ∀ X', Blk X scope X' →
      GV X' (g ++ [.lst acc]) (wipeS Γ (own.map (·.2))) tg x Γ2 ws ∧ TVs X' Γ2 (g ++ [.lst acc]) ifs k (g2 ++ [.lst acc]) ∧ (k = false → Pv (i + 1) acc g2) ∧
      (k = true → EE X' Γ2 (g2 ++ [.lst acc]) elt fun r g3 => ∃ g', g3 = g' ++ [.lst acc] ∧ Pv (i + 1) (acc ++ [r]) g'))
    {F as σ H} (R : Rep X.K F as γ H) (E : EnvR X.K F as Γ σ) {Q : VK} (q : ∀ D acc g F' as' H', Clo γ1 → as.length ≤ γ1.length → Pv xs.length acc g → Ext F as F' as' → Rep X.K F' as' (g ++ [.lst acc]) H' → as'[γ1.length]? = some D → Q (.ref D) H') :
    tLc (wpI X tg it) (wbG X scope tg) (wbT X scope ifs) (wbE X scope elt) (own.map (·.2)) σ H Q := by
  refine hi F as σ H R E _ fun J F1 as1 H1 x1 R1 hJ D hD => ?_
  obtain ⟨R1', i1'⟩ := newCellL R1 .nil hD
  have l1 : as1.length = γ1.length := R1.len
  have hDat : (as1 ++ [D])[γ1.length]? = some D := by rw [← l1, List.getElem?_append_right (Nat.le_refl _)]; simp
  have x1' : Ext F1 as1 F1 (as1 ++ [D]) := ⟨Same.refl F1, [D], rfl⟩
  -- what holds at turn i
  refine ⟨fun i m H' => m = xs.length - i ∧ i ≤ xs.length ∧ ∃ acc g F' as', Pv i acc g ∧ Ext F1 (as1 ++ [D]) F' as' ∧ Rep X.K F' as' (g ++ [.lst acc]) H', ⟨xs.length, by simp, Nat.zero_le _, [], γ1, F1, as1 ++ [D], h0, Ext.refl _ _, R1'⟩, ?_⟩
  rintro i m H' ⟨rfl, hle, acc, g, F', as', hp, x', R'⟩
  obtain ⟨lg, la⟩ := hlen i acc g hp
  obtain ⟨j1, j2⟩ := hJ i F' as' _ H' (x1'.trans x') R' (hst i acc g hle hp)
  by_cases hlt : i < xs.length
  · obtain ⟨g1, g2⟩ := j2 xs[i] (List.getElem?_eq_getElem hlt)
    refine .inr ⟨g1, fun H'' => ∃ acc g F' as', Pv (i + 1) acc g ∧ Ext F1 (as1 ++ [D]) F' as' ∧ Rep X.K F' as' (g ++ [.lst acc]) H'', fun H'' n => ⟨xs.length - (i + 1), by omega, rfl, hlt, n⟩, fun v H'' y => ?_⟩
    obtain ⟨F'', x'', R'', i''⟩ := g2 v H'' y
    obtain ⟨Γ2, ws, k, c2, hws, lc2, hall⟩ := hb i xs[i] acc g (List.getElem?_eq_getElem hlt) hp
    intro X' hB
    have hK : X'.K = X.K := by obtain ⟨_, _, _, _, _, rfl⟩ := hB; rfl
    refine (hall X' hB).1 F'' as' (wipe σ _) H'' v (hK ▸ R'') (hK ▸ env_wipe (E.mono (((x1.trans x1').trans x').trans x'')) _) (hK ▸ i'') _ fun σ2 E2 b2 => ⟨wipe_but b2 hws, ?_⟩
    rw [hK] at E2
    intro X2 hB2
    have hK2 : X2.K = X.K := by obtain ⟨_, _, _, _, _, rfl⟩ := hB2; rfl
    refine (hall X2 hB2).2.1 F'' as' σ2 H'' (hK2 ▸ R'') (hK2 ▸ E2) _ fun F3 as3 H3 x3 R3 => ?_
    rw [hK2] at R3
    have xx := (x'.trans x'').trans x3
    cases k with
    | false => exact iteF ⟨acc, c2, F3, as3, (hall X2 hB2).2.2.1 rfl, xx, R3⟩
    | true =>
      refine iteT fun X3 hB3 => ?_
      have hK3 : X3.K = X.K := by obtain ⟨_, _, _, _, _, rfl⟩ := hB3; rfl
      refine (hall X3 hB3).2.2.2 rfl F3 as3 σ2 H3 (hK3 ▸ R3) (hK3 ▸ E2.mono x3) _ fun w r g3 F4 as4 H4 hg3 x4 R4 i4 => ?_
      rw [hK3] at R4 i4
      obtain ⟨g', rfl, hp'⟩ := hg3
      obtain ⟨lg', la'⟩ := hlen (i + 1) _ g' hp'
      have hDx : as4[γ1.length]? = some D := (xx.trans x4).get hDat
      have hc : (g' ++ [Cell.lst acc])[γ1.length]? = some (.lst acc) := by rw [← lg', List.getElem?_append_right (Nat.le_refl _)]; simp
      obtain ⟨D', k1, us, k2, k3⟩ := R4.cellAt hc
      rw [hDx] at k1
      cases k1
      have e := itms_length k3
      refine ⟨us, k2, by rw [← e, sizeLine_eq]; omega, acc ++ [r], g', F4, as4, hp', xx.trans x4, ?_⟩
      have R5 := R4.write (cell := .lst (acc ++ [r])) hc (by simp) hDx ⟨_, upd_same, itms_append k3 (.cons i4 .nil)⟩
      have es : (g' ++ [Cell.lst acc]).set γ1.length (.lst (acc ++ [r])) = g' ++ [.lst (acc ++ [r])] := by
        rw [List.set_append_right _ _ (by omega), lg', Nat.sub_self]
        rfl
      rw [es] at R5
      exact R5
  · have e : i = xs.length := by omega
    subst e
    exact .inl ⟨j1 (Nat.le_refl _), q D acc g F' as' H' R1.clo (by rw [← l1]; obtain ⟨_, t, rfl⟩ := x1; simp) hp ((x1.trans x1').trans x') R' (x'.get hDat)⟩
/-- as a value: a cell -/
theorem ee_lcC (hX : Cok X) (ok : BlkOk X.N X.env.scope scope own) (hi : ITV X Γ γ tg it xs stab γ1) (Pv : Nat → List Itm → Cells → Prop) (h0 : Pv 0 [] γ1) (hst : ∀ i acc g, i ≤ xs.length → Pv i acc g → stab (g ++ [.lst acc])) (hlen : ∀ i acc g, Pv i acc g → g.length = γ1.length ∧ acc.length ≤ i)
    (hsz : xs.length ≤ 1000000)
    (hb : ∀ i x acc g, xs[i]? = some x → Pv i acc g → ∃ Γ2 ws k g2, (∀ j ∈ ws, j ∈ own.map (·.2)) ∧ g2.length = γ1.length ∧ ∀ X', Blk X scope X' →
      GV X' (g ++ [.lst acc]) (wipeS Γ (own.map (·.2))) tg x Γ2 ws ∧ TVs X' Γ2 (g ++ [.lst acc]) ifs k (g2 ++ [.lst acc]) ∧ (k = false → Pv (i + 1) acc g2) ∧
      (k = true → EE X' Γ2 (g2 ++ [.lst acc]) elt fun r g3 => ∃ g', g3 = g' ++ [.lst acc] ∧ Pv (i + 1) (acc ++ [r]) g'))
    (hs : ∀ x, foldedSetIterable it X.env x = pure x := by intro _; rfl) :
    EE X Γ γ (.ListComp elt [⟨tg, it, ifs, 0⟩] scope pos) fun r g => r = .cl γ1.length ∧ ∃ acc g', Pv xs.length acc g' ∧ g = g' ++ [.lst acc] := fun F as σ H R E Q q => by
  refine ⟨_, pe_lc (own := own) (wi := wpI X tg it) (g := wbG X scope tg) (tt := wbT X scope ifs) (te := wbE X scope elt) hX.calm hX.nd pi_wp ok (fun s H C cl fp => ⟨fun pins s' σ H v u Q I r h => pg_wp.run pins s' σ H v u Q I r (h _ ⟨s, _, C, cl, fp, rfl⟩)⟩)
    (fun s H C cl fp => ⟨fun pins s' σ H Q I h => pts_wp.run pins s' σ H Q I (h _ ⟨s, _, C, cl, fp, rfl⟩)⟩) (fun s H C cl fp => ⟨fun pins s' σ H Q I h => pe_wp.run pins s' σ H Q I (h _ ⟨s, _, C, cl, fp, rfl⟩)⟩) hs, ?_⟩
  exact lc_reads hi Pv h0 hst hlen hsz hb R E fun D acc g F' as' H' _ _ hp x' R' hD => q (.ref D) (.cl γ1.length) _ F' as' H' ⟨rfl, acc, g, hp, rfl⟩ x' R' (itm_cl.mpr ⟨D, hD, rfl⟩)
/-- as a value: frozen -/
theorem ee_lcF (hX : Cok X) (ok : BlkOk X.N X.env.scope scope own) (hi : ITV X Γ γ tg it xs stab γ1) (Pv : Nat → List Itm → Cells → Prop) (h0 : Pv 0 [] γ1) (hst : ∀ i acc g, i ≤ xs.length → Pv i acc g → stab (g ++ [.lst acc])) (hlen : ∀ i acc g, Pv i acc g → g.length = γ1.length ∧ acc.length ≤ i)
    (hsz : xs.length ≤ 1000000)
    (hfz : ∀ acc g, Pv xs.length acc g → (∃ ds : List PyData, acc = ds.map Itm.fz) ∧ (Clo γ1 → Clo g))
    (hb : ∀ i x acc g, xs[i]? = some x → Pv i acc g → ∃ Γ2 ws k g2, (∀ j ∈ ws, j ∈ own.map (·.2)) ∧ g2.length = γ1.length ∧ ∀ X', Blk X scope X' →
      GV X' (g ++ [.lst acc]) (wipeS Γ (own.map (·.2))) tg x Γ2 ws ∧ TVs X' Γ2 (g ++ [.lst acc]) ifs k (g2 ++ [.lst acc]) ∧ (k = false → Pv (i + 1) acc g2) ∧
      (k = true → EE X' Γ2 (g2 ++ [.lst acc]) elt fun r g3 => ∃ g', g3 = g' ++ [.lst acc] ∧ Pv (i + 1) (acc ++ [r]) g'))
    (hs : ∀ x, foldedSetIterable it X.env x = pure x := by intro _; rfl) :
    EE X Γ γ (.ListComp elt [⟨tg, it, ifs, 0⟩] scope pos) fun r g => ∃ ds : List PyData, r = .fz (.list ds) ∧ Pv xs.length (ds.map Itm.fz) g := fun F as σ H R E Q q => by
  refine ⟨_, pe_lc (own := own) (wi := wpI X tg it) (g := wbG X scope tg) (tt := wbT X scope ifs) (te := wbE X scope elt) hX.calm hX.nd pi_wp ok (fun s H C cl fp => ⟨fun pins s' σ H v u Q I r h => pg_wp.run pins s' σ H v u Q I r (h _ ⟨s, _, C, cl, fp, rfl⟩)⟩)
    (fun s H C cl fp => ⟨fun pins s' σ H Q I h => pts_wp.run pins s' σ H Q I (h _ ⟨s, _, C, cl, fp, rfl⟩)⟩) (fun s H C cl fp => ⟨fun pins s' σ H Q I h => pe_wp.run pins s' σ H Q I (h _ ⟨s, _, C, cl, fp, rfl⟩)⟩) hs, ?_⟩
  refine lc_reads hi Pv h0 hst hlen hsz hb R E fun D acc g F' as' H' hclo hal hp x' R' hD => ?_
  obtain ⟨⟨ds, rfl⟩, hc⟩ := hfz acc g hp
  obtain ⟨lg, _⟩ := hlen _ _ _ hp
  have hcell : (g ++ [Cell.lst (ds.map Itm.fz)])[γ1.length]? = some (.lst (ds.map Itm.fz)) := by rw [← lg, List.getElem?_append_right (Nat.le_refl _)]; simp
  obtain ⟨D', k1, us, k2, k3⟩ := R'.cellAt hcell
  rw [hD] at k1
  cases k1
  obtain ⟨R2, sm⟩ := R'.freeze hcell (by simp) hD k2
  have es : (g ++ [Cell.lst (ds.map Itm.fz)]).set γ1.length .dead = g ++ [.dead] := by
    rw [List.set_append_right _ _ (by omega), lg, Nat.sub_self]
    rfl
  rw [es] at R2
  refine q (.ref D) _ g _ (as'.take g.length) H' ⟨ds, rfl, hp⟩ ⟨x'.1.trans sm, ?_⟩ (R2.cut (hc hclo)) (itm_lst.mpr ⟨D, us, rfl, SqL.of upd_same, dpAll_mono sm (itms_fz k3)⟩)
  obtain ⟨_, tt, rfl⟩ := x'
  rw [List.take_append, List.take_of_length_le (by omega)]
  exact ⟨_, rfl⟩
/-- name = [..], the name a local: the list is stored within the block's frame -/
theorem swf {y : Str} {py : Pos} {l : Nat} {env : Env} {gs : List Comprehension} (hy : env.scope.names.lookup y = some .cell) : swapsWith (.ListComp elt gs scope pos) (some (.Name y py)) l env = pure false := by
  have ky : env.kindOf y = some .cell := hy
  unfold swapsWith
  have e : (some NameKind.cell == some NameKind.local) = false := rfl
  simp only [ky, e, Bool.and_false, Bool.false_and]
theorem swf_line {y : Str} {py : Pos} {l : Nat} {env : Env} {gs : List Comprehension} (hl : (py.line == pos.line) = false) : swapsWith (.ListComp elt gs scope pos) (some (.Name y py)) l env = pure false := by
  unfold swapsWith
  simp only [Expr.pos, hl]
  simp
theorem svs_setLcC {i : Nat} {y : Str} {py spos : Pos} {rest : List Stmt} {R : SE} (hX : Cok X) (n : Nm X y i .local) (hl : (py.line == pos.line) = true) (hany : (scope.names.any fun (n, k) => n == y && (k == .local || k == .cell)) = false) (ok : BlkOk X.N X.env.scope scope own) (hi : ITV X Γ γ tg it xs stab γ1) (Pv : Nat → List Itm → Cells → Prop) (h0 : Pv 0 [] γ1) (hst : ∀ i acc g, i ≤ xs.length → Pv i acc g → stab (g ++ [.lst acc])) (hlen : ∀ i acc g, Pv i acc g → g.length = γ1.length ∧ acc.length ≤ i)
    (hsz : xs.length ≤ 1000000)
    (hb : ∀ i x acc g, xs[i]? = some x → Pv i acc g → ∃ Γ2 ws k g2, (∀ j ∈ ws, j ∈ own.map (·.2)) ∧ g2.length = γ1.length ∧ ∀ X', Blk X scope X' →
      GV X' (g ++ [.lst acc]) (wipeS Γ (own.map (·.2))) tg x Γ2 ws ∧ TVs X' Γ2 (g ++ [.lst acc]) ifs k (g2 ++ [.lst acc]) ∧ (k = false → Pv (i + 1) acc g2) ∧
      (k = true → EE X' Γ2 (g2 ++ [.lst acc]) elt fun r g3 => ∃ g', g3 = g' ++ [.lst acc] ∧ Pv (i + 1) (acc ++ [r]) g'))
    (h : ∀ acc g, Pv xs.length acc g → SVs X (Γ.set i (some (.cl γ1.length))) (g ++ [.lst acc]) rest R)
    (hs : ∀ x, foldedSetIterable it X.env x = pure x := by intro _; rfl) :
    SVs X Γ γ (.Assign [.Name y py] (.ListComp elt [⟨tg, it, ifs, 0⟩] scope pos) spos :: rest) R := svs_cons fun F as σ H D Rp E C => by
  refine ⟨_, ps_setLc (i := i) (own := own) (wi := wpI X tg it) (g := wbG X scope tg) (tt := wbT X scope ifs) (te := wbE X scope elt) hX.calm hX.nd n.ix n.r.kd (sw_true hX.kind n.r.kd hl hany) pi_wp ok (fun s H C cl fp => ⟨fun pins s' σ H v u Q I r h => pg_wp.run pins s' σ H v u Q I r (h _ ⟨s, _, C, cl, fp, rfl⟩)⟩)
    (fun s H C cl fp => ⟨fun pins s' σ H Q I h => pts_wp.run pins s' σ H Q I (h _ ⟨s, _, C, cl, fp, rfl⟩)⟩) (fun s H C cl fp => ⟨fun pins s' σ H Q I h => pe_wp.run pins s' σ H Q I (h _ ⟨s, _, C, cl, fp, rfl⟩)⟩) hs, ?_⟩
  refine lc_reads hi Pv h0 hst hlen hsz hb Rp E fun D' acc g F' as' H' _ _ hp x' R' hD => ?_
  exact C.nx _ _ _ _ _ _ (h acc g hp) x' R' ((E.mono x').set (itm_cl.mpr ⟨D', hD, rfl⟩))
theorem svs_setLcF {i : Nat} {y : Str} {py spos : Pos} {rest : List Stmt} {R : SE} (hX : Cok X) (n : Nm X y i .local) (hl : (py.line == pos.line) = true) (hany : (scope.names.any fun (n, k) => n == y && (k == .local || k == .cell)) = false) (ok : BlkOk X.N X.env.scope scope own) (hi : ITV X Γ γ tg it xs stab γ1) (Pv : Nat → List Itm → Cells → Prop) (h0 : Pv 0 [] γ1) (hst : ∀ i acc g, i ≤ xs.length → Pv i acc g → stab (g ++ [.lst acc])) (hlen : ∀ i acc g, Pv i acc g → g.length = γ1.length ∧ acc.length ≤ i)
    (hsz : xs.length ≤ 1000000)
    (hfz : ∀ acc g, Pv xs.length acc g → (∃ ds : List PyData, acc = ds.map Itm.fz) ∧ (Clo γ1 → Clo g))
    (hb : ∀ i x acc g, xs[i]? = some x → Pv i acc g → ∃ Γ2 ws k g2, (∀ j ∈ ws, j ∈ own.map (·.2)) ∧ g2.length = γ1.length ∧ ∀ X', Blk X scope X' →
      GV X' (g ++ [.lst acc]) (wipeS Γ (own.map (·.2))) tg x Γ2 ws ∧ TVs X' Γ2 (g ++ [.lst acc]) ifs k (g2 ++ [.lst acc]) ∧ (k = false → Pv (i + 1) acc g2) ∧
      (k = true → EE X' Γ2 (g2 ++ [.lst acc]) elt fun r g3 => ∃ g', g3 = g' ++ [.lst acc] ∧ Pv (i + 1) (acc ++ [r]) g'))
    (h : ∀ (ds : List PyData) g, Pv xs.length (ds.map Itm.fz) g → SVs X (Γ.set i (some (.fz (.list ds)))) g rest R)
    (hs : ∀ x, foldedSetIterable it X.env x = pure x := by intro _; rfl) :
    SVs X Γ γ (.Assign [.Name y py] (.ListComp elt [⟨tg, it, ifs, 0⟩] scope pos) spos :: rest) R := svs_cons fun F as σ H D Rp E C => by
  refine ⟨_, ps_setLc (i := i) (own := own) (wi := wpI X tg it) (g := wbG X scope tg) (tt := wbT X scope ifs) (te := wbE X scope elt) hX.calm hX.nd n.ix n.r.kd (sw_true hX.kind n.r.kd hl hany) pi_wp ok (fun s H C cl fp => ⟨fun pins s' σ H v u Q I r h => pg_wp.run pins s' σ H v u Q I r (h _ ⟨s, _, C, cl, fp, rfl⟩)⟩)
    (fun s H C cl fp => ⟨fun pins s' σ H Q I h => pts_wp.run pins s' σ H Q I (h _ ⟨s, _, C, cl, fp, rfl⟩)⟩) (fun s H C cl fp => ⟨fun pins s' σ H Q I h => pe_wp.run pins s' σ H Q I (h _ ⟨s, _, C, cl, fp, rfl⟩)⟩) hs, ?_⟩
  refine lc_reads hi Pv h0 hst hlen hsz hb Rp E fun D' acc g F' as' H' hclo hal hp x' R' hD => ?_
  obtain ⟨⟨ds, rfl⟩, hc⟩ := hfz acc g hp
  obtain ⟨lg, _⟩ := hlen _ _ _ hp
  have hcell : (g ++ [Cell.lst (ds.map Itm.fz)])[γ1.length]? = some (.lst (ds.map Itm.fz)) := by rw [← lg, List.getElem?_append_right (Nat.le_refl _)]; simp
  obtain ⟨D2, k1, us, k2, k3⟩ := R'.cellAt hcell
  rw [hD] at k1
  cases k1
  obtain ⟨R2, sm⟩ := R'.freeze hcell (by simp) hD k2
  have es : (g ++ [Cell.lst (ds.map Itm.fz)]).set γ1.length .dead = g ++ [.dead] := by
    rw [List.set_append_right _ _ (by omega), lg, Nat.sub_self]
    rfl
  rw [es] at R2
  have xx : Ext F as (upd F' D' (.lst us)) (as'.take g.length) := ⟨x'.1.trans sm, by
    obtain ⟨_, tt, rfl⟩ := x'
    rw [List.take_append, List.take_of_length_le (by omega)]
    exact ⟨_, rfl⟩⟩
  exact C.nx _ _ _ _ _ _ (h ds g hp) xx (R2.cut (hc hclo)) ((E.mono xx).set (itm_lst.mpr ⟨D', us, rfl, SqL.of upd_same, dpAll_mono sm (itms_fz k3)⟩))
end
end PL

namespace PL
open PySem PySem.Spec PyProof.Rows L2

/-! ### what follows, in the place of what comes out -/
def AE (X : Cx) (Γ : Slots) (γ : Cells) (es : List Expr) (P : List Itm → Cells → Prop) : Prop :=
  ∀ (F : Hp) (as : List Addr) (σ : L2.St) (H : Hp), Rep X.K F as γ H → EnvR X.K F as Γ σ → ∀ Q : List V → Hp → Prop,
    (∀ vs rs γ' F' as' H', P rs γ' → Ext F as F' as' → Rep X.K F' as' γ' H' → ItmsR X.K F' as' rs vs → Q vs H') → wpA X es σ H Q
def TP (X : Cx) (Γ : Slots) (γ : Cells) (e : Expr) (P : Bool → Cells → Prop) : Prop :=
  ∀ (F : Hp) (as : List Addr) (σ : L2.St) (H : Hp), Rep X.K F as γ H → EnvR X.K F as Γ σ → ∀ Q : Bool → Hp → Prop,
    (∀ k γ' F' as' H', P k γ' → Ext F as F' as' → Rep X.K F' as' γ' H' → Q k H') → wpT X e σ H Q
def wpC (X : Cx) (op : CmpOp) : R2 := fun x y H Q => ∃ t : R2, OpR X (compareOp op) t ∧ t x y H Q
theorem wpC_ok {X : Cx} {op : CmpOp} : OpR X (compareOp op) (wpC X op) := fun pins s σ H x y v u Q I rx ry ⟨t, h, q⟩ => h pins s σ H x y v u Q I rx ry q
section
variable {X : Cx} {Γ : Slots} {γ γ1 γ2 γ3 : Cells} {e a b o c : Expr} {es : List Expr} {rs : List Itm} {r ra rb : Itm} {pos p : Pos} {x : Str} {S : PSpec} {P : EPost} {R : SE} {rest sa sb : List Stmt} {k : Bool} {i j n : Int}
theorem EE.of (h : EV X Γ γ e r γ1) (hp : P r γ1) : EE X Γ γ e P := EE.imp h fun r' g ⟨e1, e2⟩ => by subst e1 e2; exact hp
theorem TP.of {P : Bool → Cells → Prop} (h : TV X Γ γ e k γ1) (hp : P k γ1) : TP X Γ γ e P := fun F as σ H R E Q q => h F as σ H R E Q fun F' as' H' x R' => q k γ1 F' as' H' hp x R'
theorem AE.of {P : List Itm → Cells → Prop} (h : AV X Γ γ es rs γ1) (hp : P rs γ1) : AE X Γ γ es P := fun F as σ H R E Q q => h F as σ H R E Q fun vs F' as' H' x R' i => q vs rs γ1 F' as' H' hp x R' i
theorem ae_nil {P : List Itm → Cells → Prop} (hp : P [] γ) : AE X Γ γ [] P := AE.of av_nil hp
theorem ae_cons {P : List Itm → Cells → Prop} (h : EE X Γ γ e fun r g => AE X Γ g es fun rs g' => P (r :: rs) g') (hs : starEach (e :: es) X.env = (false, eval e X.env) :: starEach es X.env := by rfl) : AE X Γ γ (e :: es) P := fun F as σ H R E Q q =>
  ⟨_, pa_cons pe_wp pa_wp hs, h F as σ H R E _ fun v r g F1 as1 H1 hp x1 R1 i1 => hp F1 as1 σ H1 R1 (E.mono x1) _ fun vs rs g' F2 as2 H2 hp2 x2 R2 i2 => q _ _ g' F2 as2 H2 hp2 (x1.trans x2) R2 (.cons (itm_mono x2 i1) i2)⟩
theorem ee_call' (h : Cal X x S) (ha : AE X Γ γ (e :: es) fun rs g => S rs g P) (he : starEach (e :: es) X.env = (false, eval e X.env) :: starEach es X.env := by rfl) (hpl : (backTo pos (starEach es X.env)).any (·.1) = false := by rfl) :
    EE X Γ γ (.Call (.Name x p) (e :: es) [] pos) P := fun F as σ H R E Q q => by
  obtain ⟨k, ⟨f, fd, ps, G, hm, hk, hb⟩, hr⟩ := h.ex
  refine ⟨_, pe_call G hr h.gl hm hk hb .nil pass0 pa_wp h.d1 he hpl, ?_⟩
  refine ha F as σ H R E _ fun vs rs g F1 as1 H1 hs x1 R1 i1 => ?_
  show spPL X.K S (vs ++ []) H1 Q E0
  rw [List.append_nil]
  exact ⟨F1, as1, g, rs, P, R1, i1, hs, fun v r g F2 as2 H2 hp x2 R2 i2 => q v r g F2 as2 H2 hp (x1.trans x2) R2 i2⟩
/-- two operands, then r -/
theorem ee_op {op : Operator} {t : R2} (ho : OpR X (binaryOp op) t)
    (h : EE X Γ γ a fun ra g1 => EE X Γ g1 b fun rb g2 => ∀ F as H x y, Rep X.K F as g2 H → ItmR X.K F as ra x → ItmR X.K F as rb y → ∀ Q : VK, (∀ v r g3 F' as' H', P r g3 → Ext F as F' as' → Rep X.K F' as' g3 H' → ItmR X.K F' as' r v → Q v H') → t x y H Q) :
    EE X Γ γ (.BinOp a op b pos) P := fun F as σ H R E Q q => by
  refine ⟨_, pe_op ho pe_wp pe_wp, ?_⟩
  refine h F as σ H R E _ fun v ra g1 F1 as1 H1 hp x1 R1 i1 => ?_
  refine hp F1 as1 σ H1 R1 (E.mono x1) _ fun u rb g2 F2 as2 H2 hp2 x2 R2 i2 => ?_
  exact hp2 F2 as2 H2 v u R2 (itm_mono x2 i1) i2 Q fun w r g3 F3 as3 H3 hp3 x3 R3 i3 => q w r g3 F3 as3 H3 hp3 ((x1.trans x2).trans x3) R3 i3
theorem ee_opI {op : Operator} {C : Int → Int → Prop} {f : Int → Int → Int} (ho : OpR X (binaryOp op) (rI C fun i j => .int (f i j)))
    (h : EE X Γ γ a fun ra g1 => ∃ i, ra = .fz (.int i) ∧ EE X Γ g1 b fun rb g2 => ∃ j, rb = .fz (.int j) ∧ C i j ∧ P (.fz (.int (f i j))) g2) : EE X Γ γ (.BinOp a op b pos) P :=
  ee_op ho (EE.imp h fun ra g1 ⟨i, e1, h2⟩ => EE.imp h2 fun rb g2 ⟨j, e2, hc, hp⟩ => fun F as H x y R hx hy Q q => by
    subst e1 e2
    exact ⟨i, j, itm_int.mp hx, itm_int.mp hy, hc, q _ _ _ F as H hp (Ext.refl F as) R (itm_int.mpr rfl)⟩)
theorem ee_opI0 {op : Operator} {f : Int → Int → Int} (ho : OpR X (binaryOp op) (rI0 fun i j => .int (f i j)))
    (h : EE X Γ γ a fun ra g1 => ∃ i, ra = .fz (.int i) ∧ EE X Γ g1 b fun rb g2 => ∃ j, rb = .fz (.int j) ∧ P (.fz (.int (f i j))) g2) : EE X Γ γ (.BinOp a op b pos) P :=
  ee_op ho (EE.imp h fun ra g1 ⟨i, e1, h2⟩ => EE.imp h2 fun rb g2 ⟨j, e2, hp⟩ => fun F as H x y R hx hy Q q => by
    subst e1 e2
    exact ⟨i, j, itm_int.mp hx, itm_int.mp hy, q _ _ _ F as H hp (Ext.refl F as) R (itm_int.mpr rfl)⟩)
theorem ee_add (h : EE X Γ γ a fun ra g1 => ∃ i, ra = .fz (.int i) ∧ EE X Γ g1 b fun rb g2 => ∃ j, rb = .fz (.int j) ∧ P (.fz (.int (i + j))) g2) : EE X Γ γ (.BinOp a .Add b pos) P := ee_opI0 op_add h
theorem ee_sub (h : EE X Γ γ a fun ra g1 => ∃ i, ra = .fz (.int i) ∧ EE X Γ g1 b fun rb g2 => ∃ j, rb = .fz (.int j) ∧ P (.fz (.int (i - j))) g2) : EE X Γ γ (.BinOp a .Sub b pos) P := ee_opI0 op_sub h
theorem ee_mul (h : EE X Γ γ a fun ra g1 => ∃ i, ra = .fz (.int i) ∧ EE X Γ g1 b fun rb g2 => ∃ j, rb = .fz (.int j) ∧ CMulW i j ∧ P (.fz (.int (i * j))) g2) : EE X Γ γ (.BinOp a .Mult b pos) P := ee_opI op_mulW h
theorem ee_mod (h : EE X Γ γ a fun ra g1 => ∃ i, ra = .fz (.int i) ∧ EE X Γ g1 b fun rb g2 => ∃ j, rb = .fz (.int j) ∧ 0 < j ∧ P (.fz (.int (i % j))) g2) : EE X Γ γ (.BinOp a .Mod b pos) P := ee_opI op_mod h
theorem ee_div (h : EE X Γ γ a fun ra g1 => ∃ i, ra = .fz (.int i) ∧ EE X Γ g1 b fun rb g2 => ∃ j, rb = .fz (.int j) ∧ CDivW i j ∧ P (.fz (.int (i / j))) g2) : EE X Γ γ (.BinOp a .FloorDiv b pos) P := ee_opI op_fdivW h
/-- an item of a list or a tuple of frozen things -/
theorem ee_ixL (h : EE X Γ γ a fun ra g1 => EE X Γ g1 b fun rb g2 => ∃ ds i d, Rdb g2 ra (.list ds) ∧ rb = .fz (.int i) ∧ atI ds i = some d ∧ P (.fz d) g2) (hs : PlainIx b := by exact fun _ _ => rfl) : EE X Γ γ (.Subscript a b pos) P := fun F as σ H R E Q q => by
  refine ⟨_, pe_ix ix_list pe_wp pe_wp hs, h F as σ H R E _ fun v ra g1 F1 as1 H1 hp x1 R1 i1 => hp F1 as1 σ H1 R1 (E.mono x1) _ fun u rb g2 F2 as2 H2 hp2 x2 R2 i2 => ?_⟩
  obtain ⟨ds, i, d, hr, rfl, hi, hp3⟩ := hp2
  obtain ⟨l, us, rfl, h1, h2⟩ := hr.list R2 (itm_mono x2 i1)
  obtain ⟨j, hj, hx⟩ := atI_lt hi
  obtain ⟨w, hw, hd⟩ := dpAll_get h2 hj
  exact ⟨l, us, i, w, rfl, itm_int.mp i2, h1, atI_of (dpAll_length h2) hx hw, q _ _ g2 F2 as2 H2 hp3 (x1.trans x2) R2 (.fz hd)⟩
theorem ee_ixT (h : EE X Γ γ a fun ra g1 => EE X Γ g1 b fun rb g2 => ∃ ds i d, ra = .fz (.tuple ds) ∧ rb = .fz (.int i) ∧ atI ds i = some d ∧ P (.fz d) g2) (hs : PlainIx b := by exact fun _ _ => rfl) : EE X Γ γ (.Subscript a b pos) P := fun F as σ H R E Q q => by
  refine ⟨_, pe_ix ix_tup pe_wp pe_wp hs, h F as σ H R E _ fun v ra g1 F1 as1 H1 hp x1 R1 i1 => hp F1 as1 σ H1 R1 (E.mono x1) _ fun u rb g2 F2 as2 H2 hp2 x2 R2 i2 => ?_⟩
  obtain ⟨ds, i, d, rfl, rfl, hi, hp3⟩ := hp2
  obtain ⟨l, us, rfl, h1, h2⟩ := itm_tup.mp (itm_mono x2 i1)
  obtain ⟨j, hj, hx⟩ := atI_lt hi
  obtain ⟨w, hw, hd⟩ := dpAll_get h2 hj
  exact ⟨l, us, i, w, rfl, itm_int.mp i2, (SqT.of (R2.fr _ _ h1)), atI_of (dpAll_length h2) hx hw, q _ _ g2 F2 as2 H2 hp3 (x1.trans x2) R2 (.fz hd)⟩
/-- displays -/
theorem ee_tup {kk : Nat} (h : AE X Γ γ es fun rs g => ∃ ds : List PyData, rs = ds.map Itm.fz ∧ ds.length ≤ 1000 ∧ P (.fz (.tuple ds)) g) : EE X Γ γ (.Tuple es kk pos) P := fun F as σ H R E Q q => by
  refine ⟨_, pe_tup pa_wp, ?_⟩
  refine h F as σ H R E _ fun vs rs g F1 as1 H1 hp x1 R1 i1 => ?_
  obtain ⟨ds, rfl, hl, hp⟩ := hp
  have l : vs.length = ds.length := by have := itms_length i1; simpa using this.symm
  refine ⟨by rw [l]; exact Nat.le_of_lt (small1000 hl), fun p hp' => q _ _ g (upd F1 p (.tup vs)) as1 _ hp ?_ (R1.new _ hp') ?_⟩
  · exact x1.trans ⟨R1.sameNew _ hp', [], by simp⟩
  · exact itm_tup.mpr ⟨p, vs, rfl, upd_same, dpAll_mono (R1.sameNew _ hp') (itms_fz i1)⟩
theorem ee_lst (h : AE X Γ γ es fun rs g => ∃ ds : List PyData, rs = ds.map Itm.fz ∧ ds.length ≤ 1000 ∧ P (.fz (.list ds)) g) : EE X Γ γ (.List es pos) P := fun F as σ H R E Q q => by
  refine ⟨_, pe_lst pa_wp, ?_⟩
  refine h F as σ H R E _ fun vs rs g F1 as1 H1 hp x1 R1 i1 => ?_
  obtain ⟨ds, rfl, hl, hp⟩ := hp
  have l : vs.length = ds.length := by have := itms_length i1; simpa using this.symm
  refine ⟨by rw [l]; exact Nat.le_of_lt (small1000 hl), fun p hp' => q _ _ g (upd F1 p (.lst vs)) as1 _ hp ?_ (R1.new _ hp') ?_⟩
  · exact x1.trans ⟨R1.sameNew _ hp', [], by simp⟩
  · exact itm_lst.mpr ⟨p, vs, rfl, SqL.of upd_same, dpAll_mono (R1.sameNew _ hp') (itms_fz i1)⟩
theorem ee_tupP {kk : Nat} (h : AE X Γ γ es fun rs g => rs.length ≤ 1000 ∧ P (.tp rs) g) : EE X Γ γ (.Tuple es kk pos) P := fun F as σ H R E Q q => by
  refine ⟨_, pe_tup pa_wp, ?_⟩
  refine h F as σ H R E _ fun vs rs g F1 as1 H1 hp x1 R1 i1 => ?_
  obtain ⟨hl, hp⟩ := hp
  have l := itms_length i1
  refine ⟨by rw [← l]; exact Nat.le_of_lt (small1000 hl), fun p hp' => ?_⟩
  have x2 : Ext F1 as1 (upd F1 p (.tup vs)) as1 := ⟨R1.sameNew _ hp', [], by simp⟩
  exact q _ _ g (upd F1 p (.tup vs)) as1 _ hp (x1.trans x2) (R1.new _ hp') (.tp upd_same (itms_mono x2 i1))
/-- append -/
theorem ee_append {apos : Pos} (h : EE X Γ γ o fun ro g1 => ∃ cc ys, ro = .cl cc ∧ g1[cc]? = some (.lst ys) ∧ EE X Γ g1 e fun r g2 => ∃ xs, g2[cc]? = some (.lst xs) ∧ xs.length ≤ 1000000 ∧ P (.fz .none) (g2.set cc (.lst (xs ++ [r]))))
    (hbase : attributeBase o "append" X.env (eval o X.env) = eval o X.env := by rfl)
    (hfew : ((backTo pos (starEach [e] X.env)).all (fun x => !x.1) && (backToKw pos (keywordEach [] X.env)).all (fun x => x.1.isSome) && decide ([e].length + ([] : List Keyword).length + (if ([] : List Keyword).isEmpty then 0 else 1) < 30)) = true := by rfl)
    (hline : (apos.endLine == pos.line) = true := by rfl) (hs : starEach [e] X.env = (false, eval e X.env) :: starEach [] X.env := by rfl) :
    EE X Γ γ (.Call (.Attribute o "append" apos) [e] [] pos) P := fun F as σ H R E Q q => by
  refine ⟨_, pe_bm PySem.F.plainAttrs_list PySem.F.slot_list_append PySem.F.type_list_append mt_append pe_wp (pa_cons pe_wp pa_nil hs) hbase hfew hline hs rfl, ?_⟩
  refine h F as σ H R E _ fun v ro g1 F1 as1 H1 hp x1 R1 i1 => ?_
  obtain ⟨cc, ys, rfl, h1, he⟩ := hp
  obtain ⟨l, hl1, rfl⟩ := itm_cl.mp i1
  obtain ⟨l1, k1, us, k2, k3⟩ := R1.cellAt h1
  rw [hl1] at k1
  cases k1
  refine ⟨.inl ⟨rfl, us, SqL.of k2⟩, ?_⟩
  refine he F1 as1 σ H1 R1 (E.mono x1) _ fun u r g2 F2 as2 H2 hp2 x2 R2 i2 => ?_
  obtain ⟨xs, h2, hl, hp⟩ := hp2
  have hl2 := x2.get hl1
  obtain ⟨l2, k1, us2, k4, k5⟩ := R2.cellAt h2
  rw [hl2] at k1
  cases k1
  have e := itms_length k5
  refine ⟨l, us2, u, rfl, rfl, k4, by rw [← e, sizeLine_eq]; omega, ?_⟩
  exact q _ _ _ F2 as2 _ hp (x1.trans x2) (R2.write h2 (by simp) hl2 ⟨_, upd_same, itms_append k5 (.cons i2 .nil)⟩) (itm_non.mpr rfl)
/-- comparisons, in tests -/
theorem tp_cmp {op : CmpOp} {P : Bool → Cells → Prop} (h : EE X Γ γ a fun ra g1 => EE X Γ g1 b fun rb g2 => ∃ k, CmpR X op g2 ra rb k ∧ P k g2) (hm : behindInMarks op b = false := by first | exact nomark _ | rfl) : TP X Γ γ (.Compare a [op] [b] pos) P := fun F as σ H R E Q q => by
  refine ⟨_, pt_cmpR (wpC_ok (X := X) (op := op)) pe_wp pe_wp hm, ?_⟩
  refine h F as σ H R E _ fun v ra g1 F1 as1 H1 hp x1 R1 i1 => ?_
  refine hp F1 as1 σ H1 R1 (E.mono x1) _ fun u rb g2 F2 as2 H2 hp2 x2 R2 i2 => ?_
  obtain ⟨k, ⟨t, ho, hr⟩, hp⟩ := hp2
  exact ⟨t, ho, hr F2 as2 H2 v u R2 (itm_mono x2 i1) i2 _ ⟨k, rfl, q k g2 F2 as2 H2 hp (x1.trans x2) R2⟩⟩
theorem ee_cmp {op : CmpOp} (h : EE X Γ γ a fun ra g1 => EE X Γ g1 b fun rb g2 => ∃ k, CmpR X op g2 ra rb k ∧ P (.fz (.bool k)) g2) (hm : behindInMarks op b = false := by first | exact nomark _ | rfl) : EE X Γ γ (.Compare a [op] [b] pos) P := fun F as σ H R E Q q => by
  refine ⟨_, pe_cmpR (wpC_ok (X := X) (op := op)) pe_wp pe_wp hm, ?_⟩
  refine h F as σ H R E _ fun v ra g1 F1 as1 H1 hp x1 R1 i1 => ?_
  refine hp F1 as1 σ H1 R1 (E.mono x1) _ fun u rb g2 F2 as2 H2 hp2 x2 R2 i2 => ?_
  obtain ⟨k, ⟨t, ho, hr⟩, hp⟩ := hp2
  exact ⟨t, ho, hr F2 as2 H2 v u R2 (itm_mono x2 i1) i2 _ (q _ _ g2 F2 as2 H2 hp (x1.trans x2) R2 (itm_bl.mpr rfl))⟩
/-- if, by what follows -/
theorem svs_ifP (h : TP X Γ γ c fun k g => (k = true → SVs X Γ g sa (R.then X rest)) ∧ (k = false → SVs X Γ g sb (R.then X rest))) : SVs X Γ γ (.If c sa sb pos :: rest) R :=
  svs_cons fun F as σ H D Rp E C => ⟨_, ps_if pt_wp pss_wp pss_wp, h F as σ H Rp E _ fun k g F1 as1 H1 hp x1 R1 => by
    cases k with
    | true => exact iteT (hp.1 rfl F1 as1 σ H1 D R1 (E.mono x1) (C.mono x1))
    | false => exact iteF (hp.2 rfl F1 as1 σ H1 D R1 (E.mono x1) (C.mono x1))⟩
theorem svs_setE {x : Str} {i : Nat} {k : NameKind} {p' : Pos} (hX : Cok X) (n : Nm X x i k) (he : EE X Γ γ e fun r g => SVs X (Γ.set i (some r)) g rest R) (hs : swapsWith e (some (.Name x p')) pos.line X.env = pure false := by rfl) : SVs X Γ γ (.Assign [.Name x p'] e pos :: rest) R :=
  svs_cons (sv_set hX n he (fun _ _ h => h) hs)
theorem svs_exprE (he : EE X Γ γ e fun _ g => SVs X Γ g rest R) (hs : swapsWith e none pos.line X.env = pure false := by rfl) : SVs X Γ γ (.Expr e pos :: rest) R := svs_expr he (fun _ _ h => h) hs
theorem svs_retE (he : EE X Γ γ e R.rt) : SVs X Γ γ (.Return (some e) pos :: rest) R := svs_ret he fun _ _ h => h
theorem svs_asgE {tg : Expr} (he : EE X Γ γ e fun r g => ∃ Γ' ws, GV X g Γ tg r Γ' ws ∧ SVs X Γ' g rest R) (hs : swapsWithSole [tg] e pos.line X.env = pure false := by rfl) (hw : swappedStores [tg] e X.env = pure none := by rfl)
    (h1 : (assignEach [tg] X.env).map (·.2) = [assign tg X.env] := by rfl) : SVs X Γ γ (.Assign [tg] e pos :: rest) R := svs_cons (sv_asg he (fun _ _ h => h) hs hw h1)
end
end PL

namespace PL
open PySem PySem.Spec PyProof.Rows L2

/-! ### dicts in cells, keys ints and texts -/
def keyD : PyData → Option Key
  | .int i => some (.inl i)
  | .str s => some (.inr s)
  | _ => none
theorem keyD_v {K F v d k} (h : keyD d = some k) (r : Dq K F v d) : v = kV k := by
  cases r <;> simp [keyD] at h <;> subst h <;> rfl
section
variable {κ : Type} [DecidableEq κ]
def valI (kvs : List (κ × Itm)) (k : κ) : Option Itm := (kvs.find? fun kv => decide (kv.1 = k)).map (·.2)
def putI (kvs : List (κ × Itm)) (k : κ) (v : Itm) : List (κ × Itm) :=
  if kvs.any (fun kv => decide (kv.1 = k)) then kvs.map fun kv => if kv.1 = k then (kv.1, v) else kv else kvs ++ [(k, v)]
def dropI (kvs : List (κ × Itm)) (k : κ) : List (κ × Itm) := kvs.filter fun kv => decide (kv.1 ≠ k)
variable {K : PySem.W.Frag} {F : Hp} {as : List Addr}
abbrev PrI (K : PySem.W.Frag) (F : Hp) (as : List Addr) (κ : Type) : List (κ × Itm) → List (κ × V) → Prop := Paired fun (p : κ × Itm) (q : κ × V) => p.1 = q.1 ∧ ItmR K F as p.2 q.2
theorem pr_val {k : κ} : ∀ {xs : List (κ × Itm)} {ys : List (κ × V)}, PrI K F as κ xs ys → (∀ r, valI xs k = some r → ∃ v, valV ys k = some v ∧ ItmR K F as r v) ∧ (valI xs k = none → valV ys k = none)
  | _, _, .nil => ⟨fun r h => by simp [valI] at h, fun _ => rfl⟩
  | (p1, p2) :: xs, (q1, q2) :: ys, .cons h t => by
    obtain ⟨e, i⟩ := h
    have e : p1 = q1 := e
    subst e
    have ih := pr_val (k := k) t
    unfold valI valV at ih ⊢
    by_cases hk : p1 = k
    · simp only [List.find?_cons, hk, decide_true, Option.map_some]
      exact ⟨fun r h => by cases h; exact ⟨q2, rfl, i⟩, fun h => by cases h⟩
    · simp only [List.find?_cons, hk, decide_false]
      exact ih
theorem pr_any {k : κ} : ∀ {xs : List (κ × Itm)} {ys : List (κ × V)}, PrI K F as κ xs ys → (xs.any fun kv => decide (kv.1 = k)) = ys.any fun kv => decide (kv.1 = k)
  | _, _, .nil => rfl
  | (p1, p2) :: xs, (q1, q2) :: ys, .cons h t => by
    have e : p1 = q1 := h.1
    subst e
    simp only [List.any_cons, pr_any (k := k) t]
theorem pr_map {k : κ} {r : Itm} {v : V} (hr : ItmR K F as r v) : ∀ {xs : List (κ × Itm)} {ys : List (κ × V)}, PrI K F as κ xs ys → PrI K F as κ (xs.map fun kv => if kv.1 = k then (kv.1, r) else kv) (ys.map fun kv => if kv.1 = k then (kv.1, v) else kv)
  | _, _, .nil => .nil
  | (p1, p2) :: xs, (q1, q2) :: ys, .cons h t => by
    have e : p1 = q1 := h.1
    subst e
    refine .cons ?_ (pr_map hr t)
    by_cases hk : p1 = k
    · show (if p1 = k then (p1, r) else (p1, p2)).1 = (if p1 = k then (p1, v) else (p1, q2)).1 ∧ ItmR K F as (if p1 = k then (p1, r) else (p1, p2)).2 (if p1 = k then (p1, v) else (p1, q2)).2
      rw [if_pos hk, if_pos hk]; exact ⟨rfl, hr⟩
    · show (if p1 = k then (p1, r) else (p1, p2)).1 = (if p1 = k then (p1, v) else (p1, q2)).1 ∧ ItmR K F as (if p1 = k then (p1, r) else (p1, p2)).2 (if p1 = k then (p1, v) else (p1, q2)).2
      rw [if_neg hk, if_neg hk]; exact ⟨rfl, h.2⟩
theorem pr_snoc {k : κ} {r : Itm} {v : V} (hr : ItmR K F as r v) : ∀ {xs : List (κ × Itm)} {ys : List (κ × V)}, PrI K F as κ xs ys → PrI K F as κ (xs ++ [(k, r)]) (ys ++ [(k, v)])
  | _, _, .nil => .cons ⟨rfl, hr⟩ .nil
  | _, _, .cons h t => .cons h (pr_snoc hr t)
theorem pr_put {k : κ} {r : Itm} {v : V} {xs : List (κ × Itm)} {ys : List (κ × V)} (h : PrI K F as κ xs ys) (hr : ItmR K F as r v) : PrI K F as κ (putI xs k r) (putK ys k v) := by
  unfold putI putK
  rw [pr_any h]
  split
  · exact pr_map hr h
  · exact pr_snoc hr h
theorem pr_drop {k : κ} : ∀ {xs : List (κ × Itm)} {ys : List (κ × V)}, PrI K F as κ xs ys → PrI K F as κ (dropI xs k) (dropK ys k)
  | _, _, .nil => .nil
  | (p1, p2) :: xs, (q1, q2) :: ys, .cons h t => by
    have e : p1 = q1 := h.1
    subst e
    have ih := pr_drop (k := k) t
    unfold dropI dropK at ih ⊢
    by_cases hk : p1 = k
    · simpa [List.filter_cons, hk] using ih
    · simp only [List.filter_cons, ne_eq, hk, not_false_eq_true, decide_true, if_true]
      exact .cons h ih
theorem pr_length {xs : List (κ × Itm)} {ys : List (κ × V)} (h : PrI K F as κ xs ys) : xs.length = ys.length := Paired.length h
end
section
variable {X : Cx} {Γ : Slots} {γ γ1 γ2 γ3 : Cells} {e a b o i c : Expr} {r ra rb : Itm} {pos p p' : Pos} {R : SE} {rest : List Stmt} {kvs : List (Key × Itm)} {k : Key} {d : PyData} {cc : Nat}
theorem Cok.hu1 (hX : Cok X) : X.A.units + 1 < cLine := by have := hX.hu; omega
/-- the dict at cell cc: what it has at a key -/
theorem dget_of {K F as H v y} (R : Rep K F as γ H) (hc : γ[cc]? = some (.dic kvs)) (iv : ItmR K F as (.cl cc) v) (iy : ItmR K F as (.fz d) y) (hk : keyD d = some k) : ∃ l ks, v = .ref l ∧ H l = some (.dK ks) ∧ DGet H l y (valV ks k) ∧ PrI K F as Key kvs ks := by
  obtain ⟨l, hl, rfl⟩ := itm_cl.mp iv
  obtain ⟨l', h1, ks, h2, h3⟩ := R.cellAt hc
  rw [hl] at h1
  cases h1
  rw [keyD_v hk (itm_fz.mp iy)]
  exact ⟨l, ks, rfl, h2, DGet.k h2, h3⟩
theorem ev_dget (hX : Cok X) (ho : EV X Γ γ o (.cl cc) γ1) (hi : EV X Γ γ1 i (.fz d) γ2) (hc : γ2[cc]? = some (.dic kvs)) (hk : keyD d = some k) (hv : valI kvs k = some r) (hs : NoSl i := by exact fun _ _ => rfl) : EV X Γ γ (.Subscript o i pos) r γ2 := .mk fun F as σ H R E Q q => by
  refine ⟨_, pe_dget hX.hu1 pe_wp pe_wp hs, ho.go R E fun v F1 as1 H1 x1 R1 i1 => hi.go R1 (E.mono x1) fun u F2 as2 H2 x2 R2 i2 => ?_⟩
  obtain ⟨l, ks, rfl, h1, h2, h3⟩ := dget_of R2 hc (itm_mono x2 i1) i2 hk
  obtain ⟨w, hw, hi⟩ := (pr_val h3).1 r hv
  rw [hw] at h2
  exact ⟨l, w, rfl, h2, q w F2 as2 H2 (x1.trans x2) R2 hi⟩
theorem isSome_of {K F as ks} (h3 : PrI K F as Key kvs ks) : (valV ks k).isSome = (valI kvs k).isSome := by
  cases hv : valI kvs k with
  | none => rw [(pr_val h3).2 hv]; rfl
  | some r => obtain ⟨w, hw, _⟩ := (pr_val h3).1 r hv; rw [hw]; rfl
theorem tv_din (hX : Cok X) (hi : EV X Γ γ i (.fz d) γ1) (ho : EV X Γ γ1 o (.cl cc) γ2) (hc : γ2[cc]? = some (.dic kvs)) (hk : keyD d = some k) (h1 : behindInMarks .In o = false := by rfl) : TV X Γ γ (.Compare i [.In] [o] pos) (valI kvs k).isSome γ2 := fun F as σ H R E Q q => by
  refine ⟨_, pt_cmp (pc_din hX.hu1 pe_wp pe_wp) h1, hi.go R E fun v F1 as1 H1 x1 R1 i1 => ho.go R1 (E.mono x1) fun u F2 as2 H2 x2 R2 i2 => ?_⟩
  obtain ⟨l, ks, rfl, h1, h2, h3⟩ := dget_of R2 hc i2 (itm_mono x2 i1) hk
  exact ⟨l, _, rfl, h2, _, rfl, by rw [isSome_of h3]; exact q F2 as2 H2 (x1.trans x2) R2⟩
theorem tv_dnotin (hX : Cok X) (hi : EV X Γ γ i (.fz d) γ1) (ho : EV X Γ γ1 o (.cl cc) γ2) (hc : γ2[cc]? = some (.dic kvs)) (hk : keyD d = some k) (h1 : behindInMarks .NotIn o = false := by rfl) : TV X Γ γ (.Compare i [.NotIn] [o] pos) (!(valI kvs k).isSome) γ2 := fun F as σ H R E Q q => by
  refine ⟨_, pt_cmp (pc_dnotin hX.hu1 pe_wp pe_wp) h1, hi.go R E fun v F1 as1 H1 x1 R1 i1 => ho.go R1 (E.mono x1) fun u F2 as2 H2 x2 R2 i2 => ?_⟩
  obtain ⟨l, ks, rfl, h1, h2, h3⟩ := dget_of R2 hc i2 (itm_mono x2 i1) hk
  exact ⟨l, _, rfl, h2, _, rfl, by rw [isSome_of h3]; exact q F2 as2 H2 (x1.trans x2) R2⟩
theorem ev_din (hX : Cok X) (hi : EV X Γ γ i (.fz d) γ1) (ho : EV X Γ γ1 o (.cl cc) γ2) (hc : γ2[cc]? = some (.dic kvs)) (hk : keyD d = some k) (h1 : behindInMarks .In o = false := by rfl) : EV X Γ γ (.Compare i [.In] [o] pos) (.fz (.bool (valI kvs k).isSome)) γ2 := .mk fun F as σ H R E Q q => by
  refine ⟨_, pe_cmp (pc_din hX.hu1 pe_wp pe_wp) h1, hi.go R E fun v F1 as1 H1 x1 R1 i1 => ho.go R1 (E.mono x1) fun u F2 as2 H2 x2 R2 i2 => ?_⟩
  obtain ⟨l, ks, rfl, h1, h2, h3⟩ := dget_of R2 hc i2 (itm_mono x2 i1) hk
  exact ⟨l, _, rfl, h2, by rw [isSome_of h3]; exact q _ F2 as2 H2 (x1.trans x2) R2 (itm_bl.mpr rfl)⟩
theorem svs_dput (hX : Cok X) (he : EV X Γ γ e r γ1) (ho : EV X Γ γ1 o (.cl cc) γ2) (hi : EV X Γ γ2 i (.fz d) γ3) (hc : γ3[cc]? = some (.dic kvs)) (hk : keyD d = some k) (hl : kvs.length ≤ 1000000) (h : SVs X Γ (γ3.set cc (.dic (putI kvs k r))) rest R)
    (hs : swapsWith e (some (.Subscript o i p')) pos.line X.env = pure false := by rfl) : SVs X Γ γ (.Assign [.Subscript o i p'] e pos :: rest) R := svs_cons fun F as σ H D Rp E C => by
  refine ⟨_, ps_dput hX.hu1 pe_wp pe_wp pe_wp hs, he.go Rp E fun v F1 as1 H1 x1 R1 i1 => ho.go R1 (E.mono x1) fun u F2 as2 H2 x2 R2 i2 => hi.go R2 (E.mono (x1.trans x2)) fun w F3 as3 H3 x3 R3 i3 => ?_⟩
  obtain ⟨l, hl3, rfl⟩ := itm_cl.mp (itm_mono x3 i2)
  obtain ⟨l', h1, ks, h2, h3⟩ := R3.cellAt hc
  rw [hl3] at h1
  cases h1
  rw [keyD_v hk (itm_fz.mp i3)]
  refine ⟨l, _, rfl, DPut.k h2 (by rw [← pr_length h3, sizeLine_eq]; omega), ?_⟩
  exact C.nx _ _ _ _ _ _ h ((x1.trans x2).trans x3) (R3.write hc (by simp) hl3 ⟨_, upd_same, pr_put h3 (itm_mono (x2.trans x3) i1)⟩) (E.mono ((x1.trans x2).trans x3))
/-- a display's pairs -/
def trsOf (X : Cx) : List (Option Expr) → List Expr → List (TE × TE)
  | some k :: ks, v :: vs => (wpE X k, wpE X v) :: trsOf X ks vs
  | _, _ => []
theorem pps_of : ∀ (ks : List (Option Expr)) (vs : List Expr), ks.length = vs.length → ks.all (·.isSome) = true → PPs X pos ks vs (trsOf X ks vs)
  | [], [], _, _ => pps_nil
  | some k :: ks, v :: vs, h1, h2 => pps_cons pe_wp pe_wp (pps_of ks vs (by simpa using h1) (by simpa using h2))
  | [], _ :: _, h, _ => by simp at h
  | _ :: _, [], h, _ => by simp at h
  | none :: _, _ :: _, _, h => by simp at h
abbrev PrV (K : PySem.W.Frag) (F : Hp) (as : List Addr) : List (Key × Itm) → List (V × V) → Prop := Paired fun (p : Key × Itm) (q : V × V) => q.1 = kV p.1 ∧ ItmR K F as p.2 q.2
theorem prv_mono {K F as F' as'} (e : Ext F as F' as') : ∀ {xs ys}, PrV K F as xs ys → PrV K F' as' xs ys
  | _, _, .nil => .nil
  | _, _, .cons h t => .cons ⟨h.1, itm_mono e h.2⟩ (prv_mono e t)
def PV (X : Cx) (Γ : Slots) (γ : Cells) (ks : List (Option Expr)) (vs : List Expr) (prs : List (Key × Itm)) (γ' : Cells) : Prop :=
  ∀ F as σ H, Rep X.K F as γ H → EnvR X.K F as Γ σ → ∀ Q : List (V × V) → Hp → Prop, (∀ ps F' as' H', Ext F as F' as' → Rep X.K F' as' γ' H' → PrV X.K F' as' prs ps → Q ps H') → tPairs (trsOf X ks vs) σ H Q
theorem pv_nil : PV X Γ γ [] [] [] γ := fun F as σ H R E Q q => q [] F as H (Ext.refl F as) R .nil
theorem pv_cons {ke ve : Expr} {ks : List (Option Expr)} {vs : List Expr} {prs : List (Key × Itm)} (hk : EV X Γ γ ke (.fz d) γ1) (hd : keyD d = some k) (hv : EV X Γ γ1 ve r γ2) (hr : PV X Γ γ2 ks vs prs γ3) : PV X Γ γ (some ke :: ks) (ve :: vs) ((k, r) :: prs) γ3 := fun F as σ H R E Q q =>
  hk.go R E fun v F1 as1 H1 x1 R1 i1 => hv.go R1 (E.mono x1) fun u F2 as2 H2 x2 R2 i2 => hr F2 as2 σ H2 R2 (E.mono (x1.trans x2)) _ fun ps F3 as3 H3 x3 R3 i3 => q _ F3 as3 H3 ((x1.trans x2).trans x3) R3 (.cons ⟨keyD_v hd (itm_fz.mp i1), itm_mono x3 i2⟩ i3)
def mergeI (kvs more : List (Key × Itm)) : List (Key × Itm) := more.foldl (fun acc kv => putI acc kv.1 kv.2) kvs
theorem pr_merge {K F as} : ∀ {more : List (Key × Itm)} {rs : List (Key × V)} {kvs : List (Key × Itm)} {ks : List (Key × V)}, PrI K F as Key more rs → PrI K F as Key kvs ks → PrI K F as Key (mergeI kvs more) (mergeK ks rs)
  | _, _, _, _, .nil, h => h
  | (p1, p2) :: xs, (q1, q2) :: ys, kvs, ks, .cons h t, h' => by
    have e : p1 = q1 := h.1
    subst e
    show PrI K F as Key (mergeI (putI kvs p1 p2) xs) (mergeK (putK ks p1 q2) ys)
    exact pr_merge t (pr_put h' h.2)
theorem prv_kvs {K F as} : ∀ {prs : List (Key × Itm)} {ps : List (V × V)}, PrV K F as prs ps → ∃ ks : List (Key × V), ps = ks.map (fun kv => (kV kv.1, kv.2)) ∧ PrI K F as Key prs ks
  | _, _, .nil => ⟨[], rfl, .nil⟩
  | (p1, p2) :: _, (q1, q2) :: _, .cons h t => by
    obtain ⟨ks, rfl, h2⟩ := prv_kvs t
    have e : q1 = kV p1 := h.1
    subst e
    exact ⟨(p1, q2) :: ks, rfl, .cons ⟨rfl, h.2⟩ h2⟩
/-- {k: v, ..}: a cell -/
theorem ev_disp {ks : List (Option Expr)} {vs : List Expr} {prs : List (Key × Itm)} (h : PV X Γ (γ ++ [.dic []]) ks vs prs γ1) (hc : γ1[γ.length]? = some (.dic [])) (h0 : ks ≠ [] := by simp) (hl : ks.length = vs.length := by rfl) (hall : ks.all (·.isSome) = true := by rfl) (h15 : ks.length ≤ 15 := by decide) (hp15 : prs.length ≤ 15 := by first | decide | simp) :
    EV X Γ γ (.Dict ks vs pos) (.cl γ.length) (γ1.set γ.length (.dic (mergeI [] prs))) := .mk fun F as σ H R E Q q => by
  refine ⟨_, pe_disp (pps_of ks vs hl hall) hall hl h0 h15, fun p hp => ?_⟩
  have R1 := R.newCell (cell := .dic []) (o := .dK []) hp ⟨[], upd_same, .nil⟩
  have x1 : Ext F as F (as ++ [p]) := ⟨Same.refl F, [p], rfl⟩
  have hp1 : (as ++ [p])[γ.length]? = some p := by rw [← R.len, List.getElem?_append_right (Nat.le_refl _)]; simp
  refine h F (as ++ [p]) σ _ R1 (E.mono x1) _ fun ps F2 as2 H2 x2 R2 i2 => ?_
  have hp2 := x2.get hp1
  obtain ⟨l', h1, ks', h2, h3⟩ := R2.cellAt hc
  rw [hp2] at h1
  cases h1
  cases h3
  obtain ⟨kv, rfl, hkv⟩ := prv_kvs i2
  refine ⟨h2, kv, rfl, by rw [← pr_length hkv]; exact hp15, ?_⟩
  exact q _ F2 as2 _ (x1.trans x2) (R2.write hc (by simp) hp2 ⟨_, upd_same, pr_merge hkv .nil⟩) (itm_cl.mpr ⟨p, hp2, rfl⟩)
/-- {} -/
theorem ev_dnew : EV X Γ γ (.Dict [] [] pos) (.cl γ.length) (γ ++ [.dic []]) := .mk fun F as σ H R E Q q => by
  refine ⟨_, pe_dnewK, fun p hp => ?_⟩
  have R1 := R.newCell (cell := .dic []) (o := .dK []) hp ⟨[], upd_same, .nil⟩
  exact q _ F (as ++ [p]) _ ⟨Same.refl F, [p], rfl⟩ R1 (itm_cl.mpr ⟨p, by rw [← R.len, List.getElem?_append_right (Nat.le_refl _)]; simp, rfl⟩)
end
end PL

namespace PL
open PySem PySem.Spec PyProof.Rows L2
/-! ### data that may be compared -/
structure Shp (n : Nat) (d : PyData) : Prop where
  lay : d.canLay0 = true
  dep : d.depth ≤ n
theorem Shp.shaped {n : Nat} {d : PyData} (h : Shp n d) (hn : n ≤ 64 := by decide) : SeqAt.shaped d = true := by
  have := h.dep
  show (d.canLay0 && decide (d.depth ≤ 64)) = true
  rw [h.lay, decide_eq_true (by omega)]
  rfl
theorem shpAll {n : Nat} : ∀ {ds : List PyData}, (∀ d ∈ ds, Shp n d) → PyData.canLayAll0 ds = true ∧ PyData.depthAll ds ≤ n
  | [], _ => by simp [PyData.canLayAll0, PyData.depthAll]
  | d :: ds, h => by
    have h1 := h d (by simp)
    have h2 := shpAll (ds := ds) (fun x hx => h x (by simp [hx]))
    simp only [PyData.canLayAll0, PyData.depthAll]
    refine ⟨by rw [h1.lay, h2.1]; rfl, ?_⟩
    have := h1.dep
    omega
theorem shp_int (i : Int) : Shp 0 (.int i) := ⟨rfl, by simp [PyData.depth]⟩
theorem shp_bool (i : Bool) : Shp 0 (.bool i) := ⟨rfl, by simp [PyData.depth]⟩
theorem shp_none : Shp 0 .none := ⟨rfl, by simp [PyData.depth]⟩
theorem Shp.mono {n m : Nat} {d : PyData} (h : Shp n d) (hn : n ≤ m) : Shp m d := ⟨h.lay, Nat.le_trans h.dep hn⟩
theorem shp_list {n : Nat} {ds : List PyData} (h : ∀ d ∈ ds, Shp n d) : Shp (n + 1) (.list ds) := by
  have h1 := shpAll h
  exact ⟨by simp only [PyData.canLay0]; exact h1.1, by simp only [PyData.depth]; omega⟩
theorem shp_tuple {n : Nat} {ds : List PyData} (h : ∀ d ∈ ds, Shp n d) : Shp (n + 1) (.tuple ds) := by
  have h1 := shpAll h
  exact ⟨by simp only [PyData.canLay0]; exact h1.1, by simp only [PyData.depth]; omega⟩
theorem shp_ints (ns : List Int) : Shp 1 (.list (ns.map .int)) := shp_list (n := 0) fun d hd => by
  obtain ⟨i, _, rfl⟩ := List.mem_map.mp hd
  exact shp_int i
theorem eqvAll_map {α : Type} [DecidableEq α] {f : α → PyData} (h : ∀ a b, PyData.eqv (f a) (f b) = decide (a = b)) : ∀ xs ys : List α, PyData.eqvAll (xs.map f) (ys.map f) = decide (xs = ys)
  | [], [] => rfl
  | [], _ :: _ => rfl
  | _ :: _, [] => rfl
  | x :: xs, y :: ys => by
    simp only [List.map_cons, PyData.eqvAll, h, eqvAll_map h xs ys]
    by_cases h1 : x = y <;> by_cases h2 : xs = ys <;> simp [h1, h2]
theorem eqv_list {α : Type} [DecidableEq α] {f : α → PyData} (h : ∀ a b, PyData.eqv (f a) (f b) = decide (a = b)) (xs ys : List α) : PyData.eqv (.list (xs.map f)) (.list (ys.map f)) = decide (xs = ys) := by
  simp only [PyData.eqv]; exact eqvAll_map h xs ys
theorem eqv_int (a b : Int) : PyData.eqv (.int a) (.int b) = decide (a = b) := by simp [PyData.eqv, Bool.beq_eq_decide_eq]
theorem eqv_ints (xs ys : List Int) : PyData.eqv (.list (xs.map .int)) (.list (ys.map .int)) = decide (xs = ys) := eqv_list eqv_int xs ys
end PL

namespace PL
open PySem PySem.Spec PyProof.Rows L2
section
variable {X : Cx} {Γ Γ' : Slots} {γ γ1 : Cells} {tg it elt : Expr} {ifs : List Expr} {xs : List Itm} {stab : Cells → Prop} {scope : Scope} {own : List (Str × Nat)} {pos : Pos}
def picked (k : Nat → Bool) (f : Nat → PyData) (n : Nat) : List PyData := ((List.range n).filter k).map f
theorem picked_succ (k : Nat → Bool) (f : Nat → PyData) (n : Nat) : picked k f (n + 1) = if k n then picked k f n ++ [f n] else picked k f n := by
  unfold picked
  rw [List.range_succ, List.filter_append, List.map_append]
  by_cases h : k n = true
  · simp [h]
  · simp [h]
theorem picked_length (k : Nat → Bool) (f : Nat → PyData) (n : Nat) : (picked k f n).length ≤ n := by
  unfold picked
  rw [List.length_map]
  exact Nat.le_trans (List.length_filter_le _ _) (by simp)
theorem fz_inj {ds es : List PyData} (h : ds.map Itm.fz = es.map Itm.fz) : ds = es :=
  (List.map_inj_right (fun a b (h : Itm.fz a = Itm.fz b) => Itm.fz.inj h)).mp h
/-- a comprehension whose parts change nothing -/
theorem ev_lcP (k : Nat → Bool) (f : Nat → PyData) (hX : Cok X) (ok : BlkOk X.N X.env.scope scope own) (hi : ITV X Γ γ tg it xs stab γ1) (hst : ∀ acc, stab (γ1 ++ [.lst acc])) (hsz : xs.length ≤ 1000000)
    (hb : ∀ i x acc, xs[i]? = some x → ∃ Γ2 ws, (∀ j ∈ ws, j ∈ own.map (·.2)) ∧ ∀ X', Blk X scope X' →
      GV X' (γ1 ++ [.lst acc]) (wipeS Γ (own.map (·.2))) tg x Γ2 ws ∧ TVs X' Γ2 (γ1 ++ [.lst acc]) ifs (k i) (γ1 ++ [.lst acc]) ∧ (k i = true → EV X' Γ2 (γ1 ++ [.lst acc]) elt (.fz (f i)) (γ1 ++ [.lst acc])))
    (hs : ∀ x, foldedSetIterable it X.env x = pure x := by intro _; rfl) :
    EV X Γ γ (.ListComp elt [⟨tg, it, ifs, 0⟩] scope pos) (.fz (.list (picked k f xs.length))) γ1 := by
  refine EE.imp (ee_lcF hX ok hi (fun i acc g => g = γ1 ∧ acc = (picked k f i).map Itm.fz) ⟨rfl, rfl⟩ (fun i acc g _ h => h.1 ▸ hst acc) (fun i acc g h => ⟨by rw [h.1], by rw [h.2, List.length_map]; exact picked_length ..⟩) hsz (fun acc g h => ⟨⟨_, h.2⟩, fun c => h.1 ▸ c⟩) ?_ hs) ?_
  · rintro i x acc g hx ⟨rfl, rfl⟩
    obtain ⟨Γ2, ws, h1, h2⟩ := hb i x ((picked k f i).map Itm.fz) hx
    refine ⟨Γ2, ws, k i, g, h1, rfl, fun X' hB => ?_⟩
    obtain ⟨h3, h4, h5⟩ := h2 X' hB
    refine ⟨h3, h4, fun hk => ⟨rfl, by rw [picked_succ, hk]; rfl⟩, fun hk => EE.of (h5 hk) ⟨g, rfl, rfl, by rw [picked_succ, if_pos hk]; simp⟩⟩
  · rintro r g ⟨ds, rfl, rfl, h⟩
    exact ⟨by rw [fz_inj h], rfl⟩
theorem svs_setLcP {i : Nat} {y : Str} {py spos : Pos} {rest : List Stmt} {R : SE} (k : Nat → Bool) (f : Nat → PyData) (hX : Cok X) (n : Nm X y i .local) (hl : (py.line == pos.line) = true) (hany : (scope.names.any fun (n, k) => n == y && (k == .local || k == .cell)) = false) (ok : BlkOk X.N X.env.scope scope own) (hi : ITV X Γ γ tg it xs stab γ1) (hst : ∀ acc, stab (γ1 ++ [.lst acc])) (hsz : xs.length ≤ 1000000)
    (hb : ∀ i x acc, xs[i]? = some x → ∃ Γ2 ws, (∀ j ∈ ws, j ∈ own.map (·.2)) ∧ ∀ X', Blk X scope X' →
      GV X' (γ1 ++ [.lst acc]) (wipeS Γ (own.map (·.2))) tg x Γ2 ws ∧ TVs X' Γ2 (γ1 ++ [.lst acc]) ifs (k i) (γ1 ++ [.lst acc]) ∧ (k i = true → EV X' Γ2 (γ1 ++ [.lst acc]) elt (.fz (f i)) (γ1 ++ [.lst acc])))
    (h : SVs X (Γ.set i (some (.fz (.list (picked k f xs.length))))) γ1 rest R)
    (hs : ∀ x, foldedSetIterable it X.env x = pure x := by intro _; rfl) :
    SVs X Γ γ (.Assign [.Name y py] (.ListComp elt [⟨tg, it, ifs, 0⟩] scope pos) spos :: rest) R := by
  refine svs_setLcF hX n hl hany ok hi (fun i acc g => g = γ1 ∧ acc = (picked k f i).map Itm.fz) ⟨rfl, rfl⟩ (fun i acc g _ h => h.1 ▸ hst acc) (fun i acc g h => ⟨by rw [h.1], by rw [h.2, List.length_map]; exact picked_length ..⟩) hsz (fun acc g h => ⟨⟨_, h.2⟩, fun c => h.1 ▸ c⟩) ?_ ?_ hs
  · rintro i x acc g hx ⟨rfl, rfl⟩
    obtain ⟨Γ2, ws, h1, h2⟩ := hb i x ((picked k f i).map Itm.fz) hx
    refine ⟨Γ2, ws, k i, g, h1, rfl, fun X' hB => ?_⟩
    obtain ⟨h3, h4, h5⟩ := h2 X' hB
    refine ⟨h3, h4, fun hk => ⟨rfl, by rw [picked_succ, hk]; rfl⟩, fun hk => EE.of (h5 hk) ⟨g, rfl, rfl, by rw [picked_succ, if_pos hk]; simp⟩⟩
  · rintro ds g ⟨rfl, hd⟩
    rw [fz_inj hd]
    exact h
theorem picked_all (f : Nat → PyData) (n : Nat) : picked (fun _ => true) f n = (List.range n).map f := by unfold picked; rw [List.filter_eq_self.mpr (by simp)]
/-- one name for the target -/
theorem ev_lcN {y : Str} {py : Pos} {w : Nat} (k : Nat → Bool) (f : Nat → PyData) (hX : Cok X) (ok : BlkOk X.N X.env.scope scope [(y, w)]) (hn : ∀ X', Blk X scope X' → Cok X' ∧ Nm X' y w .local) (hi : ITV X Γ γ (.Name y py) it xs stab γ1) (hst : ∀ acc, stab (γ1 ++ [.lst acc])) (hsz : xs.length ≤ 1000000)
    (hb : ∀ i x acc, xs[i]? = some x → ∀ X', Blk X scope X' → TVs X' (Γ.set w (some x)) (γ1 ++ [.lst acc]) ifs (k i) (γ1 ++ [.lst acc]) ∧ (k i = true → EV X' (Γ.set w (some x)) (γ1 ++ [.lst acc]) elt (.fz (f i)) (γ1 ++ [.lst acc])))
    (hs : ∀ x, foldedSetIterable it X.env x = pure x := by intro _; rfl) :
    EV X Γ γ (.ListComp elt [⟨.Name y py, it, ifs, 0⟩] scope pos) (.fz (.list (picked k f xs.length))) γ1 := by
  refine ev_lcP k f hX ok hi hst hsz (fun i x acc hx => ⟨Γ.set w (some x), [w], by simp, fun X' hB => ⟨?_, hb i x acc hx X' hB⟩⟩) hs
  have := gv_name (γ := γ1 ++ [.lst acc]) (Γ := wipeS Γ ([(y, w)].map (·.2))) (pos := py) (r := x) (hn X' hB).1 (hn X' hB).2
  have e : (wipeS Γ ([(y, w)].map (·.2))).set w (some x) = Γ.set w (some x) := by
    show (Γ.set w none).set w (some x) = _
    rw [List.set_set]
  rw [e] at this
  exact this
theorem svs_setLcN {i : Nat} {z : Str} {pz spos : Pos} {rest : List Stmt} {R : SE} {y : Str} {py : Pos} {w : Nat} (k : Nat → Bool) (f : Nat → PyData) (hX : Cok X) (n : Nm X z i .local) (hl : (pz.line == pos.line) = true) (hany : (scope.names.any fun (n, k) => n == z && (k == .local || k == .cell)) = false) (ok : BlkOk X.N X.env.scope scope [(y, w)]) (hn : ∀ X', Blk X scope X' → Cok X' ∧ Nm X' y w .local) (hi : ITV X Γ γ (.Name y py) it xs stab γ1) (hst : ∀ acc, stab (γ1 ++ [.lst acc])) (hsz : xs.length ≤ 1000000)
    (hb : ∀ i x acc, xs[i]? = some x → ∀ X', Blk X scope X' → TVs X' (Γ.set w (some x)) (γ1 ++ [.lst acc]) ifs (k i) (γ1 ++ [.lst acc]) ∧ (k i = true → EV X' (Γ.set w (some x)) (γ1 ++ [.lst acc]) elt (.fz (f i)) (γ1 ++ [.lst acc])))
    (h : SVs X (Γ.set i (some (.fz (.list (picked k f xs.length))))) γ1 rest R)
    (hs : ∀ x, foldedSetIterable it X.env x = pure x := by intro _; rfl) :
    SVs X Γ γ (.Assign [.Name z pz] (.ListComp elt [⟨.Name y py, it, ifs, 0⟩] scope pos) spos :: rest) R := by
  refine svs_setLcP k f hX n hl hany ok hi hst hsz (fun i x acc hx => ⟨Γ.set w (some x), [w], by simp, fun X' hB => ⟨?_, hb i x acc hx X' hB⟩⟩) h hs
  have := gv_name (γ := γ1 ++ [.lst acc]) (Γ := wipeS Γ ([(y, w)].map (·.2))) (pos := py) (r := x) (hn X' hB).1 (hn X' hB).2
  have e : (wipeS Γ ([(y, w)].map (·.2))).set w (some x) = Γ.set w (some x) := by
    show (Γ.set w none).set w (some x) = _
    rw [List.set_set]
  rw [e] at this
  exact this
/-- two names for the target, a pair of frozen data for the item -/
theorem ev_lc2 {y y' : Str} {py py' ptp : Pos} {w w' kk : Nat} {ds es : List PyData} (k : Nat → Bool) (f : Nat → PyData) (hX : Cok X) (hw : w ≠ w') (ok : BlkOk X.N X.env.scope scope [(y, w), (y', w')]) (hn : ∀ X', Blk X scope X' → Cok X' ∧ Nm X' y w .local ∧ Nm X' y' w' .local) (hi : ITV X Γ γ (.Tuple [.Name y py, .Name y' py'] kk ptp) it (zipD ds es) stab γ1) (hst : ∀ acc, stab (γ1 ++ [.lst acc])) (hsz : (zipD ds es).length ≤ 1000000)
    (hb : ∀ i d e acc, ds[i]? = some d → es[i]? = some e → ∀ X', Blk X scope X' → TVs X' ((Γ.set w (some (.fz d))).set w' (some (.fz e))) (γ1 ++ [.lst acc]) ifs (k i) (γ1 ++ [.lst acc]) ∧ (k i = true → EV X' ((Γ.set w (some (.fz d))).set w' (some (.fz e))) (γ1 ++ [.lst acc]) elt (.fz (f i)) (γ1 ++ [.lst acc])))
    (hs : ∀ x, foldedSetIterable it X.env x = pure x := by intro _; rfl) :
    EV X Γ γ (.ListComp elt [⟨.Tuple [.Name y py, .Name y' py'] kk ptp, it, ifs, 0⟩] scope pos) (.fz (.list (picked k f (zipD ds es).length))) γ1 := by
  refine ev_lcP k f hX ok hi hst hsz (fun i x acc hx => ?_) hs
  have hx2 : ∃ d e, ds[i]? = some d ∧ es[i]? = some e ∧ x = .fz (.tuple [d, e]) := by
    unfold zipD at hx
    rw [List.getElem?_map] at hx
    cases h : (ds.zip es)[i]? with
    | none => rw [h] at hx; cases hx
    | some q =>
      rw [h] at hx
      obtain ⟨q1, q2⟩ := q
      rw [List.getElem?_zip_eq_some] at h
      exact ⟨q1, q2, h.1, h.2, (Option.some.inj hx).symm⟩
  obtain ⟨d, e, h1, h2, rfl⟩ := hx2
  refine ⟨(Γ.set w (some (.fz d))).set w' (some (.fz e)), [w, w'], by simp, fun X' hB => ⟨?_, hb i d e acc h1 h2 X' hB⟩⟩
  obtain ⟨hX', n1, n2⟩ := hn X' hB
  have G := gv_tup (kk := kk) (n := 2) (pos := ptp) (γ := γ1 ++ [.lst acc]) (Γ := wipeS Γ ([(y, w), (y', w')].map (·.2))) (ds := [d, e]) hX' (gvs_cons (gv_name (pos := py) hX' n1) (gvs_cons (gv_name (pos := py') hX' n2) gvs_nil)) rfl
  have e2 : ((wipeS Γ ([(y, w), (y', w')].map (·.2))).set w (some (.fz d))).set w' (some (.fz e)) = (Γ.set w (some (.fz d))).set w' (some (.fz e)) := by
    show ((((Γ.set w' none).set w none).set w (some (.fz d))).set w' (some (.fz e))) = _
    rw [List.set_set, List.set_comm _ _ hw, List.set_set, List.set_comm _ _ hw.symm]
  rw [e2] at G
  exact G
end
end PL

namespace PL
open PySem PySem.Spec PyProof.Rows L2
section
variable {X : Cx} {Γ Γ' : Slots} {γ γ1 : Cells} {tg it a b : Expr} {body rest : List Stmt} {pos : Pos} {R : SE} {P : EPost}
/-- an iterable, by what follows -/
def ITE (X : Cx) (Γ : Slots) (γ : Cells) (tg it : Expr) (P : List Itm → (Cells → Prop) → Cells → Prop) : Prop :=
  ∀ F as σ H, Rep X.K F as γ H → EnvR X.K F as Γ σ → ∀ Q : It → Hp → Prop, (∀ xs stab γ1 J F' as' H', P xs stab γ1 → Ext F as F' as' → Rep X.K F' as' γ1 H' → JOk X.K F' as' xs stab J → Q J H') → wpI X tg it σ H Q
structure ForK (X : Cx) (tg : Expr) (body rest : List Stmt) (R : SE) (Γ : Slots) (xs : List Itm) (stab : Cells → Prop) (γ1 : Cells) (Inv : Nat → Slots → Cells → Prop) : Prop where
  h0 : Inv 0 Γ γ1
  hst : ∀ i Γ' γ', i ≤ xs.length → Inv i Γ' γ' → stab γ'
  hb : ∀ i x Γ' γ', xs[i]? = some x → Inv i Γ' γ' → ∃ Γ2 ws, GV X γ' Γ' tg x Γ2 ws ∧ SVs X Γ2 γ' body { nx := Inv (i + 1), ct := Inv (i + 1), bk := fun a b => SVs X a b rest R, rt := R.rt }
  hd : ∀ Γ' γ', Inv xs.length Γ' γ' → SVs X Γ' γ' rest R
theorem svs_forE (hX : Cok X) (hp : PassesOwn (model X.prog X.w) X.A X.env X.xe) (hi : ITE X Γ γ tg it fun xs stab γ1 => ∃ Inv, ForK X tg body rest R Γ xs stab γ1 Inv)
    (hs : ∀ x, foldedSetIterable it X.env x = pure x := by intro _; rfl) : SVs X Γ γ (.For tg it body [] pos :: rest) R := by
  refine svs_cons fun F as σ H D Rp E C => ⟨_, ps_for hp hX.calm pi_wp pg_wp pss_wp hs, hi F as σ H Rp E _ fun xs stab γ1 J F1 as1 H1 hPx x1 R1 hJ => ?_⟩
  obtain ⟨Inv, h0, hst, hb, hd⟩ := hPx
  refine ⟨fun i m σ' H' => m = xs.length - i ∧ i ≤ xs.length ∧ ∃ Γ' γ' F' as', Ext F1 as1 F' as' ∧ Rep X.K F' as' γ' H' ∧ EnvR X.K F' as' Γ' σ' ∧ Inv i Γ' γ', ⟨xs.length, by simp, Nat.zero_le _, Γ, γ1, F1, as1, Ext.refl _ _, R1, E.mono x1, h0⟩, ?_⟩
  rintro i m σ' H' ⟨rfl, hle, Γ', γ', F', as', x', R', E', inv⟩
  obtain ⟨j1, j2⟩ := hJ i F' as' γ' H' x' R' (hst i Γ' γ' hle inv)
  by_cases hlt : i < xs.length
  · obtain ⟨g1, g2⟩ := j2 xs[i] (List.getElem?_eq_getElem hlt)
    refine .inr ⟨g1, fun σ' H' => ∃ Γ' γ' F' as', Ext F1 as1 F' as' ∧ Rep X.K F' as' γ' H' ∧ EnvR X.K F' as' Γ' σ' ∧ Inv (i + 1) Γ' γ', fun σ' H' q => ⟨xs.length - (i + 1), by omega, rfl, hlt, q⟩, fun v H'' y => ?_⟩
    obtain ⟨F'', x'', R'', i''⟩ := g2 v H'' y
    obtain ⟨Γ2, ws, hG, hB⟩ := hb i xs[i] Γ' γ' (List.getElem?_eq_getElem hlt) inv
    refine hG F'' as' σ' H'' v R'' (E'.mono x'') i'' _ fun σ2 E2 _ => ?_
    have xx := (x1.trans x').trans x''
    refine hB F'' as' σ2 H'' _ R'' E2 ⟨fun Γ3 γ3 F3 as3 σ3 H3 n x3 R3 E3 => ⟨Γ3, γ3, F3, as3, (x'.trans x'').trans x3, R3, E3, n⟩, fun a b c d e f g x3 => (C.mono xx).rt a b c d e f g x3,
      fun Γ3 γ3 F3 as3 σ3 H3 n x3 R3 E3 => (C.mono xx).nx Γ3 γ3 F3 as3 σ3 H3 n x3 R3 E3, fun Γ3 γ3 F3 as3 σ3 H3 n x3 R3 E3 => ⟨Γ3, γ3, F3, as3, (x'.trans x'').trans x3, R3, E3, n⟩⟩
  · have e : i = xs.length := by omega
    subst e
    exact .inl ⟨j1 (Nat.le_refl _), C.nx Γ' γ' F' as' σ' H' (hd Γ' γ' inv) (x1.trans x') R' E'⟩
theorem ite_range1 {p : Pos} {Pi : List Itm → (Cells → Prop) → Cells → Prop} (bt : Bt X "range") (h : EE X Γ γ a fun r g => ∃ n : Int, r = .fz (.int n) ∧ n < 2 ^ 62 ∧ -(2 ^ 62) ≤ n ∧ Pi (rngL 0 n.toNat) (fun _ => True) g) (hs : starEach [a] X.env = [(false, eval a X.env)] := by rfl) : ITE X Γ γ tg (.Call (.Name "range" p) [a] [] pos) Pi := fun F as σ H R E Q q =>
  ⟨_, pi_range1 bt.gl bt.mg (pa_cons pe_wp pa_nil hs) hs, h F as σ H R E _ fun v r g F1 as1 H1 ⟨n, e, h1, h2, h3⟩ x1 R1 i1 => by
    subst e
    exact ⟨n, by rw [itm_int.mp i1], h2, h1, q _ _ _ _ F1 as1 H1 h3 x1 R1 jok_range⟩⟩
theorem ite_list {Pi : List Itm → (Cells → Prop) → Cells → Prop} (h : EE X Γ γ it fun r g => ∃ ds : List PyData, Rdb g r (.list ds) ∧ Pi (ds.map Itm.fz) (fun g => Rdb g r (.list ds)) g) : ITE X Γ γ tg it Pi := fun F as σ H R E Q q => by
  refine ⟨_, pi_list pe_wp, h F as σ H R E _ fun v r g F1 as1 H1 ⟨ds, hr, hPi⟩ x1 R1 i1 => ?_⟩
  obtain ⟨a, vs, rfl, h1, h2⟩ := hr.list R1 i1
  refine ⟨a, rfl, ⟨vs, h1⟩, q _ _ _ _ F1 as1 H1 hPi x1 R1 fun i F' as' γ' H' x' R' st => ?_⟩
  obtain ⟨a', vs', e, h1', h2'⟩ := st.list R' (itm_mono x' i1)
  cases e
  refine ⟨fun hl => ⟨vs', h1', by rw [dpAll_length h2']; simpa using hl⟩, fun x hx => ?_⟩
  rw [List.getElem?_map] at hx
  cases hd : ds[i]? with
  | none => rw [hd] at hx; cases hx
  | some d =>
    rw [hd] at hx
    cases hx
    obtain ⟨u, hu, hdp⟩ := dpAll_get h2' hd
    refine ⟨⟨vs', u, h1', hu⟩, fun v H'' y => ?_⟩
    obtain ⟨rfl, y⟩ := y
    cases hu.symm.trans (y vs' h1')
    exact ⟨F', Ext.refl _ _, R', .fz hdp⟩
theorem ee_catF (h : EE X Γ γ a fun ra g1 => EE X Γ g1 b fun rb g2 => ∃ ds es : List PyData, Rdb g2 ra (.list ds) ∧ Rdb g2 rb (.list es) ∧ ds.length + es.length ≤ 1000000 ∧ P (.fz (.list (ds ++ es))) g2) : EE X Γ γ (.BinOp a .Add b pos) P :=
  ee_op op_catS (EE.imp h fun ra g1 h1 => EE.imp h1 fun rb g2 ⟨ds, es, r1, r2, hz, hp⟩ => fun F as H x y R hx hy Q q => by
    obtain ⟨l, us, rfl, p1, p2⟩ := r1.list R hx
    obtain ⟨l', us', rfl, p1', p2'⟩ := r2.list R hy
    have e := dpAll_length p2
    have e' := dpAll_length p2'
    exact ⟨l, l', us, us', rfl, rfl, p1, p1', by rw [sizeLine_eq]; omega, fun p hq => q _ _ _ (upd F p (.lst (us ++ us'))) as _ hp ⟨R.sameNew _ hq, [], by simp⟩ (R.new _ hq) (itm_lst.mpr ⟨p, us ++ us', rfl, SqL.of upd_same, dpAll_mono (R.sameNew _ hq) (dpAll_append p2 p2')⟩)⟩)
/-- `xs[i] = e`, by what follows -/
theorem svs_setitemE {o e : Expr} {p : Pos} (he : EE X Γ γ e fun r g1 => ∃ cc i jj xs g2 g3, EV X Γ g1 o (.cl cc) g2 ∧ EV X Γ g2 b (.fz (.int i)) g3 ∧ g3[cc]? = some (.lst xs) ∧ ixN xs.length i = some jj ∧ SVs X Γ (g3.set cc (.lst (xs.set jj r))) rest R)
    (hs : swapsWithSole [.Subscript o b p] e pos.line X.env = pure false := by rfl) (hw : swappedStores [.Subscript o b p] e X.env = pure none := by rfl)
    (h1 : (assignEach [.Subscript o b p] X.env).map (·.2) = [assign (.Subscript o b p) X.env] := by rfl)
    (ha : ∀ v, assign (.Subscript o b p) X.env v = (do
      let ov ← holding [v] (eval o X.env)
      let iv ← holding [v, ov] (eval b X.env)
      standAt p
      holding [v, ov, iv] (setItem ov iv v)
      release [v, ov, iv] []) := by intro _; rfl) : SVs X Γ γ (.Assign [.Subscript o b p] e pos :: rest) R :=
  svs_cons fun F as σ H D Rp E C => ⟨_, ps_asg pe_wp (pg_sub pe_wp pe_wp set_list ha) hs hw h1, he F as σ H Rp E _ fun v r g1 F1 as1 H1 ⟨cc, i, jj, xs, g2, g3, ho, hi, hc, hj, h⟩ x1 R1 i1 => ho.go R1 (E.mono x1) fun u F2 as2 H2 x2 R2 i2 => hi.go R2 (E.mono (x1.trans x2)) fun w F3 as3 H3 x3 R3 i3 => by
    obtain ⟨l, hl, rfl⟩ := itm_cl.mp (itm_mono x3 i2)
    obtain ⟨l', k1, us, k2, k3⟩ := R3.cellAt hc
    rw [hl] at k1
    cases k1
    refine ⟨l, us, i, jj, rfl, itm_int.mp i3, k2, by rw [← itms_length k3]; exact hj, ?_⟩
    exact C.nx _ _ _ _ _ _ h ((x1.trans x2).trans x3) (R3.write hc (by simp) hl ⟨_, upd_same, itms_set jj k3 (itm_mono (x2.trans x3) i1)⟩) (E.mono ((x1.trans x2).trans x3))⟩
/-- a comprehension with one name, by what follows: frozen -/
theorem ee_lcFN {elt : Expr} {xs : List Itm} {stab : Cells → Prop} {scope : Scope} {y : Str} {py : Pos} {w : Nat} (hX : Cok X) (ok : BlkOk X.N X.env.scope scope [(y, w)]) (hn : ∀ X', Blk X scope X' → Cok X' ∧ Nm X' y w .local) (hi : ITV X Γ γ (.Name y py) it xs stab γ1) (Pv : Nat → List Itm → Cells → Prop) (h0 : Pv 0 [] γ1) (hst : ∀ i acc g, i ≤ xs.length → Pv i acc g → stab (g ++ [.lst acc])) (hlen : ∀ i acc g, Pv i acc g → g.length = γ1.length ∧ acc.length ≤ i)
    (hsz : xs.length ≤ 1000000) (hfz : ∀ acc g, Pv xs.length acc g → (∃ ds : List PyData, acc = ds.map Itm.fz) ∧ (Clo γ1 → Clo g))
    (hb : ∀ i x acc g, xs[i]? = some x → Pv i acc g → ∀ X', Blk X scope X' → EE X' (Γ.set w (some x)) (g ++ [.lst acc]) elt fun r g3 => ∃ g', g3 = g' ++ [.lst acc] ∧ Pv (i + 1) (acc ++ [r]) g')
    (hs : ∀ x, foldedSetIterable it X.env x = pure x := by intro _; rfl) :
    EE X Γ γ (.ListComp elt [⟨.Name y py, it, [], 0⟩] scope pos) fun r g => ∃ ds : List PyData, r = .fz (.list ds) ∧ Pv xs.length (ds.map Itm.fz) g :=
  ee_lcF hX ok hi Pv h0 hst hlen hsz hfz (fun i x acc g hx hp => ⟨Γ.set w (some x), [w], true, g, by simp, (hlen _ _ _ hp).1, fun X' hB => ⟨by
    have := gv_name (γ := g ++ [.lst acc]) (Γ := wipeS Γ ([(y, w)].map (·.2))) (pos := py) (r := x) (hn X' hB).1 (hn X' hB).2
    have e : (wipeS Γ ([(y, w)].map (·.2))).set w (some x) = Γ.set w (some x) := by
      show (Γ.set w none).set w (some x) = _
      rw [List.set_set]
    rw [e] at this
    exact this, tvs_nil, (fun h => nomatch h), fun _ => hb i x acc g hx hp X' hB⟩⟩) hs
theorem svs_setLcFN {i : Nat} {z : Str} {pz spos : Pos} {elt : Expr} {xs : List Itm} {stab : Cells → Prop} {scope : Scope} {y : Str} {py : Pos} {w : Nat} (hX : Cok X) (n : Nm X z i .local) (hl : (pz.line == pos.line) = true) (hany : (scope.names.any fun (n, k) => n == z && (k == .local || k == .cell)) = false) (ok : BlkOk X.N X.env.scope scope [(y, w)]) (hn : ∀ X', Blk X scope X' → Cok X' ∧ Nm X' y w .local) (hi : ITV X Γ γ (.Name y py) it xs stab γ1) (Pv : Nat → List Itm → Cells → Prop) (h0 : Pv 0 [] γ1) (hst : ∀ i acc g, i ≤ xs.length → Pv i acc g → stab (g ++ [.lst acc])) (hlen : ∀ i acc g, Pv i acc g → g.length = γ1.length ∧ acc.length ≤ i)
    (hsz : xs.length ≤ 1000000) (hfz : ∀ acc g, Pv xs.length acc g → (∃ ds : List PyData, acc = ds.map Itm.fz) ∧ (Clo γ1 → Clo g))
    (hb : ∀ i x acc g, xs[i]? = some x → Pv i acc g → ∀ X', Blk X scope X' → EE X' (Γ.set w (some x)) (g ++ [.lst acc]) elt fun r g3 => ∃ g', g3 = g' ++ [.lst acc] ∧ Pv (i + 1) (acc ++ [r]) g')
    (h : ∀ (ds : List PyData) g, Pv xs.length (ds.map Itm.fz) g → SVs X (Γ.set i (some (.fz (.list ds)))) g rest R)
    (hs : ∀ x, foldedSetIterable it X.env x = pure x := by intro _; rfl) :
    SVs X Γ γ (.Assign [.Name z pz] (.ListComp elt [⟨.Name y py, it, [], 0⟩] scope pos) spos :: rest) R :=
  svs_setLcF hX n hl hany ok hi Pv h0 hst hlen hsz hfz (fun i x acc g hx hp => ⟨Γ.set w (some x), [w], true, g, by simp, (hlen _ _ _ hp).1, fun X' hB => ⟨by
    have := gv_name (γ := g ++ [.lst acc]) (Γ := wipeS Γ ([(y, w)].map (·.2))) (pos := py) (r := x) (hn X' hB).1 (hn X' hB).2
    have e : (wipeS Γ ([(y, w)].map (·.2))).set w (some x) = Γ.set w (some x) := by
      show (Γ.set w none).set w (some x) = _
      rw [List.set_set]
    rw [e] at this
    exact this, tvs_nil, (fun h => nomatch h), fun _ => hb i x acc g hx hp X' hB⟩⟩) h hs
end
theorem Blk.calC {X X' : Cx} {P : Program} {w : World} {K : PySem.W.Frag} {mg : Str → Option Value} {base : Heap} {N : List Str} {sc scope : Scope} {k j : Nat} {x : Str} {S : PSpec} (b : Blk X scope X') (c : Ctx X P w K mg base N sc k) (F : FnD P w K mg base x j S) (hj : j ≤ k) (h : scope.names.lookup x = some .globalImplicit) (d1 : (x == ("__debug__" : Str)) = false) : Cal X' x S := by
  obtain ⟨s, H, C, cl, fp, rfl⟩ := b
  exact ⟨⟨j, by show FnD X.prog X.w X.K X.mg X.base _ _ _; rw [c.prog, c.w, c.K, c.mg, c.base]; exact F, c.room.mono hj⟩, relabel_keep (by decide) h, d1⟩
end PL

namespace PL
open PySem PySem.Spec PyProof.Rows L2

/-! ### texts -/
section
variable {X : Cx} {Γ Γ' : Slots} {γ γ1 γ2 γ3 : Cells} {a b o e tg it : Expr} {lo hi : Option Expr} {ol oh : Option Int} {pos p2 p : Pos} {r ra rb : Itm} {P : EPost}
theorem ev_addS {x y : Str} (ha : EV X Γ γ a (.fz (.str x)) γ1) (hb : EV X Γ γ1 b (.fz (.str y)) γ2) (hl : x.length + y.length ≤ 1000000) : EV X Γ γ (.BinOp a .Add b pos) (.fz (.str (x ++ y))) γ2 :=
  ev_op op_add_str ha hb fun F as H u v R hu hv Q q => ⟨x, y, itm_str.mp hu, itm_str.mp hv, by rw [sizeLine_eq]; omega, q _ F as H (Ext.refl F as) R (itm_str.mpr rfl)⟩
theorem ee_addS (h : EE X Γ γ a fun ra g1 => ∃ x, ra = .fz (.str x) ∧ EE X Γ g1 b fun rb g2 => ∃ y, rb = .fz (.str y) ∧ x.length + y.length ≤ 1000000 ∧ P (.fz (.str (x ++ y))) g2) : EE X Γ γ (.BinOp a .Add b pos) P :=
  ee_op op_add_str (EE.imp h fun ra g1 ⟨x, e1, h1⟩ => by
    subst e1
    exact EE.imp h1 fun rb g2 ⟨y, e2, hz, hp⟩ => by
      subst e2
      exact fun F as H u v R hu hv Q q => ⟨x, y, itm_str.mp hu, itm_str.mp hv, by rw [sizeLine_eq]; omega, q _ _ _ F as H hp (Ext.refl F as) R (itm_str.mpr rfl)⟩)
theorem ev_slS {z : Str} (ha : EV X Γ γ a (.fz (.str z)) γ1) (h1 : OV X Γ γ1 lo ol γ2) (h2 : OV X Γ γ2 hi oh γ3) (hz : z.length ≤ 1000000) : EV X Γ γ (.Subscript a (.Slice lo hi none p2) pos) (.fz (.str (cutS z ol oh))) γ3 := .mk fun F as σ H R E Q q => by
  refine ⟨_, pe_slice sl_str pe_wp po_wp po_wp, ha.go R E fun v F1 as1 H1 x1 R1 i1 => h1 F1 as1 σ H1 R1 (E.mono x1) _ fun F2 as2 H2 x2 R2 => h2 F2 as2 σ H2 R2 (E.mono (x1.trans x2)) _ fun F3 as3 H3 x3 R3 => ?_⟩
  exact ⟨z, itm_str.mp i1, by rw [sizeLine_eq]; omega, q _ F3 as3 H3 ((x1.trans x2).trans x3) R3 (itm_str.mpr rfl)⟩
theorem dpAll_strs_inv {K F} : ∀ {ys : List Str} {vs : List V}, DqAll K F vs (ys.map PyData.str) → vs = ys.map V.str
  | [], _, .nil => rfl
  | y :: ys, _, .cons h t => by
    cases h
    rw [dpAll_strs_inv t]; rfl
theorem Rdb.strs {K F H as γ v} {ys : List Str} (r : Rdb γ ra (.list (ys.map .str))) (R : Rep K F as γ H) (h : ItmR K F as ra v) : ∃ l, v = .ref l ∧ SqL K H l (ys.map V.str) := by
  obtain ⟨l, vs, e, h1, h2⟩ := r.list R h
  rw [dpAll_strs_inv h2] at h1
  exact ⟨l, e, h1⟩
theorem ev_join {s : Str} {ys : List Str} {apos : Pos} (ho : EV X Γ γ o (.fz (.str s)) γ1) (he : EV X Γ γ1 e r γ2) (hr : Rdb γ2 r (.list (ys.map .str))) (hz : (ys.map (·.length)).sum + ys.length * s.length ≤ 1000000)
    (hs : starEach [e] X.env = [(false, eval e X.env)] := by rfl) (hbase : attributeBase o "join" X.env (eval o X.env) = eval o X.env := by rfl) (hline : (apos.endLine == pos.line) = true := by rfl) :
    EV X Γ γ (.Call (.Attribute o "join" apos) [e] [] pos) (.fz (.str (Txt.join s ys))) γ2 := .mk fun F as σ H R E Q q => by
  refine ⟨_, pe_join pe_wp pe_wp hs hbase hline, ho.go R E fun v F1 as1 H1 x1 R1 i1 => ?_⟩
  refine ⟨⟨s, itm_str.mp i1⟩, he.go R1 (E.mono x1) fun u F2 as2 H2 x2 R2 i2 => ?_⟩
  obtain ⟨l, rfl, hl⟩ := hr.strs R2 i2
  exact ⟨s, l, ys, itm_str.mp (itm_mono x2 i1), rfl, .inl hl, by omega, q _ F2 as2 H2 (x1.trans x2) R2 (itm_str.mpr rfl)⟩
def sgnL (z : Str) : List Itm := z.cps.toList.map fun c => Itm.fz (.str ⟨#[c]⟩)
theorem itv_str {z : Str} (h : EV X Γ γ it (.fz (.str z)) γ1) : ITV X Γ γ tg it (sgnL z) (fun _ => True) γ1 := fun F as σ H R E Q q => by
  refine ⟨_, pi_str pe_wp, h.go R E fun v F1 as1 H1 x1 R1 i1 => ?_⟩
  refine ⟨z, itm_str.mp i1, q _ F1 as1 H1 x1 R1 fun i F' as' γ' H' x' R' st => ?_⟩
  refine ⟨fun hl => by
    have h2 : z.cps.size ≤ i := by simpa [sgnL] using hl
    exact h2, fun x hx => ?_⟩
  unfold sgnL at hx
  rw [List.getElem?_map] at hx
  cases hc : z.cps.toList[i]? with
  | none => rw [hc] at hx; cases hx
  | some c =>
    rw [hc] at hx
    cases hx
    have hi : i < z.cps.size := by
      have := (List.getElem?_eq_some_iff.mp hc).1
      simpa using this
    refine ⟨hi, fun v H'' y => ?_⟩
    obtain ⟨rfl, c', hc', rfl⟩ := y
    have : c' = c := by
      rw [← Array.getElem?_toList, hc] at hc'
      exact (Option.some.inj hc').symm
    subst this
    exact ⟨F', Ext.refl _ _, R', itm_str.mpr rfl⟩
theorem cmp_inSign {c : Nat} {z : Str} : CmpR X .In γ (.fz (.str ⟨#[c]⟩)) (.fz (.str z)) (decide (c ∈ z.cps.toList)) := ⟨_, op_in_sign, fun F as H x y R hx hy Q q => ⟨c, z, itm_str.mp hx, itm_str.mp hy, q⟩⟩
theorem cmp_notInSign {c : Nat} {z : Str} : CmpR X .NotIn γ (.fz (.str ⟨#[c]⟩)) (.fz (.str z)) (!decide (c ∈ z.cps.toList)) := ⟨_, op_notIn_sign, fun F as H x y R hx hy Q q => ⟨c, z, itm_str.mp hx, itm_str.mp hy, q⟩⟩
theorem cmp_leS {i j : Str} : CmpR X .LtE γ (.fz (.str i)) (.fz (.str j)) (!decide (j.cps.toList < i.cps.toList)) := ⟨_, op_le_str, fun F as H x y R hx hy Q q => ⟨i, j, itm_str.mp hx, itm_str.mp hy, q⟩⟩
theorem cmp_ltS {i j : Str} : CmpR X .Lt γ (.fz (.str i)) (.fz (.str j)) (decide (i.cps.toList < j.cps.toList)) := ⟨_, op_lt_str, fun F as H x y R hx hy Q q => ⟨i, j, itm_str.mp hx, itm_str.mp hy, q⟩⟩
theorem shp_str {z : Str} (h : PyData.canLay0 (.str z) = true) : Shp 0 (.str z) := ⟨h, by simp [PyData.depth]⟩
theorem eqv_str (a b : Str) : PyData.eqv (.str a) (.str b) = decide (a = b) := by simp [PyData.eqv, Bool.beq_eq_decide_eq]
theorem length_addS (x y : Str) : (x ++ y).length = x.length + y.length := by
  show (x.cps ++ y.cps).size = _
  rw [Array.size_append]; rfl
theorem length_cutS (z : Str) (lo hi : Option Int) : (cutS z lo hi).length ≤ z.length := by
  show (List.toArray _).size ≤ _
  rw [List.size_toArray, List.length_take, List.length_drop]
  show _ ≤ z.cps.size
  rw [Array.length_toList]
  omega
/-! ### sorted numbers -/
def srt (ns : List Int) : List Int := ns.mergeSort
theorem srt_perm (ns : List Int) : (srt ns).Perm ns := List.mergeSort_perm ..
theorem srt_le (ns : List Int) : (srt ns).Pairwise (· ≤ ·) := by
  have := List.pairwise_mergeSort (le := fun (a b : Int) => decide (a ≤ b)) (fun a b c h1 h2 => by simp at h1 h2 ⊢; omega) (fun a b => by simp; omega) ns
  exact this.imp fun h => by simpa using h
theorem srt_only {ns ms : List Int} (h : ms.Perm ns) (hp : ms.Pairwise (· ≤ ·)) : ms = srt ns :=
  List.Perm.eq_of_pairwise (fun a b _ _ h1 h2 => Int.le_antisymm h1 h2) hp (srt_le ns) (h.trans (srt_perm ns).symm)
theorem ev_sorted {ns : List Int} (bt : Bt X "sorted") (ha : EV X Γ γ a r γ1) (hr : Rdb γ1 r (.list (ns.map .int))) (hs : starEach [a] X.env = (false, eval a X.env) :: starEach [] X.env := by rfl) : EV X Γ γ (.Call (.Name "sorted" p) [a] [] pos) (.fz (.list ((srt ns).map .int))) γ1 :=
  ev_callB cr_sortedI bt (by decide +kernel) (av_cons ha av_nil hs) (fun F as H vs R i Q q => by
    obtain ⟨v, rfl, h⟩ := itms1 i
    obtain ⟨l, rfl, hl⟩ := hr.ints R h
    refine ⟨l, ns, rfl, hl, fun ns' p h1 h2 hp => ?_⟩
    rw [srt_only h1 h2]
    exact q _ (upd F p (.lst ((srt ns).map V.int))) as _ ⟨R.sameNew _ hp, [], by simp⟩ (R.new _ hp) (itm_lst.mpr ⟨p, _, rfl, SqL.of upd_same, dpAll_ints _⟩)) (he := hs)
end
end PL

namespace PL
open PySem PySem.Spec PyProof.Rows L2

/-! ### dicts in cells, keys tuples of ints and texts -/
def keysD : List PyData → Option (List Key)
  | [] => some []
  | d :: ds => match keyD d, keysD ds with
    | some k, some ks => some (k :: ks)
    | _, _ => none
def keyT : PyData → Option (List Key)
  | .tuple ds => keysD ds
  | _ => none
theorem keysD_v {K F} : ∀ {ds : List PyData} {vs : List V} {ks : List Key}, keysD ds = some ks → DqAll K F vs ds → vs = ks.map kV
  | [], _, _, h, .nil => by cases h; rfl
  | d :: ds, _, ks, h, .cons h1 h2 => by
    unfold keysD at h
    cases hk : keyD d with
    | none => rw [hk] at h; cases h
    | some k =>
      cases hks : keysD ds with
      | none => rw [hk, hks] at h; cases h
      | some ks' =>
        rw [hk, hks] at h
        cases h
        rw [keyD_v hk h1, keysD_v hks h2]
        rfl
section
variable {X : Cx} {Γ : Slots} {γ γ1 γ2 γ3 : Cells} {e a b o i c : Expr} {r ra rb : Itm} {pos p p' : Pos} {R : SE} {rest : List Stmt} {kvs : List (List Key × Itm)} {k : List Key} {d : PyData} {cc : Nat} {P : EPost}
theorem keyT_v {K F v as} (h : keyT d = some k) (r : ItmR K F as (.fz d) v) : ∃ t, v = .ref t ∧ F t = some (.tup (k.map kV)) := by
  cases d with
  | tuple ds =>
    obtain ⟨t, vs, rfl, h1, h2⟩ := itm_tup.mp r
    rw [keysD_v (show keysD ds = some k from h) h2] at h1
    exact ⟨t, rfl, h1⟩
  | _ => simp [keyT] at h
theorem tget_of {K F as H v y} (R : Rep K F as γ H) (hc : γ[cc]? = some (.dit kvs)) (iv : ItmR K F as (.cl cc) v) (iy : ItmR K F as (.fz d) y) (hk : keyT d = some k) : ∃ l ks, v = .ref l ∧ H l = some (.dT ks) ∧ DGet H l y (valV ks k) ∧ PrI K F as (List Key) kvs ks := by
  obtain ⟨l, hl, rfl⟩ := itm_cl.mp iv
  obtain ⟨l', h1, ks, h2, h3⟩ := R.cellAt hc
  rw [hl] at h1
  cases h1
  obtain ⟨t, rfl, ht⟩ := keyT_v hk iy
  exact ⟨l, ks, rfl, h2, DGet.t h2 (R.fr _ _ ht), h3⟩
theorem ev_tget (hX : Cok X) (ho : EV X Γ γ o (.cl cc) γ1) (hi : EV X Γ γ1 i (.fz d) γ2) (hc : γ2[cc]? = some (.dit kvs)) (hk : keyT d = some k) (hv : valI kvs k = some r) (hs : NoSl i := by exact fun _ _ => rfl) : EV X Γ γ (.Subscript o i pos) r γ2 := .mk fun F as σ H R E Q q => by
  refine ⟨_, pe_dget hX.hu1 pe_wp pe_wp hs, ho.go R E fun v F1 as1 H1 x1 R1 i1 => hi.go R1 (E.mono x1) fun u F2 as2 H2 x2 R2 i2 => ?_⟩
  obtain ⟨l, ks, rfl, h1, h2, h3⟩ := tget_of R2 hc (itm_mono x2 i1) i2 hk
  obtain ⟨w, hw, hi⟩ := (pr_val h3).1 r hv
  rw [hw] at h2
  exact ⟨l, w, rfl, h2, q w F2 as2 H2 (x1.trans x2) R2 hi⟩
theorem isSomeT {K F as ks} (h3 : PrI K F as (List Key) kvs ks) : (valV ks k).isSome = (valI kvs k).isSome := by
  cases hv : valI kvs k with
  | none => rw [(pr_val h3).2 hv]; rfl
  | some r => obtain ⟨w, hw, _⟩ := (pr_val h3).1 r hv; rw [hw]; rfl
theorem tv_tin (hX : Cok X) (hi : EV X Γ γ i (.fz d) γ1) (ho : EV X Γ γ1 o (.cl cc) γ2) (hc : γ2[cc]? = some (.dit kvs)) (hk : keyT d = some k) (h1 : behindInMarks .In o = false := by rfl) : TV X Γ γ (.Compare i [.In] [o] pos) (valI kvs k).isSome γ2 := fun F as σ H R E Q q => by
  refine ⟨_, pt_cmp (pc_din hX.hu1 pe_wp pe_wp) h1, hi.go R E fun v F1 as1 H1 x1 R1 i1 => ho.go R1 (E.mono x1) fun u F2 as2 H2 x2 R2 i2 => ?_⟩
  obtain ⟨l, ks, rfl, h1, h2, h3⟩ := tget_of R2 hc i2 (itm_mono x2 i1) hk
  exact ⟨l, _, rfl, h2, _, rfl, by rw [isSomeT h3]; exact q F2 as2 H2 (x1.trans x2) R2⟩
theorem tv_tnotin (hX : Cok X) (hi : EV X Γ γ i (.fz d) γ1) (ho : EV X Γ γ1 o (.cl cc) γ2) (hc : γ2[cc]? = some (.dit kvs)) (hk : keyT d = some k) (h1 : behindInMarks .NotIn o = false := by rfl) : TV X Γ γ (.Compare i [.NotIn] [o] pos) (!(valI kvs k).isSome) γ2 := fun F as σ H R E Q q => by
  refine ⟨_, pt_cmp (pc_dnotin hX.hu1 pe_wp pe_wp) h1, hi.go R E fun v F1 as1 H1 x1 R1 i1 => ho.go R1 (E.mono x1) fun u F2 as2 H2 x2 R2 i2 => ?_⟩
  obtain ⟨l, ks, rfl, h1, h2, h3⟩ := tget_of R2 hc i2 (itm_mono x2 i1) hk
  exact ⟨l, _, rfl, h2, _, rfl, by rw [isSomeT h3]; exact q F2 as2 H2 (x1.trans x2) R2⟩
/-- `o[i] = e`, by what follows: keys tuples -/
theorem svs_tputE (hX : Cok X) (he : EE X Γ γ e fun r g1 => EE X Γ g1 o fun ro g2 => EE X Γ g2 i fun ri g3 => ∃ cc d k kvs, ro = .cl cc ∧ ri = .fz d ∧ keyT d = some k ∧ g3[cc]? = some (.dit kvs) ∧ kvs.length ≤ 1000000 ∧ SVs X Γ (g3.set cc (.dit (putI kvs k r))) rest R)
    (hs : swapsWith e (some (.Subscript o i p')) pos.line X.env = pure false := by rfl) : SVs X Γ γ (.Assign [.Subscript o i p'] e pos :: rest) R := svs_cons fun F as σ H D Rp E C => by
  refine ⟨_, ps_dput hX.hu1 pe_wp pe_wp pe_wp hs, he F as σ H Rp E _ fun v r g1 F1 as1 H1 h1 x1 R1 i1 => h1 F1 as1 σ H1 R1 (E.mono x1) _ fun u ro g2 F2 as2 H2 h2 x2 R2 i2 => h2 F2 as2 σ H2 R2 (E.mono (x1.trans x2)) _ fun w ri g3 F3 as3 H3 h3 x3 R3 i3 => ?_⟩
  obtain ⟨cc, d, k, kvs, rfl, rfl, hk, hc, hl, h⟩ := h3
  obtain ⟨l, hl3, rfl⟩ := itm_cl.mp (itm_mono x3 i2)
  obtain ⟨l', e1, ks, e2, e3⟩ := R3.cellAt hc
  rw [hl3] at e1
  cases e1
  obtain ⟨t, rfl, ht⟩ := keyT_v hk i3
  refine ⟨l, _, rfl, DPut.t e2 (R3.fr _ _ ht) (by rw [← pr_length e3, sizeLine_eq]; omega), ?_⟩
  exact C.nx _ _ _ _ _ _ h ((x1.trans x2).trans x3) (R3.write hc (by simp) hl3 ⟨_, upd_same, pr_put e3 (itm_mono (x2.trans x3) i1)⟩) (E.mono ((x1.trans x2).trans x3))
/-- `o[i] = e`, by what follows: keys ints and texts -/
theorem svs_dputE (hX : Cok X) (he : EE X Γ γ e fun r g1 => EE X Γ g1 o fun ro g2 => EE X Γ g2 i fun ri g3 => ∃ (cc : Nat) (d : PyData) (k : Key) (kvs : List (Key × Itm)), ro = .cl cc ∧ ri = .fz d ∧ keyD d = some k ∧ g3[cc]? = some (.dic kvs) ∧ kvs.length ≤ 1000000 ∧ SVs X Γ (g3.set cc (.dic (putI kvs k r))) rest R)
    (hs : swapsWith e (some (.Subscript o i p')) pos.line X.env = pure false := by rfl) : SVs X Γ γ (.Assign [.Subscript o i p'] e pos :: rest) R := svs_cons fun F as σ H D Rp E C => by
  refine ⟨_, ps_dput hX.hu1 pe_wp pe_wp pe_wp hs, he F as σ H Rp E _ fun v r g1 F1 as1 H1 h1 x1 R1 i1 => h1 F1 as1 σ H1 R1 (E.mono x1) _ fun u ro g2 F2 as2 H2 h2 x2 R2 i2 => h2 F2 as2 σ H2 R2 (E.mono (x1.trans x2)) _ fun w ri g3 F3 as3 H3 h3 x3 R3 i3 => ?_⟩
  obtain ⟨cc, d, k, kvs, rfl, rfl, hk, hc, hl, h⟩ := h3
  obtain ⟨l, hl3, rfl⟩ := itm_cl.mp (itm_mono x3 i2)
  obtain ⟨l', e1, ks, e2, e3⟩ := R3.cellAt hc
  rw [hl3] at e1
  cases e1
  rw [keyD_v hk (itm_fz.mp i3)]
  refine ⟨l, _, rfl, DPut.k e2 (by rw [← pr_length e3, sizeLine_eq]; omega), ?_⟩
  exact C.nx _ _ _ _ _ _ h ((x1.trans x2).trans x3) (R3.write hc (by simp) hl3 ⟨_, upd_same, pr_put e3 (itm_mono (x2.trans x3) i1)⟩) (E.mono ((x1.trans x2).trans x3))
theorem ev_dnewT : EV X Γ γ (.Dict [] [] pos) (.cl γ.length) (γ ++ [.dit []]) := .mk fun F as σ H R E Q q => by
  refine ⟨_, pe_dnewT, fun p hp => ?_⟩
  have R1 := R.newCell (cell := .dit []) (o := .dT []) hp ⟨[], upd_same, .nil⟩
  exact q _ F (as ++ [p]) _ ⟨Same.refl F, [p], rfl⟩ R1 (itm_cl.mpr ⟨p, by rw [← R.len, List.getElem?_append_right (Nat.le_refl _)]; simp, rfl⟩)
/-- `o[i] += e`, `o[i] -= e`, ints: keys tuples; keys ints and texts -/
theorem svs_taug {op : Operator} {f : Int → Int → Int} {n m : Int} (hX : Cok X) (ho : EV X Γ γ o (.cl cc) γ1) (hi : EV X Γ γ1 i (.fz d) γ2) (hk : keyT d = some k) (hc : γ2[cc]? = some (.dit kvs)) (hv : valI kvs k = some (.fz (.int n))) (he : EV X Γ γ2 e (.fz (.int m)) γ2) (hl : kvs.length ≤ 1000000)
    (hop : InOp X op (rI0 fun i j => .int (f i j))) (h : SVs X Γ (γ2.set cc (.dit (putI kvs k (.fz (.int (f n m)))))) rest R)
    (ha : ∀ ov iv new, augStore i ov iv new = (do holding [new, ov, iv] (setItem ov iv new); release [new, ov, iv] []; pure .next) := by intros; rfl) : SVs X Γ γ (.AugAssign (.Subscript o i p') op e pos :: rest) R := svs_cons fun F as σ H D Rp E C => by
  refine ⟨_, ps_daug hX.hu1 pe_wp pe_wp pe_wp hop ha, ho.go Rp E fun v F1 as1 H1 x1 R1 i1 => hi.go R1 (E.mono x1) fun u F2 as2 H2 x2 R2 i2 => ?_⟩
  obtain ⟨l, ks, e1, h1, h2, h3⟩ := tget_of R2 hc (itm_mono x2 i1) i2 hk
  subst e1
  obtain ⟨w, hw, hiw⟩ := (pr_val h3).1 _ hv
  rw [hw] at h2
  refine ⟨l, w, rfl, h2, he.go R2 (E.mono (x1.trans x2)) fun z F3 as3 H3 x3 R3 i3 => ?_⟩
  refine ⟨n, m, by rw [itm_int.mp hiw], by rw [itm_int.mp i3], ?_⟩
  obtain ⟨l', hl3, e5⟩ := itm_cl.mp (itm_mono (x2.trans x3) i1)
  cases e5
  obtain ⟨l', e1, ks, e2, e3⟩ := R3.cellAt hc
  rw [hl3] at e1
  cases e1
  obtain ⟨t, rfl, ht⟩ := keyT_v hk (itm_mono x3 i2)
  refine ⟨_, DPut.t e2 (R3.fr _ _ ht) (by rw [← pr_length e3, sizeLine_eq]; omega), ?_⟩
  exact C.nx _ _ _ _ _ _ h ((x1.trans x2).trans x3) (R3.write hc (by simp) hl3 ⟨_, upd_same, pr_put e3 (itm_int.mpr rfl)⟩) (E.mono ((x1.trans x2).trans x3))
theorem svs_daug {op : Operator} {f : Int → Int → Int} {n m : Int} {k : Key} {kvs : List (Key × Itm)} (hX : Cok X) (ho : EV X Γ γ o (.cl cc) γ1) (hi : EV X Γ γ1 i (.fz d) γ2) (hk : keyD d = some k) (hc : γ2[cc]? = some (.dic kvs)) (hv : valI kvs k = some (.fz (.int n))) (he : EV X Γ γ2 e (.fz (.int m)) γ2) (hl : kvs.length ≤ 1000000)
    (hop : InOp X op (rI0 fun i j => .int (f i j))) (h : SVs X Γ (γ2.set cc (.dic (putI kvs k (.fz (.int (f n m)))))) rest R)
    (ha : ∀ ov iv new, augStore i ov iv new = (do holding [new, ov, iv] (setItem ov iv new); release [new, ov, iv] []; pure .next) := by intros; rfl) : SVs X Γ γ (.AugAssign (.Subscript o i p') op e pos :: rest) R := svs_cons fun F as σ H D Rp E C => by
  refine ⟨_, ps_daug hX.hu1 pe_wp pe_wp pe_wp hop ha, ho.go Rp E fun v F1 as1 H1 x1 R1 i1 => hi.go R1 (E.mono x1) fun u F2 as2 H2 x2 R2 i2 => ?_⟩
  obtain ⟨l, ks, e1, h1, h2, h3⟩ := dget_of R2 hc (itm_mono x2 i1) i2 hk
  subst e1
  obtain ⟨w, hw, hiw⟩ := (pr_val h3).1 _ hv
  rw [hw] at h2
  refine ⟨l, w, rfl, h2, he.go R2 (E.mono (x1.trans x2)) fun z F3 as3 H3 x3 R3 i3 => ?_⟩
  refine ⟨n, m, by rw [itm_int.mp hiw], by rw [itm_int.mp i3], ?_⟩
  obtain ⟨l', hl3, e5⟩ := itm_cl.mp (itm_mono (x2.trans x3) i1)
  cases e5
  obtain ⟨l', e1, ks, e2, e3⟩ := R3.cellAt hc
  rw [hl3] at e1
  cases e1
  rw [keyD_v hk (itm_fz.mp i2)]
  refine ⟨_, DPut.k e2 (by rw [← pr_length e3, sizeLine_eq]; omega), ?_⟩
  exact C.nx _ _ _ _ _ _ h ((x1.trans x2).trans x3) (R3.write hc (by simp) hl3 ⟨_, upd_same, pr_put e3 (itm_int.mpr rfl)⟩) (E.mono ((x1.trans x2).trans x3))
theorem in_add : InOp X .Add (rI0 fun i j => .int (i + j)) := fun pins s σ H x y u v Q I rx ry h => iop_add pins s σ H x y u v Q I rx ry h
theorem in_sub : InOp X .Sub (rI0 fun i j => .int (i - j)) := fun pins s σ H x y u v Q I rx ry h => iop_sub pins s σ H x y u v Q I rx ry h
end
end PL

namespace PL
open PySem PySem.Spec PyProof.Rows L2
section
variable {X : Cx} {Γ Γ' : Slots} {γ γ1 γ2 γ3 : Cells} {a b c o e tg it : Expr} {pos p p2 q : Pos} {r ra rb : Itm} {P : EPost} {i j : Int}
/-! ### ranges downwards -/
def rngD (hi : Int) (n : Nat) : List Itm := (List.range n).map fun (i : Nat) => Itm.fz (.int (hi - (i : Int)))
theorem rngD_length (hi : Int) (n : Nat) : (rngD hi n).length = n := by simp [rngD]
theorem rngD_get {hi : Int} {n i : Nat} {x : Itm} (h : (rngD hi n)[i]? = some x) : i < n ∧ x = .fz (.int (hi - i)) := by
  unfold rngD at h
  rw [List.getElem?_map] at h
  by_cases hl : i < n
  · rw [List.getElem?_range hl] at h
    exact ⟨hl, (Option.some.inj h).symm⟩
  · rw [List.getElem?_eq_none (by simpa using hl)] at h; cases h
theorem itv_rangeD (bt : Bt X "range") (h : EV X Γ γ a (.fz (.int i)) γ1) (h' : EV X Γ γ1 b (.fz (.int j)) γ2) (h'' : EV X Γ γ2 c (.fz (.int (-1))) γ3) (hn : -(2 ^ 62) ≤ i ∧ i < 2 ^ 62 ∧ -(2 ^ 62) ≤ j ∧ j < 2 ^ 62)
    (hs : starEach [a, b, c] X.env = (false, eval a X.env) :: starEach [b, c] X.env := by rfl) (hs2 : starEach [b, c] X.env = (false, eval b X.env) :: starEach [c] X.env := by rfl) (hs3 : starEach [c] X.env = (false, eval c X.env) :: starEach [] X.env := by rfl) (hpl : (backTo pos (starEach [b, c] X.env)).any (·.1) = false := by rfl) :
    ITV X Γ γ tg (.Call (.Name "range" p) [a, b, c] [] pos) (rngD i (i - j).toNat) (fun _ => True) γ3 := fun F as σ H R E Q q =>
  ⟨_, pi_range3 bt.gl bt.mg (pa_cons pe_wp (pa_cons pe_wp (pa_cons pe_wp pa_nil hs3) hs2) hs) hs hpl, h.go R E fun v F1 as1 H1 x1 R1 i1 => h'.go R1 (E.mono x1) fun u F2 as2 H2 x2 R2 i2 => h''.go R2 (E.mono (x1.trans x2)) fun w F3 as3 H3 x3 R3 i3 =>
    ⟨i, j, -1, (i - j).toNat, by rw [itm_int.mp i1, itm_int.mp i2, itm_int.mp i3], RgC.neg hn.1 hn.2.1 hn.2.2.1 hn.2.2.2, q _ F3 as3 H3 ((x1.trans x2).trans x3) R3 fun t F' as' γ' H' x' R' _ => by
      refine ⟨fun hl => by rw [rngD_length] at hl; exact hl, fun x hx => ?_⟩
      obtain ⟨hlt, rfl⟩ := rngD_get hx
      refine ⟨hlt, fun v H'' y => ?_⟩
      obtain ⟨rfl, rfl⟩ := y
      exact ⟨F', Ext.refl _ _, R', itm_int.mpr (by rw [show i + (t : Int) * -1 = i - (t : Int) by omega])⟩⟩⟩
/-! ### where a thing stands in a list -/
theorem ev_index {apos : Pos} {ds : List PyData} {d z : PyData} {t : Nat} (hX : Cok X) (ho : EV X Γ γ o ra γ1) (he : EV X Γ γ1 e rb γ2) (h1 : Rdb γ1 ra (.list ds)) (h2 : Rdb γ2 ra (.list ds)) (h3 : Rdb γ2 rb d) (s1 : SeqAt.shaped (.list ds) = true) (s2 : SeqAt.shaped d = true)
    (hz : ds[t]? = some z) (hzd : PyData.eqv z d = true) (hno : ∀ (m : Nat) (z' : PyData), m < t → ds[m]? = some z' → PyData.eqv z' d = false)
    (hbase : attributeBase o "index" X.env (eval o X.env) = eval o X.env := by rfl)
    (hfew : ((backTo pos (starEach [e] X.env)).all (fun x => !x.1) && (backToKw pos (keywordEach [] X.env)).all (fun x => x.1.isSome) && decide ([e].length + ([] : List Keyword).length + (if ([] : List Keyword).isEmpty then 0 else 1) < 30)) = true := by rfl)
    (hline : (apos.endLine == pos.line) = true := by rfl) (hs : starEach [e] X.env = (false, eval e X.env) :: starEach [] X.env := by rfl) :
    EV X Γ γ (.Call (.Attribute o "index" apos) [e] [] pos) (.fz (.int (t : Int))) γ2 := .mk fun F as σ H R E Q q => by
  refine ⟨_, pe_bm PySem.F.plainAttrs_list PySem.F.slot_list_index PySem.F.type_list_index (mt_indexD (by have := hX.hu; omega)) pe_wp (pa_cons pe_wp pa_nil hs) hbase hfew hline hs rfl, ?_⟩
  refine ho.go R E fun v F1 as1 H1 x1 R1 i1 => ?_
  obtain ⟨l, us, rfl, k1, k2⟩ := h1.list R1 i1
  refine ⟨.inl ⟨rfl, us, k1⟩, ?_⟩
  refine he.go R1 (E.mono x1) fun u F2 as2 H2 x2 R2 i2 => ?_
  exact ⟨l, u, d, ds, t, z, rfl, rfl, (h2.dp R2 (itm_mono x2 i1)).dp (shaped_lay s1), (h3.dp R2 i2).dp (shaped_lay s2), s1, s2, hz, hzd, hno, q _ F2 as2 H2 (x1.trans x2) R2 (itm_int.mpr rfl)⟩
/-! ### sorted(set(xs)), pairs of small numbers -/
def pD (x : Int × Int) : PyData := .tuple [.int x.1, .int x.2]
theorem dq_pairs {K F} : ∀ {ns : List (Int × Int)} {vs : List V}, DqAll K F vs (ns.map pD) → ∃ ks : List (Addr × List Int), vs = ks.map (fun y => V.ref y.1) ∧ ks.map (·.2) = ns.map (fun y => [y.1, y.2]) ∧ ∀ y ∈ ks, F y.1 = some (.tup (y.2.map V.int))
  | [], _, .nil => ⟨[], rfl, rfl, by simp⟩
  | n :: ns, _, .cons h t => by
    obtain ⟨ks, e1, e2, e3⟩ := dq_pairs t
    cases h with
    | @tup A vs _ hA hr =>
      have ev : vs = [V.int n.1, V.int n.2] := by
        cases hr with
        | cons h1 hr =>
          cases hr with
          | cons h2 hr =>
            cases hr
            cases h1
            cases h2
            rfl
      refine ⟨(A, [n.1, n.2]) :: ks, by rw [e1]; rfl, by rw [List.map_cons, e2]; rfl, fun y hy => ?_⟩
      rcases List.mem_cons.mp hy with rfl | hy
      · rw [hA, ev]; rfl
      · exact e3 y hy
theorem dq_of_pairs {K F} : ∀ {L : List (Addr × List Int)} {qs : List (Int × Int)}, L.map (·.2) = qs.map (fun y => [y.1, y.2]) → (∀ y ∈ L, F y.1 = some (.tup (y.2.map V.int))) → DqAll K F (L.map fun y => V.ref y.1) (qs.map pD)
  | [], [], _, _ => .nil
  | [], _ :: _, h, _ => by simp at h
  | _ :: _, [], h, _ => by simp at h
  | y :: L, z :: qs, h, hF => by
    rw [List.map_cons, List.map_cons, List.cons.injEq] at h
    refine .cons (.tup (hF y (by simp)) ?_) (dq_of_pairs h.2 fun w hw => hF w (by simp [hw]))
    rw [h.1]
    exact .cons (.int _) (.cons (.int _) .nil)
theorem split_pairs : ∀ (L : List (List Int)), (∀ y ∈ L, y.length = 2) → ∃ qs : List (Int × Int), L = qs.map (fun y => [y.1, y.2])
  | [], _ => ⟨[], rfl⟩
  | y :: L, h => by
    obtain ⟨qs, e⟩ := split_pairs L fun z hz => h z (by simp [hz])
    have h2 := h y (by simp)
    match y, h2 with
    | [u, v], _ => exact ⟨(u, v) :: qs, by rw [e]; rfl⟩
theorem ee_sortedSetP {ns : List (Int × Int)} (hX : Cok X) (bt : Bt X "sorted") (bt2 : Bt X "set") (ha : EV X Γ γ a r γ1) (hr : Rdb γ1 r (.list (ns.map pD))) (hl : ns.length < 64) (hb : ∀ y ∈ ns, (0 ≤ y.1 ∧ y.1 < 64) ∧ (0 ≤ y.2 ∧ y.2 < 64))
    (hs : starEach [.Call (.Name "set" p2) [a] [] q] X.env = (false, eval (.Call (.Name "set" p2) [a] [] q) X.env) :: starEach [] X.env := by rfl) (hs2 : starEach [a] X.env = (false, eval a X.env) :: starEach [] X.env := by rfl) :
    EE X Γ γ (.Call (.Name "sorted" p) [.Call (.Name "set" p2) [a] [] q] [] pos) fun r g => ∃ qs : List (Int × Int), r = .fz (.list (qs.map pD)) ∧ g = γ1 ∧ qs.Pairwise (fun y z => y.1 < z.1 ∨ (y.1 = z.1 ∧ y.2 < z.2)) ∧ ∀ y, y ∈ qs ↔ y ∈ ns := fun F as σ H R E Q qq => by
  refine ⟨_, pe_callB (cr_sortedT hX.calm) bt.gl bt.mg (by decide +kernel) (pa_cons (pe_callTy (cr_setOfT hX.calm (by have := hX.hu; omega)) bt2.gl bt2.mg (by decide +kernel) (pa_cons pe_wp pa_nil hs2) (by decide) (by decide) hs2) pa_nil hs) (by decide) (by decide) hs, ?_⟩
  refine ha.go R E fun v F1 as1 H1 x1 R1 i1 => ?_
  obtain ⟨l, vs, rfl, k1, k2⟩ := hr.list R1 i1
  obtain ⟨ks, rfl, e2, e3⟩ := dq_pairs k2
  have hin : ∀ y ∈ ks, ∃ z ∈ ns, y.2 = [z.1, z.2] := fun y hy => by
    have : y.2 ∈ ks.map (·.2) := List.mem_map.mpr ⟨y, hy, rfl⟩
    rw [e2] at this
    obtain ⟨z, hz, e⟩ := List.mem_map.mp this
    exact ⟨z, hz, e.symm⟩
  have hlen : ks.length = ns.length := by
    have := congrArg List.length e2
    simpa using this
  refine ⟨l, ks, rfl, k1, fun y hy => SqT.of (R1.fr _ _ (e3 y hy)), by omega, fun A L hA hL1 hL2 => ?_⟩
  have hne : ∀ y ∈ L, y.1 ≠ A := fun y hy e => by
    have := R1.fr _ _ (e3 y (hL1 y hy))
    rw [e, hA] at this
    cases this
  refine ⟨A, L, 2, 64, rfl, upd_same, fun y hy => SqT.of (by rw [upd_ne (hne y hy)]; exact R1.fr _ _ (e3 y (hL1 y hy))), by decide, fun y hy => ?_, fun L' T hp hnd hf hpw hT => ?_⟩
  · obtain ⟨z, hz, e⟩ := hin y (hL1 y hy)
    obtain ⟨b1, b2⟩ := hb z hz
    rw [e]
    refine ⟨rfl, fun m hm => ?_⟩
    rcases List.mem_cons.mp hm with rfl | hm
    · exact b1
    · rcases List.mem_cons.mp hm with rfl | hm
      · exact b2
      · simp at hm
  · have hL' : ∀ y ∈ L', y ∈ ks := fun y hy => hL1 y (hp.mem_iff.mp hy)
    obtain ⟨qs, hqs⟩ := split_pairs (L'.map (·.2)) fun y hy => by
      obtain ⟨w, hw, rfl⟩ := List.mem_map.mp hy
      obtain ⟨z, _, e⟩ := hin w (hL' w hw)
      rw [e]; rfl
    have F2 : ∀ y ∈ L', (upd F1 A (SetTO X.prog X.w A L)) y.1 = some (.tup (y.2.map V.int)) := fun y hy => by
      rw [upd_ne (hne y (hp.mem_iff.mp hy))]
      exact e3 y (hL' y hy)
    have R2 := R1.new (SetTO X.prog X.w A L) hA
    have R3 := R2.new (HO.lst (L'.map fun y => V.ref y.1)) hT
    have x2 : Ext F1 as1 (upd F1 A (SetTO X.prog X.w A L)) as1 := ⟨R1.sameNew _ hA, [], by simp⟩
    have x3 : Ext (upd F1 A (SetTO X.prog X.w A L)) as1 (upd (upd F1 A (SetTO X.prog X.w A L)) T (.lst (L'.map fun y => V.ref y.1))) as1 := ⟨R2.sameNew _ hT, [], by simp⟩
    have mq : ∀ y, y ∈ qs ↔ y ∈ ns := fun y => by
      have m1 : y ∈ qs ↔ [y.1, y.2] ∈ L'.map (·.2) := by
        rw [hqs, List.mem_map]
        constructor
        · intro h; exact ⟨y, h, rfl⟩
        · rintro ⟨z, hz, e⟩
          have : z = y := by
            simp at e
            exact Prod.ext e.1 e.2
          exact this ▸ hz
      have m2 : y ∈ ns ↔ [y.1, y.2] ∈ ks.map (·.2) := by
        rw [e2, List.mem_map]
        constructor
        · intro h; exact ⟨y, h, rfl⟩
        · rintro ⟨z, hz, e⟩
          have : z = y := by
            simp at e
            exact Prod.ext e.1 e.2
          exact this ▸ hz
      rw [m1, m2]
      constructor
      · intro h
        obtain ⟨w, hw, e⟩ := List.mem_map.mp h
        exact List.mem_map.mpr ⟨w, hL' w hw, e⟩
      · intro h
        obtain ⟨w, hw, e⟩ := List.mem_map.mp h
        obtain ⟨w', hw', e'⟩ := List.mem_map.mp (hL2 w hw)
        exact List.mem_map.mpr ⟨w', hp.mem_iff.mpr hw', e'.trans e⟩
    refine qq _ (.fz (.list (qs.map pD))) γ1 _ as1 _ ⟨qs, rfl, rfl, ?_, mq⟩ (x1.trans (x2.trans x3)) R3 (itm_lst.mpr ⟨T, _, rfl, SqL.of upd_same, dpAll_mono x3.1 (dq_of_pairs hqs F2)⟩)
    have hpw2 : (L'.map (·.2)).Pairwise (fun y z => TS.code 64 y ≤ TS.code 64 z) := List.pairwise_map.mpr hpw
    rw [hqs] at hpw2 hnd
    have hpw3 := List.pairwise_map.mp hpw2
    have hnd3 : qs.Pairwise (fun y z => ([y.1, y.2] : List Int) ≠ [z.1, z.2]) := List.pairwise_map.mp hnd
    refine List.Pairwise.imp_of_mem (fun {y z} hy hz h => ?_) (hpw3.and hnd3)
    have by' := hb y ((mq y).mp hy)
    have bz := hb z ((mq z).mp hz)
    exact pair_lt h.1 h.2 by'.1 by'.2 bz.1 bz.2
end
end PL

namespace PL
open PySem PySem.Spec PyProof.Rows L2
/-! ### xs[::e], e is 1 or -1 -/
theorem pick_one (items : Array Value) : slicePick items none none (some 1) = items := by
  have h : slicePick items none none (some 1) = slicePick items none none none := rfl
  rw [h]
  have h2 := slicePick_cut items.toList none none
  rw [Array.toArray_toList] at h2
  rw [h2, HT.sIx_none, HT.sIx_none, List.drop_zero, Nat.sub_zero, List.take_length, Array.toArray_toList]
def turned {α : Type} (b : Bool) (xs : List α) : List α := if b then xs.reverse else xs
def tTurn (K : PySem.W.Frag) (te ts : TE) : TE := fun σ H Q => te σ H fun x H1 => tPart ts σ H1 fun o H2 => ∃ l xs b, x = .ref l ∧ o = some (if b = true then -1 else 1) ∧ SqL K H2 l xs ∧ ∀ t, H2 t = none → Q (.ref t) (upd H2 t (.lst (turned b xs)))
theorem pe_turn {X : Cx} {e st : Expr} {te ts : TE} {p3 pos : Pos} (he : PE X e te) (hst : PE X st ts) : PE X (.Subscript e (.Slice none none (some st) p3) pos) (tTurn X.K te ts) := by
  refine ⟨fun pins s σ H Q I h => Subscript_ (thn (he.run pins s σ H _ I h) fun v sa ⟨x, Ha, Ia, ra, qa⟩ => ?_)⟩
  have no : PO X none _ := po_none
  refine wpAny_Slice (thn (no.run pins sa σ Ha (fun o H2 => o = none ∧ H2 = Ha) Ia ⟨rfl, rfl⟩) fun vl sb ⟨lo, Hb, Ib, pl, elo, eb⟩ => ?_)
  cases elo
  cases eb
  refine thn (no.run pins sb σ Ha (fun o H3 => o = none ∧ H3 = Ha) Ib ⟨rfl, rfl⟩) fun vu sc ⟨hi, Hc, Ic, pu, ehi, ec⟩ => ?_
  cases ehi
  cases ec
  have yes : PO X (some st) _ := po_some hst
  refine thn (yes.run pins sc σ Ha (fun o H4 => ∃ l xs b, x = .ref l ∧ o = some (if b = true then -1 else 1) ∧ SqL X.K H4 l xs ∧ ∀ t, H4 t = none → Q (.ref t) (upd H4 t (.lst (turned b xs)))) Ic qa) fun vs sd ⟨o, Hd, Id, ps, l, xs, b, ex, eo, hx, q⟩ => ?_
  · subst ex eo
    cases ra
    have Ie : Inv X pins σ Hd { sd with heap := sd.heap.push { cls := .type "slice", data := .fields #[vl, vu, vs] } } := Id.kept (t' := sd.toks) fun c oc z => Heap.get?_push_of_some _ z
    obtain ⟨its, rv, ht, hz⟩ := Ie.list hx
    have hlen := rv.length
    refine tail_any (ops := [.ref l, .ref sd.heap.objs.size]) ht.isList.typeIs (PySem.slot_list_getitem.lookup) ?_ (by with_unfolding_all rfl)
    cases b with
    | true =>
      refine wpAny_getItem_list_slice ht.isList (Heap.IsSliceOf.new _ vl vu vs) pl pu ps (by decide) ?_ (by rw [List.size_toArray]; omega)
      rw [show (some (if true = true then (-1 : Int) else 1)) = some (-1) from rfl, PySem.W.krv_pick]
      refine ⟨.ref _, _, Ie.laid (t' := sd.toks) (o := .lst xs.reverse) (fun c oc z => Heap.get?_push_of_some _ z) (Nat.le_refl _) ⟨by rw [List.length_reverse]; exact hz, _, 0, rv.reverse, Heap.get?_push_size _ rfl⟩, rfl, q _ (Ie.hok.fresh (Nat.le_refl _))⟩
    | false =>
      refine wpAny_getItem_list_slice ht.isList (Heap.IsSliceOf.new _ vl vu vs) pl pu ps (by decide) ?_ (by rw [List.size_toArray]; omega)
      rw [show (some (if false = true then (-1 : Int) else 1)) = some 1 from rfl, pick_one]
      refine ⟨.ref _, _, Ie.laid (t' := sd.toks) (o := .lst xs) (fun c oc z => Heap.get?_push_of_some _ z) (Nat.le_refl _) ⟨hz, _, 0, rv, Heap.get?_push_size _ rfl⟩, rfl, q _ (Ie.hok.fresh (Nat.le_refl _))⟩
section
variable {X : Cx} {Γ : Slots} {γ γ1 γ2 : Cells} {a st : Expr} {ra : Itm} {p3 pos : Pos} {P : EPost}
theorem dpAll_rev {K F} : ∀ {vs : List V} {ds : List PyData}, DqAll K F vs ds → DqAll K F vs.reverse ds.reverse
  | _, _, .nil => .nil
  | _, _, .cons h t => by
    rw [List.reverse_cons, List.reverse_cons]
    exact dpAll_append (dpAll_rev t) (.cons h .nil)
theorem ee_turn (h : EE X Γ γ a fun ra g1 => EE X Γ g1 st fun rb g2 => ∃ ds b, Rdb g2 ra (.list ds) ∧ rb = .fz (.int (if b = true then -1 else 1)) ∧ P (.fz (.list (turned b ds))) g2) : EE X Γ γ (.Subscript a (.Slice none none (some st) p3) pos) P := fun F as σ H R E Q q => by
  refine ⟨_, pe_turn pe_wp pe_wp, h F as σ H R E _ fun v r1 g1 F1 as1 H1 h1 x1 R1 i1 => h1 F1 as1 σ H1 R1 (E.mono x1) _ fun u r2 g2 F2 as2 H2 h2 x2 R2 i2 => ?_⟩
  obtain ⟨ds, b, hr, rfl, hp⟩ := h2
  obtain ⟨l, vs, rfl, k1, k2⟩ := hr.list R2 (itm_mono x2 i1)
  refine ⟨_, itm_int.mp i2, l, vs, b, rfl, rfl, k1, fun t ht => ?_⟩
  refine q _ _ _ (upd F2 t (.lst (turned b vs))) as2 _ hp ((x1.trans x2).trans ⟨R2.sameNew _ ht, [], by simp⟩) (R2.new _ ht) (itm_lst.mpr ⟨t, _, rfl, SqL.of upd_same, dpAll_mono (R2.sameNew _ ht) ?_⟩)
  cases b with
  | true => exact dpAll_rev k2
  | false => exact k2
end
end PL

namespace PL
open PySem PySem.Spec PyProof.Rows L2
/-! ### {(a, b): v for ..}: a dict by tuples -/
theorem put_tup {X : Cx} {pins : List (Addr × Obj)} {σ : L2.St} {H : Hp} {s : Shared} {E : Value → Shared → Prop} {D b : Addr} {kvs : List (List Key × V)} {k : List Key} {v : V} {r : Value} {Q : Unit → Shared → Prop}
    (hu : X.A.units + 1 < cLine) (I : Inv X pins σ H s) (hD : H D = some (.dT kvs)) (hz : kvs.length < sizeLine) (hb : H b = some (.tup (k.map kV))) (rv : RelV v r) (h : ∀ s', Inv X pins σ (upd H D (.dT (putK kvs k v))) s' → Q () s') :
    wpAny (model X.prog X.w) X.A (dictSet D (.ref b) r) Q E s := by
  obtain ⟨size, sys, rows, rel, obj⟩ := dt_of I.hok hD
  have few : rows.length ≤ sizeLine := by rw [← Paired.length rel]; exact size
  have more : (putK kvs k v).length ≤ sizeLine := by have := length_putK kvs k v; omega
  refine wpAny_dictSet_heap (hsz := few) (show (tupleKind (mixKind X.prog X.w)).room X.A from (by show X.A.units < cLine; omega)) (key_of I.hok hb) obj fun h' obj' same => h _ ?_
  obtain ⟨o, es, ep, ho, w2, w3, w4, _, w5⟩ := obj'
  refine d_write I (by rw [hD]; exact True.intro) same ⟨o, ho⟩ ⟨more, sys, _, KT.keeps (rel.put k hb rv) fun c ys ec => ?_, o, es, ep, ho, w2, w3, w4, w5⟩
  have hne : c ≠ D := fun z => by rw [z, hD] at ec; cases ec
  rw [upd_ne hne]
  exact ec
def tDcT (wi : TI) (g : TG) (tt : TT) (tk tv : TE) (vs : List Nat) : TE := fun σ H Q => wi σ H fun J Ha => ∀ D, Ha D = none →
  ∃ W : Nat → Nat → Hp → Prop, (∃ m, W 0 m (upd Ha D (.dT []))) ∧
    ∀ i m Hb, W i m Hb → (J.stop i Hb ∧ Q (.ref D) Hb) ∨
      (J.go i Hb ∧ ∃ Nx : Hp → Prop, (∀ Hc, Nx Hc → ∃ m', m' < m ∧ W (i + 1) m' Hc) ∧
        ∀ x Hc, J.yld i Hb x Hc → g x (wipe σ vs) Hc fun τ Hd => wipe τ vs = wipe σ vs ∧ tt τ Hd fun b He =>
          if b = true then tk τ He fun y Hf => tv τ Hf fun z Hg => ∃ kvs k t, y = .ref t ∧ Hg t = some (.tup (k.map kV)) ∧ Hg D = some (.dT kvs) ∧ kvs.length < sizeLine ∧ Nx (upd Hg D (.dT (putK kvs k z))) else Nx He)
abbrev BlkE (X : Cx) (s : Shared) (H : Hp) (scope : Scope) (C : Addr) (cl : List (Str × Addr)) (fp : List Addr) : Cx := X.blk s H scope (compEnvC scope cl C X.env) fp
theorem pe_dcT {X : Cx} {kx vx tg iter : Expr} {ifs : List Expr} {scope : Scope} {own : List (Str × Nat)} {pos : Pos} {wi : TI} {g : TG} {tt : TT} {tk tv : TE} (hX : Cok X) (hi : PI X tg iter wi) (ok : BlkOk X.N X.env.scope scope own)
    (hg : ∀ s H C cl fp, PG (BlkE X s H scope C cl fp) tg g) (ht : ∀ s H C cl fp, PTs (BlkE X s H scope C cl fp) ifs tt)
    (hk : ∀ s H C cl fp, PE (BlkE X s H scope C cl fp) kx tk) (hv : ∀ s H C cl fp, PE (BlkE X s H scope C cl fp) vx tv)
    (hs : ∀ x, foldedSetIterable iter X.env x = pure x := by intro _; rfl) :
    PE X (.DictComp kx vx [⟨tg, iter, ifs, 0⟩] scope pos) (tDcT wi g tt tk tv (own.map (·.2))) := by
  refine ⟨fun pins s σ H Q I h => ?_⟩
  have hcalm := hX.calm
  have hNd := hX.nd
  have hun : X.A.units + 1 < cLine := hX.hu1
  have caps : ∀ y ∈ scope.names, y.2 = .free → ∃ c, X.env.cells.lookup y.1 = some c := fun y hy e =>
    (ok.free y hy e).elim (fun z => I.ok.has _ (.inl z)) (fun z => I.ok.has _ (.inr z))
  rw [arm_eval_DictComp]
  refine wpAny_comprehension_free rfl hs (closure_ok caps) ok.kind (fun y hy e => by rw [ok.uniq y hy, e]) (thn (hi.run pins s σ H _ I h) fun w sa ha => thn ha fun iv sb hb => ?_)
  obtain ⟨it, fp, tn, J, Ha, rfl, Ia, T, sta, fpa, q⟩ := hb
  refine wpAny_newObj_type (newEnv_comp ?_)
  generalize eD : sb.heap.objs.size = D
  have noD : Ha D = none := Ia.hok.fresh (Nat.le_of_eq eD)
  obtain ⟨W, ⟨m0, w0⟩, each⟩ := q D noD
  generalize es3 : ({ sb with heap := sb.heap.push { cls := .type "dict", data := .dict #[] } } : Shared) = sc
  have hc0 : sc.heap = sb.heap.push { cls := .type "dict", data := .dict #[] } := by rw [← es3]
  have Ic : Inv X pins σ (upd Ha D (.dT [])) sc := by
    subst es3 eD
    exact Ia.laid (t' := sb.toks) (fun c o e => Heap.get?_push_of_some _ e) (Nat.le_refl _) (dt_empty sb.heap Ia.big)
  have fpc : ∀ c ∈ fp, FpOk X pins (upd Ha D (.dT [])) c ∧ c < sc.heap.objs.size := fun c hc => by
    obtain ⟨o, eo, _⟩ := T.obj _ _ sta c hc
    have lt := Heap.lt_size eo
    have neD : c ≠ D := by rw [← eD]; exact Nat.ne_of_lt lt
    exact ⟨⟨by rw [upd_ne neD]; exact (fpa c hc).1, (fpa c hc).2⟩, by rw [hc0, Heap.size_push]; exact Nat.lt_succ_of_lt lt⟩
  have stc : tn 0 sc.heap := T.keep _ _ _ sta fun c _ o e => by rw [hc0]; exact Heap.get?_push_of_some _ e
  have Id := block_start Ic ok hNd fpc
  have pg := hg sc (upd Ha D (.dT [])) sc.heap.objs.size (cellsFrom (sc.heap.objs.size + 1) scope.names (cloFrom X.env.cells scope.names [])) fp
  have pt := ht sc (upd Ha D (.dT [])) sc.heap.objs.size (cellsFrom (sc.heap.objs.size + 1) scope.names (cloFrom X.env.cells scope.names [])) fp
  have pk := hk sc (upd Ha D (.dT [])) sc.heap.objs.size (cellsFrom (sc.heap.objs.size + 1) scope.names (cloFrom X.env.cells scope.names [])) fp
  have pv := hv sc (upd Ha D (.dT [])) sc.heap.objs.size (cellsFrom (sc.heap.objs.size + 1) scope.names (cloFrom X.env.cells scope.names [])) fp
  unfold BlkE at pg pt pk pv
  have nofp : ∀ c ∈ fp, (upd Ha D (.dT [])) c = none := fun c hc => (fpc c hc).1.1
  show codeAny _ _ (.compStart (.DictComp kx vx [⟨tg, iter, ifs, 0⟩] scope pos) 0 (.ref it) (.ref D) (compEnvC scope (cellsFrom (sc.heap.objs.size + 1) scope.names (cloFrom X.env.cells scope.names [])) sc.heap.objs.size X.env)) _ _
  generalize eEnv : compEnvC scope (cellsFrom (sc.heap.objs.size + 1) scope.names (cloFrom X.env.cells scope.names [])) sc.heap.objs.size X.env = env at Id pg pt pk pv ⊢
  have locE : env.locals = sc.heap.objs.size := by subst eEnv; rfl
  generalize eHc : upd Ha D (.dT []) = Hc at Ic Id pg pt pk pv w0 nofp fpc
  generalize eSd : ({ heap := pushCells (sc.heap.push { cls := .type "dict", data := .dict #[] }) scope.names, gens := sc.gens, drawn := sc.drawn, toks := sc.toks, os := sc.os } : Shared) = sd at Id ⊢
  have std : tn 0 sd.heap := T.keep _ _ _ stc fun c _ o e => by subst eSd; exact pushCells_keeps _ _ _ _ (Heap.get?_push_of_some _ e)
  have okfp : ∀ {τ : L2.St} {Hx : Hp} {sx : Shared}, Inv (X.blk sc Hc scope env fp) [] τ Hx sx → (∀ c ∈ fp, Hx c = none) → ∀ c ∈ fp, FpOk (X.blk sc Hc scope env fp) [] Hx c := fun Ix no c hc =>
    have z := Ix.ok.exf c hc
    ⟨no c hc, z.1, Ix.ok.exfs c hc, .inl hc, fun x a e => z.2 x a e, fun y hy => by simp at hy⟩
  have loop : codeAny (model X.prog X.w) X.A (.compLoop (.DictComp kx vx [⟨tg, iter, ifs, 0⟩] scope pos) 0 (.ref it) (.ref D) env) (compPost (model X.prog X.w) X.A X.xe none (EP X pins σ Q) (.ref D) sc.heap.objs.size) sd := by
    refine compLoop_anyD (fun n sx => ∃ i Hx, Inv (X.blk sc Hc scope env fp) [] (wipe σ (own.map (·.2))) Hx sx ∧ tn i sx.heap ∧ (∀ c ∈ fp, Hx c = none) ∧ W i n Hx) (fun n sx hx => ?_) m0 ⟨0, Hc, Id, std, nofp, w0⟩
    obtain ⟨i, Hx, Ix, stx, nox, wx⟩ := hx
    rcases each i n Hx wx with ⟨stop, done⟩ | ⟨go, Nx, back, turn⟩
    · refine thnF (T.done (X.blk sc Hc scope env fp) rfl rfl rfl hcalm i [] sx _ Hx (fun _ _ => False) Ix (okfp Ix nox) stx stop) fun r sy hy => ?_
      obtain ⟨rfl, Iy⟩ := hy
      -- back in the def
      have Iz : Inv X pins σ Hx sy := Ic.call' (ch := fp) Iy.os Iy.base Iy.hok Iy.bare fun c hc =>
        have z := (fpc c hc).1.2
        ⟨z.2.2.1, z.1, z.2.2.2.1, z.2.2.2.2⟩
      have free : Hx env.locals = none := Iy.free
      obtain ⟨m, hm, _⟩ := Iy.loc
      have hm : sy.heap.Ns env.locals m := hm
      rw [locE] at free hm
      obtain ⟨k0, k1, k2, k3, k4, k5⟩ := Ic.fpOk (Nat.le_refl _) free
      exact ⟨m, hm, fun h2 sb2 => ⟨.ref D, Hx, Iz.turned (t' := sy.toks) (fun c o hc e => (sb2.2 c hc).trans e) k0 k1 k3 k4 k5, rfl, done⟩⟩
    · refine thnF (T.item (X.blk sc Hc scope env fp) rfl rfl rfl hcalm i [] sx _ Hx (fun _ _ => False) Ix (okfp Ix nox) stx go) fun r sy hy => ?_
      obtain ⟨u, rfl, hy⟩ := hy
      refine thnF hy fun _ sz hz => ?_
      obtain ⟨x, Hz, Iz, rz, yz, stz, noz⟩ := hz
      have Iz' := Iz.pinned (okfp Iz noz) (T.obj _ _ stz)
      refine thnF (pg.run _ sz _ Hz x u _ Iz' rz (turn x Hz yz)) fun _ s1 h1 => ?_
      obtain ⟨τ, H1, I1, e1, q1⟩ := h1
      refine thnF (pt.run _ s1 τ H1 _ I1 q1) fun b s2 h2 => ?_
      obtain ⟨H2, I2, q2⟩ := h2
      have over : ∀ {sw : Shared} {Hw : Hp}, Inv (X.blk sc Hc scope env fp) ([] ++ pinsAt fp sz.heap) τ Hw sw → Nx Hw →
          ∃ m, m < n ∧ ∃ i Hx, Inv (X.blk sc Hc scope env fp) [] (wipe σ (own.map (·.2))) Hx sw ∧ tn i sw.heap ∧ (∀ c ∈ fp, Hx c = none) ∧ W i m Hx := fun {sw Hw} Iw nw => by
        obtain ⟨m', lt, ww⟩ := back Hw nw
        have held : ∀ c ∈ fp, ∀ o, sz.heap.get? c = some o → sw.heap.get? c = some o ∧ Hw c = none := fun c hc o e => by
          have z := Iw.pin (c, o) (List.mem_append_right _ (List.mem_append_right _ (mem_pinsAt hc e)))
          exact ⟨z.1, z.2.1⟩
        have same : (wipe σ (own.map (·.2))).length = τ.length := by rw [← e1, wipe_length]
        refine ⟨m', lt, i + 1, Hw, (Iw.unpinned (pins := [])).weak same fun j v e => ?_, T.keep _ _ _ stz fun c hc o e => (held c hc o e).1, fun c hc => ?_, ww⟩
        · rw [← e1] at e; exact (wipe_some e).1
        · obtain ⟨o, e, _⟩ := T.obj _ _ stz c hc
          exact (held c hc o e).2
      cases b with
      | false =>
        simp only [Bool.false_eq_true, if_false] at q2 ⊢
        exact over I2 q2
      | true =>
        simp only [if_true] at q2 ⊢
        refine thnF (pk.run _ s2 τ H2 _ I2 q2) fun w1 s3 h3 => ?_
        obtain ⟨y, H3, I3, r3, q3⟩ := h3
        refine thnF (pv.run _ s3 τ H3 _ I3 q3) fun w2 s4 h4 => ?_
        obtain ⟨z, H4, I4, r4, kvs, k, t, rfl, h5, h6, h7, nw⟩ := h4
        cases r3
        exact put_tup (X := X.blk sc Hc scope env fp) hun I4 h6 h7 h5 r4 fun s5 I5 => over I5 nw
  exact codeAny_compStart_dict loop (T.self X.A 0 _ _ _ std loop)
end PL

namespace PL
open PySem PySem.Spec PyProof.Rows L2
/-! ### dict comprehensions whose parts change nothing -/
def accI {κ : Type} [DecidableEq κ] (k : Nat → Bool) (ky : Nat → κ) (f : Nat → Itm) : Nat → List (κ × Itm)
  | 0 => []
  | n + 1 => if k n = true then putI (accI k ky f n) (ky n) (f n) else accI k ky f n
theorem putI_len {κ : Type} [DecidableEq κ] (kvs : List (κ × Itm)) (k : κ) (v : Itm) : (putI kvs k v).length ≤ kvs.length + 1 := by
  unfold putI
  split
  · rw [List.length_map]; omega
  · rw [List.length_append]; exact Nat.le_refl _
theorem accI_len {κ : Type} [DecidableEq κ] (k : Nat → Bool) (ky : Nat → κ) (f : Nat → Itm) : ∀ n, (accI k ky f n).length ≤ n
  | 0 => Nat.le_refl _
  | n + 1 => by
    have ih := accI_len k ky f n
    unfold accI
    split
    · exact Nat.le_trans (putI_len _ _ _) (by omega)
    · omega
section
variable {X : Cx} {Γ : Slots} {γ γ1 : Cells} {tg it kx vx : Expr} {ifs : List Expr} {xs : List Itm} {stab : Cells → Prop} {scope : Scope} {own : List (Str × Nat)} {pos : Pos}
theorem wbG_ok (X : Cx) (scope : Scope) (e : Expr) (s : Shared) (H : Hp) (C : Addr) (cl : List (Str × Addr)) (fp : List Addr) : PG (BlkE X s H scope C cl fp) e (wbG X scope e) :=
  ⟨fun pins s' σ H v u Q I r h => pg_wp.run pins s' σ H v u Q I r (h _ ⟨s, _, C, cl, fp, rfl⟩)⟩
theorem wbT_ok (X : Cx) (scope : Scope) (es : List Expr) (s : Shared) (H : Hp) (C : Addr) (cl : List (Str × Addr)) (fp : List Addr) : PTs (BlkE X s H scope C cl fp) es (wbT X scope es) :=
  ⟨fun pins s' σ H Q I h => pts_wp.run pins s' σ H Q I (h _ ⟨s, _, C, cl, fp, rfl⟩)⟩
theorem wbE_ok (X : Cx) (scope : Scope) (e : Expr) (s : Shared) (H : Hp) (C : Addr) (cl : List (Str × Addr)) (fp : List Addr) : PE (BlkE X s H scope C cl fp) e (wbE X scope e) :=
  ⟨fun pins s' σ H Q I h => pe_wp.run pins s' σ H Q I (h _ ⟨s, _, C, cl, fp, rfl⟩)⟩
theorem blkK {X X' : Cx} (h : Blk X scope X') : X'.K = X.K := by obtain ⟨_, _, _, _, _, rfl⟩ := h; rfl
theorem ev_dcT (k : Nat → Bool) (ky : Nat → List Key) (f : Nat → Itm) (hX : Cok X) (ok : BlkOk X.N X.env.scope scope own) (hi : ITV X Γ γ tg it xs stab γ1) (hst : ∀ o, stab (γ1 ++ [o])) (hsz : xs.length ≤ 1000000)
    (hb : ∀ i x, xs[i]? = some x → ∃ Γ2 ws, (∀ j ∈ ws, j ∈ own.map (·.2)) ∧ ∀ X', Blk X scope X' → ∀ G, G = γ1 ++ [.dit (accI k ky f i)] →
      GV X' G (wipeS Γ (own.map (·.2))) tg x Γ2 ws ∧ TVs X' Γ2 G ifs (k i) G ∧ (k i = true → ∃ d, keyT d = some (ky i) ∧ EV X' Γ2 G kx (.fz d) G ∧ EV X' Γ2 G vx (f i) G))
    (hs : ∀ x, foldedSetIterable it X.env x = pure x := by intro _; rfl) :
    EV X Γ γ (.DictComp kx vx [⟨tg, it, ifs, 0⟩] scope pos) (.cl γ1.length) (γ1 ++ [.dit (accI k ky f xs.length)]) := .mk fun F as σ H R E Q q => by
  refine ⟨_, pe_dcT hX pi_wp ok (wbG_ok X scope tg) (wbT_ok X scope ifs) (wbE_ok X scope kx) (wbE_ok X scope vx) hs, hi F as σ H R E _ fun J F1 as1 H1 x1 R1 hJ D hD => ?_⟩
  have l1 : as1.length = γ1.length := R1.len
  have R1' := R1.newCell (cell := .dit []) (o := .dT []) hD ⟨[], upd_same, .nil⟩
  have at1 : (as1 ++ [D])[γ1.length]? = some D := by rw [← l1, List.getElem?_append_right (Nat.le_refl _)]; simp
  have x1' : Ext F1 as1 F1 (as1 ++ [D]) := ⟨Same.refl F1, [D], rfl⟩
  refine ⟨fun i m H' => m = xs.length - i ∧ i ≤ xs.length ∧ ∃ F' as', Ext F1 (as1 ++ [D]) F' as' ∧ Rep X.K F' as' (γ1 ++ [.dit (accI k ky f i)]) H', ⟨xs.length, by simp, Nat.zero_le _, F1, as1 ++ [D], Ext.refl _ _, R1'⟩, ?_⟩
  rintro i m H' ⟨rfl, hle, F', as', x', R'⟩
  obtain ⟨j1, j2⟩ := hJ i F' as' _ H' (x1'.trans x') R' (hst _)
  by_cases hlt : i < xs.length
  · obtain ⟨g1, g2⟩ := j2 xs[i] (List.getElem?_eq_getElem hlt)
    refine .inr ⟨g1, fun H'' => ∃ F' as', Ext F1 (as1 ++ [D]) F' as' ∧ Rep X.K F' as' (γ1 ++ [.dit (accI k ky f (i + 1))]) H'', fun H'' n => ⟨xs.length - (i + 1), by omega, rfl, hlt, n⟩, fun v H'' y => ?_⟩
    obtain ⟨F'', x'', R'', i''⟩ := g2 v H'' y
    obtain ⟨Γ2, ws, hws, hall⟩ := hb i xs[i] (List.getElem?_eq_getElem hlt)
    intro X' hB
    have hK := blkK hB
    refine (hall X' hB _ rfl).1 F'' as' (wipe σ _) H'' v (hK ▸ R'') (hK ▸ env_wipe (E.mono (((x1.trans x1').trans x').trans x'')) _) (hK ▸ i'') _ fun σ2 E2 b2 => ⟨wipe_but b2 hws, ?_⟩
    rw [hK] at E2
    intro X2 hB2
    have hK2 := blkK hB2
    refine (hall X2 hB2 _ rfl).2.1 F'' as' σ2 H'' (hK2 ▸ R'') (hK2 ▸ E2) _ fun F3 as3 H3 x3 R3 => ?_
    rw [hK2] at R3
    have xx := (x'.trans x'').trans x3
    cases hk : k i with
    | false => exact iteF ⟨F3, as3, xx, by unfold accI; rw [hk]; exact R3⟩
    | true =>
      refine iteT fun X3 hB3 => ?_
      have hK3 := blkK hB3
      obtain ⟨d, hd, e1, _⟩ := (hall X3 hB3 _ rfl).2.2 hk
      refine e1.go (hK3 ▸ R3) (hK3 ▸ E2.mono x3) fun w F4 as4 H4 x4 R4 i4 => ?_
      rw [hK3] at R4 i4
      intro X4 hB4
      have hK4 := blkK hB4
      obtain ⟨_, _, _, e2⟩ := (hall X4 hB4 _ rfl).2.2 hk
      refine e2.go (hK4 ▸ R4) (hK4 ▸ E2.mono (x3.trans x4)) fun z F5 as5 H5 x5 R5 i5 => ?_
      rw [hK4] at R5 i5
      obtain ⟨t, rfl, ht⟩ := keyT_v hd (itm_mono x5 i4)
      have hDx : as5[γ1.length]? = some D := ((xx.trans x4).trans x5).get at1
      have hc : (γ1 ++ [Cell.dit (accI k ky f i)])[γ1.length]? = some (.dit (accI k ky f i)) := by rw [List.getElem?_append_right (Nat.le_refl _)]; simp
      obtain ⟨D', k1, ks, k2, k3⟩ := R5.cellAt hc
      rw [hDx] at k1
      cases k1
      have few := accI_len k ky f i
      refine ⟨ks, ky i, t, rfl, R5.fr _ _ ht, k2, by rw [← pr_length k3, sizeLine_eq]; omega, F5, as5, (xx.trans x4).trans x5, ?_⟩
      have R6 := R5.write (cell := .dit (putI (accI k ky f i) (ky i) (f i))) hc (by simp) hDx ⟨_, upd_same, pr_put k3 i5⟩
      have es : (γ1 ++ [Cell.dit (accI k ky f i)]).set γ1.length (.dit (putI (accI k ky f i) (ky i) (f i))) = γ1 ++ [.dit (accI k ky f (i + 1))] := by
        rw [List.set_append_right _ _ (Nat.le_refl _), Nat.sub_self]
        show γ1 ++ [Cell.dit (putI (accI k ky f i) (ky i) (f i))] = _
        rw [show accI k ky f (i + 1) = putI (accI k ky f i) (ky i) (f i) by show (if k i = true then _ else _) = _; rw [if_pos hk]]
      rw [es] at R6
      exact R6
  · have e : i = xs.length := by omega
    subst e
    exact .inl ⟨j1 (Nat.le_refl _), q _ F' as' H' ((x1.trans x1').trans x') R' (itm_cl.mpr ⟨D, x'.get at1, rfl⟩)⟩
theorem ev_dcK (k : Nat → Bool) (ky : Nat → Key) (f : Nat → Itm) (hX : Cok X) (ok : BlkOk X.N X.env.scope scope own) (hi : ITV X Γ γ tg it xs stab γ1) (hst : ∀ o, stab (γ1 ++ [o])) (hsz : xs.length ≤ 1000000)
    (hb : ∀ i x, xs[i]? = some x → ∃ Γ2 ws, (∀ j ∈ ws, j ∈ own.map (·.2)) ∧ ∀ X', Blk X scope X' → ∀ G, G = γ1 ++ [.dic (accI k ky f i)] →
      GV X' G (wipeS Γ (own.map (·.2))) tg x Γ2 ws ∧ TVs X' Γ2 G ifs (k i) G ∧ (k i = true → ∃ d, keyD d = some (ky i) ∧ EV X' Γ2 G kx (.fz d) G ∧ EV X' Γ2 G vx (f i) G))
    (hs : ∀ x, foldedSetIterable it X.env x = pure x := by intro _; rfl) :
    EV X Γ γ (.DictComp kx vx [⟨tg, it, ifs, 0⟩] scope pos) (.cl γ1.length) (γ1 ++ [.dic (accI k ky f xs.length)]) := .mk fun F as σ H R E Q q => by
  refine ⟨_, pe_dc hX.calm hX.nd pi_wp ok (wbG_ok X scope tg) (wbT_ok X scope ifs) (wbE_ok X scope kx) (wbE_ok X scope vx) hs, hi F as σ H R E _ fun J F1 as1 H1 x1 R1 hJ D hD => ?_⟩
  have l1 : as1.length = γ1.length := R1.len
  have R1' := R1.newCell (cell := .dic []) (o := .dK []) hD ⟨[], upd_same, .nil⟩
  have at1 : (as1 ++ [D])[γ1.length]? = some D := by rw [← l1, List.getElem?_append_right (Nat.le_refl _)]; simp
  have x1' : Ext F1 as1 F1 (as1 ++ [D]) := ⟨Same.refl F1, [D], rfl⟩
  refine ⟨fun i m H' => m = xs.length - i ∧ i ≤ xs.length ∧ ∃ F' as', Ext F1 (as1 ++ [D]) F' as' ∧ Rep X.K F' as' (γ1 ++ [.dic (accI k ky f i)]) H', ⟨xs.length, by simp, Nat.zero_le _, F1, as1 ++ [D], Ext.refl _ _, R1'⟩, ?_⟩
  rintro i m H' ⟨rfl, hle, F', as', x', R'⟩
  obtain ⟨j1, j2⟩ := hJ i F' as' _ H' (x1'.trans x') R' (hst _)
  by_cases hlt : i < xs.length
  · obtain ⟨g1, g2⟩ := j2 xs[i] (List.getElem?_eq_getElem hlt)
    refine .inr ⟨g1, fun H'' => ∃ F' as', Ext F1 (as1 ++ [D]) F' as' ∧ Rep X.K F' as' (γ1 ++ [.dic (accI k ky f (i + 1))]) H'', fun H'' n => ⟨xs.length - (i + 1), by omega, rfl, hlt, n⟩, fun v H'' y => ?_⟩
    obtain ⟨F'', x'', R'', i''⟩ := g2 v H'' y
    obtain ⟨Γ2, ws, hws, hall⟩ := hb i xs[i] (List.getElem?_eq_getElem hlt)
    intro X' hB
    have hK := blkK hB
    refine (hall X' hB _ rfl).1 F'' as' (wipe σ _) H'' v (hK ▸ R'') (hK ▸ env_wipe (E.mono (((x1.trans x1').trans x').trans x'')) _) (hK ▸ i'') _ fun σ2 E2 b2 => ⟨wipe_but b2 hws, ?_⟩
    rw [hK] at E2
    intro X2 hB2
    have hK2 := blkK hB2
    refine (hall X2 hB2 _ rfl).2.1 F'' as' σ2 H'' (hK2 ▸ R'') (hK2 ▸ E2) _ fun F3 as3 H3 x3 R3 => ?_
    rw [hK2] at R3
    have xx := (x'.trans x'').trans x3
    cases hk : k i with
    | false => exact iteF ⟨F3, as3, xx, by unfold accI; rw [hk]; exact R3⟩
    | true =>
      refine iteT fun X3 hB3 => ?_
      have hK3 := blkK hB3
      obtain ⟨d, hd, e1, _⟩ := (hall X3 hB3 _ rfl).2.2 hk
      refine e1.go (hK3 ▸ R3) (hK3 ▸ E2.mono x3) fun w F4 as4 H4 x4 R4 i4 => ?_
      rw [hK3] at R4 i4
      intro X4 hB4
      have hK4 := blkK hB4
      obtain ⟨_, _, _, e2⟩ := (hall X4 hB4 _ rfl).2.2 hk
      refine e2.go (hK4 ▸ R4) (hK4 ▸ E2.mono (x3.trans x4)) fun z F5 as5 H5 x5 R5 i5 => ?_
      rw [hK4] at R5 i5
      have hw := keyD_v hd (itm_fz.mp i4)
      have hDx : as5[γ1.length]? = some D := ((xx.trans x4).trans x5).get at1
      have hc : (γ1 ++ [Cell.dic (accI k ky f i)])[γ1.length]? = some (.dic (accI k ky f i)) := by rw [List.getElem?_append_right (Nat.le_refl _)]; simp
      obtain ⟨D', k1, ks, k2, k3⟩ := R5.cellAt hc
      rw [hDx] at k1
      cases k1
      have few := accI_len k ky f i
      refine ⟨ks, ky i, hw, k2, by rw [← pr_length k3, sizeLine_eq]; omega, F5, as5, (xx.trans x4).trans x5, ?_⟩
      have R6 := R5.write (cell := .dic (putI (accI k ky f i) (ky i) (f i))) hc (by simp) hDx ⟨_, upd_same, pr_put k3 i5⟩
      have es : (γ1 ++ [Cell.dic (accI k ky f i)]).set γ1.length (.dic (putI (accI k ky f i) (ky i) (f i))) = γ1 ++ [.dic (accI k ky f (i + 1))] := by
        rw [List.set_append_right _ _ (Nat.le_refl _), Nat.sub_self]
        show γ1 ++ [Cell.dic (putI (accI k ky f i) (ky i) (f i))] = _
        rw [show accI k ky f (i + 1) = putI (accI k ky f i) (ky i) (f i) by show (if k i = true then _ else _) = _; rw [if_pos hk]]
      rw [es] at R6
      exact R6
  · have e : i = xs.length := by omega
    subst e
    exact .inl ⟨j1 (Nat.le_refl _), q _ F' as' H' ((x1.trans x1').trans x') R' (itm_cl.mpr ⟨D, x'.get at1, rfl⟩)⟩
end
end PL

namespace PL
open PySem PySem.Spec PyProof.Rows L2 PpSet
/-! ### set comprehensions, over any kind of set that can be added to -/
abbrev freshSet (w : World) : Obj := { cls := .type "set", dict := none, data := .set #[] 0 (.fresh 0 0 (!w.params.followText "set-order")) }
def AddOk (Y : Cx) {St : Type} (obj : Addr → St → HO) (Add : Hp → V → St → St → Prop) : Prop :=
  ∀ (pins : List (Addr × Obj)) (s : Shared) (σ : L2.St) (H : Hp) (E : Value → Shared → Prop) (D : Addr) (y : V) (u : Value) (st st' : St) (Q : Value → Shared → Prop), Inv Y pins σ H s → H D = some (obj D st) → Add H y st st' → RelV y u →
    (∀ s', Inv Y pins σ (upd H D (obj D st')) s' → Q .none s') → wpAny (model Y.prog Y.w) Y.A (call (.builtin "set.add") [.ref D, u]) Q E s
def tScG {St : Type} (obj : Addr → St → HO) (emp : St) (Add : Hp → V → St → St → Prop) (wi : TI) (g : TG) (tt : TT) (te : TE) (vs : List Nat) : TE := fun σ H Q => wi σ H fun J Ha => ∀ D, Ha D = none →
  ∃ W : Nat → Nat → Hp → Prop, (∃ m, W 0 m (upd Ha D (obj D emp))) ∧
    ∀ i m Hb, W i m Hb → (J.stop i Hb ∧ Q (.ref D) Hb) ∨
      (J.go i Hb ∧ ∃ Nx : Hp → Prop, (∀ Hc, Nx Hc → ∃ m', m' < m ∧ W (i + 1) m' Hc) ∧
        ∀ x Hc, J.yld i Hb x Hc → g x (wipe σ vs) Hc fun τ Hd => wipe τ vs = wipe σ vs ∧ tt τ Hd fun b He =>
          if b = true then te τ He fun y Hf => ∃ st st', Hf D = some (obj D st) ∧ Add Hf y st st' ∧ Nx (upd Hf D (obj D st')) else Nx He)
theorem pe_scG {X : Cx} {St : Type} {obj : Addr → St → HO} {emp : St} {Add : Hp → V → St → St → Prop} {elt tg iter : Expr} {ifs : List Expr} {scope : Scope} {own : List (Str × Nat)} {pos : Pos} {wi : TI} {g : TG} {tt : TT} {te : TE} (hX : Cok X) (hnew : ∀ (H : Hp) (h : Heap), ObjOk X.prog X.w H (h.push (freshSet X.w)) h.objs.size (obj h.objs.size emp))
    (hadd : ∀ (Y : Cx), Y.prog = X.prog → Y.w = X.w → Y.K = X.K → Y.A = X.A → AddOk Y obj Add) (hi : PI X tg iter wi) (ok : BlkOk X.N X.env.scope scope own)
    (hg : ∀ s H C cl fp, PG (BlkE X s H scope C cl fp) tg g) (ht : ∀ s H C cl fp, PTs (BlkE X s H scope C cl fp) ifs tt)
    (hk : ∀ s H C cl fp, PE (BlkE X s H scope C cl fp) elt te)
    (hs : ∀ x, foldedSetIterable iter X.env x = pure x := by intro _; rfl) :
    PE X (.SetComp elt [⟨tg, iter, ifs, 0⟩] scope pos) (tScG obj emp Add wi g tt te (own.map (·.2))) := by
  refine ⟨fun pins s σ H Q I h => ?_⟩
  have hcalm := hX.calm
  have hNd := hX.nd
  have caps : ∀ y ∈ scope.names, y.2 = .free → ∃ c, X.env.cells.lookup y.1 = some c := fun y hy e =>
    (ok.free y hy e).elim (fun z => I.ok.has _ (.inl z)) (fun z => I.ok.has _ (.inr z))
  rw [eval_SetComp]
  refine wpAny_comprehension_free rfl hs (closure_ok caps) ok.kind (fun y hy e => by rw [ok.uniq y hy, e]) (thn (hi.run pins s σ H _ I h) fun w sa ha => thn ha fun iv sb hb => ?_)
  obtain ⟨it, fp, tn, J, Ha, rfl, Ia, T, sta, fpa, q⟩ := hb
  refine newSet_ok (newEnv_comp ?_)
  generalize eD : sb.heap.objs.size = D
  have noD : Ha D = none := Ia.hok.fresh (Nat.le_of_eq eD)
  obtain ⟨W, ⟨m0, w0⟩, each⟩ := q D noD
  generalize es3 : ({ sb with heap := sb.heap.push (freshSet X.w) } : Shared) = sc
  have hc0 : sc.heap = sb.heap.push (freshSet X.w) := by rw [← es3]
  have Ic : Inv X pins σ (upd Ha D (obj D emp)) sc := by
    subst es3 eD
    exact Ia.laid (t' := sb.toks) (fun c o e => Heap.get?_push_of_some _ e) (Nat.le_refl _) (hnew _ sb.heap)
  have fpc : ∀ c ∈ fp, FpOk X pins (upd Ha D (obj D emp)) c ∧ c < sc.heap.objs.size := fun c hc => by
    obtain ⟨o, eo, _⟩ := T.obj _ _ sta c hc
    have lt := Heap.lt_size eo
    have neD : c ≠ D := by rw [← eD]; exact Nat.ne_of_lt lt
    exact ⟨⟨by rw [upd_ne neD]; exact (fpa c hc).1, (fpa c hc).2⟩, by rw [hc0, Heap.size_push]; exact Nat.lt_succ_of_lt lt⟩
  have stc : tn 0 sc.heap := T.keep _ _ _ sta fun c _ o e => by rw [hc0]; exact Heap.get?_push_of_some _ e
  have Id := block_start Ic ok hNd fpc
  have pg := hg sc (upd Ha D (obj D emp)) sc.heap.objs.size (cellsFrom (sc.heap.objs.size + 1) scope.names (cloFrom X.env.cells scope.names [])) fp
  have pt := ht sc (upd Ha D (obj D emp)) sc.heap.objs.size (cellsFrom (sc.heap.objs.size + 1) scope.names (cloFrom X.env.cells scope.names [])) fp
  have pk := hk sc (upd Ha D (obj D emp)) sc.heap.objs.size (cellsFrom (sc.heap.objs.size + 1) scope.names (cloFrom X.env.cells scope.names [])) fp
  unfold BlkE at pg pt pk
  have nofp : ∀ c ∈ fp, (upd Ha D (obj D emp)) c = none := fun c hc => (fpc c hc).1.1
  show codeAny _ _ (.compStart (.SetComp elt [⟨tg, iter, ifs, 0⟩] scope pos) 0 (.ref it) (.ref D) (compEnvC scope (cellsFrom (sc.heap.objs.size + 1) scope.names (cloFrom X.env.cells scope.names [])) sc.heap.objs.size X.env)) _ _
  generalize eEnv : compEnvC scope (cellsFrom (sc.heap.objs.size + 1) scope.names (cloFrom X.env.cells scope.names [])) sc.heap.objs.size X.env = env at Id pg pt pk ⊢
  have locE : env.locals = sc.heap.objs.size := by subst eEnv; rfl
  generalize eHc : upd Ha D (obj D emp) = Hc at Ic Id pg pt pk w0 nofp fpc
  generalize eSd : ({ heap := pushCells (sc.heap.push { cls := .type "dict", data := .dict #[] }) scope.names, gens := sc.gens, drawn := sc.drawn, toks := sc.toks, os := sc.os } : Shared) = sd at Id ⊢
  have std : tn 0 sd.heap := T.keep _ _ _ stc fun c _ o e => by subst eSd; exact pushCells_keeps _ _ _ _ (Heap.get?_push_of_some _ e)
  have okfp : ∀ {τ : L2.St} {Hx : Hp} {sx : Shared}, Inv (X.blk sc Hc scope env fp) [] τ Hx sx → (∀ c ∈ fp, Hx c = none) → ∀ c ∈ fp, FpOk (X.blk sc Hc scope env fp) [] Hx c := fun Ix no c hc =>
    have z := Ix.ok.exf c hc
    ⟨no c hc, z.1, Ix.ok.exfs c hc, .inl hc, fun x a e => z.2 x a e, fun y hy => by simp at hy⟩
  have loop : codeAny (model X.prog X.w) X.A (.compLoop (.SetComp elt [⟨tg, iter, ifs, 0⟩] scope pos) 0 (.ref it) (.ref D) env) (compPost (model X.prog X.w) X.A X.xe none (EP X pins σ Q) (.ref D) sc.heap.objs.size) sd := by
    refine compLoopS_any (fun n sx => ∃ i Hx, Inv (X.blk sc Hc scope env fp) [] (wipe σ (own.map (·.2))) Hx sx ∧ tn i sx.heap ∧ (∀ c ∈ fp, Hx c = none) ∧ W i n Hx) (fun n sx hx => ?_) m0 ⟨0, Hc, Id, std, nofp, w0⟩
    obtain ⟨i, Hx, Ix, stx, nox, wx⟩ := hx
    rcases each i n Hx wx with ⟨stop, done⟩ | ⟨go, Nx, back, turn⟩
    · refine thnF (T.done (X.blk sc Hc scope env fp) rfl rfl rfl hcalm i [] sx _ Hx (fun _ _ => False) Ix (okfp Ix nox) stx stop) fun r sy hy => ?_
      obtain ⟨rfl, Iy⟩ := hy
      -- back in the def
      have Iz : Inv X pins σ Hx sy := Ic.call' (ch := fp) Iy.os Iy.base Iy.hok Iy.bare fun c hc =>
        have z := (fpc c hc).1.2
        ⟨z.2.2.1, z.1, z.2.2.2.1, z.2.2.2.2⟩
      have free : Hx env.locals = none := Iy.free
      obtain ⟨m, hm, _⟩ := Iy.loc
      have hm : sy.heap.Ns env.locals m := hm
      rw [locE] at free hm
      obtain ⟨k0, k1, k2, k3, k4, k5⟩ := Ic.fpOk (Nat.le_refl _) free
      exact ⟨m, hm, fun h2 sb2 => ⟨.ref D, Hx, Iz.turned (t' := sy.toks) (fun c o hc e => (sb2.2 c hc).trans e) k0 k1 k3 k4 k5, rfl, done⟩⟩
    · refine thnF (T.item (X.blk sc Hc scope env fp) rfl rfl rfl hcalm i [] sx _ Hx (fun _ _ => False) Ix (okfp Ix nox) stx go) fun r sy hy => ?_
      obtain ⟨u, rfl, hy⟩ := hy
      refine thnF hy fun _ sz hz => ?_
      obtain ⟨x, Hz, Iz, rz, yz, stz, noz⟩ := hz
      have Iz' := Iz.pinned (okfp Iz noz) (T.obj _ _ stz)
      refine thnF (pg.run _ sz _ Hz x u _ Iz' rz (turn x Hz yz)) fun _ s1 h1 => ?_
      obtain ⟨τ, H1, I1, e1, q1⟩ := h1
      refine thnF (pt.run _ s1 τ H1 _ I1 q1) fun b s2 h2 => ?_
      obtain ⟨H2, I2, q2⟩ := h2
      have over : ∀ {sw : Shared} {Hw : Hp}, Inv (X.blk sc Hc scope env fp) ([] ++ pinsAt fp sz.heap) τ Hw sw → Nx Hw →
          ∃ m, m < n ∧ ∃ i Hx, Inv (X.blk sc Hc scope env fp) [] (wipe σ (own.map (·.2))) Hx sw ∧ tn i sw.heap ∧ (∀ c ∈ fp, Hx c = none) ∧ W i m Hx := fun {sw Hw} Iw nw => by
        obtain ⟨m', lt, ww⟩ := back Hw nw
        have held : ∀ c ∈ fp, ∀ o, sz.heap.get? c = some o → sw.heap.get? c = some o ∧ Hw c = none := fun c hc o e => by
          have z := Iw.pin (c, o) (List.mem_append_right _ (List.mem_append_right _ (mem_pinsAt hc e)))
          exact ⟨z.1, z.2.1⟩
        have same : (wipe σ (own.map (·.2))).length = τ.length := by rw [← e1, wipe_length]
        refine ⟨m', lt, i + 1, Hw, (Iw.unpinned (pins := [])).weak same fun j v e => ?_, T.keep _ _ _ stz fun c hc o e => (held c hc o e).1, fun c hc => ?_, ww⟩
        · rw [← e1] at e; exact (wipe_some e).1
        · obtain ⟨o, e, _⟩ := T.obj _ _ stz c hc
          exact (held c hc o e).2
      cases b with
      | false =>
        simp only [Bool.false_eq_true, if_false] at q2 ⊢
        exact over I2 q2
      | true =>
        simp only [if_true] at q2 ⊢
        refine thnF (pk.run _ s2 τ H2 _ I2 q2) fun w1 s3 h3 => ?_
        obtain ⟨y, H3, I3, r3, st, st', h6, h7, nw⟩ := h3
        exact hadd (X.blk sc Hc scope env fp) rfl rfl rfl rfl _ s3 τ H3 _ D y w1 st st' _ I3 h6 h7 r3 fun s5 I5 => over I5 nw
  exact codeAny_compStart_set loop (T.self X.A 0 _ _ _ std loop)
end PL

namespace PL
open PySem PySem.Spec PyProof.Rows L2 PpSet
/-! ### sets of ints and texts -/
/-- whether a key stands in a list -/
def memB {κ : Type} [DecidableEq κ] (L : List κ) (j : κ) : Bool := L.any fun z => decide (z = j)
theorem memB_iff {κ : Type} [DecidableEq κ] {L : List κ} {j : κ} : memB L j = true ↔ j ∈ L := by
  unfold memB
  rw [List.any_eq_true]
  constructor
  · rintro ⟨z, hz, e⟩
    have : z = j := of_decide_eq_true e
    exact this ▸ hz
  · intro h; exact ⟨j, h, decide_eq_true rfl⟩
def setC (P : Program) (w : World) (L : List Key) : Cell := .raw fun a => SetK P w a (memB L) L.length
def addL {κ : Type} [DecidableEq κ] (L : List κ) (k : κ) : List κ := if memB L k = true then L else L ++ [k]
def objK (P : Program) (w : World) (a : Addr) (L : List Key) : HO := SetK P w a (memB L) L.length
def AddK : Hp → V → List Key → List Key → Prop := fun _ y L L' => ∃ k, y = kV k ∧ L.length + 1 < scanBound ∧ L' = addL L k
theorem addK_ok (Y : Cx) : AddOk Y (objK Y.prog Y.w) AddK := by
  rintro pins s σ H E D y u L L' Q I hD ⟨k, rfl, room, rfl⟩ ry h
  refine call_set_add (kV_is ry) (key_scan ry) (setK_get I hD) room fun h' sb new => ?_
  have he : ∃ o, h'.get? D = some o := by
    have ⟨o, _, _, _, ho, _⟩ := new
    exact ⟨o, ho⟩
  have e1 : (fun j => memB L j || decide (j = k)) = memB (addL L k) := by
    funext j
    unfold addL
    by_cases hk : memB L k = true
    · rw [if_pos hk]
      by_cases hj : j = k
      · subst hj; simp [hk]
      · simp [hj]
    · rw [if_neg hk]
      unfold memB
      rw [List.any_append]
      simp [eq_comm]
  have e2 : (if memB L k = true then L.length else L.length + 1) = (addL L k).length := by
    unfold addL
    by_cases hk : memB L k = true <;> simp [hk]
  rw [e1, e2] at new
  exact h _ (I.write (e := D) (t' := s.toks + 1) (by rw [hD]; trivial) (.inl rfl) (fun b o hb ho => (sb.2 b hb).trans ho) he (setK_new new))
theorem newK_ok (P : Program) (w : World) (H : Hp) (h : Heap) : ObjOk P w H (h.push (freshSet w)) h.objs.size (objK P w h.objs.size []) := by
  have new : (h.push (freshSet w)).SetOf (mixKind P w) h.objs.size (fun _ => false) 0 :=
    ⟨_, #[], 0, _, Heap.get?_push_size _ rfl, ⟨rfl, rfl, rfl⟩, rfl, (fun e he => by simp at he), (fun k => by simp), (by decide), (by rfl), rfl⟩
  have e : memB ([] : List Key) = fun _ => false := by funext j; rfl
  show ObjOk P w H _ _ (SetK P w h.objs.size (memB ([] : List Key)) 0)
  rw [e]
  exact setK_new new
def rLenK (P : Program) (w : World) : List V → Hp → VK → Prop := fun vs H Q => ∃ (a : Addr) (L : List Key), vs = [V.ref a] ∧ H a = some (objK P w a L) ∧ Q (.int (L.length : Int)) H
theorem cr_lenK {X : Cx} : CallR X (.builtin "len") (rLenK X.prog X.w) := by
  rintro pins s σ H xs us Q I r ⟨a, L, rfl, ha, q⟩
  rw [Vals.ref1 r]
  obtain ⟨o, es, ep, t, ho, hex, hd, _, _, hsz, hf, hn⟩ := setK_get I ha
  have big : scanBound < 2 ^ 63 := by decide
  refine call_len_set ho hex hd hf (by omega) ⟨.int (L.length : Int), H, I.tok _, ⟨_, by rw [hn]⟩, q⟩
def keysL (ky : Nat → Key) : Nat → List Key
  | 0 => []
  | n + 1 => addL (keysL ky n) (ky n)
theorem addL_len {κ : Type} [DecidableEq κ] (L : List κ) (k : κ) : (addL L k).length ≤ L.length + 1 := by
  unfold addL; split
  · omega
  · simp
theorem keysL_len (ky : Nat → Key) : ∀ n, (keysL ky n).length ≤ n
  | 0 => Nat.le_refl _
  | n + 1 => Nat.le_trans (addL_len _ _) (by have := keysL_len ky n; omega)
section
variable {X : Cx} {Γ : Slots} {γ γ1 : Cells} {tg it elt a : Expr} {xs : List Itm} {stab : Cells → Prop} {scope : Scope} {own : List (Str × Nat)} {pos p : Pos}
/-- a set comprehension of keys whose parts change nothing: the set in a cell -/
theorem ev_scK (ky : Nat → Key) (hX : Cok X) (ok : BlkOk X.N X.env.scope scope own) (hi : ITV X Γ γ tg it xs stab γ1) (hst : ∀ o, stab (γ1 ++ [o])) (hsz : xs.length < 1000)
    (hb : ∀ i x, xs[i]? = some x → ∃ Γ2 ws, (∀ j ∈ ws, j ∈ own.map (·.2)) ∧ ∀ X', Blk X scope X' → ∀ G, G = γ1 ++ [setC X.prog X.w (keysL ky i)] →
      GV X' G (wipeS Γ (own.map (·.2))) tg x Γ2 ws ∧ ∃ d, keyD d = some (ky i) ∧ EV X' Γ2 G elt (.fz d) G)
    (hs : ∀ x, foldedSetIterable it X.env x = pure x := by intro _; rfl) :
    EV X Γ γ (.SetComp elt [⟨tg, it, [], 0⟩] scope pos) (.cl γ1.length) (γ1 ++ [setC X.prog X.w (keysL ky xs.length)]) := .mk fun F as σ H R E Q q => by
  refine ⟨_, pe_scG (obj := objK X.prog X.w) (emp := []) (Add := AddK) hX (newK_ok X.prog X.w) (fun Y h1 h2 h3 h4 => by rw [← h1, ← h2]; exact addK_ok Y) pi_wp ok (wbG_ok X scope tg) (wbT_ok X scope []) (wbE_ok X scope elt) hs, hi F as σ H R E _ fun J F1 as1 H1 x1 R1 hJ D hD => ?_⟩
  have l1 : as1.length = γ1.length := R1.len
  have R1' := R1.newCell (cell := setC X.prog X.w []) (o := objK X.prog X.w D []) hD ⟨upd_same, fun vs e => by simp [objK, SetK] at e⟩
  have at1 : (as1 ++ [D])[γ1.length]? = some D := by rw [← l1, List.getElem?_append_right (Nat.le_refl _)]; simp
  have x1' : Ext F1 as1 F1 (as1 ++ [D]) := ⟨Same.refl F1, [D], rfl⟩
  refine ⟨fun i m H' => m = xs.length - i ∧ i ≤ xs.length ∧ ∃ F' as', Ext F1 (as1 ++ [D]) F' as' ∧ Rep X.K F' as' (γ1 ++ [setC X.prog X.w (keysL ky i)]) H', ⟨xs.length, by simp, Nat.zero_le _, F1, as1 ++ [D], Ext.refl _ _, R1'⟩, ?_⟩
  rintro i m H' ⟨rfl, hle, F', as', x', R'⟩
  obtain ⟨j1, j2⟩ := hJ i F' as' _ H' (x1'.trans x') R' (hst _)
  by_cases hlt : i < xs.length
  · obtain ⟨g1, g2⟩ := j2 xs[i] (List.getElem?_eq_getElem hlt)
    refine .inr ⟨g1, fun H'' => ∃ F' as', Ext F1 (as1 ++ [D]) F' as' ∧ Rep X.K F' as' (γ1 ++ [setC X.prog X.w (keysL ky (i + 1))]) H'', fun H'' n => ⟨xs.length - (i + 1), by omega, rfl, hlt, n⟩, fun v H'' y => ?_⟩
    obtain ⟨F'', x'', R'', i''⟩ := g2 v H'' y
    obtain ⟨Γ2, ws, hws, hall⟩ := hb i xs[i] (List.getElem?_eq_getElem hlt)
    intro X' hB
    have hK := blkK hB
    refine (hall X' hB _ rfl).1 F'' as' (wipe σ _) H'' v (hK ▸ R'') (hK ▸ env_wipe (E.mono (((x1.trans x1').trans x').trans x'')) _) (hK ▸ i'') _ fun σ2 E2 b2 => ⟨wipe_but b2 hws, ?_⟩
    rw [hK] at E2
    intro X2 hB2
    have hK2 := blkK hB2
    refine tvs_nil (X := X2) (Γ := Γ2) F'' as' σ2 H'' (hK2 ▸ R'') (hK2 ▸ E2) _ fun F3 as3 H3 x3 R3 => ?_
    rw [hK2] at R3
    have xx := (x'.trans x'').trans x3
    refine iteT fun X3 hB3 => ?_
    have hK3 := blkK hB3
    obtain ⟨_, d, hd, e1⟩ := hall X3 hB3 _ rfl
    refine e1.go (hK3 ▸ R3) (hK3 ▸ E2.mono x3) fun w F4 as4 H4 x4 R4 i4 => ?_
    rw [hK3] at R4 i4
    have hw := keyD_v hd (itm_fz.mp i4)
    have hDx : as4[γ1.length]? = some D := (xx.trans x4).get at1
    have hc : (γ1 ++ [setC X.prog X.w (keysL ky i)])[γ1.length]? = some (setC X.prog X.w (keysL ky i)) := by rw [List.getElem?_append_right (Nat.le_refl _)]; simp
    obtain ⟨D', k1, k2⟩ := R4.cellAt hc
    rw [hDx] at k1
    cases k1
    have few := keysL_len ky i
    have big : 2000 < scanBound := by decide
    refine ⟨keysL ky i, keysL ky (i + 1), k2.1, ⟨ky i, hw, by omega, rfl⟩, F4, as4, xx.trans x4, ?_⟩
    have R6 := R4.write (cell := setC X.prog X.w (keysL ky (i + 1))) (o := objK X.prog X.w D (keysL ky (i + 1))) hc (by unfold setC; simp) hDx ⟨upd_same, fun vs e => by simp [objK, SetK] at e⟩
    have es : (γ1 ++ [setC X.prog X.w (keysL ky i)]).set γ1.length (setC X.prog X.w (keysL ky (i + 1))) = γ1 ++ [setC X.prog X.w (keysL ky (i + 1))] := by
      rw [List.set_append_right _ _ (Nat.le_refl _), Nat.sub_self]
      rfl
    rw [es] at R6
    exact R6
  · have e : i = xs.length := by omega
    subst e
    exact .inl ⟨j1 (Nat.le_refl _), q _ F' as' H' ((x1.trans x1').trans x') R' (itm_cl.mpr ⟨D, x'.get at1, rfl⟩)⟩
theorem ev_lenK {L : List Key} {cc : Nat} (bt : Bt X "len") (ha : EV X Γ γ a (.cl cc) γ1) (hc : γ1[cc]? = some (setC X.prog X.w L)) (hs : starEach [a] X.env = (false, eval a X.env) :: starEach [] X.env := by rfl) : EV X Γ γ (.Call (.Name "len" p) [a] [] pos) (.fz (.int (L.length : Int))) γ1 :=
  ev_callB cr_lenK bt (by decide +kernel) (av_cons ha av_nil hs) (fun F as H vs R i Q q => by
    obtain ⟨v, rfl, h⟩ := itms1 i
    obtain ⟨D, hD, rfl⟩ := itm_cl.mp h
    obtain ⟨D', k1, k2⟩ := R.cellAt hc
    rw [hD] at k1
    cases k1
    exact ⟨D, L, rfl, k2.1, q _ F as H (Ext.refl F as) R (itm_int.mpr rfl)⟩) (he := hs)
end
end PL

namespace PL
open PySem PySem.Spec PyProof.Rows L2
/-! ### dict(pairs), list(dict): keys ints and texts -/
def kD : Key → PyData
  | .inl i => .int i
  | .inr z => .str z
theorem kD_key (k : Key) : keyD (kD k) = some k := by cases k <;> rfl
theorem dq_key {K F} (k : Key) : Dq K F (kV k) (kD k) := by
  cases k with
  | inl i => exact .int i
  | inr z => exact .str z
def pairsD (prs : List (Key × PyData)) : List PyData := prs.map fun y => .tuple [kD y.1, y.2]
theorem dq_prs {K F as} : ∀ {prs : List (Key × PyData)} {vs : List V}, DqAll K F vs (pairsD prs) → ∃ (ts : List Addr) (ks : List (Key × V)), vs = ts.map V.ref ∧ Paired (fun t kv => F t = some (.tup [kV kv.1, kv.2])) ts ks ∧ PrI K F as Key (prs.map fun y => (y.1, Itm.fz y.2)) ks
  | [], _, .nil => ⟨[], [], rfl, .nil, .nil⟩
  | y :: prs, _, .cons h t => by
    obtain ⟨ts, ks, e1, e2, e3⟩ := dq_prs (as := as) t
    cases h with
    | @tup A vs _ hA hr =>
      cases hr with
      | @cons v1 _ _ _ h1 hr =>
        cases hr with
        | @cons v2 _ _ _ h2 hr =>
          cases hr
          have ev := keyD_v (kD_key y.1) h1
          exact ⟨A :: ts, (y.1, v2) :: ks, by rw [e1]; rfl, .cons (by rw [hA, ev]) e2, .cons ⟨rfl, .fz h2⟩ e3⟩
theorem paired_imp' {α β : Type} {R S : α → β → Prop} (f : ∀ a b, R a b → S a b) : ∀ {xs : List α} {ys : List β}, Paired R xs ys → Paired S xs ys
  | _, _, .nil => .nil
  | _, _, .cons h t => .cons (f _ _ h) (paired_imp' f t)
section
variable {X : Cx} {Γ : Slots} {γ γ1 : Cells} {a : Expr} {r : Itm} {pos p : Pos}
theorem ev_dictP {prs : List (Key × PyData)} (hX : Cok X) (bt : Bt X "dict") (ha : EV X Γ γ a r γ1) (hr : Rdb γ1 r (.list (pairsD prs))) (hs : starEach [a] X.env = (false, eval a X.env) :: starEach [] X.env := by rfl) :
    EV X Γ γ (.Call (.Name "dict" p) [a] [] pos) (.cl γ1.length) (γ1 ++ [.dic (mergeI [] (prs.map fun y => (y.1, Itm.fz y.2)))]) :=
  ev_callTy (call_dictP hX.calm) bt (by decide +kernel) (av_cons ha av_nil hs) (fun F as H vs R i Q q => by
    obtain ⟨v, rfl, h⟩ := itms1 i
    obtain ⟨l, us, rfl, k1, k2⟩ := hr.list R h
    obtain ⟨ts, ks, rfl, e2, e3⟩ := dq_prs (as := as) k2
    refine ⟨l, ts, ks, rfl, k1, paired_imp' (fun t kv e => SqT.of (R.fr _ _ e)) e2, fun D hD => ?_⟩
    have R2 := R.newCell (cell := .dic (mergeI [] (prs.map fun y => (y.1, Itm.fz y.2)))) (o := .dK (mergeK [] ks)) hD ⟨_, upd_same, pr_merge (paired_mono ⟨Same.refl F, [D], rfl⟩ e3) .nil⟩
    exact q _ F (as ++ [D]) _ ⟨Same.refl F, [D], rfl⟩ R2 (itm_cl.mpr ⟨D, by rw [← R.len, List.getElem?_append_right (Nat.le_refl _)]; simp, rfl⟩)) (he := hs)
theorem dq_keys {K F as} : ∀ {kvs : List (Key × Itm)} {ks : List (Key × V)}, PrI K F as Key kvs ks → DqAll K F (ks.map fun kv => kV kv.1) (kvs.map fun kv => kD kv.1)
  | _, _, .nil => .nil
  | (k1, _) :: _, (k2, _) :: _, .cons h t => by
    have e : k1 = k2 := h.1
    subst e
    exact .cons (dq_key k1) (dq_keys t)
theorem ev_listK {kvs : List (Key × Itm)} {cc : Nat} (hX : Cok X) (bt : Bt X "list") (ha : EV X Γ γ a (.cl cc) γ1) (hc : γ1[cc]? = some (.dic kvs)) (hs : starEach [a] X.env = (false, eval a X.env) :: starEach [] X.env := by rfl) :
    EV X Γ γ (.Call (.Name "list" p) [a] [] pos) (.fz (.list (kvs.map fun kv => kD kv.1))) γ1 :=
  ev_callTy (call_listD hX.calm) bt (by decide +kernel) (av_cons ha av_nil hs) (fun F as H vs R i Q q => by
    obtain ⟨v, rfl, h⟩ := itms1 i
    obtain ⟨D, hD, rfl⟩ := itm_cl.mp h
    obtain ⟨D', k1, ks, k2, k3⟩ := R.cellAt hc
    rw [hD] at k1
    cases k1
    refine ⟨D, ks, rfl, .inl k2, fun l hl => ?_⟩
    exact q _ (upd F l (.lst (ks.map fun kv => kV kv.1))) as _ ⟨R.sameNew _ hl, [], by simp⟩ (R.new _ hl) (itm_lst.mpr ⟨l, _, rfl, SqL.of upd_same, dpAll_mono (R.sameNew _ hl) (dq_keys k3)⟩)) (he := hs)
variable {o e b : Expr} {P : EPost}
/-! ### texts, by what follows -/
theorem ee_join {apos : Pos} (h : EE X Γ γ o fun ro g1 => ∃ s, ro = .fz (.str s) ∧ EE X Γ g1 e fun r g2 => ∃ ys : List Str, Rdb g2 r (.list (ys.map .str)) ∧ (ys.map (·.length)).sum + ys.length * s.length ≤ 1000000 ∧ P (.fz (.str (Txt.join s ys))) g2)
    (hs : starEach [e] X.env = [(false, eval e X.env)] := by rfl) (hbase : attributeBase o "join" X.env (eval o X.env) = eval o X.env := by rfl) (hline : (apos.endLine == pos.line) = true := by rfl) :
    EE X Γ γ (.Call (.Attribute o "join" apos) [e] [] pos) P := fun F as σ H R E Q q => by
  refine ⟨_, pe_join pe_wp pe_wp hs hbase hline, h F as σ H R E _ fun v ro g1 F1 as1 H1 h1 x1 R1 i1 => ?_⟩
  obtain ⟨s, rfl, h2⟩ := h1
  refine ⟨⟨s, itm_str.mp i1⟩, h2 F1 as1 σ H1 R1 (E.mono x1) _ fun u r g2 F2 as2 H2 h3 x2 R2 i2 => ?_⟩
  obtain ⟨ys, hr, hz, hp⟩ := h3
  obtain ⟨l, rfl, hl⟩ := hr.strs R2 i2
  exact ⟨s, l, ys, itm_str.mp (itm_mono x2 i1), rfl, .inl hl, by omega, q _ _ _ F2 as2 H2 hp (x1.trans x2) R2 (itm_str.mpr rfl)⟩
theorem ee_ixS (h : EE X Γ γ a fun ra g1 => EE X Γ g1 b fun rb g2 => ∃ z i cp, ra = .fz (.str z) ∧ rb = .fz (.int i) ∧ z.length ≤ sizeLine ∧ atI z.cps.toList i = some cp ∧ P (.fz (.str ⟨#[cp]⟩)) g2) (hs : PlainIx b := by exact fun _ _ => rfl) : EE X Γ γ (.Subscript a b pos) P := fun F as σ H R E Q q => by
  refine ⟨_, pe_ix ix_str pe_wp pe_wp hs, h F as σ H R E _ fun v ra g1 F1 as1 H1 h1 x1 R1 i1 => h1 F1 as1 σ H1 R1 (E.mono x1) _ fun u rb g2 F2 as2 H2 h2 x2 R2 i2 => ?_⟩
  obtain ⟨z, i, cp, rfl, rfl, hz, hi, hp⟩ := h2
  exact ⟨z, i, cp, itm_str.mp (itm_mono x2 i1), itm_int.mp i2, hz, hi, q _ _ _ F2 as2 H2 hp (x1.trans x2) R2 (itm_str.mpr rfl)⟩
/-- a, b = a list of data -/
theorem gv_lst {γ : Cells} {Γ Γ' : Slots} {es : List Expr} {ds : List PyData} {kk n : Nat} {ws : List Nat} {ra : Itm} (hX : Cok X) (hr : Rdb γ ra (.list ds)) (h : GVs X γ Γ es (ds.map Itm.fz) Γ' ws) (hl : ds.length = n) (hn : (assignEach es X.env).length = n := by rfl) (hst : (assignEach es X.env).findIdx? (·.1) = none := by rfl) :
    GV X γ Γ (.Tuple es kk pos) ra Γ' ws := fun F as σ H v R E I Q q => by
  obtain ⟨a, vs, rfl, h1, h2⟩ := hr.list R I
  exact ⟨_, pg_lst (n := n) hX.calm pgs_wp hn hst, a, vs, rfl, h1, (dpAll_length h2).trans hl, h F as σ H vs R E (itms_of_dp h2) Q q⟩
theorem ee_sorted (bt : Bt X "sorted") (h : EE X Γ γ a fun r g => ∃ ns : List Int, Rdb g r (.list (ns.map .int)) ∧ P (.fz (.list ((srt ns).map .int))) g) (hs : starEach [a] X.env = (false, eval a X.env) :: starEach [] X.env := by rfl) : EE X Γ γ (.Call (.Name "sorted" p) [a] [] pos) P := fun F as σ H R E Q q => by
  refine ⟨_, pe_callB cr_sortedI bt.gl bt.mg (by decide +kernel) (pa_cons pe_wp pa_nil hs) (by decide) (by decide) hs, h F as σ H R E _ fun v r g F1 as1 H1 h1 x1 R1 i1 => ?_⟩
  obtain ⟨ns, hr, hp⟩ := h1
  obtain ⟨l, rfl, hl⟩ := hr.ints R1 i1
  refine ⟨l, ns, rfl, hl, fun ns' t m1 m2 ht => ?_⟩
  rw [srt_only m1 m2]
  exact q _ _ _ (upd F1 t (.lst ((srt ns).map V.int))) as1 _ hp (x1.trans ⟨R1.sameNew _ ht, [], by simp⟩) (R1.new _ ht) (itm_lst.mpr ⟨t, _, rfl, SqL.of upd_same, dpAll_ints _⟩)
theorem srt_three {ns : List Int} (h : ns.length = 3) : ∃ x y z, srt ns = [x, y, z] ∧ x ≤ y ∧ y ≤ z ∧ x ∈ ns ∧ y ∈ ns ∧ z ∈ ns := by
  have hl := (srt_perm ns).length_eq
  rw [h] at hl
  match e : srt ns, hl with
  | [x, y, z], _ =>
    have hp := srt_le ns
    rw [e] at hp
    have m : ∀ w ∈ [x, y, z], w ∈ ns := fun w hw => (srt_perm ns).mem_iff.mp (e ▸ hw)
    simp at hp
    exact ⟨x, y, z, rfl, hp.1.1, hp.2, m x (by simp), m y (by simp), m z (by simp)⟩
end
end PL

namespace PL
open PySem PySem.Spec PyProof.Rows L2
section
variable {X : Cx} {Γ : Slots} {γ : Cells} {rest : List Stmt} {R : SE}
/-- a pair of lists in cells is frozen -/
theorem SVs.freezePair {i c d : Nat} {ds es : List PyData} (hi : Γ[i]? = some (some (.tp [.cl c, .cl d]))) (hc : γ[c]? = some (.lst (ds.map Itm.fz))) (hd : γ[d]? = some (.lst (es.map Itm.fz))) (hne : c ≠ d)
    (h : SVs X (Γ.set i (some (.fz (.tuple [.list ds, .list es])))) ((γ.set c .dead).set d .dead) rest R) : SVs X Γ γ rest R := fun F as σ H D Rp E C => by
  obtain ⟨v, hv, hr⟩ := E.2 i _ hi
  cases hr with
  | @tp A vs _ hA hvs =>
    obtain ⟨v1, v2, rfl, i1, i2⟩ := itms2 hvs
    obtain ⟨a, ha, rfl⟩ := itm_cl.mp i1
    obtain ⟨b, hb, rfl⟩ := itm_cl.mp i2
    obtain ⟨a', k1, us, k2, k3⟩ := Rp.cellAt hc
    rw [ha] at k1
    cases k1
    obtain ⟨b', l1, ws, l2, l3⟩ := Rp.cellAt hd
    rw [hb] at l1
    cases l1
    obtain ⟨R1, sm1⟩ := Rp.freeze hc (by simp) ha k2
    have hd1 : (γ.set c Cell.dead)[d]? = some (.lst (es.map Itm.fz)) := by rw [List.getElem?_set_ne hne]; exact hd
    obtain ⟨R2, sm2⟩ := R1.freeze hd1 (by simp) hb l2
    have x1 : Ext F as (upd F a (.lst us)) as := ⟨sm1, [], by simp⟩
    have x2 : Ext (upd F a (.lst us)) as (upd (upd F a (.lst us)) b (.lst ws)) as := ⟨sm2, [], by simp⟩
    refine h _ as σ H D R2 ?_ (C.mono (x1.trans x2))
    have q1 : Dq X.K (upd (upd F a (.lst us)) b (.lst ws)) (.ref a) (.list ds) := dp_mono sm2 (.lst (SqL.of upd_same) (dpAll_mono sm1 (itms_fz k3)))
    have q2 : Dq X.K (upd (upd F a (.lst us)) b (.lst ws)) (.ref b) (.list es) := .lst (SqL.of upd_same) (dpAll_mono (x1.trans x2).1 (itms_fz l3))
    have E2 := (E.mono (x1.trans x2)).set (i := i) (v := .ref A) (itm_tup.mpr ⟨A, _, rfl, (x1.trans x2).1 _ _ hA, .cons q1 (.cons q2 .nil)⟩)
    have es2 : σ.set i (some (.ref A)) = σ := by
      apply List.ext_getElem?
      intro j
      by_cases hj : i = j
      · subst hj
        rw [List.getElem?_set_self (List.getElem?_eq_some_iff.mp hv).1, hv]
      · rw [List.getElem?_set_ne hj]
    rw [es2] at E2
    exact E2
variable {a b : Expr} {γ1 γ2 : Cells} {pos : Pos}
/-- tuples put together, neither empty -/
theorem ev_catT {ds es : List PyData} (ha : EV X Γ γ a (.fz (.tuple ds)) γ1) (hb : EV X Γ γ1 b (.fz (.tuple es)) γ2) (h1 : ds ≠ []) (h2 : es ≠ []) (hz : ds.length + es.length ≤ 1000000) : EV X Γ γ (.BinOp a .Add b pos) (.fz (.tuple (ds ++ es))) γ2 :=
  ev_op op_catT ha hb fun F as H x y R hx hy Q q => by
    obtain ⟨l, us, rfl, p1, p2⟩ := itm_tup.mp hx
    obtain ⟨l', us', rfl, p1', p2'⟩ := itm_tup.mp hy
    have e := dpAll_length p2
    have e' := dpAll_length p2'
    have n1 : us ≠ [] := fun z => h1 (by subst z; cases p2; rfl)
    have n2 : us' ≠ [] := fun z => h2 (by subst z; cases p2'; rfl)
    refine ⟨l, l', us, us', rfl, rfl, SqT.of (R.fr _ _ p1), SqT.of (R.fr _ _ p1'), n1, by rw [sizeLine_eq]; omega, fun z => (n2 z).elim, fun _ t ht => ?_⟩
    exact q _ (upd F t (.tup (us ++ us'))) as _ ⟨R.sameNew _ ht, [], by simp⟩ (R.new _ ht) (itm_tup.mpr ⟨t, _, rfl, upd_same, dpAll_mono (R.sameNew _ ht) (dpAll_append p2 p2')⟩)
end
end PL

namespace PL
open PySem PySem.Spec PyProof.Rows L2
/-! ### list(zip(xs, ys)) -/
namespace LZ
theorem zip_no_len : typeLookup (.type "zip") "__len__" = pure none := by rw [typeLookup_type, builtinLookup_eq_fast]; kernel_rfl
theorem zip_no_hint : typeLookup (.type "zip") "__length_hint__" = pure none := by rw [typeLookup_type, builtinLookup_eq_fast]; kernel_rfl
/-- how the zip object at z stands when i items were taken -/
def ZS (z TI TO i1 i2 a b : Addr) (i : Nat) (h : Heap) : Prop :=
  ((IsZip h z TI TO .none ∧ ∃ x y, IsPair h TO x y) ∨ ∃ T f oT, IsZipHeld h z TI TO T f ∧ h.get? T = some oT) ∧ IsPair h TI (.ref i1) (.ref i2) ∧ h.IsListIter i1 a i ∧ h.IsListIter i2 b i ∧ ∃ o, h.get? TO = some o
theorem ZS.keep {z TI TO i1 i2 a b q : Addr} {i : Nat} {h h' : Heap} (S : ZS z TI TO i1 i2 a b i h) (n1 : z ≠ q) (n2 : TI ≠ q) (n3 : TO ≠ q) (n4 : i1 ≠ q) (n5 : i2 ≠ q)
    (k : ∀ c o, c ≠ q → h.get? c = some o → h'.get? c = some o) (kq : ∀ o, h.get? q = some o → ∃ o', h'.get? q = some o') : ZS z TI TO i1 i2 a b i h' := by
  obtain ⟨S1, S2, S3, S4, oTO, S5⟩ := S
  refine ⟨?_, k _ _ n2 S2, S3.at fun o e => k _ _ n4 e, S4.at fun o e => k _ _ n5 e, oTO, k _ _ n3 S5⟩
  rcases S1 with ⟨e1, x, y, e2⟩ | ⟨T, f, oT, e1, e2⟩
  · exact .inl ⟨k _ _ n1 e1, x, y, k _ _ n3 e2⟩
  · by_cases hT : T = q
    · subst hT
      obtain ⟨o', e'⟩ := kq _ e2
      exact .inr ⟨T, f, o', k _ _ n1 e1, e'⟩
    · exact .inr ⟨T, f, oT, k _ _ n1 e1, k _ _ hT e2⟩
variable {X : Cx} {pins : List (Addr × Obj)} {σ : L2.St}
/-- one item more -/
theorem zs_next {z TI TO i1 i2 a b : Addr} {i : Nat} {s : Shared} {xs ys : Array Value} {x y : Value} {A : Around} {E : Value → Shared → Prop} {Q : Option Value → Shared → Prop} (D : ZipApart z TI TO i1 i2 a b) (S : ZS z TI TO i1 i2 a b i s.heap)
    (ha : s.heap.IsList a xs) (hb : s.heap.IsList b ys) (hx : xs[i]? = some x) (hy : ys[i]? = some y)
    (hQ : ∀ h', ZS z TI TO i1 i2 a b (i + 1) h' → IsPair h' s.heap.objs.size x y → h'.objs.size = s.heap.objs.size + 1 → (∀ c o, c ≠ z → c ≠ TO → c ≠ i1 → c ≠ i2 → s.heap.get? c = some o → h'.get? c = some o) → Q (some (.ref s.heap.objs.size)) { s with heap := h' }) :
    wpAny (model X.prog X.w) A (pyNext (.ref z)) Q E s := by
  obtain ⟨S1, S2, S3, S4, oTO, S5⟩ := S
  rcases S1 with ⟨e1, x0, y0, e2⟩ | ⟨T, f, oT, e1, e2⟩
  · exact wpAny_pyNext_zip_item D e1 S2 e2 S3 S4 ha hb hx hy fun h' c1 c2 c3 c4 c5 c6 c7 => hQ h' ⟨.inr ⟨_, _, _, c1, c5⟩, c7 _ _ D.TIz D.TITO D.TIi1 D.TIi2 S2, c3, c4, _, c2⟩ c5 c6 c7
  · exact wpAny_pyNext_zip_item_held D e1 e2 S2 S3 S4 ha hb hx hy fun h' c1 c3 c4 c5 c6 c7 => by
      have hT : ∃ o, h'.get? T = some o := by
        by_cases n1 : T = z
        · exact ⟨_, by rw [n1]; exact c1⟩
        by_cases n2 : T = i1
        · obtain ⟨o, e, _⟩ := c3
          exact ⟨o, n2 ▸ e⟩
        by_cases n3 : T = i2
        · obtain ⟨o, e, _⟩ := c4
          exact ⟨o, n3 ▸ e⟩
        exact ⟨_, c7 _ _ n1 n2 n3 e2⟩
      obtain ⟨o, hT⟩ := hT
      exact hQ h' ⟨.inr ⟨T, true, o, c1, hT⟩, c7 _ _ D.TIz D.TIi1 D.TIi2 S2, c3, c4, oTO, c7 _ _ D.TOz D.TOi1 D.TOi2 S5⟩ c5 c6 fun c o n1 _ n3 n4 e => c7 c o n1 n3 n4 e
theorem zs_end {z TI TO i1 i2 a b : Addr} {i : Nat} {s : Shared} {xs ys : Array Value} {A : Around} {E : Value → Shared → Prop} {Q : Option Value → Shared → Prop} (hh : A.handled = none) (D : ZipApart z TI TO i1 i2 a b) (S : ZS z TI TO i1 i2 a b i s.heap)
    (ha : s.heap.IsList a xs) (hb : s.heap.IsList b ys) (hend : xs[i]? = none ∨ ys[i]? = none)
    (hQ : ∀ h', (∀ c o, c ≠ z → c ≠ TO → c ≠ i1 → c ≠ i2 → s.heap.get? c = some o → h'.get? c = some o) → Q none { s with heap := h' }) :
    wpAny (model X.prog X.w) A (pyNext (.ref z)) Q E s := by
  obtain ⟨S1, S2, S3, S4, oTO, S5⟩ := S
  rcases S1 with ⟨e1, x0, y0, e2⟩ | ⟨T, f, oT, e1, e2⟩
  · exact wpAny_pyNext_zip_end hh D e1 S2 e2 S3 S4 ha hb hend hQ
  · exact wpAny_pyNext_zip_end_held hh D e1 e2 S2 S3 S4 ha hb hend fun h' k => hQ h' fun c o n1 _ n3 n4 e => k c o n1 n3 n4 e
def fpZ (z TI TO i1 i2 : Addr) : List Addr := [z, TI, TO, i1, i2]
/-- a promise over the items that come: P i acc H, i items taken -/
structure Run (K : PySem.W.Frag) (q : Addr) (xs ys : List V) (n : Nat) (P : Nat → List V → Hp → Prop) (H0 : Hp) : Prop where
  at_ : ∀ i acc H, P i acc H → H q = some (.lst acc) ∧ acc.length = i ∧ ∀ c o, H0 c = some o → H c = some o
  go : ∀ i acc H x y T, i < n → P i acc H → xs[i]? = some x → ys[i]? = some y → H T = none → P (i + 1) (acc ++ [.ref T]) (upd (upd H T (.tup [x, y])) q (.lst (acc ++ [.ref T])))
theorem zip_loop {z TI TO i1 i2 a b q : Addr} {xs ys : List V} {n : Nat} {P : Nat → List V → Hp → Prop} {H0 : Hp} {A1 : Around} {Rs : Result → Shared → Prop} (hh : A1.handled = none) (D : ZipApart z TI TO i1 i2 a b) (hqz : q ∉ fpZ z TI TO i1 i2) (hn : n = min xs.length ys.length) (hz : n < sizeLine)
    (ha : SqL X.K H0 a xs) (hb : SqL X.K H0 b ys) (hr : Run X.K q xs ys n P H0) (hdone : ∀ acc H s, Inv X pins σ H s → P n acc H → Rs (.ok (.ret .none)) s) :
    ∀ (m i : Nat) (acc : List V) (H : Hp) (s : Shared), m + i = n → Inv X pins σ H s → P i acc H → ZS z TI TO i1 i2 a b i s.heap → (∀ c ∈ fpZ z TI TO i1 i2, FpOk X pins H c) →
      codeAny (model X.prog X.w) A1 (.builtin "list.extend.loop" ⟨[.ref q, .ref z, .none], []⟩) Rs s := by
  intro m
  induction m with
  | zero =>
    intro i acc H s hm I hP S hf
    obtain ⟨_, _, sm⟩ := hr.at_ i acc H hP
    obtain ⟨its, rv, p, _⟩ := I.list (same_l (F := H0) (F' := H) (fun c o e => sm c o e) ha)
    obtain ⟨its2, rv2, p2, _⟩ := I.list (same_l (F := H0) (F' := H) (fun c o e => sm c o e) hb)
    have l1 := rv.length
    have l2 := rv2.length
    refine codeAny_builtin PySem.F.entry_extend_loop ?_
    rw [Around.under_plainId PySem.F.plain_extend_loop _]
    show wpAny _ A1.in1 (pyNext (.ref z) >>= _) _ _ s
    refine wpAny_bind (zs_end (X := X) hh D S p.isList p2.isList ?_ fun h' k => ?_)
    · rcases Nat.le_total xs.length ys.length with h | h
      · exact .inl (by simp; omega)
      · exact .inr (by simp; omega)
    · have I1 : Inv X pins σ H { s with heap := h' } := I.turnedL (t' := s.toks) (ch := fpZ z TI TO i1 i2) (fun c o hb q => k c o (fun q' => hb (by simp [fpZ, q'])) (fun q' => hb (by simp [fpZ, q'])) (fun q' => hb (by simp [fpZ, q'])) (fun q' => hb (by simp [fpZ, q'])) q) hf
      have e : i = n := by omega
      subst e
      exact wpAny_pure (hdone acc H _ I1 hP)
  | succ m ih =>
    intro i acc H s hm I hP S hf
    obtain ⟨hq, hl, sm⟩ := hr.at_ i acc H hP
    obtain ⟨its, rv, p, _⟩ := I.list (same_l (F := H0) (F' := H) (fun c o e => sm c o e) ha)
    obtain ⟨its2, rv2, p2, _⟩ := I.list (same_l (F := H0) (F' := H) (fun c o e => sm c o e) hb)
    have l1 := rv.length
    have l2 := rv2.length
    obtain ⟨u, hu, ru⟩ := rv.get (List.getElem?_eq_getElem (show i < xs.length by omega))
    obtain ⟨u2, hu2, ru2⟩ := rv2.get (List.getElem?_eq_getElem (show i < ys.length by omega))
    refine codeAny_builtin PySem.F.entry_extend_loop ?_
    rw [Around.under_plainId PySem.F.plain_extend_loop _]
    show wpAny _ A1.in1 (pyNext (.ref z) >>= _) _ _ s
    refine wpAny_bind (zs_next (X := X) D S p.isList p2.isList (x := u) (y := u2) (by simpa using hu) (by simpa using hu2) fun h' S' hT hsz k => ?_)
    have new : ObjOk X.prog X.w (upd H s.heap.objs.size (.tup [xs[i], ys[i]])) h' s.heap.objs.size (.tup [xs[i], ys[i]]) :=
      ⟨by show 2 ≤ sizeLine; decide, [u, u2], .cons ru (.cons ru2 .nil), ⟨_, hT, rfl, _, rfl⟩⟩
    have I1 : Inv X pins σ (upd H s.heap.objs.size (.tup [xs[i], ys[i]])) { s with heap := h' } :=
      I.turnedNew (t' := s.toks) (ch := fpZ z TI TO i1 i2) (fun c o hb q => k c o (fun q' => hb (by simp [fpZ, q'])) (fun q' => hb (by simp [fpZ, q'])) (fun q' => hb (by simp [fpZ, q'])) (fun q' => hb (by simp [fpZ, q'])) q) hf (Nat.le_refl _) new
    have hfr : H s.heap.objs.size = none := I.hok.fresh (Nat.le_refl _)
    have hne : q ≠ s.heap.objs.size := ne_of_none hq hfr
    have hq1 : upd H s.heap.objs.size (.tup [xs[i], ys[i]]) q = some (.lst acc) := by rw [upd_ne hne]; exact hq
    show wpAny _ A1.in1 (updateSeq q (·.push (.ref s.heap.objs.size)) >>= _) _ _ _
    obtain ⟨z0, its0, k0, r0, hl0, e0⟩ := I1.lstM hq1
    refine wpAny_bind (wpAny_updateSeq e0 rfl (wpAny_pure ⟨plainId_quiet PySem.F.plain_extend_loop _, ?_⟩) (by rw [List.size_toArray]; omega) (by show (its0.toArray.push _).size ≤ sizeLine + 1; rw [Array.size_push, List.size_toArray]; omega))
    have I2 := I1.lset (its' := its0 ++ [.ref s.heap.objs.size]) (ys := acc ++ [.ref s.heap.objs.size]) (f := (·.push (.ref s.heap.objs.size))) (t' := s.toks) hq1 e0 (by simp) (r0.append (.cons (show L2.RelV (V.ref s.heap.objs.size) (Value.ref s.heap.objs.size) from rfl) .nil)) (by rw [List.length_append, List.length_singleton]; omega)
    have n1 : ∀ c ∈ fpZ z TI TO i1 i2, c ≠ q := fun c hc e => hqz (e ▸ hc)
    refine ih (i + 1) _ _ _ (by omega) I2 (hr.go i acc H _ _ _ (by omega) hP (List.getElem?_eq_getElem (by omega)) (List.getElem?_eq_getElem (by omega)) hfr) ?_ fun c hc => ?_
    · exact S'.keep (q := q) (n1 z (by simp [fpZ])) (n1 TI (by simp [fpZ])) (n1 TO (by simp [fpZ])) (n1 i1 (by simp [fpZ])) (n1 i2 (by simp [fpZ])) (fun c o hc e => (Heap.get?_update_other _ _ (Ne.symm hc)).trans e) fun o e => ⟨_, Heap.get?_update_self _ e0 rfl⟩
    · obtain ⟨f0, fr⟩ := hf c hc
      refine ⟨?_, fr⟩
      have hlt : c < s.heap.objs.size := by
        obtain ⟨S1, S2, S3, S4, oTO, S5⟩ := S
        have e' : c = z ∨ c = TI ∨ c = TO ∨ c = i1 ∨ c = i2 := by simpa [fpZ] using hc
        rcases e' with q | q | q | q | q
        · rcases S1 with ⟨e1, _⟩ | ⟨_, _, _, e1, _⟩
          · rw [q]; exact Heap.lt_size e1
          · rw [q]; exact Heap.lt_size e1
        · rw [q]; exact Heap.lt_size S2
        · rw [q]; exact Heap.lt_size S5
        · rw [q]; obtain ⟨_, e1, _⟩ := S3; exact Heap.lt_size e1
        · rw [q]; obtain ⟨_, e1, _⟩ := S4; exact Heap.lt_size e1
      rw [upd_ne (n1 c hc), upd_ne (Nat.ne_of_lt hlt)]
      exact f0
end LZ
end PL
namespace PL
open PySem PySem.Spec PyProof.Rows L2 LZ
def tListZip (K : PySem.W.Frag) (ta : TA) : TE := fun σ H Q => ta σ H fun vs H1 => ∃ (a b : Addr) (xs ys : List V) (n : Nat), vs = [V.ref a, V.ref b] ∧ SqL K H1 a xs ∧ SqL K H1 b ys ∧ n = min xs.length ys.length ∧ n < sizeLine ∧
  ∀ q, H1 q = none → ∃ P : Nat → List V → Hp → Prop, P 0 [] (upd H1 q (.lst [])) ∧ LZ.Run K q xs ys n P H1 ∧ ∀ acc H2, P n acc H2 → Q (.ref q) H2
theorem pe_listZip {X : Cx} {e e2 : Expr} {ta : TA} {p p2 pos pos2 : Pos} (hc : X.calm = true) (hg : Gl X "list") (hm : X.mg "list" = none) (hg2 : Gl X "zip") (hm2 : X.mg "zip" = none) (ha : PA X [e, e2] ta)
    (hs : starEach [e, e2] X.env = (false, eval e X.env) :: starEach [e2] X.env := by rfl) (hpl : (backTo pos2 (starEach [e2] X.env)).any (·.1) = false := by rfl)
    (hs3 : starEach [.Call (.Name "zip" p2) [e, e2] [] pos2] X.env = (false, eval (.Call (.Name "zip" p2) [e, e2] [] pos2) X.env) :: starEach [] X.env := by rfl) :
    PE X (.Call (.Name "list" p) [.Call (.Name "zip" p2) [e, e2] [] pos2] [] pos) (tListZip X.K ta) := by
  refine ⟨fun pins s σ H Q I h => ?_⟩
  refine wpAny_Call_Name_kw (ld_blt I hg hm (show bootBuiltins "list" = some (.type "list") by decide +kernel) ?_ (by decide) (by decide))
  refine PyProof.Rows.callWith_type1 ?_ hs3 rfl
  rw [hs3]
  show wpAny _ _ (spliced ((false, eval (.Call (.Name "zip" p2) [e, e2] [] pos2) X.env) :: backTo pos (starEach [] X.env))) _ _ s
  refine Calls.spliced_cons ?_
  refine wpAny_Call_Name_kw (ld_blt I hg2 hm2 (show bootBuiltins "zip" = some (.type "zip") by decide +kernel) ?_ (by decide) (by decide))
  refine PyProof.Rows.callWith_type1 (thn (ha.run pos2 pins s σ H _ I h) fun us s1 ⟨vs, H1, I1, r1, q1⟩ => ?_) hs hpl
  obtain ⟨a, b, xs, ys, n, ex, hqx, hqy, hn, hsz, q⟩ := q1
  subst ex
  cases r1 with
  | cons r rr =>
  cases rr with
  | cons r' rr =>
  cases rr
  cases r
  cases r'
  obtain ⟨its, rv, p1, _⟩ := I1.list hqx
  obtain ⟨its2, rv2, p2', _⟩ := I1.list hqy
  have la : a < s1.heap.objs.size := p1.lt
  have lb : b < s1.heap.objs.size := p2'.lt
  refine call_zip_2 p1.isList p2'.isList fun h' hz hTI hTO h1 h2 hsz5 hk => Calls.spliced_nil ?_
  have I2 : Inv X pins σ H1 { s1 with heap := h' } := I1.kept (t' := s1.toks) hk
  have D := PySem.W.ktu_apart s1.heap.objs.size a b la lb
  generalize hN : s1.heap.objs.size = N at *
  have S0 : ZS (N + 4) (N + 2) (N + 3) N (N + 1) a b 0 h' := ⟨.inl ⟨hz, _, _, hTO⟩, hTI, h1, h2, _, hTO⟩
  have hfp : ∀ c ∈ fpZ (N + 4) (N + 2) (N + 3) N (N + 1), N ≤ c ∧ c < N + 5 := fun c hc => by
    have e' : c = N + 4 ∨ c = N + 2 ∨ c = N + 3 ∨ c = N ∨ c = N + 1 := by simpa [fpZ] using hc
    rcases e' with q | q | q | q | q
    · rw [q]; exact ⟨Nat.le_add_right _ _, Nat.add_lt_add_left (by decide) N⟩
    · rw [q]; exact ⟨Nat.le_add_right _ _, Nat.add_lt_add_left (by decide) N⟩
    · rw [q]; exact ⟨Nat.le_add_right _ _, Nat.add_lt_add_left (by decide) N⟩
    · rw [q]; exact ⟨Nat.le_refl _, Nat.lt_add_of_pos_right (by decide)⟩
    · rw [q]; exact ⟨Nat.le_add_right _ _, Nat.add_lt_add_left (by decide) N⟩
  refine callType_codes (Q₁ := fun obj s₁ => obj = .ref h'.objs.size ∧ s₁ = { s1 with heap := h'.push { cls := .type "list", data := .seq #[] } }) PySem.F.called_list (PySem.F.typeCall_list_1 _) PySem.F.entry_list_init
    (code_list_new _ ⟨rfl, rfl⟩) fun obj s₁ h₁ => ?_
  obtain ⟨rfl, rfl⟩ := h₁
  have hS : (h'.push { cls := .type "list", data := .seq #[] }).get? h'.objs.size = some { cls := .type "list", data := .seq #[] } := Heap.get?_push_size _ rfl
  refine ⟨⟨_, hS, rfl⟩, PySem.F.args_list_init_2 _ _, ?_⟩
  have fr : H1 h'.objs.size = none := I2.hok.fresh (Nat.le_refl _)
  obtain ⟨P, hP, hrun, hq⟩ := q _ fr
  have I3 : Inv X pins σ (upd H1 h'.objs.size (.lst [])) { s1 with heap := h'.push { cls := .type "list", data := .seq #[] } } := I2.lnew (its := []) (t' := s1.toks) .nil (Nat.zero_le _)
  show wpAny _ _ (do let old ← Builtin.List.listItems (.ref h'.objs.size); Builtin.List.listUpdate (.ref h'.objs.size) (fun _ => #[]); letGo old.toList.reverse; Builtin.List.listExtendWith (.ref h'.objs.size) (.ref (N + 4)) .none) _ _ _
  refine wpAny_bind ?_
  unfold Builtin.List.listItems
  refine wpAny_bind (wpAny_seqItems hS rfl (wpAny_pure ?_))
  show wpAny _ _ (updateSeq h'.objs.size (fun _ => #[]) >>= fun _ => letGo (#[] : Array Value).toList.reverse >>= fun _ => Builtin.List.listExtendWith (.ref h'.objs.size) (.ref (N + 4)) .none) _ _ _
  refine wpAny_bind (wpAny_updateSeq hS rfl ?_)
  have I4 := I3.lset (f := fun _ => #[]) (its := []) (its' := []) (ys := []) (t' := s1.toks) upd_same hS rfl .nil (Nat.zero_le _)
  rw [upd_upd] at I4
  refine wpAny_bind (wpAny_letGo ?_)
  have hqz : h'.objs.size ∉ fpZ (N + 4) (N + 2) (N + 3) N (N + 1) := fun hc => absurd (hfp _ hc).2 (by rw [hsz5]; exact Nat.lt_irrefl _)
  have n1 : ∀ c ∈ fpZ (N + 4) (N + 2) (N + 3) N (N + 1), c ≠ h'.objs.size := fun c hc e => hqz (e ▸ hc)
  have hS4 := Heap.get?_update_self (Obj.mapSeq (fun _ => (#[] : Array Value))) hS rfl
  have S4 : ZS (N + 4) (N + 2) (N + 3) N (N + 1) a b 0 ((h'.push { cls := .type "list", data := .seq #[] }).update h'.objs.size (Obj.mapSeq (fun _ => (#[] : Array Value)))) :=
    S0.keep (q := h'.objs.size) (n1 _ (by simp [fpZ])) (n1 _ (by simp [fpZ])) (n1 _ (by simp [fpZ])) (n1 _ (by simp [fpZ])) (n1 _ (by simp [fpZ]))
      (fun c o hc e => (Heap.get?_update_other _ _ (Ne.symm hc)).trans (Heap.get?_push_of_some _ e)) fun o e => ⟨_, hS4⟩
  have hTz : Shared.TypeIs { s1 with heap := (h'.push { cls := .type "list", data := .seq #[] }).update h'.objs.size (Obj.mapSeq (fun _ => (#[] : Array Value))) } (.ref (N + 4)) "zip" := by
    rcases S4.1 with ⟨e1, _⟩ | ⟨_, _, _, e1, _⟩
    · exact ⟨_, e1, rfl⟩
    · exact ⟨_, e1, rfl⟩
  have hIz : ∃ f0, IsZip ((h'.push { cls := .type "list", data := .seq #[] }).update h'.objs.size (Obj.mapSeq (fun _ => (#[] : Array Value)))) (N + 4) (N + 2) (N + 3) f0 :=
    ⟨_, (Heap.get?_update_other _ _ (Ne.symm (n1 _ (by simp [fpZ])))).trans (Heap.get?_push_of_some _ hz)⟩
  obtain ⟨f0, hIz⟩ := hIz
  unfold Builtin.List.listExtendWith
  refine wpAny_bind (wpAny_typeOf hTz ?_)
  have g1 : Builtin.List.listSameRef (.ref h'.objs.size) (.ref (N + 4)) = false := by simp [Builtin.List.listSameRef]; exact fun e => n1 _ (by simp [fpZ]) e.symm
  have g2 : (Value.type "zip" == Value.type "list") = false := by decide
  have g3 : (Value.type "zip" == Value.type "tuple") = false := by decide
  simp only [g1, g2, g3, Bool.or_false, Bool.false_eq_true, if_false]
  refine wpAny_bind (wpAny_pyIter_zip hIz ?_)
  refine wpAny_bind (wpAny_holding ?_)
  unfold Builtin.List.listLengthHint
  refine wpAny_bind (wpAny_specialOf hTz zip_no_len ?_)
  show wpAny _ _ (specialOf (Value.ref (N + 4)) (Str.ofString "__length_hint__") >>= _) _ _ _
  refine wpAny_bind (wpAny_specialOf hTz zip_no_hint ?_)
  refine wpAny_pure ?_
  show wpAny _ _ (rule "list.extend.makes-room" >>= fun _ => Builtin.List.listTouch (.ref h'.objs.size) >>= fun _ => again (.builtin "list.extend.loop" ⟨[.ref h'.objs.size, .ref (N + 4), .none], []⟩)) _ _ _
  refine wpAny_bind (wpAny_rule ?_)
  refine wpAny_bind ?_
  show wpAny _ _ (updateSeq h'.objs.size (·.push .none) >>= fun _ => updateSeq h'.objs.size (·.pop)) _ _ _
  refine wpAny_bind (wpAny_updateSeq hS4 rfl ?_)
  have I5 := I4.lset (f := (·.push Value.none)) (its := []) (its' := [Value.none]) (ys := [.non]) (t' := s1.toks) upd_same hS4 (by rfl) (.cons rfl .nil) (by show 1 ≤ sizeLine; rw [sizeLine_eq]; decide)
  have hS5 := Heap.get?_update_self (Obj.mapSeq (·.push Value.none)) hS4 rfl
  refine wpAny_updateSeq hS5 rfl ?_ (by show 1 ≤ sizeLine; rw [sizeLine_eq]; decide) (by show 0 ≤ sizeLine + 1; exact Nat.zero_le _)
  have I6 := I5.lset (f := (·.pop)) (its := [Value.none]) (its' := []) (ys := []) (t' := s1.toks) upd_same hS5 (by rfl) .nil (Nat.zero_le _)
  rw [upd_upd, upd_upd] at I6
  have hS6 := Heap.get?_update_self (Obj.mapSeq (·.pop)) hS5 rfl
  refine wpAny_pure ⟨plainId_quiet PySem.F.plain_extend_loop _, zip_loop (X := X) (A1 := X.A.in1) (I1.ok.hd hc) D hqz hn hsz hqx hqy hrun (fun acc H2 s2 J hp => ?_) n 0 [] _ _ rfl I6 hP ?_ fun c hc => ?_⟩
  · exact ⟨rfl, .ref h'.objs.size, H2, J, rfl, hq acc H2 hp⟩
  · exact S4.keep (q := h'.objs.size) (n1 _ (by simp [fpZ])) (n1 _ (by simp [fpZ])) (n1 _ (by simp [fpZ])) (n1 _ (by simp [fpZ])) (n1 _ (by simp [fpZ]))
      (fun c o hc e => (Heap.get?_update_other _ _ (Ne.symm hc)).trans ((Heap.get?_update_other _ _ (Ne.symm hc)).trans e)) fun o e => ⟨_, hS6⟩
  · have hle := (hfp c hc).1
    exact I1.fpOk (by rw [hN]; exact hle) (by rw [upd_ne (n1 c hc)]; exact I1.hok.fresh (by rw [hN]; exact hle))

def zipP (ds es : List PyData) : List PyData := (ds.zip es).map fun q => .tuple [q.1, q.2]
theorem dqAll_get' {K : PySem.W.Frag} {F : Hp} {vs : List V} {ds : List PyData} {i : Nat} {v : V} (h : DqAll K F vs ds) (e : vs[i]? = some v) : ∃ d, ds[i]? = some d ∧ Dq K F v d := by
  have hl := dpAll_length h
  have hi : i < ds.length := by rw [← hl]; exact (List.getElem?_eq_some_iff.mp e).1
  obtain ⟨u, h1, h2⟩ := dpAll_get h (List.getElem?_eq_getElem hi)
  rw [e] at h1
  cases h1
  exact ⟨_, List.getElem?_eq_getElem hi, h2⟩
theorem ee_listZip {X : Cx} {Γ : Slots} {γ : Cells} {a b : Expr} {p p2 pos pos2 : Pos} {P : EPost} (hX : Cok X) (bt : Bt X "list") (bt2 : Bt X "zip")
    (h : AE X Γ γ [a, b] fun rs g => ∃ ra rb ds es, rs = [ra, rb] ∧ Rdb g ra (.list ds) ∧ Rdb g rb (.list es) ∧ ds.length ≤ 1000000 ∧ P (.fz (.list (zipP ds es))) g)
    (hs : starEach [a, b] X.env = (false, eval a X.env) :: starEach [b] X.env := by rfl) (hpl : (backTo pos2 (starEach [b] X.env)).any (·.1) = false := by rfl)
    (hs3 : starEach [.Call (.Name "zip" p2) [a, b] [] pos2] X.env = (false, eval (.Call (.Name "zip" p2) [a, b] [] pos2) X.env) :: starEach [] X.env := by rfl) :
    EE X Γ γ (.Call (.Name "list" p) [.Call (.Name "zip" p2) [a, b] [] pos2] [] pos) P := fun F as σ H R E Q q => by
  refine ⟨_, pe_listZip hX.calm bt.gl bt.mg bt2.gl bt2.mg pa_wp hs hpl hs3, ?_⟩
  refine h F as σ H R E _ fun vs rs g F1 as1 H1 hp x1 R1 i1 => ?_
  obtain ⟨ra, rb, ds, es, rfl, r1, r2, hl, hp⟩ := hp
  obtain ⟨v, u, rfl, i2, i3⟩ := itms2 i1
  obtain ⟨a', vs1, rfl, k1, k2⟩ := r1.list R1 i2
  obtain ⟨b', vs2, rfl, k3, k4⟩ := r2.list R1 i3
  have l1 := dpAll_length k2
  have l2 := dpAll_length k4
  refine ⟨a', b', vs1, vs2, _, rfl, k1, k3, rfl, by rw [sizeLine_eq]; omega, fun l hl0 => ⟨fun i acc H2 => H2 l = some (.lst acc) ∧ acc.length = i ∧ (∀ c o, H1 c = some o → H2 c = some o) ∧ ∃ F', Same F1 F' ∧ Rep X.K F' (as1 ++ [l]) (g ++ [.lst (((zipP ds es).take i).map Itm.fz)]) H2, ?_, ⟨fun i acc H2 hP => ⟨hP.1, hP.2.1, hP.2.2.1⟩, ?_⟩, ?_⟩⟩
  · exact ⟨upd_same, rfl, fun c o e => by rw [upd_ne (ne_of_none e hl0)]; exact e, F1, Same.refl F1, R1.newCell hl0 ⟨[], upd_same, by simpa using ItmsR.nil⟩⟩
  · rintro i acc H2 x y T hi ⟨c1, c2, c3, F', c4, R2⟩ hx hy hT
    obtain ⟨d, hd, qd⟩ := dqAll_get' k2 hx
    obtain ⟨e, he, qe⟩ := dqAll_get' k4 hy
    have hne : l ≠ T := ne_of_none c1 hT
    have R3 := R2.new (.tup [x, y]) hT
    have sm := R2.sameNew (.tup [x, y]) hT
    have hcell : (g ++ [Cell.lst (((zipP ds es).take i).map Itm.fz)])[g.length]? = some (.lst (((zipP ds es).take i).map Itm.fz)) := by rw [List.getElem?_append_right (Nat.le_refl _)]; simp
    have hal : (as1 ++ [l])[g.length]? = some l := by rw [← R1.len, List.getElem?_append_right (Nat.le_refl _)]; simp
    obtain ⟨a2, e2, us, e3, e4⟩ := R3.cellAt hcell
    rw [hal] at e2
    cases e2
    rw [upd_ne hne, c1] at e3
    cases e3
    have s1 : Same F1 (upd F' T (.tup [x, y])) := c4.trans sm
    have hnew : ItmR X.K (upd F' T (.tup [x, y])) (as1 ++ [l]) (.fz (.tuple [d, e])) (.ref T) := itm_tup.mpr ⟨T, [x, y], rfl, upd_same, .cons (dp_mono s1 qd) (.cons (dp_mono s1 qe) .nil)⟩
    have R4 := R3.write (c := g.length) (cell := .lst (((zipP ds es).take (i + 1)).map Itm.fz)) (o := .lst (acc ++ [.ref T])) hcell (by simp) hal ⟨_, upd_same, by
      have ez : (zipP ds es)[i]? = some (.tuple [d, e]) := by
        unfold zipP
        rw [List.getElem?_map, List.getElem?_zip_eq_some.mpr (show (ds[i]? = some (d, e).1 ∧ es[i]? = some (d, e).2) from ⟨hd, he⟩)]
        rfl
      rw [List.take_add_one, ez, List.map_append]
      exact itms_append e4 (.cons hnew .nil)⟩
    refine ⟨upd_same, by simp [c2], fun c o ec => ?_, _, s1, ?_⟩
    · have h3 := c3 c o ec
      rw [upd_ne (ne_of_none ec hl0), upd_ne (ne_of_none h3 hT)]
      exact h3
    · have es : (g ++ [Cell.lst (((zipP ds es).take i).map Itm.fz)]).set g.length (.lst (((zipP ds es).take (i + 1)).map Itm.fz)) = g ++ [.lst (((zipP ds es).take (i + 1)).map Itm.fz)] := by
        rw [List.set_append_right _ _ (Nat.le_refl _)]; simp
      rw [es] at R4
      exact R4
  · rintro acc H2 ⟨c1, c2, c3, F', c4, R2⟩
    have ez : (zipP ds es).take (min vs1.length vs2.length) = zipP ds es := by
      rw [List.take_of_length_le]
      unfold zipP
      rw [List.length_map, List.length_zip, l1, l2]
      exact Nat.le_refl _
    rw [ez] at R2
    have hcell : (g ++ [Cell.lst ((zipP ds es).map Itm.fz)])[g.length]? = some (.lst ((zipP ds es).map Itm.fz)) := by rw [List.getElem?_append_right (Nat.le_refl _)]; simp
    have hal : (as1 ++ [l])[g.length]? = some l := by rw [← R1.len, List.getElem?_append_right (Nat.le_refl _)]; simp
    obtain ⟨a2, e2, us, e3, e4⟩ := R2.cellAt hcell
    rw [hal] at e2
    cases e2
    obtain ⟨R3, sm⟩ := R2.freeze hcell (by simp) hal e3
    have es : (g ++ [Cell.lst ((zipP ds es).map Itm.fz)]).set g.length .dead = g ++ [.dead] := by
      rw [List.set_append_right _ _ (Nat.le_refl _)]; simp
    rw [es] at R3
    have et : (as1 ++ [l]).take g.length = as1 := by rw [List.take_append, ← R1.len]; simp
    have R5 := R3.cut R1.clo
    rw [et] at R5
    exact q (.ref l) _ g _ as1 H2 hp (x1.trans ⟨c4.trans sm, [], by simp⟩) R5 (itm_lst.mpr ⟨l, us, rfl, SqL.of upd_same, dpAll_mono sm (itms_fz e4)⟩)
theorem ev_listZip {X : Cx} {Γ : Slots} {γ γ1 γ2 : Cells} {a b : Expr} {p p2 pos pos2 : Pos} {ra rb : Itm} {ds es : List PyData} (hX : Cok X) (bt : Bt X "list") (bt2 : Bt X "zip") (ha : EV X Γ γ a ra γ1) (hb : EV X Γ γ1 b rb γ2) (h1 : Rdb γ2 ra (.list ds)) (h2 : Rdb γ2 rb (.list es)) (hl : ds.length ≤ 1000000)
    (hs : starEach [a, b] X.env = (false, eval a X.env) :: starEach [b] X.env := by rfl) (hs2 : starEach [b] X.env = (false, eval b X.env) :: starEach [] X.env := by rfl) (hpl : (backTo pos2 (starEach [b] X.env)).any (·.1) = false := by rfl)
    (hs3 : starEach [.Call (.Name "zip" p2) [a, b] [] pos2] X.env = (false, eval (.Call (.Name "zip" p2) [a, b] [] pos2) X.env) :: starEach [] X.env := by rfl) :
    EV X Γ γ (.Call (.Name "list" p) [.Call (.Name "zip" p2) [a, b] [] pos2] [] pos) (.fz (.list (zipP ds es))) γ2 :=
  ee_listZip hX bt bt2 (AE.of (av_cons ha (av_cons hb av_nil hs2) hs) ⟨ra, rb, ds, es, rfl, h1, h2, hl, rfl, rfl⟩) hs hpl hs3
/-! ### text * 0 -/
theorem op_repS0 {X : Cx} : OpR X (binaryOp .Mult) (fun x y H Q => ∃ z, x = .str z ∧ y = .int 0 ∧ Q (.str Str.empty) H) := by
  intro pins s σ H x y v u Q I rx ry h
  obtain ⟨z, rfl, rfl, q⟩ := h
  obtain ⟨t, rfl⟩ := rx
  obtain ⟨t', rfl⟩ := ry
  exact PySem.P.mul_str_none (by decide) (by decide) ⟨.str _, H, I.tok _, ⟨_, rfl⟩, q⟩
theorem ev_repS0 {X : Cx} {Γ : Slots} {γ γ1 γ2 : Cells} {a b : Expr} {pos : Pos} {z : Str} (ha : EV X Γ γ a (.fz (.str z)) γ1) (hb : EV X Γ γ1 b (.fz (.int 0)) γ2) : EV X Γ γ (.BinOp a .Mult b pos) (.fz (.str Str.empty)) γ2 :=
  ev_op op_repS0 ha hb fun F as H x y R hx hy Q q => ⟨z, itm_str.mp hx, itm_int.mp hy, q _ F as H (Ext.refl F as) R (itm_str.mpr rfl)⟩
theorem ee_repS0 {X : Cx} {Γ : Slots} {γ : Cells} {a b : Expr} {pos : Pos} {P : EPost} (h : EE X Γ γ a fun ra g1 => ∃ z, ra = .fz (.str z) ∧ EE X Γ g1 b fun rb g2 => rb = .fz (.int 0) ∧ P (.fz (.str Str.empty)) g2) : EE X Γ γ (.BinOp a .Mult b pos) P :=
  ee_op op_repS0 (EE.imp h fun r g ⟨z, e, h2⟩ => EE.imp h2 fun rb g2 ⟨e2, hp⟩ => fun F as H x y R hx hy Q q => by
    subst e e2
    exact ⟨z, itm_str.mp hx, itm_int.mp hy, q _ _ _ F as H hp (Ext.refl F as) R (itm_str.mpr rfl)⟩)
end PL

namespace PL
open PySem PySem.Spec PyProof.Rows L2
section
variable {X : Cx} {Γ : Slots} {γ γ1 : Cells} {tg it elt : Expr} {ifs : List Expr} {scope : Scope} {own : List (Str × Nat)} {pos : Pos} {xs : List Itm} {stab : Cells → Prop} {P : EPost}
theorem ite_of {Pi : List Itm → (Cells → Prop) → Cells → Prop} (hi : ITV X Γ γ tg it xs stab γ1) (h : Pi xs stab γ1) : ITE X Γ γ tg it Pi := fun F as σ H R E Q q => hi F as σ H R E Q fun J F' as' H' x R' hJ => q xs stab γ1 J F' as' H' h x R' hJ
/-- a comprehension's turns: Pv i acc g behind i of them -/
structure LcK (X : Cx) (Γ : Slots) (tg elt : Expr) (ifs : List Expr) (scope : Scope) (own : List (Str × Nat)) (xs : List Itm) (stab : Cells → Prop) (γ1 : Cells) (Pv : Nat → List Itm → Cells → Prop) : Prop where
  h0 : Pv 0 [] γ1
  hst : ∀ i acc g, i ≤ xs.length → Pv i acc g → stab (g ++ [.lst acc])
  hlen : ∀ i acc g, Pv i acc g → g.length = γ1.length ∧ acc.length ≤ i
  hsz : xs.length ≤ 1000000
  hb : ∀ i x acc g, xs[i]? = some x → Pv i acc g → ∃ Γ2 ws k g2, (∀ j ∈ ws, j ∈ own.map (·.2)) ∧ g2.length = γ1.length ∧ ∀ X', Blk X scope X' →
      GV X' (g ++ [.lst acc]) (wipeS Γ (own.map (·.2))) tg x Γ2 ws ∧ TVs X' Γ2 (g ++ [.lst acc]) ifs k (g2 ++ [.lst acc]) ∧ (k = false → Pv (i + 1) acc g2) ∧
      (k = true → EE X' Γ2 (g2 ++ [.lst acc]) elt fun r g3 => ∃ g', g3 = g' ++ [.lst acc] ∧ Pv (i + 1) (acc ++ [r]) g')
theorem lc_core {Pv : Nat → List Itm → Cells → Prop} (h : LcK X Γ tg elt ifs scope own xs stab γ1 Pv)
    {F as σ H F1 as1 H1 J} (E : EnvR X.K F as Γ σ) (x1 : Ext F as F1 as1) (R1 : Rep X.K F1 as1 γ1 H1) (hJ : JOk X.K F1 as1 xs stab J) {Q : VK} (q : ∀ D acc g F' as' H', Clo γ1 → as.length ≤ γ1.length → Pv xs.length acc g → Ext F as F' as' → Rep X.K F' as' (g ++ [.lst acc]) H' → as'[γ1.length]? = some D → Q (.ref D) H') :
    tLc (fun _ _ R => R J H1) (wbG X scope tg) (wbT X scope ifs) (wbE X scope elt) (own.map (·.2)) σ H Q := by
  obtain ⟨h0, hst, hlen, hsz, hb⟩ := h
  intro D hD
  obtain ⟨R1', i1'⟩ := newCellL R1 .nil hD
  have l1 : as1.length = γ1.length := R1.len
  have hDat : (as1 ++ [D])[γ1.length]? = some D := by rw [← l1, List.getElem?_append_right (Nat.le_refl _)]; simp
  have x1' : Ext F1 as1 F1 (as1 ++ [D]) := ⟨Same.refl F1, [D], rfl⟩
  refine ⟨fun i m H' => m = xs.length - i ∧ i ≤ xs.length ∧ ∃ acc g F' as', Pv i acc g ∧ Ext F1 (as1 ++ [D]) F' as' ∧ Rep X.K F' as' (g ++ [.lst acc]) H', ⟨xs.length, by simp, Nat.zero_le _, [], γ1, F1, as1 ++ [D], h0, Ext.refl _ _, R1'⟩, ?_⟩
  rintro i m H' ⟨rfl, hle, acc, g, F', as', hp, x', R'⟩
  obtain ⟨lg, la⟩ := hlen i acc g hp
  obtain ⟨j1, j2⟩ := hJ i F' as' _ H' (x1'.trans x') R' (hst i acc g hle hp)
  by_cases hlt : i < xs.length
  · obtain ⟨g1, g2⟩ := j2 xs[i] (List.getElem?_eq_getElem hlt)
    refine .inr ⟨g1, fun H'' => ∃ acc g F' as', Pv (i + 1) acc g ∧ Ext F1 (as1 ++ [D]) F' as' ∧ Rep X.K F' as' (g ++ [.lst acc]) H'', fun H'' n => ⟨xs.length - (i + 1), by omega, rfl, hlt, n⟩, fun v H'' y => ?_⟩
    obtain ⟨F'', x'', R'', i''⟩ := g2 v H'' y
    obtain ⟨Γ2, ws, k, c2, hws, lc2, hall⟩ := hb i xs[i] acc g (List.getElem?_eq_getElem hlt) hp
    intro X' hB
    have hK : X'.K = X.K := by obtain ⟨_, _, _, _, _, rfl⟩ := hB; rfl
    refine (hall X' hB).1 F'' as' (wipe σ _) H'' v (hK ▸ R'') (hK ▸ env_wipe (E.mono (((x1.trans x1').trans x').trans x'')) _) (hK ▸ i'') _ fun σ2 E2 b2 => ⟨wipe_but b2 hws, ?_⟩
    rw [hK] at E2
    intro X2 hB2
    have hK2 : X2.K = X.K := by obtain ⟨_, _, _, _, _, rfl⟩ := hB2; rfl
    refine (hall X2 hB2).2.1 F'' as' σ2 H'' (hK2 ▸ R'') (hK2 ▸ E2) _ fun F3 as3 H3 x3 R3 => ?_
    rw [hK2] at R3
    have xx := (x'.trans x'').trans x3
    cases k with
    | false => exact iteF ⟨acc, c2, F3, as3, (hall X2 hB2).2.2.1 rfl, xx, R3⟩
    | true =>
      refine iteT fun X3 hB3 => ?_
      have hK3 : X3.K = X.K := by obtain ⟨_, _, _, _, _, rfl⟩ := hB3; rfl
      refine (hall X3 hB3).2.2.2 rfl F3 as3 σ2 H3 (hK3 ▸ R3) (hK3 ▸ E2.mono x3) _ fun w r g3 F4 as4 H4 hg3 x4 R4 i4 => ?_
      rw [hK3] at R4 i4
      obtain ⟨g', rfl, hp'⟩ := hg3
      obtain ⟨lg', la'⟩ := hlen (i + 1) _ g' hp'
      have hDx : as4[γ1.length]? = some D := (xx.trans x4).get hDat
      have hc : (g' ++ [Cell.lst acc])[γ1.length]? = some (.lst acc) := by rw [← lg', List.getElem?_append_right (Nat.le_refl _)]; simp
      obtain ⟨D', k1, us, k2, k3⟩ := R4.cellAt hc
      rw [hDx] at k1
      cases k1
      have e := itms_length k3
      refine ⟨us, k2, by rw [← e, sizeLine_eq]; omega, acc ++ [r], g', F4, as4, hp', xx.trans x4, ?_⟩
      have R5 := R4.write (cell := .lst (acc ++ [r])) hc (by simp) hDx ⟨_, upd_same, itms_append k3 (.cons i4 .nil)⟩
      have es : (g' ++ [Cell.lst acc]).set γ1.length (.lst (acc ++ [r])) = g' ++ [.lst (acc ++ [r])] := by
        rw [List.set_append_right _ _ (by omega), lg', Nat.sub_self]
        rfl
      rw [es] at R5
      exact R5
  · have e : i = xs.length := by omega
    subst e
    exact .inl ⟨j1 (Nat.le_refl _), q D acc g F' as' H' R1.clo (by rw [← l1]; obtain ⟨_, t, rfl⟩ := x1; simp) hp ((x1.trans x1').trans x') R' (x'.get hDat)⟩
/-- a comprehension, by what follows: a cell -/
theorem ee_lcCE (hX : Cok X) (ok : BlkOk X.N X.env.scope scope own) (hi : ITE X Γ γ tg it fun xs stab γ1 => ∃ Pv, LcK X Γ tg elt ifs scope own xs stab γ1 Pv ∧ ∀ acc g, Pv xs.length acc g → P (.cl γ1.length) (g ++ [.lst acc]))
    (hs : ∀ x, foldedSetIterable it X.env x = pure x := by intro _; rfl) :
    EE X Γ γ (.ListComp elt [⟨tg, it, ifs, 0⟩] scope pos) P := fun F as σ H R E Q q => by
  refine ⟨_, pe_lc (own := own) (wi := wpI X tg it) (g := wbG X scope tg) (tt := wbT X scope ifs) (te := wbE X scope elt) hX.calm hX.nd pi_wp ok (fun s H C cl fp => ⟨fun pins s' σ H v u Q I r h => pg_wp.run pins s' σ H v u Q I r (h _ ⟨s, _, C, cl, fp, rfl⟩)⟩)
    (fun s H C cl fp => ⟨fun pins s' σ H Q I h => pts_wp.run pins s' σ H Q I (h _ ⟨s, _, C, cl, fp, rfl⟩)⟩) (fun s H C cl fp => ⟨fun pins s' σ H Q I h => pe_wp.run pins s' σ H Q I (h _ ⟨s, _, C, cl, fp, rfl⟩)⟩) hs, ?_⟩
  refine hi F as σ H R E _ fun xs stab γ1 J F1 as1 H1 hPi x1 R1 hJ => ?_
  obtain ⟨Pv, hL, hp⟩ := hPi
  exact lc_core hL (σ := σ) (H := H) (Q := Q) E x1 R1 hJ fun D acc g F' as' H' _ _ hpv x' R' hD => q (.ref D) (.cl γ1.length) _ F' as' H' (hp acc g hpv) x' R' (itm_cl.mpr ⟨D, hD, rfl⟩)
/-- frozen at the end -/
theorem lc_frozen {Pv : Nat → List Itm → Cells → Prop} {F as H' F' as' D} {acc : List Itm} {g : Cells} {n : Nat} (hlen : ∀ i acc g, Pv i acc g → g.length = γ1.length ∧ acc.length ≤ i) (hfz : ∀ acc g, Pv n acc g → (∃ ds : List PyData, acc = ds.map Itm.fz) ∧ (Clo γ1 → Clo g))
    (hclo : Clo γ1) (hal : as.length ≤ γ1.length) (hp : Pv n acc g) (x' : Ext F as F' as') (R' : Rep X.K F' as' (g ++ [.lst acc]) H') (hD : as'[γ1.length]? = some D) :
    ∃ (ds : List PyData) (F2 : Hp), Pv n (ds.map Itm.fz) g ∧ Ext F as F2 (as'.take g.length) ∧ Rep X.K F2 (as'.take g.length) g H' ∧ ItmR X.K F2 (as'.take g.length) (.fz (.list ds)) (.ref D) := by
  obtain ⟨⟨ds, rfl⟩, hc⟩ := hfz acc g hp
  obtain ⟨lg, _⟩ := hlen _ _ _ hp
  have hcell : (g ++ [Cell.lst (ds.map Itm.fz)])[γ1.length]? = some (.lst (ds.map Itm.fz)) := by rw [← lg, List.getElem?_append_right (Nat.le_refl _)]; simp
  obtain ⟨D', k1, us, k2, k3⟩ := R'.cellAt hcell
  rw [hD] at k1
  cases k1
  obtain ⟨R2, sm⟩ := R'.freeze hcell (by simp) hD k2
  have es : (g ++ [Cell.lst (ds.map Itm.fz)]).set γ1.length .dead = g ++ [.dead] := by
    rw [List.set_append_right _ _ (by omega), lg, Nat.sub_self]
    rfl
  rw [es] at R2
  refine ⟨ds, _, hp, ⟨x'.1.trans sm, ?_⟩, R2.cut (hc hclo), itm_lst.mpr ⟨D, us, rfl, SqL.of upd_same, dpAll_mono sm (itms_fz k3)⟩⟩
  obtain ⟨_, tt, rfl⟩ := x'
  rw [List.take_append, List.take_of_length_le (by omega)]
  exact ⟨_, rfl⟩
/-- a comprehension, by what follows: frozen -/
theorem ee_lcFE (hX : Cok X) (ok : BlkOk X.N X.env.scope scope own) (hi : ITE X Γ γ tg it fun xs stab γ1 => ∃ Pv, LcK X Γ tg elt ifs scope own xs stab γ1 Pv ∧ (∀ acc g, Pv xs.length acc g → (∃ ds : List PyData, acc = ds.map Itm.fz) ∧ (Clo γ1 → Clo g)) ∧ ∀ (ds : List PyData) g, Pv xs.length (ds.map Itm.fz) g → P (.fz (.list ds)) g)
    (hs : ∀ x, foldedSetIterable it X.env x = pure x := by intro _; rfl) :
    EE X Γ γ (.ListComp elt [⟨tg, it, ifs, 0⟩] scope pos) P := fun F as σ H R E Q q => by
  refine ⟨_, pe_lc (own := own) (wi := wpI X tg it) (g := wbG X scope tg) (tt := wbT X scope ifs) (te := wbE X scope elt) hX.calm hX.nd pi_wp ok (fun s H C cl fp => ⟨fun pins s' σ H v u Q I r h => pg_wp.run pins s' σ H v u Q I r (h _ ⟨s, _, C, cl, fp, rfl⟩)⟩)
    (fun s H C cl fp => ⟨fun pins s' σ H Q I h => pts_wp.run pins s' σ H Q I (h _ ⟨s, _, C, cl, fp, rfl⟩)⟩) (fun s H C cl fp => ⟨fun pins s' σ H Q I h => pe_wp.run pins s' σ H Q I (h _ ⟨s, _, C, cl, fp, rfl⟩)⟩) hs, ?_⟩
  refine hi F as σ H R E _ fun xs stab γ1 J F1 as1 H1 hPi x1 R1 hJ => ?_
  obtain ⟨Pv, hL, hfz, hp⟩ := hPi
  refine lc_core hL (σ := σ) (H := H) (Q := Q) E x1 R1 hJ fun D acc g F' as' H' hclo hal hpv x' R' hD => ?_
  obtain ⟨ds, F2, h1, h2, h3, h4⟩ := lc_frozen hL.hlen hfz hclo hal hpv x' R' hD
  exact q (.ref D) _ g _ _ H' (hp ds g h1) h2 h3 h4
theorem svs_setLcCE {i : Nat} {y : Str} {py spos : Pos} {rest : List Stmt} {R : SE} (hX : Cok X) (n : Nm X y i .local) (hl : (py.line == pos.line) = true) (hany : (scope.names.any fun (n, k) => n == y && (k == .local || k == .cell)) = false) (ok : BlkOk X.N X.env.scope scope own)
    (hi : ITE X Γ γ tg it fun xs stab γ1 => ∃ Pv, LcK X Γ tg elt ifs scope own xs stab γ1 Pv ∧ ∀ acc g, Pv xs.length acc g → SVs X (Γ.set i (some (.cl γ1.length))) (g ++ [.lst acc]) rest R)
    (hs : ∀ x, foldedSetIterable it X.env x = pure x := by intro _; rfl) :
    SVs X Γ γ (.Assign [.Name y py] (.ListComp elt [⟨tg, it, ifs, 0⟩] scope pos) spos :: rest) R := svs_cons fun F as σ H D Rp E C => by
  refine ⟨_, ps_setLc (i := i) (own := own) (wi := wpI X tg it) (g := wbG X scope tg) (tt := wbT X scope ifs) (te := wbE X scope elt) hX.calm hX.nd n.ix n.r.kd (sw_true hX.kind n.r.kd hl hany) pi_wp ok (fun s H C cl fp => ⟨fun pins s' σ H v u Q I r h => pg_wp.run pins s' σ H v u Q I r (h _ ⟨s, _, C, cl, fp, rfl⟩)⟩)
    (fun s H C cl fp => ⟨fun pins s' σ H Q I h => pts_wp.run pins s' σ H Q I (h _ ⟨s, _, C, cl, fp, rfl⟩)⟩) (fun s H C cl fp => ⟨fun pins s' σ H Q I h => pe_wp.run pins s' σ H Q I (h _ ⟨s, _, C, cl, fp, rfl⟩)⟩) hs, ?_⟩
  refine hi F as σ H Rp E _ fun xs stab γ1 J F1 as1 H1 hPi x1 R1 hJ => ?_
  obtain ⟨Pv, hL, hp⟩ := hPi
  exact lc_core hL (σ := σ) (H := H) (Q := fun x H1 => gName i x σ H1 D.nx) E x1 R1 hJ fun D' acc g F' as' H' _ _ hpv x' R' hD => C.nx _ _ _ _ _ _ (hp acc g hpv) x' R' ((E.mono x').set (itm_cl.mpr ⟨D', hD, rfl⟩))
theorem svs_setLcFE {i : Nat} {y : Str} {py spos : Pos} {rest : List Stmt} {R : SE} (hX : Cok X) (n : Nm X y i .local) (hl : (py.line == pos.line) = true) (hany : (scope.names.any fun (n, k) => n == y && (k == .local || k == .cell)) = false) (ok : BlkOk X.N X.env.scope scope own)
    (hi : ITE X Γ γ tg it fun xs stab γ1 => ∃ Pv, LcK X Γ tg elt ifs scope own xs stab γ1 Pv ∧ (∀ acc g, Pv xs.length acc g → (∃ ds : List PyData, acc = ds.map Itm.fz) ∧ (Clo γ1 → Clo g)) ∧ ∀ (ds : List PyData) g, Pv xs.length (ds.map Itm.fz) g → SVs X (Γ.set i (some (.fz (.list ds)))) g rest R)
    (hs : ∀ x, foldedSetIterable it X.env x = pure x := by intro _; rfl) :
    SVs X Γ γ (.Assign [.Name y py] (.ListComp elt [⟨tg, it, ifs, 0⟩] scope pos) spos :: rest) R := svs_cons fun F as σ H D Rp E C => by
  refine ⟨_, ps_setLc (i := i) (own := own) (wi := wpI X tg it) (g := wbG X scope tg) (tt := wbT X scope ifs) (te := wbE X scope elt) hX.calm hX.nd n.ix n.r.kd (sw_true hX.kind n.r.kd hl hany) pi_wp ok (fun s H C cl fp => ⟨fun pins s' σ H v u Q I r h => pg_wp.run pins s' σ H v u Q I r (h _ ⟨s, _, C, cl, fp, rfl⟩)⟩)
    (fun s H C cl fp => ⟨fun pins s' σ H Q I h => pts_wp.run pins s' σ H Q I (h _ ⟨s, _, C, cl, fp, rfl⟩)⟩) (fun s H C cl fp => ⟨fun pins s' σ H Q I h => pe_wp.run pins s' σ H Q I (h _ ⟨s, _, C, cl, fp, rfl⟩)⟩) hs, ?_⟩
  refine hi F as σ H Rp E _ fun xs stab γ1 J F1 as1 H1 hPi x1 R1 hJ => ?_
  obtain ⟨Pv, hL, hfz, hp⟩ := hPi
  refine lc_core hL (σ := σ) (H := H) (Q := fun x H1 => gName i x σ H1 D.nx) E x1 R1 hJ fun D' acc g F' as' H' hclo hal hpv x' R' hD => ?_
  obtain ⟨ds, F2, h1, h2, h3, h4⟩ := lc_frozen hL.hlen hfz hclo hal hpv x' R' hD
  exact C.nx _ _ _ _ _ _ (hp ds g h1) h2 h3 ((E.mono h2).set h4)
/-- one name for the target, no test -/
theorem LcK.one {y : Str} {py : Pos} {w : Nat} {Pv : Nat → List Itm → Cells → Prop} (hn : ∀ X', Blk X scope X' → Cok X' ∧ Nm X' y w .local) (h0 : Pv 0 [] γ1) (hst : ∀ i acc g, i ≤ xs.length → Pv i acc g → stab (g ++ [.lst acc])) (hlen : ∀ i acc g, Pv i acc g → g.length = γ1.length ∧ acc.length ≤ i) (hsz : xs.length ≤ 1000000)
    (hb : ∀ i x acc g, xs[i]? = some x → Pv i acc g → ∀ X', Blk X scope X' → EE X' (Γ.set w (some x)) (g ++ [.lst acc]) elt fun r g3 => ∃ g', g3 = g' ++ [.lst acc] ∧ Pv (i + 1) (acc ++ [r]) g') :
    LcK X Γ (.Name y py) elt [] scope [(y, w)] xs stab γ1 Pv :=
  ⟨h0, hst, hlen, hsz, fun i x acc g hx hp => ⟨Γ.set w (some x), [w], true, g, by simp, (hlen _ _ _ hp).1, fun X' hB => ⟨by
    have := gv_name (γ := g ++ [.lst acc]) (Γ := wipeS Γ ([(y, w)].map (·.2))) (pos := py) (r := x) (hn X' hB).1 (hn X' hB).2
    have e : (wipeS Γ ([(y, w)].map (·.2))).set w (some x) = Γ.set w (some x) := by
      show (Γ.set w none).set w (some x) = _
      rw [List.set_set]
    rw [e] at this
    exact this, tvs_nil, (fun h => nomatch h), fun _ => hb i x acc g hx hp X' hB⟩⟩⟩
end
end PL

namespace PL
open PySem PySem.Spec PyProof.Rows L2
theorem app_cps (x y : Str) : (x ++ y).cps.toList = x.cps.toList ++ y.cps.toList := by
  show (x.cps ++ y.cps).toList = _
  rw [Array.toList_append]
theorem join_cps : ∀ ys : List Str, (Str.join ⟨#[]⟩ ys).cps.toList = (ys.map fun y => y.cps.toList).flatten
  | [] => rfl
  | [y] => by
    show y.cps.toList = _
    simp
  | x :: y :: r => by
    have ih := join_cps (y :: r)
    show (x ++ ⟨#[]⟩ ++ Str.join ⟨#[]⟩ (y :: r)).cps.toList = _
    rw [app_cps, app_cps, ih]
    simp
theorem txt_join (ys : List Str) : Txt.join ⟨#[]⟩ ys = Str.join ⟨#[]⟩ ys := eq_of_beq (PyProof.Rows.join_plain_closes _ _)
def Low (c : Nat) : Prop := 97 ≤ c ∧ c ≤ 122
def Lows (z : Str) : Prop := ∀ c ∈ z.cps.toList, Low c
theorem Lows.app {x y : Str} (h : Lows x) (h2 : Lows y) : Lows (x ++ y) := fun c hc => by
  rw [app_cps] at hc
  rcases List.mem_append.mp hc with h3 | h3
  · exact h c h3
  · exact h2 c h3
theorem Lows.cut {x : Str} (h : Lows x) (lo hi : Option Int) : Lows (cutS x lo hi) := fun c hc => by
  have hc : c ∈ (List.toArray ((x.cps.toList.drop (HT.sIx x.length 0 lo)).take (HT.sIx x.length x.length hi - HT.sIx x.length 0 lo))).toList := hc
  rw [List.toList_toArray] at hc
  exact h c (List.mem_of_mem_drop (List.mem_of_mem_take hc))
theorem str_len (z : Str) : z.length = z.cps.toList.length := by
  show z.cps.size = _
  rw [Array.length_toList]
theorem ones_join {ys : List Str} (h : ∀ y ∈ ys, ∃ c, y = ⟨#[c]⟩ ∧ Low c) : Lows (Txt.join ⟨#[]⟩ ys) ∧ (Txt.join ⟨#[]⟩ ys).length = ys.length := by
  have e : (Txt.join ⟨#[]⟩ ys).cps.toList = (ys.map fun y => y.cps.toList).flatten := by rw [txt_join, join_cps]
  constructor
  · intro c hc
    rw [e, List.mem_flatten] at hc
    obtain ⟨l, hl, hc⟩ := hc
    obtain ⟨y, hy, rfl⟩ := List.mem_map.mp hl
    obtain ⟨c', rfl, hlow⟩ := h y hy
    have : c = c' := by simpa using hc
    exact this ▸ hlow
  · rw [str_len, e]
    clear e
    induction ys with
    | nil => rfl
    | cons y r ih =>
      obtain ⟨c', rfl, _⟩ := h y (by simp)
      rw [List.map_cons, List.flatten_cons, List.length_append, ih fun z hz => h z (by simp [hz])]
      simp; omega
theorem cut_head (z : Str) (t : Nat) (h : t ≤ z.length) : (cutS z none (some (t : Int))).length = t := by
  rw [str_len]
  show (List.toArray _).toList.length = _
  rw [List.toList_toArray, List.length_take, List.length_drop, HT.sIx_none, HT.sIx_nat, ← str_len]
  omega
theorem cut_tail (z : Str) (t : Nat) (h : t ≤ z.length) : (cutS z (some (t : Int)) none).length = z.length - t := by
  rw [str_len]
  show (List.toArray _).toList.length = _
  rw [List.toList_toArray, List.length_take, List.length_drop, HT.sIx_none, HT.sIx_nat, ← str_len]
  omega
theorem pick_low {z : Str} (hz : Lows z) {i : Int} (h0 : 0 ≤ i) (h1 : i < z.length) : ∃ c, atI z.cps.toList i = some c ∧ Low c := by
  have hl : i.toNat < z.cps.toList.length := by rw [← str_len]; omega
  refine ⟨z.cps.toList[i.toNat], ?_, hz _ (List.getElem_mem hl)⟩
  have h := atI_nat (List.getElem?_eq_getElem hl)
  rw [show ((i.toNat : Nat) : Int) = i by omega] at h
  exact h

theorem str_ext {x y : Str} (h : x.cps.toList = y.cps.toList) : x = y := by
  obtain ⟨⟨l⟩⟩ := x
  obtain ⟨⟨m⟩⟩ := y
  cases h
  rfl
theorem app_emp (x : Str) : x ++ Str.empty = x := str_ext (by rw [app_cps]; show _ ++ [] = _; simp)
theorem lows_one {c : Nat} (h : Low c) : Lows ⟨#[c]⟩ := fun d hd => by
  have : d = c := by simpa using hd
  exact this ▸ h
theorem lows_lay' {z : Str} (h : Lows z) : PyData.canLay0 (.str z) = true := by
  have : (z.cps.all (· < 0x110000)) = true := by
    rw [← Array.all_toList, List.all_eq_true]
    intro c hc
    have := (h c hc).2
    exact decide_eq_true (by omega)
  have e : PyData.canLay0 (.str z) = PyData.strOk z := by simp [PyData.canLay0]
  rw [e]
  exact this
theorem shp_low {z : Str} (h : Lows z) : Shp 0 (.str z) := shp_str (lows_lay' h)
theorem len0 : (Str.length "") = 0 := by decide +kernel
theorem emp0 : ("" : Str) = ⟨#[]⟩ := by decide +kernel
abbrev ABC : Str := "abcdefghijklmnopqrstuvwxyz"
theorem lenABC : Str.length ABC = 26 := by decide +kernel
theorem abc_at : ∀ j : _root_.Fin 26, ABC.cps.toList[j.val]? = some (97 + j.val) := by decide +kernel
theorem abcI {i : Int} (h0 : 0 ≤ i) (h1 : i < 26) : atI ABC.cps.toList i = some (97 + i.toNat) := by
  have h := abc_at ⟨i.toNat, by omega⟩
  have h2 := atI_nat h
  simp only at h2
  rw [Int.toNat_of_nonneg h0] at h2
  exact h2
theorem low_abc {i : Int} (h0 : 0 ≤ i) (h1 : i < 26) : Low (97 + i.toNat) := ⟨by omega, by omega⟩
/-- a letter put into a text -/
def mkN (f : Str) (t : Nat) (c : Nat) : Str := cutS f none (some (t : Int)) ++ ⟨#[c]⟩ ++ cutS f (some (t : Int)) none
theorem mkN_inj {f : Str} {t c d : Nat} (h : mkN f t c = mkN f t d) : c = d := by
  have h := congrArg (fun x : Str => x.cps.toList) h
  simp only [mkN, app_cps, List.append_assoc] at h
  have h := List.append_cancel_left h
  simpa using h
theorem mkN_lows {f : Str} {t c : Nat} (h : Lows f) (hc : Low c) : Lows (mkN f t c) := ((h.cut _ _).app (lows_one hc)).app (h.cut _ _)
theorem mkN_len {f : Str} {t c : Nat} (h : t ≤ f.length) : (mkN f t c).length = f.length + 1 := by
  unfold mkN
  rw [length_addS, length_addS, cut_head f t h, cut_tail f t h]
  show t + 1 + _ = _
  omega
/-- names alike but for a letter -/
def nms (f : Str) (t : Nat) (a s : Int) (n : Nat) : List Str := (List.range n).map fun (k : Nat) => mkN f t (97 + ((a + s * (k : Int)) % 26).toNat)
theorem nms_len (f : Str) (t : Nat) (a s : Int) (n : Nat) : (nms f t a s n).length = n := by simp [nms]
theorem nms_succ (f : Str) (t : Nat) (a s : Int) (n : Nat) : nms f t a s (n + 1) = nms f t a s n ++ [mkN f t (97 + ((a + s * (n : Int)) % 26).toNat)] := by simp [nms, List.range_succ]
theorem nms_nodup (f : Str) (t : Nat) (a : Int) (n : Nat) (h : n ≤ 26) : (nms f t a 7 n).Nodup := by
  unfold nms List.Nodup
  rw [List.pairwise_map]
  refine List.Pairwise.imp_of_mem ?_ List.pairwise_lt_range
  intro i j hi hj hij e
  have hi := List.mem_range.mp hi
  have hj := List.mem_range.mp hj
  have := mkN_inj e
  omega
theorem nms_ok {f : Str} {t : Nat} (hf : Lows f) (ht : t ≤ f.length) (a s : Int) (n : Nat) : ∀ z ∈ nms f t a s n, Lows z ∧ z.length = f.length + 1 := fun z hz => by
  obtain ⟨k, hk, rfl⟩ := List.mem_map.mp hz
  exact ⟨mkN_lows hf (low_abc (Int.emod_nonneg _ (by decide)) (Int.emod_lt_of_pos _ (by decide))), mkN_len ht⟩
end PL

namespace PL
open PySem PySem.Spec PyProof.Rows L2
section
variable {α : Type} {X : Cx} {Γ Γ' : Slots} {γ γ1 : Cells} {tg it elt : Expr} {ifs : List Expr} {scope : Scope} {own : List (Str × Nat)} {pos : Pos} {r : Itm}
theorem Rdb.app {d : PyData} (h : Rdb γ r d) (ex : Cells) : Rdb (γ ++ ex) r d := by
  cases h with
  | fz => exact .fz _
  | cl h => exact .cl (by rw [List.getElem?_append_left (List.getElem?_eq_some_iff.mp h).1]; exact h)
theorem take_get {L : List α} {f : α → PyData} {i : Nat} {x : Itm} (h : ((L.map f).map Itm.fz)[i]? = some x) : ∃ a, L[i]? = some a ∧ a ∈ L ∧ x = .fz (f a) ∧ L.take (i + 1) = L.take i ++ [a] := by
  rw [List.getElem?_map, List.getElem?_map] at h
  cases hd : L[i]? with
  | none => rw [hd] at h; cases h
  | some a =>
    rw [hd] at h
    exact ⟨a, rfl, List.mem_of_getElem? hd, (Option.some.inj h).symm, by rw [List.take_add_one, hd]; rfl⟩
/-- a comprehension over a list of data of one kind whose parts change nothing -/
theorem lcA (f : α → PyData) (L : List α) (p : α → Bool) (e : α → PyData) (hr : Rdb γ1 r (.list (L.map f))) (hsz : L.length ≤ 1000000)
    (hb : ∀ a ∈ L, ∃ Γ2 ws, (∀ j ∈ ws, j ∈ own.map (·.2)) ∧ ∀ acc X', Blk X scope X' →
      GV X' (γ1 ++ [.lst acc]) (wipeS Γ (own.map (·.2))) tg (.fz (f a)) Γ2 ws ∧ TVs X' Γ2 (γ1 ++ [.lst acc]) ifs (p a) (γ1 ++ [.lst acc]) ∧ (p a = true → EV X' Γ2 (γ1 ++ [.lst acc]) elt (.fz (e a)) (γ1 ++ [.lst acc]))) :
    LcK X Γ tg elt ifs scope own ((L.map f).map Itm.fz) (fun g => Rdb g r (.list (L.map f))) γ1 (fun i acc g => g = γ1 ∧ i ≤ L.length ∧ acc = (((L.take i).filter p).map e).map Itm.fz) := by
  refine ⟨⟨rfl, Nat.zero_le _, by simp⟩, fun i acc g _ h => h.1 ▸ hr.app _, fun i acc g h => ⟨by rw [h.1], ?_⟩, by simpa using hsz, ?_⟩
  · rw [h.2.2]
    have h1 := List.length_filter_le p (L.take i)
    have h2 : (L.take i).length ≤ i := by rw [List.length_take]; omega
    simp; omega
  · rintro i x acc g hx ⟨rfl, hi, rfl⟩
    obtain ⟨a, ha, hm, rfl, ht⟩ := take_get hx
    have hlt := (List.getElem?_eq_some_iff.mp ha).1
    obtain ⟨Γ2, ws, h1, h2⟩ := hb a hm
    refine ⟨Γ2, ws, p a, g, h1, rfl, fun X' hB => ?_⟩
    obtain ⟨h3, h4, h5⟩ := h2 ((((L.take i).filter p).map e).map Itm.fz) X' hB
    refine ⟨h3, h4, fun hk => ⟨rfl, hlt, by rw [ht, List.filter_append]; simp [hk]⟩, fun hk => EE.of (h5 hk) ⟨g, rfl, rfl, hlt, by rw [ht, List.filter_append]; simp [hk]⟩⟩
theorem lcA_end {f : α → PyData} {L : List α} {p : α → Bool} {e : α → PyData} {acc : List Itm} {g : Cells} (h : g = γ1 ∧ ((L.map f).map Itm.fz).length ≤ L.length ∧ acc = (((L.take ((L.map f).map Itm.fz).length).filter p).map e).map Itm.fz) : g = γ1 ∧ acc = ((L.filter p).map e).map Itm.fz := by
  have e1 : ((L.map f).map Itm.fz).length = L.length := by simp
  rw [e1, List.take_length] at h
  exact ⟨h.1, h.2.2⟩
theorem ev_lcA (f : α → PyData) (L : List α) (p : α → Bool) (e : α → PyData) (hX : Cok X) (ok : BlkOk X.N X.env.scope scope own) (hi : EV X Γ γ it r γ1) (hr : Rdb γ1 r (.list (L.map f))) (hsz : L.length ≤ 1000000)
    (hb : ∀ a ∈ L, ∃ Γ2 ws, (∀ j ∈ ws, j ∈ own.map (·.2)) ∧ ∀ acc X', Blk X scope X' →
      GV X' (γ1 ++ [.lst acc]) (wipeS Γ (own.map (·.2))) tg (.fz (f a)) Γ2 ws ∧ TVs X' Γ2 (γ1 ++ [.lst acc]) ifs (p a) (γ1 ++ [.lst acc]) ∧ (p a = true → EV X' Γ2 (γ1 ++ [.lst acc]) elt (.fz (e a)) (γ1 ++ [.lst acc])))
    (hs : ∀ x, foldedSetIterable it X.env x = pure x := by intro _; rfl) : EV X Γ γ (.ListComp elt [⟨tg, it, ifs, 0⟩] scope pos) (.fz (.list ((L.filter p).map e))) γ1 :=
  ee_lcFE hX ok (ite_of (itv_list hi hr) ⟨_, lcA f L p e hr hsz hb, fun acc g h => by
    obtain ⟨h1, h2⟩ := lcA_end h
    exact ⟨⟨_, h2⟩, fun c => h1 ▸ c⟩, fun ds g h => by
    obtain ⟨h1, h2⟩ := lcA_end h
    exact ⟨by rw [fz_inj h2], h1⟩⟩) hs
/-- .. stored under a name -/
theorem svs_setLcA {i : Nat} {z : Str} {pz spos : Pos} {rest : List Stmt} {R : SE} (f : α → PyData) (L : List α) (p : α → Bool) (e : α → PyData) (hX : Cok X) (n : Nm X z i .local) (hl : (pz.line == pos.line) = true) (hany : (scope.names.any fun (n, k) => n == z && (k == .local || k == .cell)) = false) (ok : BlkOk X.N X.env.scope scope own) (hi : EV X Γ γ it r γ1) (hr : Rdb γ1 r (.list (L.map f))) (hsz : L.length ≤ 1000000)
    (hb : ∀ a ∈ L, ∃ Γ2 ws, (∀ j ∈ ws, j ∈ own.map (·.2)) ∧ ∀ acc X', Blk X scope X' →
      GV X' (γ1 ++ [.lst acc]) (wipeS Γ (own.map (·.2))) tg (.fz (f a)) Γ2 ws ∧ TVs X' Γ2 (γ1 ++ [.lst acc]) ifs (p a) (γ1 ++ [.lst acc]) ∧ (p a = true → EV X' Γ2 (γ1 ++ [.lst acc]) elt (.fz (e a)) (γ1 ++ [.lst acc])))
    (h : SVs X (Γ.set i (some (.fz (.list ((L.filter p).map e))))) γ1 rest R)
    (hs : ∀ x, foldedSetIterable it X.env x = pure x := by intro _; rfl) : SVs X Γ γ (.Assign [.Name z pz] (.ListComp elt [⟨tg, it, ifs, 0⟩] scope pos) spos :: rest) R :=
  svs_setLcFE hX n hl hany ok (ite_of (itv_list hi hr) ⟨_, lcA f L p e hr hsz hb, fun acc g h => by
    obtain ⟨h1, h2⟩ := lcA_end h
    exact ⟨⟨_, h2⟩, fun c => h1 ▸ c⟩, fun ds g h' => by
    obtain ⟨h1, h2⟩ := lcA_end h'
    rw [fz_inj h2, h1]
    exact h⟩) hs
/-- .. a cell -/
theorem svs_setLcAC {i : Nat} {z : Str} {pz spos : Pos} {rest : List Stmt} {R : SE} (f : α → PyData) (L : List α) (p : α → Bool) (e : α → PyData) (hX : Cok X) (n : Nm X z i .local) (hl : (pz.line == pos.line) = true) (hany : (scope.names.any fun (n, k) => n == z && (k == .local || k == .cell)) = false) (ok : BlkOk X.N X.env.scope scope own) (hi : EV X Γ γ it r γ1) (hr : Rdb γ1 r (.list (L.map f))) (hsz : L.length ≤ 1000000)
    (hb : ∀ a ∈ L, ∃ Γ2 ws, (∀ j ∈ ws, j ∈ own.map (·.2)) ∧ ∀ acc X', Blk X scope X' →
      GV X' (γ1 ++ [.lst acc]) (wipeS Γ (own.map (·.2))) tg (.fz (f a)) Γ2 ws ∧ TVs X' Γ2 (γ1 ++ [.lst acc]) ifs (p a) (γ1 ++ [.lst acc]) ∧ (p a = true → EV X' Γ2 (γ1 ++ [.lst acc]) elt (.fz (e a)) (γ1 ++ [.lst acc])))
    (h : SVs X (Γ.set i (some (.cl γ1.length))) (γ1 ++ [.lst (((L.filter p).map e).map Itm.fz)]) rest R)
    (hs : ∀ x, foldedSetIterable it X.env x = pure x := by intro _; rfl) : SVs X Γ γ (.Assign [.Name z pz] (.ListComp elt [⟨tg, it, ifs, 0⟩] scope pos) spos :: rest) R :=
  svs_setLcCE hX n hl hany ok (ite_of (itv_list hi hr) ⟨_, lcA f L p e hr hsz hb, fun acc g h' => by
    obtain ⟨h1, h2⟩ := lcA_end h'
    rw [h2, h1]
    exact h⟩) hs
/-- the target's part: one name; two; three; four -/
theorem tgt1 {y : Str} {py : Pos} {w : Nat} {x : Itm} {g : Cells} {X' : Cx} (hX : Cok X') (n : Nm X' y w .local) : GV X' g (wipeS Γ ([(y, w)].map (·.2))) (.Name y py) x (Γ.set w (some x)) [w] := by
  have := gv_name (γ := g) (Γ := wipeS Γ ([(y, w)].map (·.2))) (pos := py) (r := x) hX n
  have e : (wipeS Γ ([(y, w)].map (·.2))).set w (some x) = Γ.set w (some x) := by
    show (Γ.set w none).set w (some x) = _
    rw [List.set_set]
  rw [e] at this
  exact this
theorem filter_all (L : List α) : L.filter (fun _ => true) = L := List.filter_eq_self.mpr (by simp)
theorem ev_lcL {y : Str} {py : Pos} {w : Nat} (f : α → PyData) (L : List α) (p : α → Bool) (e : α → PyData) (hX : Cok X) (ok : BlkOk X.N X.env.scope scope [(y, w)]) (hn : ∀ X', Blk X scope X' → Cok X' ∧ Nm X' y w .local) (hi : EV X Γ γ it r γ1) (hr : Rdb γ1 r (.list (L.map f))) (hsz : L.length ≤ 1000000)
    (hb : ∀ a ∈ L, ∀ acc X', Blk X scope X' → TVs X' (Γ.set w (some (.fz (f a)))) (γ1 ++ [.lst acc]) ifs (p a) (γ1 ++ [.lst acc]) ∧ (p a = true → EV X' (Γ.set w (some (.fz (f a)))) (γ1 ++ [.lst acc]) elt (.fz (e a)) (γ1 ++ [.lst acc])))
    (hs : ∀ x, foldedSetIterable it X.env x = pure x := by intro _; rfl) : EV X Γ γ (.ListComp elt [⟨.Name y py, it, ifs, 0⟩] scope pos) (.fz (.list ((L.filter p).map e))) γ1 :=
  ev_lcA f L p e hX ok hi hr hsz (fun a ha => ⟨Γ.set w (some (.fz (f a))), [w], by simp, fun acc X' hB => ⟨tgt1 (hn X' hB).1 (hn X' hB).2, hb a ha acc X' hB⟩⟩) hs
theorem ev_lcM {y : Str} {py : Pos} {w : Nat} (f : α → PyData) (L : List α) (e : α → PyData) (hX : Cok X) (ok : BlkOk X.N X.env.scope scope [(y, w)]) (hn : ∀ X', Blk X scope X' → Cok X' ∧ Nm X' y w .local) (hi : EV X Γ γ it r γ1) (hr : Rdb γ1 r (.list (L.map f))) (hsz : L.length ≤ 1000000)
    (hb : ∀ a ∈ L, ∀ acc X', Blk X scope X' → EV X' (Γ.set w (some (.fz (f a)))) (γ1 ++ [.lst acc]) elt (.fz (e a)) (γ1 ++ [.lst acc]))
    (hs : ∀ x, foldedSetIterable it X.env x = pure x := by intro _; rfl) : EV X Γ γ (.ListComp elt [⟨.Name y py, it, [], 0⟩] scope pos) (.fz (.list (L.map e))) γ1 := by
  have := ev_lcL (py := py) (pos := pos) (ifs := []) f L (fun _ => true) e hX ok hn hi hr hsz (fun a ha acc X' hB => ⟨tvs_nil, fun _ => hb a ha acc X' hB⟩) hs
  rwa [filter_all] at this
theorem svs_setLcM {i : Nat} {z : Str} {pz spos : Pos} {rest : List Stmt} {R : SE} {y : Str} {py : Pos} {w : Nat} (f : α → PyData) (L : List α) (e : α → PyData) (hX : Cok X) (n : Nm X z i .local) (hl : (pz.line == pos.line) = true) (hany : (scope.names.any fun (n, k) => n == z && (k == .local || k == .cell)) = false) (ok : BlkOk X.N X.env.scope scope [(y, w)]) (hn : ∀ X', Blk X scope X' → Cok X' ∧ Nm X' y w .local) (hi : EV X Γ γ it r γ1) (hr : Rdb γ1 r (.list (L.map f))) (hsz : L.length ≤ 1000000)
    (hb : ∀ a ∈ L, ∀ acc X', Blk X scope X' → EV X' (Γ.set w (some (.fz (f a)))) (γ1 ++ [.lst acc]) elt (.fz (e a)) (γ1 ++ [.lst acc]))
    (h : SVs X (Γ.set i (some (.fz (.list (L.map e))))) γ1 rest R)
    (hs : ∀ x, foldedSetIterable it X.env x = pure x := by intro _; rfl) : SVs X Γ γ (.Assign [.Name z pz] (.ListComp elt [⟨.Name y py, it, [], 0⟩] scope pos) spos :: rest) R :=
  svs_setLcA (own := [(y, w)]) f L (fun _ => true) e hX n hl hany ok hi hr hsz (fun a ha => ⟨Γ.set w (some (.fz (f a))), [w], by simp, fun acc X' hB => ⟨tgt1 (hn X' hB).1 (hn X' hB).2, tvs_nil, fun _ => hb a ha acc X' hB⟩⟩) (by rw [filter_all]; exact h) hs
/-- two names, pairs -/
theorem tgt2 {y y' : Str} {py py' ptp : Pos} {w w' kk : Nat} {d e : PyData} {g : Cells} {X' : Cx} (hw : w ≠ w') (hX' : Cok X') (n1 : Nm X' y w .local) (n2 : Nm X' y' w' .local) : GV X' g (wipeS Γ ([(y, w), (y', w')].map (·.2))) (.Tuple [.Name y py, .Name y' py'] kk ptp) (.fz (.tuple [d, e])) ((Γ.set w (some (.fz d))).set w' (some (.fz e))) [w, w'] := by
  have G := gv_tup (kk := kk) (n := 2) (pos := ptp) (γ := g) (Γ := wipeS Γ ([(y, w), (y', w')].map (·.2))) (ds := [d, e]) hX' (gvs_cons (gv_name (pos := py) hX' n1) (gvs_cons (gv_name (pos := py') hX' n2) gvs_nil)) rfl
  have e2 : ((wipeS Γ ([(y, w), (y', w')].map (·.2))).set w (some (.fz d))).set w' (some (.fz e)) = (Γ.set w (some (.fz d))).set w' (some (.fz e)) := by
    show ((((Γ.set w' none).set w none).set w (some (.fz d))).set w' (some (.fz e))) = _
    rw [List.set_set, List.set_comm _ _ hw, List.set_set, List.set_comm _ _ hw.symm]
  rw [e2] at G
  exact G
/-- a loop over a list of data of one kind -/
theorem svs_forL {body rest : List Stmt} {R : SE} (f : α → PyData) (L : List α) (hX : Cok X) (hp : PassesOwn (model X.prog X.w) X.A X.env X.xe) (hi : EV X Γ γ it r γ1) (hr : Rdb γ1 r (.list (L.map f))) (Inv : Nat → Slots → Cells → Prop) (h0 : Inv 0 Γ γ1)
    (hst : ∀ i Γ' γ', i ≤ L.length → Inv i Γ' γ' → Rdb γ' r (.list (L.map f)))
    (hb : ∀ i a Γ' γ', L[i]? = some a → a ∈ L → Inv i Γ' γ' → ∃ Γ2 ws, GV X γ' Γ' tg (.fz (f a)) Γ2 ws ∧ SVs X Γ2 γ' body { nx := Inv (i + 1), ct := Inv (i + 1), bk := fun a b => SVs X a b rest R, rt := R.rt })
    (hd : ∀ Γ' γ', Inv L.length Γ' γ' → SVs X Γ' γ' rest R)
    (hs : ∀ x, foldedSetIterable it X.env x = pure x := by intro _; rfl) : SVs X Γ γ (.For tg it body [] pos :: rest) R := by
  have el : ((L.map f).map Itm.fz).length = L.length := by simp
  refine svs_for hX hp (itv_list hi hr) Inv h0 (fun i Γ' γ' h => hst i Γ' γ' (el ▸ h)) (fun i x Γ' γ' hx => ?_) (fun Γ' γ' h => hd Γ' γ' (el ▸ h)) hs
  obtain ⟨a, h1, h2, rfl, _⟩ := take_get hx
  exact hb i a Γ' γ' h1 h2
/-- strictly rising lists with the same members are the same -/
theorem sorted_ext {lt : α → α → Prop} (irr : ∀ a, ¬ lt a a) (tr : ∀ a b c, lt a b → lt b c → lt a c) : ∀ {xs ys : List α}, xs.Pairwise lt → ys.Pairwise lt → (∀ z, z ∈ xs ↔ z ∈ ys) → xs = ys
  | [], [], _, _, _ => rfl
  | [], y :: ys, _, _, h => absurd ((h y).mpr (by simp)) (by simp)
  | x :: xs, [], _, _, h => absurd ((h x).mp (by simp)) (by simp)
  | x :: xs, y :: ys, hx, hy, h => by
    obtain ⟨hx1, hx2⟩ := List.pairwise_cons.mp hx
    obtain ⟨hy1, hy2⟩ := List.pairwise_cons.mp hy
    have e : x = y := by
      rcases List.mem_cons.mp ((h x).mp (by simp)) with e | e
      · exact e
      rcases List.mem_cons.mp ((h y).mpr (by simp)) with e' | e'
      · exact e'.symm
      exact absurd (tr _ _ _ (hx1 y e') (hy1 x e)) (irr x)
    subst e
    rw [sorted_ext irr tr hx2 hy2 fun z => ?_]
    constructor
    · intro hz
      rcases List.mem_cons.mp ((h z).mp (List.mem_cons_of_mem _ hz)) with e | e
      · exact absurd (hx1 z hz) (e ▸ irr x)
      · exact e
    · intro hz
      rcases List.mem_cons.mp ((h z).mpr (List.mem_cons_of_mem _ hz)) with e | e
      · exact absurd (hy1 z hz) (e ▸ irr x)
      · exact e
end
theorem sw_cell {env : Env} {x y : Str} {px py pt pt2 : Pos} {kt k2 : Nat} {vs : List Expr} (hx : env.kindOf x = some .cell) (hy : env.kindOf y = some .cell) : swappedStores [.Tuple [.Name x px, .Name y py] kt pt] (.Tuple vs k2 pt2) env = pure none := by
  unfold swappedStores
  have e : (some NameKind.cell == some NameKind.local) = false := rfl
  simp only [hx, hy, e, Bool.false_and, List.filterMap_cons, List.filterMap_nil, Bool.false_eq_true, if_false]
  split
  · rfl
  · split <;> rfl
end PL

namespace PL
open PySem PySem.Spec PyProof.Rows L2
section
variable {X : Cx} {Γ : Slots} {γ γ1 γ2 γ3 : Cells} {e a b o c : Expr} {es : List Expr} {rs : List Itm} {r ra rb : Itm} {pos p : Pos} {x : Str} {k : Bool} {P : EPost}
theorem ee_callB {id : String} {t : List V → Hp → VK → Prop} (hc : CallR X (.builtin id) t) (bt : Bt X x) (hv : bootBuiltins x = some (.builtin id))
    (h : AE X Γ γ (e :: es) fun rs g => ∀ F as H vs, Rep X.K F as g H → ItmsR X.K F as rs vs → ∀ Q : VK, (∀ v r g' F' as' H', P r g' → Ext F as F' as' → Rep X.K F' as' g' H' → ItmR X.K F' as' r v → Q v H') → t vs H Q)
    (hn : x ≠ "__name__" := by decide) (hdb : (x == ("__debug__" : Str)) = false := by decide)
    (he : starEach (e :: es) X.env = (false, eval e X.env) :: starEach es X.env := by rfl) (hpl : (backTo pos (starEach es X.env)).any (·.1) = false := by rfl) : EE X Γ γ (.Call (.Name x p) (e :: es) [] pos) P := fun F as σ H R E Q q => by
  refine ⟨_, pe_callB hc bt.gl bt.mg hv pa_wp hn hdb he hpl, ?_⟩
  refine h F as σ H R E _ fun vs rs g F1 as1 H1 h1 x1 R1 i1 => ?_
  exact h1 F1 as1 H1 vs R1 i1 Q fun v r g' F2 as2 H2 hp x2 R2 i2 => q v r g' F2 as2 H2 hp (x1.trans x2) R2 i2
theorem ee_max2 (hX : Cok X) (bt : Bt X "max") (h : AE X Γ γ [a, b] fun rs g => ∃ i j : Int, rs = [.fz (.int i), .fz (.int j)] ∧ P (.fz (.int (max i j))) g) (hs : starEach [a, b] X.env = (false, eval a X.env) :: starEach [b] X.env := by rfl) (hpl : (backTo pos (starEach [b] X.env)).any (·.1) = false := by rfl) :
    EE X Γ γ (.Call (.Name "max" p) [a, b] [] pos) P :=
  ee_callB (call_max2 hX.calm) bt (by decide +kernel) (fun F as σ H R E Q q => h F as σ H R E Q fun vs rs g F' as' H' ⟨i, j, e, hp⟩ => q vs rs g F' as' H' (fun F as H vs R i' Q q => by
    subst e
    obtain ⟨v, u, rfl, h, h'⟩ := itms2 i'
    refine ⟨i, j, by rw [itm_int.mp h, itm_int.mp h'], ?_⟩
    have e : (if j > i then j else i) = max i j := by omega
    rw [e]
    exact q _ _ _ F as H hp (Ext.refl F as) R (itm_int.mpr rfl))) (he := hs) (hpl := hpl)
theorem ee_min2 (hX : Cok X) (bt : Bt X "min") (h : AE X Γ γ [a, b] fun rs g => ∃ i j : Int, rs = [.fz (.int i), .fz (.int j)] ∧ P (.fz (.int (min i j))) g) (hs : starEach [a, b] X.env = (false, eval a X.env) :: starEach [b] X.env := by rfl) (hpl : (backTo pos (starEach [b] X.env)).any (·.1) = false := by rfl) :
    EE X Γ γ (.Call (.Name "min" p) [a, b] [] pos) P :=
  ee_callB (call_min2 hX.calm) bt (by decide +kernel) (fun F as σ H R E Q q => h F as σ H R E Q fun vs rs g F' as' H' ⟨i, j, e, hp⟩ => q vs rs g F' as' H' (fun F as H vs R i' Q q => by
    subst e
    obtain ⟨v, u, rfl, h, h'⟩ := itms2 i'
    refine ⟨i, j, by rw [itm_int.mp h, itm_int.mp h'], ?_⟩
    have e : (if j < i then j else i) = min i j := by omega
    rw [e]
    exact q _ _ _ F as H hp (Ext.refl F as) R (itm_int.mpr rfl))) (he := hs) (hpl := hpl)
theorem ee_ifx (h : TV X Γ γ c k γ1) (h1 : k = true → EE X Γ γ1 a P) (h2 : k = false → EE X Γ γ1 b P) : EE X Γ γ (.IfExp c a b pos) P := fun F as σ H R E Q q =>
  ⟨_, pe_ifExp pt_wp pe_wp pe_wp, h F as σ H R E _ fun F1 as1 H1 x1 R1 => by
    cases k with
    | true => exact iteT (h1 rfl F1 as1 σ H1 R1 (E.mono x1) Q fun v r g F2 as2 H2 hp x2 R2 i2 => q v r g F2 as2 H2 hp (x1.trans x2) R2 i2)
    | false => exact iteF (h2 rfl F1 as1 σ H1 R1 (E.mono x1) Q fun v r g F2 as2 H2 hp x2 R2 i2 => q v r g F2 as2 H2 hp (x1.trans x2) R2 i2)⟩
end
theorem cut_take {α : Type} (xs : List α) (n : Nat) : PL.cutD xs none (some (n : Int)) = xs.take n := by
  unfold PL.cutD
  rw [HT.sIx_none, HT.sIx_nat, List.drop_zero, Nat.sub_zero]
  rcases Nat.le_total n xs.length with h | h
  · rw [Nat.min_eq_left h]
  · rw [Nat.min_eq_right h, List.take_length, List.take_of_length_le h]
theorem cut_drop {α : Type} (xs : List α) (n : Nat) : PL.cutD xs (some (n : Int)) none = xs.drop n := by
  unfold PL.cutD
  rw [HT.sIx_none, HT.sIx_nat]
  rcases Nat.le_total n xs.length with h | h
  · rw [Nat.min_eq_left h, List.take_of_length_le (by rw [List.length_drop]; exact Nat.le_refl _)]
  · rw [Nat.min_eq_right h, Nat.sub_self, List.drop_eq_nil_of_le h]
    rfl
theorem turned_map {α β : Type} (f : α → β) (b : Bool) (xs : List α) : turned b (xs.map f) = (turned b xs).map f := by cases b <;> simp [turned]
theorem turned_len {α : Type} (b : Bool) (xs : List α) : (turned b xs).length = xs.length := by cases b <;> simp [turned]
theorem turned_mem {α : Type} {b : Bool} {xs : List α} {x : α} : x ∈ turned b xs ↔ x ∈ xs := by cases b <;> simp [turned]
theorem turned_nodup {α : Type} {b : Bool} {xs : List α} (h : xs.Nodup) : (turned b xs).Nodup := by
  cases b with
  | false => exact h
  | true => exact List.pairwise_reverse.mpr (h.imp fun h => Ne.symm h)
theorem zipP_map {α β : Type} (f : α → PyData) (g : β → PyData) (xs : List α) (ys : List β) : zipP (xs.map f) (ys.map g) = (xs.zip ys).map fun q => .tuple [f q.1, g q.2] := by
  unfold zipP
  rw [List.zip_map, List.map_map]
  rfl
end PL

namespace PL
open PySem PySem.Spec PyProof.Rows L2
/-! ### a law whose own def shows things: it runs under the caller alone -/
/-- the abstract heap at the start: the script, if it is not the module's own -/
theorem start_heap {P : Program} {w : World} {K : PySem.W.Frag} {a : Addr} {s : Shared} {us : List Value} {ns : List Int} (KX : K.In s.heap) (ha : s.heap.get? a = some { cls := .type "list", data := .seq us.toArray }) (hi : IntsAre us ns) (hl : ns.length ≤ sizeLine) :
    ∃ H : Hp, Only H ∧ SqL K H a (ns.map V.int) ∧ HOk P w H s.heap ∧ ∀ b u, H b = some u → b = a ∧ K.lookup a = none := by
  have hv := vals_ints hi
  have hlen := hi.length
  cases hk : K.lookup a with
  | some o =>
    have e := KX a o hk
    rw [ha] at e
    cases e
    exact ⟨fun _ => none, fun _ => .inl rfl, .inr ⟨_, us.toArray, _, hk, rfl, rfl, rfl, by rw [List.size_toArray, hlen]; exact hl, by simpa using hv⟩, fun b u z => (nomatch (show (none : Option HO) = some u from z)), fun b u z => (nomatch (show (none : Option HO) = some u from z))⟩
  | none =>
    have at_a : ∀ {b : Addr} {u : HO}, (if b = a then some (HO.frz { cls := .type "list", data := .seq us.toArray } (.lst (ns.map V.int))) else none) = some u → b = a ∧ u = HO.frz { cls := .type "list", data := .seq us.toArray } (.lst (ns.map V.int)) := fun {b u} z => by
      by_cases hb : b = a
      · rw [if_pos hb] at z
        exact ⟨hb, (Option.some.inj z).symm⟩
      · rw [if_neg hb] at z
        cases z
    refine ⟨fun b => if b = a then some (HO.frz { cls := .type "list", data := .seq us.toArray } (.lst (ns.map V.int))) else none, fun b => ?_, .inl (.inr ⟨{ cls := .type "list", data := .seq us.toArray }, if_pos rfl⟩), fun b u z => ?_, fun b u z => ⟨(at_a z).1, rfl⟩⟩
    · by_cases hb : b = a
      · exact .inr ⟨_, _, if_pos hb⟩
      · exact .inl (if_neg hb)
    · obtain ⟨e1, e2⟩ := at_a z
      subst e1 e2
      exact ⟨ha, by rw [List.length_map]; exact hl, us, _, hv, ha⟩
theorem law_topG {P : Program} {w : World} {K : PySem.W.Frag} {mg mb : Str → Option Value} {fa a : Addr} {x y qual : Str} {st : Stmt} {fd : FuncData} {N : List Str} {k : Nat} {s : Shared} {us : List Value} {ns : List Int} {S : PSpec}
    (KX : K.In s.heap) (hns : s.heap.Ns mainGlobals mg) (hb : s.heap.Ns builtinsNs mb) (hbb : ∀ z : Str, z ≠ "__name__" → mb z = bootBuiltins z) (hlim : s.heap.NoLimit) (hg : s.gens = #[])
    (ha : s.heap.get? a = some { cls := .type "list", data := .seq us.toArray }) (hi : IntsAre us ns) (hl : ns.length ≤ sizeLine) (hr : Room (k + 1) callerA)
    (Fn : Fun K y qual st fa fd) (SC : FnScope N [x] (defScope st)) (hbind : ∀ (t : Shared) (u : Value), BindsTo t fd ⟨[u], []⟩ [(x, u)])
    (body : ∀ base : Heap, K.In base → base.Ns mainGlobals mg → ∀ X : Cx, PL.Ctx X P w K mg base N (defScope st) k → X.A.guards = some [] → ∀ args γ Po, Clo γ → S args γ Po → SVs X (slots0 N args) γ (defBody st) { nx := fun _ g => PL.Fin γ.length Po (.fz .none) g, rt := PL.Fin γ.length Po })
    (hsp : S [.fz (.list (ns.map .int))] [] fun r _ => r = .fz (.bool true)) :
    codeAny (model P w) callerA (.call (.ref fa) ⟨[.ref a], []⟩) (fun r s' => r = .ok (.ret (.bool true)) ∧ OldK s.heap s'.heap ∧ s'.os = s.os ∧ AllBare s'.gens) s := by
  obtain ⟨H, hO, hS, hok, hA⟩ := start_heap (P := P) (w := w) KX ha hi hl
  have none_of : ∀ {b : Addr} {o : Obj} {es : Array DictEntry} {ep : Nat}, s.heap.get? b = some o → o.data = .dict es ep → H b = none := fun {b o es ep} e d => by
    cases q : H b with
    | none => rfl
    | some u =>
      rw [(hA b u q).1, ha] at e
      cases e
      exact absurd d (fun z => nomatch (show Data.seq us.toArray _ = Data.dict es ep from z))
  have ns_of : ∀ {b : Addr} {m : Str → Option Value}, s.heap.Ns b m → (hidT s.heap H).Ns b m := fun {b m} q => by
    obtain ⟨o, es, ep, e, d, r⟩ := q
    exact ⟨o, es, ep, hidT_get e (none_of e d), d, r⟩
  have KB : K.In (hidT s.heap H) := fun b o e => hidT_get (KX b o e) (by
    cases q : H b with
    | none => rfl
    | some u =>
      obtain ⟨e1, e2⟩ := hA b u q
      rw [e1, e2] at e
      cases e)
  have lim : (hidT s.heap H).NoLimit := by
    obtain ⟨mc, q1, q2⟩ := hlim
    exact ⟨mc, ns_of q1, q2⟩
  have e0 : Env0 P w K mg (hidT s.heap H) callerA [] s H := ⟨rfl, ⟨KB, ns_of hns, ⟨mb, ns_of hb, hbb⟩, lim⟩, fun b o e => of_hidT e, Nat.le_of_eq (hidT_size _ _), trivial, fun b q => (nomatch (show b ∈ ([] : List Addr) from q)), hok, .of_eq hg⟩
  obtain ⟨oc, od, kV, doc, pm, an, cdv, ct, osl, rfl, lk, hcd⟩ := Fn.ex
  have par : ∀ z ∈ [x].zip [Value.ref a], (defScope st).names.lookup z.1 = some .local ∨ ((defScope st).names.lookup z.1 = some .cell ∧ ((cellsFrom (s.heap.objs.size + 1) (defScope st).names []).lookup z.1).isSome = true) := fun z hz => by
    rcases SC.par z.1 (List.of_mem_zip (show (z.1, z.2) ∈ _ from hz)).1 with q | q
    · exact .inl q
    · exact .inr ⟨q, PySem.W.cellsFrom_some _ _ _ (.inl q)⟩
  have rv : Vals [V.ref a] [Value.ref a] := .cons rfl .nil
  refine codeAny_call_function (Room.depth hr) (KX _ _ lk) rfl SC.co SC.gen rfl (PySem.W.codeRec_of KX hcd) (hbind s (.ref a) _ _ _ _ ?_)
  refine wpAny_newFunctionEnv_cells SC.kind par fun env henv s1 into => ?_
  subst henv
  refine ⟨hlim.keeps into.toInCall.keep, codeAny_func ?_⟩
  have I := inv_start (CX := CX0) (qual := qual) (f := fa) (cd := cdv) (E := E0) SC hr.hd e0 (rfl : [V.ref a].length = [x].length) rv into
  have hr2 := Room.deeper hr (envOfC qual (defScope st) s.heap.objs.size fa cdv)
  have c : PL.Ctx (cxOf CX0 P w K mg (hidT s.heap H) N qual (defScope st) fa cdv callerA [] s H E0).nox P w K mg (hidT s.heap H) N (defScope st) k :=
    ⟨rfl, rfl, rfl, rfl, rfl, rfl, rfl, rfl, ⟨rfl, SC.nd, SC.kind, by have := hr2.un; show (callerA.deeper (envOfC qual (defScope st) s.heap.objs.size fa cdv)).units + 100 < cLine; omega⟩, hr2, PassesOwn.never⟩
  have R0 : Rep K H [] [] H := ⟨fun _ _ h => h, by simp, rfl, by simp, fun c o h => by simp at h⟩
  have i0 : ItmsR K H [] [Itm.fz (.list (ns.map .int))] [V.ref a] := .cons (itm_lst.mpr ⟨a, ns.map V.int, rfl, hS, dpAll_ints ns⟩) .nil
  have hb2 := body _ KB (ns_of hns) _ c rfl _ [] _ R0.clo hsp H [] (start N [V.ref a]) H { nx := fun _ _ => False, rt := fun v _ => v = V.bl true } R0 (env_start i0) ⟨fun Γ' g F1 as1 σ1 H1 hn x1 R1 E1 => (by
      obtain ⟨g', junk, rfl, hl, hc, hi, hp⟩ := hn
      cases hp), fun r g F1 as1 v H1 hn x1 R1 i1 => (by
      obtain ⟨g', junk, rfl, hl, hc, hi, hp⟩ := hn
      subst hp
      exact itm_bl.mp i1), fun _ _ _ _ _ _ z => z.elim, fun _ _ _ _ _ _ z => z.elim⟩
  refine wpAny_mono ((pss_wp (X := (cxOf CX0 P w K mg (hidT s.heap H) N qual (defScope st) fa cdv callerA [] s H E0).nox) (ss := defBody st)).run [] s1 (start N [V.ref a]) H _ (I.wish _) hb2) (fun fl s' hs => ?_) fun e s' z => False.elim z
  have hs := hs.unwish
  cases fl with
  | ret u =>
    obtain ⟨v, σ', H', J, r', q⟩ := hs
    have q : v = V.bl true := q
    subst q
    obtain rfl : u = Value.bool true := r'
    refine ⟨rfl, OldK.of_keep fun b o e => ?_, J.os, J.bare⟩
    have un := J.base
    cases q : H b with
    | none => exact un.keep b o e q (fun z => nomatch (show b ∈ ([] : List Addr) from z)) (fun z => nomatch (show b ∈ ([] : List Addr) from z))
    | some u =>
      rcases hO b with z | ⟨ob, xs, z⟩
      · rw [q] at z; cases z
      · have z2 := un.frzs b ob _ z
        have e1 := (hok b _ z).1
        have e2 := (J.hok b _ z2).1
        rw [e] at e1
        cases e1
        exact e2
  | next =>
    obtain ⟨σ', H', J, q⟩ := hs
    exact (show False from q).elim
  | brk =>
    obtain ⟨_, _, _, q⟩ := hs
    exact (show False from q).elim
  | cont =>
    obtain ⟨_, _, _, q⟩ := hs
    exact (show False from q).elim
/-- what the last step wants of the law's def -/
def TopG (l : PySem.W.OpenLaw) (w : World) (K : PySem.W.Frag) (mg : Str → Option Value) (fa : Addr) (x : Str) (k : Nat) (S : PSpec) : Prop :=
  ∃ (y qual : Str) (st : Stmt) (fd : FuncData) (N : List Str), Fun K y qual st fa fd ∧ FnScope N [x] (defScope st) ∧ (∀ (s : Shared) (v : Value), BindsTo s fd ⟨[v], []⟩ [(x, v)]) ∧
    ∀ base : Heap, K.In base → base.Ns mainGlobals mg → ∀ X : Cx, PL.Ctx X l.prog w K mg base N (defScope st) k → X.A.guards = some [] → ∀ args γ Po, Clo γ → S args γ Po → SVs X (slots0 N args) γ (defBody st) { nx := fun _ g => PL.Fin γ.length Po (.fz .none) g, rt := PL.Fin γ.length Po }
theorem walk_ofG {l : PySem.W.OpenLaw} {n k : Nat} {q : Program} {loose : List Str} {XP : (Str → Option Value) → Heap → Prop} {YP : World → Heap → Prop} {d : DefRec} {K : Params → PySem.W.Frag} {x : Str} {S : PSpec}
    (hn : l.most = some n) (hn2 : n ≤ sizeLine) (hdf : d.params.defaults = []) (hr : Room (k + 1) callerA) (hY : ∀ (w : World) (h : Heap), YP w h → (K w.params).In h)
    (F : ∀ (w : World) (mg : Str → Option Value) (fa : Addr) (h : Heap), (K w.params).In h → h.Ns mainGlobals mg → mg d.name = some (.ref fa) → TopG l w (K w.params) mg fa x k S)
    (hS : ∀ ns : List Int, ns.length ≤ n → S [.fz (.list (ns.map .int))] [] fun r _ => r = .fz (.bool true)) :
    PySem.W.WalkO q loose XP YP l.row.toRowW d [] (fun f vs => PySem.call f vs) :=
  Att.attach_call hn hdf fun w s0 s mg mb fa o pm cd doc a us ns G Y _ _ _ hmg hobj hints hlen hg => by
    obtain ⟨y, qual, st, fd, N, Fn, SC, hb, body⟩ := F w mg fa _ (hY w _ Y) G.T.g hmg
    exact law_topG (hY w _ Y) G.T.g G.T.b G.T.builtins G.T.nolimit hg hobj hints (Nat.le_trans hlen hn2) hr Fn SC hb body (hS ns hlen)
end PL

namespace PL
open PySem PySem.Spec PyProof.Rows L2
/-! ### repr of data with dicts by tuples in it -/
mutual
inductive Dr (K : PySem.W.Frag) (H : Hp) : V → PyData → Prop
  | dat {v : V} {d : PyData} : Dp K H v d → d.canLay0 = true → Dr K H v d
  | tup {a : Addr} {vs : List V} {ds : List PyData} : SqT K H a vs → DrAll K H vs ds → Dr K H (.ref a) (.tuple ds)
  | dct {a : Addr} {ks : List (List Key × V)} {ds : List PyData} : H a = some (.dT ks) → DpAll K H (ks.map (·.2)) ds → PyData.canLayAll0 ds = true → PyData.canLayAll0 (ks.map fun q => PyData.tuple (q.1.map kD)) = true → Dr K H (.ref a) (.dict ((ks.map fun q => PyData.tuple (q.1.map kD)).zip ds))
inductive DrAll (K : PySem.W.Frag) (H : Hp) : List V → List PyData → Prop
  | nil : DrAll K H [] []
  | cons {v : V} {d : PyData} {vs : List V} {ds : List PyData} : Dr K H v d → DrAll K H vs ds → DrAll K H (v :: vs) (d :: ds)
end
theorem dp_key {K : PySem.W.Frag} {H : Hp} (k : Key) : Dp K H (kV k) (kD k) := by
  cases k with
  | inl i => exact .int i
  | inr x => exact .str x
theorem dp_keys {K : PySem.W.Frag} {H : Hp} : ∀ (k : List Key), DpAll K H (k.map kV) (k.map kD)
  | [] => .nil
  | x :: k => .cons (dp_key x) (dp_keys k)
section
variable {X : Cx} {pins : List (Addr × Obj)} {σ : L2.St} {H : Hp} {s : Shared}
/-- what it takes to show a thing -/
structure Shows (P : Program) (w : World) (h : Heap) (d : PyData) (u : Value) : Prop where
  it : ∃ as bs, Reads h u d as ∧ ReadAtMost h d.depth bs ∧ ReprK P w bs h d.depth u d.shown
structure ShowsAll (P : Program) (w : World) (h : Heap) (ds : List PyData) (us : List Value) : Prop where
  it : ∃ as bs, ReadsAll h us ds as ∧ ReadAtMost h (PyData.depthAll ds) bs ∧ ReprAllK P w bs h (PyData.depthAll ds) us (PyData.shownAll ds)
theorem dpAll_len {K : PySem.W.Frag} {H : Hp} : ∀ {vs : List V} {ds : List PyData}, DpAll K H vs ds → vs.length = ds.length
  | _, _, .nil => rfl
  | _, _, .cons _ r => by simp [dpAll_len r]
/-- the keys and the values of a dict by tuples, as they stand in its object -/
theorem kv_read (I : Inv X pins σ H s) {ks : List (List Key × V)} {ds : List PyData} : ∀ {xs : List (List Key × Addr × Value)},
    Paired (fun (p : List Key × V) (q : List Key × Addr × Value) => p.1 = q.1 ∧ H q.2.1 = some (.tup (p.1.map kV)) ∧ RelV p.2 q.2.2) ks xs →
    (∃ as, ReadsAll s.heap (xs.map fun q => Value.ref q.2.1) (ks.map fun q => PyData.tuple (q.1.map kD)) as) ∧ Vals (ks.map (·.2)) (xs.map fun q => q.2.2) := by
  intro xs h
  induction h with
  | nil => exact ⟨⟨_, .nil⟩, .nil⟩
  | cons r t ih =>
    obtain ⟨⟨as, h1⟩, h2⟩ := ih
    obtain ⟨e1, e2, e3⟩ := r
    obtain ⟨bs, h3⟩ := Dp.reads I _ _ _ (.tup (SqT.of e2) (dp_keys _)) (show L2.RelV (V.ref _) (Value.ref _) from rfl)
    exact ⟨⟨_, .cons h3 h1⟩, .cons e3 h2⟩
theorem show_dat (I : Inv X pins σ H s) {v : V} {d : PyData} {u : Value} (h : Dp X.K H v d) (hc : d.canLay0 = true) (r : RelV v u) (hs : d.showable = true) (hz : d.shown.length ≤ sizeLine) : Shows X.prog X.w s.heap d u := by
  obtain ⟨as, rd⟩ := Dp.reads I d v u h r
  obtain ⟨bs, h1, h2⟩ := ReprK.of_reads (prog := X.prog) (w := X.w) rd hs (PyData.noDict_hsm (PyData.hasDict_of_canLay d hc)) hz
  exact ⟨as, bs, rd, h1, h2⟩
theorem show_dats (I : Inv X pins σ H s) {vs : List V} {ds : List PyData} {us : List Value} (h : DpAll X.K H vs ds) (hc : PyData.canLayAll0 ds = true) (r : Vals vs us) (hs : PyData.showableAll ds = true) (hz : ∀ t ∈ PyData.shownAll ds, t.length ≤ sizeLine) : ShowsAll X.prog X.w s.heap ds us := by
  obtain ⟨as, rd⟩ := Dp.readsAll I ds vs us h r
  have hnd : PyData.hasDictAll ds = false := by
    have := PyData.hasDict_of_canLay (.list ds) (by simpa [PyData.canLay0] using hc)
    simpa [PyData.hasDict] using this
  obtain ⟨bs, h1, h2⟩ := ReprAllK.of_readsAll (prog := X.prog) (w := X.w) rd hs (fun h => by rw [hnd] at h; cases h) hz
  exact ⟨as, bs, rd, h1, h2⟩
theorem keys_lay (ks : List (List Key × V)) (hk : ∀ q ∈ ks, ∀ k ∈ q.1, (kD k).canLay0 = true) : PyData.canLayAll0 (ks.map fun q => PyData.tuple (q.1.map kD)) = true := by
  have one : ∀ l : List Key, (∀ k ∈ l, (kD k).canLay0 = true) → PyData.canLayAll0 (l.map kD) = true := by
    intro l
    induction l with
    | nil => intro _; simp [PyData.canLayAll0]
    | cons k l ih =>
      intro h
      simp only [List.map_cons, PyData.canLayAll0, Bool.and_eq_true]
      exact ⟨h k (by simp), ih fun k hk => h k (by simp [hk])⟩
  induction ks with
  | nil => simp [PyData.canLayAll0]
  | cons q ks ih =>
    simp only [List.map_cons, PyData.canLayAll0, PyData.canLay0, Bool.and_eq_true]
    exact ⟨one _ (hk q (by simp)), ih fun q hq => hk q (by simp [hq])⟩
theorem zip_fst' {α β : Type} (xs : List α) (ys : List β) (h : xs.length = ys.length) : (xs.zip ys).map (·.1) = xs := List.map_fst_zip (Nat.le_of_eq h)
theorem zip_snd' {α β : Type} (xs : List α) (ys : List β) (h : xs.length = ys.length) : (xs.zip ys).map (·.2) = ys := List.map_snd_zip (Nat.le_of_eq h.symm)
theorem show_dct (I : Inv X pins σ H s) {a : Addr} {ks : List (List Key × V)} {ds : List PyData} (h : H a = some (.dT ks)) (hv : DpAll X.K H (ks.map (·.2)) ds) (hc : PyData.canLayAll0 ds = true) (hk : PyData.canLayAll0 (ks.map fun q => PyData.tuple (q.1.map kD)) = true)
    (hs : (PyData.dict ((ks.map fun q => PyData.tuple (q.1.map kD)).zip ds)).showable = true) (hz : (PyData.dict ((ks.map fun q => PyData.tuple (q.1.map kD)).zip ds)).shown.length ≤ sizeLine) : Shows X.prog X.w s.heap (.dict ((ks.map fun q => PyData.tuple (q.1.map kD)).zip ds)) (.ref a) := by
  obtain ⟨hlen, hsys, xs, hp, o, es, ep, h1, h2, h3, h4, h5⟩ := I.hok a _ h
  obtain ⟨⟨as1, r1⟩, hvals⟩ := kv_read I (ds := ds) hp
  have el : (ks.map fun q => PyData.tuple (q.1.map kD)).length = ds.length := by rw [List.length_map, ← dpAll_len hv, List.length_map]
  have ek : es.toList.map (·.key) = xs.map fun q => Value.ref q.2.1 := by rw [h4, List.map_map]; rfl
  have ev : es.toList.map (·.val) = xs.map fun q => q.2.2 := by rw [h4, List.map_map]; rfl
  have hz' : (dictText (PyData.shownKv ((ks.map fun q => PyData.tuple (q.1.map kD)).zip ds))).length ≤ sizeLine := by simpa only [PyData.shown] using hz
  obtain ⟨hs1, hs2⟩ := PyData.showableKv_split _ (by simpa [PyData.showable] using hs)
  have z1 : ∀ t ∈ PyData.shownAll (((ks.map fun q => PyData.tuple (q.1.map kD)).zip ds).map (·.1)), t.length ≤ sizeLine := fun t ht => by
    obtain ⟨p, hp, hl⟩ := PyData.shownKv_key_le _ t ht
    exact Nat.le_trans hl (Nat.le_trans (dictText_mem_le hp) hz')
  have z2 : ∀ t ∈ PyData.shownAll (((ks.map fun q => PyData.tuple (q.1.map kD)).zip ds).map (·.2)), t.length ≤ sizeLine := fun t ht => by
    obtain ⟨p, hp, hl⟩ := PyData.shownKv_val_le _ t ht
    exact Nat.le_trans hl (Nat.le_trans (dictText_mem_le hp) hz')
  have hnd : PyData.hasDictAll (ks.map fun q => PyData.tuple (q.1.map kD)) = false := by
    have := PyData.hasDict_of_canLay (.list (ks.map fun q => PyData.tuple (q.1.map kD))) (by simpa [PyData.canLay0] using hk)
    simpa [PyData.hasDict] using this
  rw [zip_fst' _ _ el] at hs1 z1
  rw [zip_snd' _ _ el] at hs2 z2
  obtain ⟨b1, hb1, k1⟩ := ReprAllK.of_readsAll (prog := X.prog) (w := X.w) r1 hs1 (fun h => by rw [hnd] at h; cases h) z1
  obtain ⟨as2, b2, r2, hb2, k2⟩ := (show_dats I hv hc hvals hs2 z2).it
  have oc : o.cls = .type "dict" := h2.1
  have rd : Reads s.heap (.ref a) (.dict ((ks.map fun q => PyData.tuple (q.1.map kD)).zip ds)) _ := .dict h1 oc h3 (by rw [ek, zip_fst' _ _ el]; exact r1) (by rw [ev, zip_snd' _ _ el]; exact r2)
  have d1 := PyData.depthAll_keys_le ((ks.map fun q => PyData.tuple (q.1.map kD)).zip ds)
  have d2 := PyData.depthAll_vals_le ((ks.map fun q => PyData.tuple (q.1.map kD)).zip ds)
  have e1 := PyData.shownKv_eq ((ks.map fun q => PyData.tuple (q.1.map kD)).zip ds)
  rw [zip_fst' _ _ el] at d1 e1
  rw [zip_snd' _ _ el] at d2 e1
  have hb := (hb1.mono d1).append (hb2.mono d2)
  have hna : a ∉ b1 ++ b2 := not_mem_of_deeper rd (by simp only [PyData.depth]; omega) hb
  refine ⟨_, a :: (b1 ++ b2), rd, ReadAtMost.cons rd (by simp only [PyData.depth]; omega) hb, ?_⟩
  simp only [PyData.depth, PyData.shown]
  rw [e1]
  exact ReprK.dict h1 oc h3 hsys hna (ReprEntriesK.of_two es.toList _ _ (by rw [ek]; exact k1.more_le (fun b hb => List.mem_append_left _ hb) d1) (by rw [ev]; exact k2.more_le (fun b hb => List.mem_append_right _ hb) d2))
mutual
theorem Dr.shows (I : Inv X pins σ H s) : ∀ {v : V} {d : PyData} {u : Value}, Dr X.K H v d → RelV v u → d.showable = true → d.shown.length ≤ sizeLine → Shows X.prog X.w s.heap d u
  | _, _, _, .dat h hc, r, hs, hz => show_dat I h hc r hs hz
  | _, _, _, .dct h hv hc hk, r, hs, hz => by
    cases r
    exact show_dct I h hv hc hk hs hz
  | _, _, _, .tup (a := a) (ds := ds) h ha, r, hs, hz => by
    cases r
    have hz' : (tupleText (PyData.shownAll ds)).length ≤ sizeLine := by simpa only [PyData.shown] using hz
    obtain ⟨its, rv, ⟨o, ho, hc, n, hd⟩, _⟩ := I.tuple h
    obtain ⟨as, bs, rd, hb, hk⟩ := (DrAll.shows I ha rv (by simpa [PyData.showable] using hs) (fun t ht => Nat.le_trans (tupleText_mem_le ht) hz')).it
    have rd2 : Reads s.heap (.ref a) (.tuple ds) as := .tuple ho hc hd rd
    have hna := not_mem_of_deeper rd2 (by simp only [PyData.depth]; omega) hb
    refine ⟨as, a :: bs, rd2, ReadAtMost.cons rd2 (by simp only [PyData.depth]; omega) hb, ?_⟩
    simp only [PyData.depth, PyData.shown]
    exact ReprK.tuple ho hc hd hna hk
theorem DrAll.shows (I : Inv X pins σ H s) : ∀ {vs : List V} {ds : List PyData} {us : List Value}, DrAll X.K H vs ds → Vals vs us → PyData.showableAll ds = true → (∀ t ∈ PyData.shownAll ds, t.length ≤ sizeLine) → ShowsAll X.prog X.w s.heap ds us
  | _, _, _, .nil, r, _, _ => by
    cases r
    exact ⟨_, [], .nil, (fun _ h => nomatch h), by simp only [PyData.shownAll]; exact .nil⟩
  | _, _, _, .cons h hr, r, hs, hz => by
    cases r with
    | cons r1 r2 =>
    have hs' := by simpa [PyData.showableAll] using hs
    obtain ⟨as1, b1, rd1, hb1, k1⟩ := (Dr.shows I h r1 hs'.1 (hz _ (by simp only [PyData.shownAll]; exact List.mem_cons_self ..))).it
    obtain ⟨as2, b2, rd2, hb2, k2⟩ := (DrAll.shows I hr r2 hs'.2 (fun t ht => hz t (by simp only [PyData.shownAll]; exact List.mem_cons_of_mem _ ht))).it
    refine ⟨_, b1 ++ b2, .cons rd1 rd2, ?_, ?_⟩
    · simp only [PyData.depthAll]
      exact (hb1.mono (Nat.le_max_left _ _)).append (hb2.mono (Nat.le_max_right _ _))
    · simp only [PyData.depthAll, PyData.shownAll]
      exact .cons ((k1.more fun b hb => List.mem_append_left _ hb).level_le (Nat.le_max_left _ _)) (k2.more_le (fun b hb => List.mem_append_right _ hb) (Nat.le_max_right _ _))
end
end
theorem cr_reprT {X : Cx} (hg : X.A.guards = some []) (hu : X.A.units + 70 < cLine) : CallR X (.builtin "repr") (fun xs H Q => ∃ (a : Addr) (vs : List V) (ds : List PyData), xs = [V.ref a] ∧ SqT X.K H a vs ∧ DrAll X.K H vs ds ∧ PyData.showableAll ds = true ∧ PyData.depthAll ds ≤ 60 ∧ (tupleText (PyData.shownAll ds)).length ≤ sizeLine ∧ Q (.str (tupleText (PyData.shownAll ds))) H) := by
  intro pins s σ H xs us Q I r h
  obtain ⟨a, vs, ds, rfl, ht, hd, hs, hdep, hz, q⟩ := h
  obtain ⟨u, rfl, ru⟩ := r.one
  cases ru
  obtain ⟨its, rv, ⟨o, ho, hc, n, hdt⟩, _⟩ := I.tuple ht
  obtain ⟨as, bs, rd, hb, hk⟩ := (DrAll.shows I hd rv hs (fun t ht => Nat.le_trans (tupleText_mem_le ht) hz)).it
  have rd2 : Reads s.heap (.ref a) (.tuple ds) as := .tuple ho hc hdt rd
  have hna := not_mem_of_deeper rd2 (by simp only [PyData.depth]; omega) hb
  refine call_repr_slot (by omega) ⟨o, ho, hc⟩ PySem.F.slot_tuple_repr ?_
  refine call_tuple_reprK ho hc hdt hna hk (show X.A.in1.guards = some [] from hg) (fun b _ => Clear.nil b) (by show X.A.units + 1 + (PyData.depthAll ds + 1) < cLine; omega) (fun _ _ e => e) (fun h' u tk hk2 => ?_) hz
  exact ⟨_, _, rfl, .str (tupleText (PyData.shownAll ds)), H, I.kept hk2, ⟨_, rfl⟩, q⟩
/-- what stands in a tuple that is shown -/
inductive Rpr (γ : Cells) : Itm → PyData → Prop
  | fz {d : PyData} : d.canLay0 = true → Rpr γ (.fz d) d
  | dit {c : Nat} {kvs : List (List Key × Itm)} {ds : List PyData} : γ[c]? = some (.dit kvs) → kvs.map (·.2) = ds.map Itm.fz → PyData.canLayAll0 ds = true → PyData.canLayAll0 (kvs.map fun q => PyData.tuple (q.1.map kD)) = true → Rpr γ (.cl c) (.dict ((kvs.map fun q => PyData.tuple (q.1.map kD)).zip ds))
inductive Rprs (γ : Cells) : List Itm → List PyData → Prop
  | nil : Rprs γ [] []
  | cons {x : Itm} {d : PyData} {xs : List Itm} {ds : List PyData} : Rpr γ x d → Rprs γ xs ds → Rprs γ (x :: xs) (d :: ds)
theorem pr_dpAll {K : PySem.W.Frag} {F : Hp} {as : List Addr} : ∀ {kvs : List (List Key × Itm)} {ks : List (List Key × V)} {ds : List PyData}, PrI K F as (List Key) kvs ks → kvs.map (·.2) = ds.map Itm.fz → DqAll K F (ks.map (·.2)) ds ∧ kvs.map (·.1) = ks.map (·.1)
  | [], _, [], .nil, _ => ⟨.nil, rfl⟩
  | _ :: _, _, [], _, e => by simp at e
  | [], _, _ :: _, _, e => by simp at e
  | p :: kvs, _, d :: ds, .cons r t, e => by
    simp only [List.map_cons, List.cons.injEq] at e
    obtain ⟨h1, h2⟩ := pr_dpAll t e.2
    refine ⟨.cons (itm_fz.mp (by have := r.2; rw [e.1] at this; exact this)) h1, ?_⟩
    simp only [List.map_cons, List.cons.injEq]
    exact ⟨r.1, h2⟩
theorem rpr_dr {K : PySem.W.Frag} {F H : Hp} {as : List Addr} {γ : Cells} (R : Rep K F as γ H) {x : Itm} {v : V} {d : PyData} (i : ItmR K F as x v) (h : Rpr γ x d) : Dr K H v d := by
  cases h with
  | fz hc => exact .dat ((dp_mono R.fr (itm_fz.mp i)).dp hc) hc
  | dit hc hv hl hk =>
    obtain ⟨a, ha, rfl⟩ := itm_cl.mp i
    obtain ⟨a', h1, ks, h2, h3⟩ := R.cellAt hc
    rw [ha] at h1
    cases h1
    obtain ⟨e1, e2⟩ := pr_dpAll h3 hv
    have e3 : ∀ (l : List (List Key × Itm)) (m : List (List Key × V)), l.map (·.1) = m.map (·.1) → (l.map fun q => PyData.tuple (q.1.map kD)) = m.map fun q => PyData.tuple (q.1.map kD) := fun l m e => by
      have := congrArg (List.map fun k : List Key => PyData.tuple (k.map kD)) e
      rw [List.map_map, List.map_map] at this
      exact this
    rw [e3 _ _ e2] at hk ⊢
    exact .dct h2 ((dpAll_mono R.fr e1).dp hl) hl hk
theorem rprs_dr {K : PySem.W.Frag} {F H : Hp} {as : List Addr} {γ : Cells} (R : Rep K F as γ H) : ∀ {xs : List Itm} {vs : List V} {ds : List PyData}, ItmsR K F as xs vs → Rprs γ xs ds → DrAll K H vs ds
  | _, _, _, .nil, .nil => .nil
  | _, _, _, .cons i is, .cons h hs => .cons (rpr_dr R i h) (rprs_dr R is hs)
theorem ev_reprT {X : Cx} {Γ : Slots} {γ γ1 : Cells} {a : Expr} {xs : List Itm} {ds : List PyData} {p pos : Pos} (hX : Cok X) (hg : X.A.guards = some []) (bt : Bt X "repr") (ha : EV X Γ γ a (.tp xs) γ1) (hr : Rprs γ1 xs ds) (hs : PyData.showableAll ds = true) (hd : PyData.depthAll ds ≤ 60) (hz : (tupleText (PyData.shownAll ds)).length ≤ 1000000)
    (he : starEach [a] X.env = (false, eval a X.env) :: starEach [] X.env := by rfl) : EV X Γ γ (.Call (.Name "repr" p) [a] [] pos) (.fz (.str (tupleText (PyData.shownAll ds)))) γ1 :=
  ev_callB (cr_reprT hg (by have := hX.hu; omega)) bt (by decide +kernel) (av_cons ha av_nil he) (fun F as H vs R i Q q => by
    obtain ⟨v, rfl, h⟩ := itms1 i
    cases h with
    | tp h1 h2 => exact ⟨_, _, ds, rfl, SqT.of (R.fr _ _ h1), rprs_dr R h2 hr, hs, hd, by rw [sizeLine_eq]; omega, q _ F as H (Ext.refl F as) R (itm_str.mpr rfl)⟩) (he := he)
end PL

namespace PL
open PySem PySem.Spec PyProof.Rows L2
/-! ### a, b = e, f of local names -/
theorem sw_two {env : Env} {x y : Str} {px py pt pt2 : Pos} {kt k2 : Nat} {a b : Expr} (hx : env.kindOf x = some .local) (hy : env.kindOf y = some .local) (hb : env.blockKind = .function) (hne : (x == y) = false) (hl : (py.line == px.line) = true)
    (hst : ([a, b].any fun | .Starred .. => true | _ => false) = false) (hf : [a, b].all (foldedForSure 8) = false) (hc : [a, b].all (constantsAlone 8) = false) : swappedStores [.Tuple [.Name x px, .Name y py] kt pt] (.Tuple [a, b] k2 pt2) env = pure (some [x, y]) := by
  unfold swappedStores
  have e : (some NameKind.local == some NameKind.local) = true := rfl
  have hl1 : (px.line == px.line) = true := by simp
  have e1 : ((Expr.Name x px).pos.line) = px.line := rfl
  have hd : ([x, y].eraseDups.length != [x, y].length) = false := by
    have : [x, y].eraseDups = [x, y] := by
      have hne' : (y == x) = false := by
        have h1 : ¬ x = y := fun h => by rw [h] at hne; simp at hne
        exact beq_eq_false_iff_ne.mpr fun h => h1 h.symm
      simp [List.eraseDups_cons, hne']
    rw [this]
    simp
  simp only [hx, hy, e, hb, Bool.true_and, List.filterMap_cons, List.filterMap_nil, List.head?_cons, Option.map_some, Option.getD_some, e1, hl, hl1, if_true]
  rw [if_neg (by simp)]
  split
  · rename_i h
    exact absurd (hst.symm.trans h) Bool.false_ne_true
  · rw [if_neg (by rw [hd]; simp), if_neg (by rw [hf]; simp), if_neg (by rw [hc]; simp)]
theorem svs_parE {X : Cx} {Γ : Slots} {γ : Cells} {R : SE} {rest : List Stmt} {i j : Nat} {x y : Str} {px py pt pos : Pos} {kt k2 pt2} {a b : Expr} (hX : Cok X) (n1 : Nm X x i .local) (n2 : Nm X y j .local) (hij : i ≠ j)
    (ha : AE X Γ γ [a, b] fun rs g => ∃ r1 r2, rs = [r1, r2] ∧ SVs X ((Γ.set i (some r1)).set j (some r2)) g rest R)
    (hne : (x == y) = false := by decide +kernel) (hl : (py.line == px.line) = true := by rfl)
    (hst : ([a, b].any fun | .Starred .. => true | _ => false) = false := by rfl) (hf : [a, b].all (foldedForSure 8) = false := by rfl) (hc : [a, b].all (constantsAlone 8) = false := by rfl)
    (hs : swapsWithSole [.Tuple [.Name x px, .Name y py] kt pt] (.Tuple [a, b] k2 pt2) pos.line X.env = pure false := by rfl) :
    SVs X Γ γ (.Assign [.Tuple [.Name x px, .Name y py] kt pt] (.Tuple [a, b] k2 pt2) pos :: rest) R :=
  svs_cons fun F as σ H D Rp E C => ⟨_, ps_par (i := i) (j := j) hX.calm hX.nd n1.ix n2.ix hij n1.r.kd n2.r.kd pa_wp (sw_two n1.r.kd n2.r.kd (by unfold Env.blockKind; rw [hX.kind]; rfl) hne hl hst hf hc) hs, ha F as σ H Rp E _ fun vs rs g F' as' H' hp x' R' i' => by
    obtain ⟨r1, r2, rfl, hp⟩ := hp
    obtain ⟨v, u, rfl, i1, i2⟩ := itms2 i'
    exact ⟨v, u, rfl, C.nx _ _ _ _ _ _ hp x' R' (((E.mono x').set i1).set i2)⟩⟩
end PL

namespace PL
open PySem PySem.Spec PyProof.Rows L2
/-! ### dicts as lists of their entries -/
section
variable {κ : Type} [DecidableEq κ]
theorem valI_isSome (kvs : List (κ × Itm)) (k : κ) : (valI kvs k).isSome = decide (k ∈ kvs.map (·.1)) := by
  unfold valI
  rw [Option.isSome_map, Bool.eq_iff_iff, List.find?_isSome]
  simp [List.mem_map]
theorem valI_mem {kvs : List (κ × Itm)} {k : κ} : (valI kvs k).isSome = true ↔ k ∈ kvs.map (·.1) := by rw [valI_isSome]; exact decide_eq_true_iff
theorem putI_new {kvs : List (κ × Itm)} {k : κ} (h : k ∉ kvs.map (·.1)) (r : Itm) : putI kvs k r = kvs ++ [(k, r)] := by
  unfold putI
  rw [if_neg]
  intro q
  obtain ⟨kv, h1, h2⟩ := List.any_eq_true.mp q
  exact h (List.mem_map.mpr ⟨kv, h1, by simpa using h2⟩)
theorem valI_of {kvs : List (κ × Itm)} {k : κ} {r : Itm} (hn : (kvs.map (·.1)).Nodup) (h : (k, r) ∈ kvs) : valI kvs k = some r := by
  induction kvs with
  | nil => cases h
  | cons x kvs ih =>
    obtain ⟨h1, h2⟩ := List.nodup_cons.mp hn
    unfold valI
    rw [List.find?_cons]
    rcases List.mem_cons.mp h with rfl | h
    · simp
    · have : ¬ x.1 = k := fun e => h1 (List.mem_map.mpr ⟨(k, r), h, e.symm⟩)
      rw [decide_eq_false this]
      exact ih h2 h
end
/-- each thing once, in the order of the first times -/
def dd : List Str → List Str → List Str
  | acc, [] => acc
  | acc, x :: L => dd (if x ∈ acc then acc else acc ++ [x]) L
theorem dd_mem : ∀ (L acc : List Str) (x : Str), x ∈ dd acc L ↔ x ∈ acc ∨ x ∈ L
  | [], acc, x => by simp [dd]
  | y :: L, acc, x => by
    rw [dd, dd_mem L]
    by_cases h : y ∈ acc
    · rw [if_pos h]
      constructor
      · rintro (h1 | h1)
        · exact .inl h1
        · exact .inr (List.mem_cons_of_mem _ h1)
      · rintro (h1 | h1)
        · exact .inl h1
        · rcases List.mem_cons.mp h1 with rfl | h1
          · exact .inl h
          · exact .inr h1
    · rw [if_neg h]
      simp only [List.mem_append, List.mem_cons, List.not_mem_nil, or_false, or_assoc]
theorem dd_nodup : ∀ (L acc : List Str), acc.Nodup → (dd acc L).Nodup
  | [], acc, h => h
  | y :: L, acc, h => by
    rw [dd]
    refine dd_nodup L _ ?_
    by_cases hy : y ∈ acc
    · rw [if_pos hy]; exact h
    · rw [if_neg hy]
      refine List.nodup_append.mpr ⟨h, by simp, fun a ha b hb e => ?_⟩
      obtain rfl : b = y := by simpa using hb
      exact hy (e ▸ ha)
theorem dd_app : ∀ (L acc : List Str) (x : Str), dd acc (L ++ [x]) = if x ∈ dd acc L then dd acc L else dd acc L ++ [x]
  | [], acc, x => by by_cases h : x ∈ acc <;> simp [dd, h]
  | y :: L, acc, x => by rw [List.cons_append, dd, dd_app L, dd]
theorem dd_len (L acc : List Str) : (dd acc L).length ≤ acc.length + L.length := by
  induction L generalizing acc with
  | nil => simp [dd]
  | cons y L ih =>
    rw [dd]
    refine Nat.le_trans (ih _) ?_
    by_cases h : y ∈ acc
    · rw [if_pos h]; simp
    · rw [if_neg h]; simp; omega
/-- the keys of a dict made of texts -/
theorem merge_dd (v : Itm) : ∀ (L acc : List Str), mergeI (acc.map fun s => ((Sum.inr s : Key), v)) (L.map fun s => ((Sum.inr s : Key), v)) = (dd acc L).map fun s => ((Sum.inr s : Key), v)
  | [], acc => rfl
  | x :: L, acc => by
    rw [dd]
    have ih := merge_dd v L
    unfold mergeI at ih ⊢
    rw [List.map_cons, List.foldl_cons]
    by_cases h : x ∈ acc
    · rw [if_pos h]
      have : putI (acc.map fun s => ((Sum.inr s : Key), v)) (Sum.inr x) v = acc.map fun s => ((Sum.inr s : Key), v) := by
        unfold putI
        rw [if_pos (List.any_eq_true.mpr ⟨(Sum.inr x, v), List.mem_map.mpr ⟨x, h, rfl⟩, by simp⟩), List.map_map]
        refine List.map_congr_left fun s _ => ?_
        by_cases e : s = x
        · simp [e]
        · have : ¬ (Sum.inr s : Key) = Sum.inr x := fun q => e (Sum.inr.inj q)
          simp [this]
      rw [this]
      exact ih acc
    · rw [if_neg h, putI_new]
      · have := ih (acc ++ [x])
        rw [List.map_append] at this
        exact this
      · intro q
        obtain ⟨y, hy, e⟩ := List.mem_map.mp q
        obtain ⟨s, hs, rfl⟩ := List.mem_map.mp hy
        exact h (Sum.inr.inj e ▸ hs)
end PL

namespace PL
open PySem PySem.Spec PyProof.Rows L2
/-! ### how long a thing shows -/
theorem piled_le {ts : List Str} {B : Nat} (h : ∀ t ∈ ts, t.length ≤ B) : piled ts ≤ ts.length * (B + 2) := by
  induction ts with
  | nil => simp [piled]
  | cons t ts ih =>
    rw [piled_cons, List.length_cons, Nat.succ_mul]
    have := ih fun u hu => h u (List.mem_cons_of_mem _ hu)
    have := h t (List.mem_cons_self ..)
    omega
theorem len_join (ts : List Str) : (Str.join ", " ts).length ≤ piled ts := by
  by_cases h : ts = []
  · subst h
    show (0 : Nat) ≤ _
    exact Nat.zero_le _
  · have := join_length_add ts h
    omega
theorem len_tup (ts : List Str) : (tupleText ts).length ≤ piled ts + 3 := by
  unfold tupleText
  rw [strLen_append, strLen_append]
  have h1 : (("(" : String) : Str).length = 1 := rfl
  have h2 : (((if ts.length == 1 then ",)" else ")" : String) : Str)).length ≤ 2 := by split <;> decide +kernel
  have h3 := len_join ts
  omega
theorem len_lst (ts : List Str) : (listText ts).length ≤ piled ts + 2 := by
  unfold listText
  rw [strLen_append]
  have h1 : (("]" : String) : Str).length = 1 := rfl
  have h2 := textFrom_len_le ts 0 "["
  have h3 : (("[" : String) : Str).length = 1 := rfl
  have h4 : piled ts = (ts.map (·.length)).sum + 2 * ts.length := by
    clear h1 h2 h3
    induction ts with
    | nil => rfl
    | cons t ts ih =>
      rw [piled_cons, ih, List.map_cons, List.sum_cons, List.length_cons]
      omega
  omega
theorem len_dct (ts : List Str) : (dictText ts).length ≤ piled ts + 2 := by
  unfold dictText
  rw [strLen_append, strLen_append]
  have h1 : (("{" : String) : Str).length = 1 := rfl
  have h2 : (("}" : String) : Str).length = 1 := rfl
  have h3 := len_join ts
  omega
/-- a bound of how long, by kind -/
theorem sl_int {i : Int} (h : i.natAbs < 2 ^ 200) : (PyData.int i).shown.length ≤ 1921 ∧ (PyData.int i).showable = true := by
  have hl : i.natAbs.log2 < 1920 := by
    by_cases h0 : i.natAbs = 0
    · rw [h0]; decide
    · have := (Nat.log2_lt h0).mpr h
      omega
  refine ⟨?_, by simp only [PyData.showable]; exact decide_eq_true hl⟩
  simp only [PyData.shown]
  exact int_text_len_1921 hl
theorem sl_str {z : Str} (h : Lows z) (hl : z.length ≤ 8) : (PyData.str z).shown.length ≤ 82 ∧ (PyData.str z).showable = true := by
  have := StrLaws.reprText_len z fun c hc => by
    have := (h c hc).2
    omega
  refine ⟨?_, by simp only [PyData.showable]⟩
  simp only [PyData.shown]
  omega
theorem shownAll_map (ds : List PyData) : PyData.shownAll ds = ds.map PyData.shown := by
  induction ds with
  | nil => rfl
  | cons d ds ih => simp only [PyData.shownAll, List.map_cons, ih]
theorem showableAll_of {ds : List PyData} (h : ∀ d ∈ ds, d.showable = true) : PyData.showableAll ds = true := by
  induction ds with
  | nil => simp [PyData.showableAll]
  | cons d ds ih =>
    simp only [PyData.showableAll, Bool.and_eq_true]
    exact ⟨h d (by simp), ih fun e he => h e (by simp [he])⟩
theorem piled_all {ds : List PyData} {B : Nat} (h : ∀ d ∈ ds, d.shown.length ≤ B) : piled (PyData.shownAll ds) ≤ ds.length * (B + 2) := by
  rw [shownAll_map]
  have := piled_le (ts := ds.map PyData.shown) (B := B) fun t ht => by
    obtain ⟨d, hd, rfl⟩ := List.mem_map.mp ht
    exact h d hd
  rwa [List.length_map] at this
theorem sl_list {ds : List PyData} {B : Nat} (h : ∀ d ∈ ds, d.shown.length ≤ B ∧ d.showable = true) : (PyData.list ds).shown.length ≤ ds.length * (B + 2) + 2 ∧ (PyData.list ds).showable = true := by
  refine ⟨?_, by simp only [PyData.showable]; exact showableAll_of fun d hd => (h d hd).2⟩
  simp only [PyData.shown]
  have h1 := len_lst (PyData.shownAll ds)
  have h2 := piled_all fun d hd => (h d hd).1
  omega
theorem sl_tup {ds : List PyData} {B : Nat} (h : ∀ d ∈ ds, d.shown.length ≤ B ∧ d.showable = true) : (PyData.tuple ds).shown.length ≤ ds.length * (B + 2) + 3 ∧ (PyData.tuple ds).showable = true := by
  refine ⟨?_, by simp only [PyData.showable]; exact showableAll_of fun d hd => (h d hd).2⟩
  simp only [PyData.shown]
  have h1 := len_tup (PyData.shownAll ds)
  have h2 := piled_all fun d hd => (h d hd).1
  omega
theorem sl_dict {kvs : List (PyData × PyData)} {A B : Nat} (h : ∀ q ∈ kvs, (q.1.shown.length ≤ A ∧ q.1.showable = true) ∧ q.2.shown.length ≤ B ∧ q.2.showable = true) : (PyData.dict kvs).shown.length ≤ kvs.length * (A + B + 4) + 2 ∧ (PyData.dict kvs).showable = true := by
  constructor
  · simp only [PyData.shown]
    have h1 := len_dct (PyData.shownKv kvs)
    have h2 : piled (PyData.shownKv kvs) ≤ kvs.length * (A + B + 4) := by
      clear h1
      induction kvs with
      | nil => simp [PyData.shownKv, piled]
      | cons q kvs ih =>
        obtain ⟨k, v⟩ := q
        obtain ⟨⟨q1, _⟩, q2, _⟩ := h (k, v) (by simp)
        have ih := ih fun e he => h e (by simp [he])
        simp only [PyData.shownKv]
        rw [piled_cons, strLen_append, strLen_append, List.length_cons, Nat.succ_mul]
        have h3 : ((": " : String) : Str).length = 2 := rfl
        simp only at q1 q2
        omega
    omega
  · simp only [PyData.showable]
    induction kvs with
    | nil => simp [PyData.showableKv]
    | cons q kvs ih =>
      obtain ⟨k, v⟩ := q
      obtain ⟨⟨_, q1⟩, _, q2⟩ := h (k, v) (by simp)
      simp only [PyData.showableKv, Bool.and_eq_true]
      exact ⟨⟨q1, q2⟩, ih fun e he => h e (by simp [he])⟩
/-- what is above nought of a product -/
theorem max0 {h g : Int} (hh : 0 ≤ h) : max 0 (h * g) = if 0 < g then h * g else 0 := by
  by_cases q : 0 < g
  · rw [if_pos q]
    have := Int.mul_nonneg hh (Int.le_of_lt q)
    omega
  · rw [if_neg q]
    have := Int.mul_nonneg hh (show 0 ≤ -g by omega)
    rw [Int.mul_neg] at this
    omega
theorem zip_maps {α β γ : Type} (f : α → β) (g : α → γ) : ∀ L : List α, (L.map f).zip (L.map g) = L.map fun x => (f x, g x)
  | [] => rfl
  | x :: L => by simp only [List.map_cons, List.zip_cons_cons, zip_maps f g L]
theorem sum_take {α : Type} (f : α → Int) {L : List α} {i : Nat} {a : α} (h : L[i]? = some a) : ((L.take (i + 1)).map f).sum = ((L.take i).map f).sum + f a := by
  rw [List.take_add_one, h, List.map_append, List.sum_append]
  simp
end PL

namespace PL
open PySem PySem.Spec PyProof.Rows L2
/-! ### the tables of sets of tuples, up to 306 of them -/
/-- each place begins a run of the search, early enough -/
def Full (m : Nat) : Prop := ∀ (h : Int) (j : Nat), j ≤ m → ∃ n, n ≤ m + 12 ∧ runI m (SetTable.bits h) n = j
def orb (m : Nat) : Nat → Nat → List Nat
  | 0, _ => []
  | n + 1, x => x :: orb m n ((x * 5 + 1) % (m + 1))
theorem orb_mem {m j : Nat} : ∀ {n a : Nat}, j ∈ orb m n (lcgN m a) → ∃ b, b < a + n ∧ lcgN m b = j
  | 0, _, q => by cases q
  | n + 1, a, q => by
    rcases List.mem_cons.mp q with e | q
    · exact ⟨a, by omega, e.symm⟩
    · obtain ⟨b, l, e⟩ := orb_mem (n := n) (a := a + 1) q
      exact ⟨b, by omega, e⟩
theorem orb511 : ((List.range 512).all fun j => (orb 511 512 0).contains j) = true := by decide +kernel
theorem back511 : lcgN 511 512 = 0 := by decide +kernel
theorem all511 {j : Nat} (l : j ≤ 511) : ∃ b, b < 512 ∧ lcgN 511 b = j := by
  have q := List.all_eq_true.mp orb511 j (List.mem_range.mpr (by omega))
  obtain ⟨b, q1, q2⟩ := orb_mem (m := 511) (n := 512) (a := 0) (List.contains_iff_mem.mp q)
  exact ⟨b, by omega, q2⟩
theorem again511 (k : Nat) : lcgN 511 (512 + k) = lcgN 511 k := by
  rw [← lcgN_add 511 512 k, back511]
  have := lcgN_add 511 0 k
  rw [Nat.zero_add] at this
  exact this
theorem full511 : Full 511 := fun h j l => by
  obtain ⟨a, a1, a2⟩ := all511 (runI_le 511 (SetTable.bits h) 12)
  obtain ⟨b, b1, b2⟩ := all511 l
  have tail := fun k => runI_tail (m := 511) (bits_lt h) k
  by_cases q : a ≤ b
  · exact ⟨12 + (b - a), by omega, by rw [tail, ← a2, lcgN_add, show a + (b - a) = b by omega, b2]⟩
  · exact ⟨12 + (512 + b - a), by omega, by rw [tail, ← a2, lcgN_add, show a + (512 + b - a) = 512 + b by omega, again511, b2]⟩
def Msk (m : Nat) : Prop := m = 7 ∨ m = 31 ∨ m = 127 ∨ m = 511
theorem Msk.full {m : Nat} (k : Msk m) : Full m := by
  rcases k with e | e | e | e
  · exact fun h j l => run_meets (.inl e) h l
  · exact fun h j l => run_meets (.inr (.inl e)) h l
  · exact fun h j l => run_meets (.inr (.inr e)) h l
  · rw [e]; exact full511
/-- the search's own steps come to each place -/
theorem Full.there {m : Nat} (f : Full m) (h : Int) {j : Nat} (l : j ≤ m) : ∃ k, k < 10 * SetTable.turns m ∧ way m h k = j := by
  obtain ⟨n, n1, n2⟩ := f h j l
  obtain ⟨k, k1, k2⟩ := run_nth m (SetTable.bits h) n
  exact ⟨k, by unfold SetTable.turns; omega, by unfold way; rw [k2]; exact n2⟩
structure Tab (t : SetTable) (hs : List Int) : Prop where
  up : Ris t.place.toList
  dm : t.dummies = #[]
  sz : t.place.size = hs.length
  msk : Msk t.mask
  met : ∀ (i : Nat) (h : Int) (j : Nat), hs[i]? = some h → t.place.toList[i]? = some j → ∃ k, way t.mask h k = j ∧ ∀ l, l < k → way t.mask h l ∈ t.place.toList
theorem way_in {m : Nat} (h : Int) (k : Nat) : way m h k ≤ m := by
  have b := nth_in (m := m) k (runAt m (SetTable.bits h % (m + 1)) (SetTable.bits h)) (by
    have i : SetTable.bits h % (m + 1) < m + 1 := Nat.mod_lt _ (by omega)
    have r := runEnd_bd (show SetTable.bits h % (m + 1) ≤ m by omega)
    unfold runAt
    simp only
    omega)
  unfold way
  omega
theorem Tab.gap {t : SetTable} {hs : List Int} (T : Tab t hs) (few : hs.length ≤ t.mask) (h : Int) : ∃ K, K < 10 * SetTable.turns t.mask ∧ way t.mask h K ∉ t.place.toList ∧ ∀ l, l < K → way t.mask h l ∈ t.place.toList := by
  have z := T.sz
  obtain ⟨j, j1, j2⟩ := st_missing t.place.toList (t.mask + 1) (by simp only [Array.length_toList]; omega)
  obtain ⟨k, k1, k2⟩ := T.msk.full.there h (show j ≤ t.mask by omega)
  obtain ⟨K, a, b, c⟩ := st_least (p := fun n => way t.mask h n ∉ t.place.toList) k (by simp only [k2]; exact j2)
  exact ⟨K, by omega, b, fun l q => Decidable.byContradiction (c l q)⟩
theorem Tab.ahead {t : SetTable} {hs : List Int} (T : Tab t hs) {h : Int} {K i j : Nat} (free : way t.mask h K ∉ t.place.toList) (hi : hs[i]? = some h) (hj : t.place.toList[i]? = some j) : ∃ k, k < K ∧ way t.mask h k = j := by
  obtain ⟨k, e, b⟩ := T.met i h j hi hj
  by_cases q : k < K
  · exact ⟨k, q, e⟩
  · by_cases z : K = k
    · rw [z, e] at free
      exact absurd (List.mem_of_getElem? hj) free
    · exact absurd (b K (by omega)) free
/-- one more laid at the first gap of its way -/
theorem Tab.more {t : SetTable} {hs : List Int} (T : Tab t hs) {h : Int} {K p : Nat} (free : way t.mask h K ∉ t.place.toList) (b : ∀ l, l < K → way t.mask h l ∈ t.place.toList) (hp : SetTable.below t.place (way t.mask h K) = p) :
    (t.put (way t.mask h K)).2 = p ∧ p ≤ hs.length ∧ Tab (t.put (way t.mask h K)).1 (hs.take p ++ h :: hs.drop p) ∧ (t.put (way t.mask h K)).1.mask = t.mask ∧ (t.put (way t.mask h K)).1.fill = hs.length + 1 := by
  have pl := put_place t (way t.mask h K)
  rw [hp] at pl
  generalize eJ : way t.mask h K = J at *
  have cut := (below_cut T.up J).1
  rw [hp] at cut
  have z : t.place.toList.length = hs.length := by simp only [Array.length_toList]; exact T.sz
  have p1 : p ≤ t.place.toList.length := by simp only [Array.length_toList]; exact cut
  have p2 : p ≤ hs.length := by omega
  have new : t.place[p]? ≠ some J := fun e => free (by rw [← Array.getElem?_toList] at e; exact List.mem_of_getElem? e)
  have dm := put_dm T.dm J
  have sz : (t.put J).1.place.size = hs.length + 1 := by
    have e := congrArg List.length pl
    rw [len_ins _ p1, z] at e
    simpa only [Array.length_toList] using e
  have stay : ∀ x, x ∈ t.place.toList → x ∈ (t.put J).1.place.toList := fun x q => by rw [pl, mem_ins]; exact .inr q
  refine ⟨hp, p2, ⟨by rw [← hp] at new; exact ris_insert T.up new, dm, by rw [len_ins _ p2]; exact sz, T.msk, fun i h2 j e1 e2 => ?_⟩, rfl, by unfold SetTable.fill; rw [dm, sz]; rfl⟩
  rw [tins_get _ p2] at e1
  rw [pl, tins_get _ p1] at e2
  show ∃ k, way t.mask h2 k = j ∧ ∀ l, l < k → way t.mask h2 l ∈ (t.put J).1.place.toList
  by_cases q : i < p
  · rw [if_pos q] at e1 e2
    obtain ⟨k, k1, k2⟩ := T.met i h2 j e1 e2
    exact ⟨k, k1, fun l ql => stay _ (k2 l ql)⟩
  · rw [if_neg q] at e1 e2
    by_cases r : i = p
    · rw [if_pos r] at e1 e2
      cases e1
      cases e2
      exact ⟨K, eJ, fun l ql => stay _ (b l ql)⟩
    · rw [if_neg r] at e1 e2
      obtain ⟨k, k1, k2⟩ := T.met (i - 1) h2 j e1 e2
      exact ⟨k, k1, fun l ql => stay _ (k2 l ql)⟩
/-! #### laid anew -/
theorem Full.hole {m : Nat} (f : Full m) (owner : Array (Option Nat)) (h : Int) {j : Nat} (l : j ≤ m) (fr : oAt owner j = none) :
    ∃ K, SetTable.layClean.free m owner (SetTable.turns m) (SetTable.bits h % (m + 1)) (SetTable.bits h) = some (way m h K) ∧ oAt owner (way m h K) = none ∧ ∀ q, q < K → oAt owner (way m h q) ≠ none := by
  obtain ⟨n, n1, n2⟩ := f h j l
  have at_j : way m h (L2.off m (SetTable.bits h % (m + 1)) (SetTable.bits h) n) = j := by
    unfold way
    rw [nth_off, itL_run]
    exact n2
  obtain ⟨K, a, b, c⟩ := st_least (p := fun q => oAt owner (way m h q) = none) (L2.off m (SetTable.bits h % (m + 1)) (SetTable.bits h) n) (by have z := fr; rw [← at_j] at z; exact z)
  refine ⟨K, free_spec m owner _ n _ _ K (by unfold SetTable.turns; omega) a (fun q hq => ?_) ?_, b, c⟩
  · cases e : oAt owner (nth m (runAt m (SetTable.bits h % (m + 1)) (SetTable.bits h)) q).j with
    | some x => rfl
    | none => exact absurd e (c q hq)
  · have b' : oAt owner (nth m (runAt m (SetTable.bits h % (m + 1)) (SetTable.bits h)) K).j = none := b
    simp only [b']
    rfl
theorem Full.next {m : Nat} (f : Full m) {done : List Int} {owner : Array (Option Nat)} (W : Own m done owner) (few : done.length ≤ m) (h : Int) :
    ∃ g, SetTable.layClean.free m owner (SetTable.turns m) (SetTable.bits h % (m + 1)) (SetTable.bits h) = some g ∧ Own m (done ++ [h]) (owner.setIfInBounds g (some done.length)) := by
  obtain ⟨ps, ps1, ps2⟩ := W.ps
  obtain ⟨g, g1, g2⟩ := st_missing ps (m + 1) (by omega)
  have gf : oAt owner g = none := Classical.byContradiction fun e => g2 (ps2 g (by omega) e)
  obtain ⟨K, a, b, c⟩ := f.hole owner h (show g ≤ m by omega) gf
  have J1 := way_in (m := m) h K
  generalize eJ : way m h K = J at *
  have J2 : J < owner.size := by rw [W.sz]; omega
  have me : oAt (owner.setIfInBounds J (some done.length)) J = some done.length := oAt_set_self _ J2
  have still : ∀ x, oAt owner x ≠ none → oAt (owner.setIfInBounds J (some done.length)) x ≠ none := fun x q => by
    by_cases e : x = J
    · rw [e, me]; simp
    · rw [oAt_set_ne _ e]; exact q
  refine ⟨J, a, ⟨by simp only [Array.size_setIfInBounds]; exact W.sz, fun j k l e => ?_, fun k l => ?_, J :: ps, by simp [ps1], fun j l e => ?_⟩⟩
  · by_cases q : j = J
    · rw [q, me] at e
      cases e
      exact ⟨h, K, by simp, by rw [eJ, q], fun x hx => still _ (c x hx)⟩
    · rw [oAt_set_ne _ q] at e
      obtain ⟨h2, K2, r1, r2, r3⟩ := W.at_ j k l e
      have lt := (List.getElem?_eq_some_iff.mp r1).1
      exact ⟨h2, K2, by rw [List.getElem?_append_left lt, r1], r2, fun x hx => still _ (r3 x hx)⟩
  · by_cases q : k < done.length
    · obtain ⟨j, r1, r2⟩ := W.all k q
      exact ⟨j, r1, by rw [oAt_set_ne _ (fun e => by rw [e, b] at r2; cases r2)]; exact r2⟩
    · simp only [List.length_append, List.length_cons, List.length_nil] at l
      have : k = done.length := by omega
      exact ⟨J, J1, by rw [me, this]⟩
  · by_cases q : j = J
    · simp [q]
    · rw [oAt_set_ne _ q] at e
      exact .tail _ (ps2 j l e)
theorem Full.lay {m : Nat} (f : Full m) : ∀ (rest done : List Int) (owner : Array (Option Nat)), Own m done owner → done.length + rest.length ≤ m → ∃ o2, rest.foldl (stepF m) (some (owner, done.length)) = some (o2, (done ++ rest).length) ∧ Own m (done ++ rest) o2
  | [], done, owner, W, _ => ⟨owner, by simp, by simpa using W⟩
  | h :: rest, done, owner, W, few => by
    simp only [List.length_cons] at few
    obtain ⟨j, e, W2⟩ := f.next W (by omega) h
    obtain ⟨o2, r1, r2⟩ := f.lay rest (done ++ [h]) _ W2 (by simp; omega)
    refine ⟨o2, ?_, by simpa using r2⟩
    rw [List.foldl_cons, stepF_some e]
    simpa using r1
theorem relaidT (t : SetTable) {hs : Array Int} {wanted M : Nat} (e : SetTable.sizeAbove wanted - 1 = M) (k : Msk M) (few : hs.size ≤ M) :
    ∃ t2 order, t.relaid hs wanted = some (t2, order) ∧ order.toList.Perm (List.range hs.size) ∧ Tab t2 (order.toList.map fun i => hs.getD i 0) ∧ t2.mask = M := by
  obtain ⟨owner, lay, W⟩ : ∃ owner, SetTable.layClean M hs = some owner ∧ Own M hs.toList owner := by
    obtain ⟨o2, r1, r2⟩ := k.full.lay hs.toList [] _ (Own.init M) (by simpa using few)
    refine ⟨o2, ?_, by simpa using r2⟩
    have r1 : hs.toList.foldl (stepF M) (some (Array.replicate (M + 1) none, 0)) = some (o2, ([] ++ hs.toList).length) := r1
    rw [layClean_eq, r1]
    rfl
  have live := ris_live (fun j => owner.getD j none) (List.range (M + 1)) (by unfold Ris; exact List.pairwise_lt_range)
  have up : Ris ((liveOf M owner).map (·.1)) := live.1
  have nd : ((liveOf M owner).map (·.1)).Nodup := up.imp fun l => by omega
  have ks : ∀ j k, (j, k) ∈ liveOf M owner ↔ j ≤ M ∧ oAt owner j = some k := fun j k => mem_live W.sz
  have len : (liveOf M owner).length = hs.size := by
    obtain ⟨ps, p1, p2⟩ := W.ps
    have le := nat_nodup_len _ ps nd fun x hx => by
      obtain ⟨⟨j, k⟩, q, rfl⟩ := List.mem_map.mp hx
      obtain ⟨q1, q2⟩ := (ks j k).mp q
      exact p2 j q1 (by rw [q2]; simp)
    have ge := nat_nodup_len (List.range hs.size) ((liveOf M owner).map (·.2)) List.nodup_range fun x hx => by
      obtain ⟨j, q1, q2⟩ := W.all x (by simpa using hx)
      exact List.mem_map.mpr ⟨(j, x), (ks j x).mpr ⟨q1, q2⟩, rfl⟩
    simp only [List.length_map, List.length_range, Array.length_toList] at le ge p1
    omega
  refine ⟨tabOf t M owner, ((liveOf M owner).map (·.2)).toArray, ?_, ?_, ⟨up, rfl, ?_, k, fun i h j e1 e2 => ?_⟩, rfl⟩
  · rw [relaid_eq, e, lay]
    rfl
  · refine perm_range _ _ (by simpa using len) fun x hx => ?_
    obtain ⟨j, q1, q2⟩ := W.all x (by simpa using hx)
    exact List.mem_map.mpr ⟨(j, x), (ks j x).mpr ⟨q1, q2⟩, rfl⟩
  · simp [tabOf]
  · have e1 : (((liveOf M owner).map (·.2)).map fun i => hs.getD i 0)[i]? = some h := e1
    have e2 : ((liveOf M owner).map (·.1))[i]? = some j := e2
    simp only [List.getElem?_map] at e1 e2
    cases z : (liveOf M owner)[i]? with
    | none => rw [z] at e2; cases e2
    | some y =>
      obtain ⟨j2, k2⟩ := y
      rw [z] at e1 e2
      cases e2
      obtain ⟨q1, q2⟩ := (ks _ k2).mp (List.mem_of_getElem? z)
      obtain ⟨h2, K, r1, r2, r3⟩ := W.at_ _ k2 q1 q2
      have eh : h2 = h := by
        have : hs.getD k2 0 = h2 := by rw [Array.getElem?_toList] at r1; simp [Array.getD_eq_getD_getElem?, r1]
        rw [← this]
        simpa using e1
      subst eh
      refine ⟨K, r2, fun l hl => ?_⟩
      cases z2 : oAt owner (way M h2 l) with
      | none => exact absurd z2 (r3 l hl)
      | some x => exact List.mem_map.mpr ⟨(way M h2 l, x), (ks _ _).mpr ⟨way_in h2 l, z2⟩, rfl⟩
end PL

namespace PL
open PySem PySem.Spec PyProof.Rows L2
/-! ### sets of tuples of ints and texts -/
section
variable {P : Program} {w : World} {A : Around} {E : Value → Shared → Prop} {s : Shared}
abbrev hM (P : Program) (w : World) (k : List Key) : Int := tupleKeyHash (mixKind P w) k
abbrev IsM (P : Program) (w : World) (h : Heap) (k : List Key) (a : Addr) : Prop := IsTupleKey (mixKind P w) h k a
def Part (v : Value) : Prop := (∃ i t, v = .int i t) ∨ ∃ x t, v = .str x t
theorem parts {k : List Key} {vs : List Value} (q : ItemsAre (mixKind P w) k vs) : ∀ v ∈ vs, Part v := by
  induction q with
  | nil => simp
  | cons h1 _ ih =>
    intro v hv
    rcases List.mem_cons.mp hv with rfl | hv
    · rcases keyIs_shape h1 with ⟨i, t, _, e⟩ | ⟨x, t, _, e⟩
      · exact .inl ⟨i, t, e⟩
      · exact .inr ⟨x, t, e⟩
    · exact ih v hv
theorem Part.class {v : Value} (q : Part v) (n : Nat) : ofAClassStatement n v = pure false := by
  rcases q with ⟨i, t, rfl⟩ | ⟨x, t, rfl⟩ <;> cases n <;> rfl
theorem Part.val {v : Value} (q : Part v) (n : Nat) : ∃ b, hashByValue n v = pure b := by
  rcases q with ⟨i, t, rfl⟩ | ⟨x, t, rfl⟩
  · exact ⟨true, by cases n <;> rfl⟩
  · exact ⟨false, by cases n <;> rfl⟩
theorem classM {k : List Key} {b : Addr} {Q : Bool → Shared → Prop} (q : IsM P w s.heap k b) (h : Q false s) : wpAny (model P w) A (ofAClassStatement 8 (.ref b)) Q E s := by
  have ty := q.typeIs
  obtain ⟨o, its, n, oh, hc, od, hi⟩ := q
  unfold ofAClassStatement
  refine wpAny_bind (wpAny_typeOf ty ?_)
  dsimp only
  have same : (("tuple" : String) == "tuple") = true := by decide
  simp only [same, if_true, Bool.not_true, Bool.false_eq_true, if_false]
  try refine wpAny_bind (wpAny_pure ?_)
  try simp only [Bool.not_true, Bool.false_eq_true, if_false]
  show wpAny _ _ (seqItems? (.ref b) >>= _) _ _ s
  refine wpAny_bind (wpAny_seqItems oh od ?_)
  dsimp only
  refine wpAny_bind ?_
  show wpAny _ _ (forIn its _ _) _ _ s
  rw [← Array.forIn_toList]
  refine wpAny_forIn_list _ (fun left z s' => (z.1 = none ∧ s' = s) ∧ ∀ v ∈ left, Part v) _ ?_ ?_ _ _ ⟨⟨rfl, rfl⟩, parts hi⟩
  · rintro v left z s' ⟨⟨z1, rfl⟩, all⟩
    rw [(all v (.head _)).class]
    refine wpAny_bind (wpAny_pure ?_)
    simp only [Bool.false_eq_true, if_false]
    exact wpAny_pure ⟨⟨rfl, rfl⟩, fun u hu => all u (.tail _ hu)⟩
  · rintro ⟨z1, z2⟩ s' ⟨⟨e, rfl⟩, _⟩
    cases e
    exact wpAny_pure h
theorem valM {k : List Key} {b : Addr} {Q : Bool → Shared → Prop} (q : IsM P w s.heap k b) (h : ∀ x, Q x s) : wpAny (model P w) A (hashByValue 8 (.ref b)) Q E s := by
  have ty := q.typeIs
  obtain ⟨o, its, n, oh, hc, od, hi⟩ := q
  unfold hashByValue
  refine wpAny_bind (wpAny_specialOf ty F.slot_tuple_hash.lookup ?_)
  show wpAny _ _ (seqItems? (.ref b) >>= _) _ _ s
  refine wpAny_bind (wpAny_seqItems oh od ?_)
  refine wpAny_bind ?_
  show wpAny _ _ (forIn its _ _) _ _ s
  rw [← Array.forIn_toList]
  refine wpAny_forIn_list _ (fun left z s' => (z.1 = none ∧ s' = s) ∧ ∀ v ∈ left, Part v) _ ?_ ?_ _ _ ⟨⟨rfl, rfl⟩, parts hi⟩
  · rintro v left z s' ⟨⟨z1, rfl⟩, all⟩
    obtain ⟨x, ex⟩ := (all v (.head _)).val 7
    rw [ex]
    refine wpAny_bind (wpAny_pure ?_)
    cases x with
    | true =>
      simp only [Bool.not_true, Bool.false_eq_true, if_false]
      exact wpAny_pure ⟨⟨rfl, rfl⟩, fun u hu => all u (.tail _ hu)⟩
    | false =>
      simp only [Bool.not_false, if_true]
      exact wpAny_pure (wpAny_pure (h false))
  · rintro ⟨z1, z2⟩ s' ⟨⟨e, rfl⟩, _⟩
    cases e
    exact wpAny_pure (h true)
theorem quietM {k : List Key} {b : Addr} {Q : Bool → Shared → Prop} (q : IsM P w s.heap k b) {zs : List Value} (all : ∀ y ∈ zs, ∃ k2 c, y = Value.ref c ∧ IsM P w s.heap k2 c) (h : Q false s) :
    wpAny (model P w) A (searchCouldBeSeen (.ref b) zs) Q E s := by
  unfold searchCouldBeSeen
  refine wpAny_bind ?_
  refine wpAny_forIn_list _ (fun left z s' => (z.1 = none ∧ s' = s) ∧ ∀ y ∈ left, ∃ k2 c, y = Value.ref c ∧ IsM P w s.heap k2 c) _ ?_ ?_ _ _ ⟨⟨rfl, rfl⟩, all⟩
  · rintro v left z s' ⟨⟨z1, rfl⟩, here⟩
    obtain ⟨k2, c, rfl, hc⟩ := here v (.head _)
    have on : ∀ y ∈ left, ∃ k2 c, y = Value.ref c ∧ IsM P w s'.heap k2 c := fun y hy => here y (.tail _ hy)
    dsimp only
    by_cases v1 : (b == c || (carriedByValue (.ref b) && carriedByValue (.ref c))) = true
    · exact wp_if_pos v1 (wpAny_pure ⟨⟨rfl, rfl⟩, on⟩)
    · refine wp_if_neg v1 (wpAny_bind (wpAny_eqIsQuiet_tuple q ?_))
      simp only [Bool.not_true, Bool.false_eq_true, if_false]
      refine wpAny_bind (wpAny_eqIsQuiet_tuple hc ?_)
      simp only [Bool.not_true, Bool.false_eq_true, if_false]
      refine wpAny_bind (classM q ?_)
      simp only [Bool.false_eq_true, if_false]
      refine wpAny_bind (classM hc ?_)
      simp only [Bool.false_eq_true, if_false]
      exact wpAny_pure ⟨⟨rfl, rfl⟩, on⟩
  · rintro ⟨z1, z2⟩ s' ⟨⟨e, rfl⟩, _⟩
    cases e
    exact wpAny_pure h
/-! #### the object -/
abbrev Elts := List (Addr × List Key)
def rowM (P : Program) (w : World) (L : Elts) : List (Int × Value) := L.map fun p => (hM P w p.2, Value.ref p.1)
structure TSet (P : Program) (w : World) (h : Heap) (a : Addr) (L : Elts) (es : Array (Int × Value)) (ep : Nat) (t : SetTable) : Prop where
  ob : ∃ u, h.get? a = some u ∧ u.ExactSet ∧ u.data = .set es ep t
  rw_ : es.toList = rowM P w L
  tab : Tab t (L.map fun p => hM P w p.2)
  nd : (L.map (·.2)).Nodup
  room : L.length * 5 < t.mask * 3
variable {a : Addr} {L : Elts} {es : Array (Int × Value)} {ep : Nat} {t : SetTable}
theorem rowM_len {es : Array (Int × Value)} (e : es.toList = rowM P w L) : es.size = L.length := by
  have := congrArg List.length e
  simpa [rowM] using this
theorem tab_fits {hs : List Int} (T : Tab t hs) {n : Nat} (e : hs.length = n) (l : n ≤ t.mask) : t.fits n = true := by
  have z := T.sz
  simp only [SetTable.fits, SetTable.fill, T.dm, Bool.and_eq_true, beq_iff_eq, decide_eq_true_eq, Array.size_empty]
  omega
theorem TSet.fits (R : TSet P w s.heap a L es ep t) : t.fits es.size = true := by
  have r := R.room
  rw [rowM_len R.rw_]
  exact tab_fits R.tab (by simp) (by omega)
theorem TSet.at_ (R : TSet P w s.heap a L es ep t) {i : Nat} {p : Addr × List Key} (e : L[i]? = some p) : es[i]? = some (hM P w p.2, Value.ref p.1) := by
  rw [← Array.getElem?_toList, R.rw_]
  simp [rowM, e]
theorem odd_gw (k : Msk t.mask) : ¬ t.gaveWay = true := by
  unfold SetTable.gaveWay
  rcases k with e | e | e | e <;> rw [e] <;> decide
theorem adv_dm (m : Nat) (p : SetTable.Probe) : (adv m p).dummy = p.dummy := by
  unfold adv
  split <;> rfl
theorem nth_dm (m : Nat) : ∀ (n : Nat) (p : SetTable.Probe), (nth m p n).dummy = p.dummy
  | 0, _ => rfl
  | n + 1, p => (nth_dm m n (adv m p)).trans (adv_dm m p)
abbrev st0 (m : Nat) (h : Int) : SetTable.Probe := runAt m (SetTable.bits h % (m + 1)) (SetTable.bits h)
theorem seekM (R : TSet P w s.heap a L es ep t) (tup : ∀ p ∈ L, IsM P w s.heap p.2 p.1) {x : Addr} {k : List Key} (hx : IsM P w s.heap k x) (hu : A.units < cLine) {K : Nat} (K1 : K < 10 * SetTable.turns t.mask)
    (K2 : way t.mask (hM P w k) K ∉ t.place.toList) (K3 : ∀ c, c < K → way t.mask (hM P w k) c ∈ t.place.toList) {Q : SetFound → Shared → Prop}
    (yes : k ∈ L.map (·.2) → Q (.there none) s) (noo : k ∉ L.map (·.2) → Q (.free (way t.mask (hM P w k) K) false) s) :
    ∀ (f c : Nat) (from_ : Option SetTable.Probe), from_.getD (t.probeStart (hM P w k)) = nth t.mask (st0 t.mask (hM P w k)) c → c ≤ K → K < f + c →
      (∀ (i : Nat) p, L[i]? = some p → p.2 = k → ∃ d, (c ≤ d ∧ d < K) ∧ t.place.toList[i]? = some (way t.mask (hM P w k) d)) →
      wpAny (model P w) A (setSearchFrom a (.ref x) (hM P w k) true f from_) Q E s := by
  intro f
  induction f with
  | zero => intro c from_ _ h1 h2; omega
  | succ f ih =>
    intro c from_ hfrom hc hf ahead
    obtain ⟨o, oh, hex, od⟩ := R.ob
    rw [setSearchFrom_succ]
    refine wpAny_bind (wpAny_setState_of oh od R.fits ?_)
    dsimp only
    refine wp_if_neg (odd_gw R.tab.msk) ?_
    try refine wpAny_bind (wpAny_pure ?_)
    have sum : ∀ q, nth t.mask (nth t.mask (st0 t.mask (hM P w k)) c) q = nth t.mask (st0 t.mask (hM P w k)) (c + q) := fun q => (nth_add t.mask c _ q).symm
    have sumj : ∀ q, (nth t.mask (nth t.mask (st0 t.mask (hM P w k)) c) q).j = way t.mask (hM P w k) (c + q) := fun q => by rw [sum]
    have hK : c + (K - c) = K := by omega
    have got := go_spec t R.tab.up R.tab.dm (fun i => (es[i]?.map (·.1)).getD 0) (hM P w k) (10 * SetTable.turns t.mask) (K - c) (nth t.mask (st0 t.mask (hM P w k)) c)
      (by rw [nth_dm]; rfl) (by omega) (fun q hq => by rw [sumj]; exact K3 _ (by omega)) (by rw [sumj, hK]; exact K2)
    have hsh : ∀ (i : Nat) p, L[i]? = some p → (es[i]?.map (·.1)).getD 0 = hM P w p.2 := fun i p e => by rw [R.at_ e]; rfl
    rcases got with ⟨q, i, q1, q2, q3, q4, q5⟩ | ⟨q4, q5⟩
    · have found : t.probe (fun i => (es[i]?.map (·.1)).getD 0) (hM P w k) (from_.getD (t.probeStart (hM P w k))) = some (.candidate (way t.mask (hM P w k) (c + q)) i (nth t.mask (st0 t.mask (hM P w k)) (c + (q + 1)))) := by
        rw [hfrom, ← sumj, ← sum]
        exact q5
      rw [found]
      dsimp only
      rw [sumj] at q2
      have z := R.tab.sz
      have il : i < L.length := by
        have := (List.getElem?_eq_some_iff.mp q2).1
        simp only [Array.length_toList, List.length_map] at this z
        omega
      obtain ⟨p, hp⟩ : ∃ p, L[i]? = some p := ⟨_, List.getElem?_eq_getElem il⟩
      have pin : p ∈ L := List.mem_of_getElem? hp
      have slot : t.slot (way t.mask (hM P w k) (c + q)) = .live i := slot_live R.tab.up q2
      have tail : wpAny (model P w) A (searchRest a (.ref x) (hM P w k) true f es t (way t.mask (hM P w k) (c + q)) i (nth t.mask (st0 t.mask (hM P w k)) (c + (q + 1)))) Q E s := by
        unfold searchRest
        rw [R.at_ hp]
        dsimp only
        refine wpAny_bind (wpAny_holding (wpAny_eqBool_tuple hu (tup p pin) hx ?_))
        refine wpAny_bind (wpAny_setState_of oh od R.fits ?_)
        dsimp only
        by_cases e : p.2 = k
        · refine wp_if_pos (by simp [e]) (wpAny_pure (yes ?_))
          rw [← e]
          exact List.mem_map_of_mem pin
        · refine wp_if_neg (by simp [e]) ?_
          try refine wpAny_bind (wpAny_pure ?_)
          rw [sameMem]
          dsimp only
          simp only [if_true, slot, R.at_ hp]
          refine wpAny_bind ?_; refine wpAny_isSame_ref_self ?_; refine wpAny_bind ?_; refine wpAny_pure ?_
          simp only [if_true]
          refine wp_if_neg (by simp [e]) ?_
          refine ih (c + (q + 1)) _ rfl (by omega) (by omega) fun i2 p2 h2 e2 => ?_
          obtain ⟨d, ⟨d1, d2⟩, d3⟩ := ahead i2 p2 h2 e2
          refine ⟨d, ⟨?_, d2⟩, d3⟩
          have past : ¬ d < c + q := fun l => q4 (d - c) i2 (by omega) (by rw [sumj, show c + (d - c) = d by omega]; exact d3) ((hsh i2 p2 h2).trans (by rw [e2]))
          have here : d ≠ c + q := fun l => by
            rw [l] at d3
            have two := slot_live R.tab.up d3
            rw [slot] at two
            cases two
            rw [hp] at h2
            cases h2
            exact e e2
          omega
      by_cases led : t.led = true
      · refine wp_if_neg (by simp [led]) ?_
        try refine wpAny_bind (wpAny_pure ?_)
        exact tail
      · refine wp_if_pos (by simp [led]) ?_
        refine wpAny_bind (quietM hx (fun y hy => ?_) ?_)
        · obtain ⟨e, he, ee⟩ := List.mem_map.mp hy
          have he : e ∈ es.toList := by
            have : e ∈ es ∧ e.1 = hM P w k := by simpa using he
            simpa using this.1
          rw [R.rw_] at he
          obtain ⟨p2, r1, r2⟩ := List.mem_map.mp he
          exact ⟨p2.2, p2.1, by rw [← ee, ← r2], tup p2 r1⟩
        · refine wp_if_neg (by decide) ?_
          try refine wpAny_bind (wpAny_pure ?_)
          exact tail
    · have gap : t.probe (fun i => (es[i]?.map (·.1)).getD 0) (hM P w k) (from_.getD (t.probeStart (hM P w k))) = some (.empty (way t.mask (hM P w k) K) none) := by
        have e : way t.mask (hM P w k) K = (nth t.mask (nth t.mask (st0 t.mask (hM P w k)) c) (K - c)).j := by rw [sumj, hK]
        rw [hfrom, e]
        exact q5
      rw [gap]
      dsimp only
      refine wpAny_pure (noo fun inL => ?_)
      obtain ⟨p, hp, e⟩ := List.mem_map.mp inL
      obtain ⟨i, il, ei⟩ := List.getElem_of_mem hp
      have hp2 : L[i]? = some p := by rw [List.getElem?_eq_getElem il, ei]
      obtain ⟨d, ⟨d1, d2⟩, d3⟩ := ahead i p hp2 e
      exact q4 (d - c) i (by omega) (by rw [sumj, show c + (d - c) = d by omega]; exact d3) ((hsh i p hp2).trans (by rw [e]))
theorem findM (R : TSet P w s.heap a L es ep t) (tup : ∀ p ∈ L, IsM P w s.heap p.2 p.1) {x : Addr} {k : List Key} (hx : IsM P w s.heap k x) (hu : A.units < cLine) {Q : SetFound → Shared → Prop}
    (yes : k ∈ L.map (·.2) → Q (.there none) s)
    (noo : ∀ K, k ∉ L.map (·.2) → way t.mask (hM P w k) K ∉ t.place.toList → (∀ c, c < K → way t.mask (hM P w k) c ∈ t.place.toList) → Q (.free (way t.mask (hM P w k) K) false) s) :
    wpAny (model P w) A (setSearch a (.ref x) (hM P w k) true) Q E s := by
  have r := R.room
  obtain ⟨K, K1, K2, K3⟩ := R.tab.gap (by simp only [List.length_map]; omega) (hM P w k)
  have top : 10 * SetTable.turns t.mask ≤ 5260 := by
    unfold SetTable.turns
    rcases R.tab.msk with e | e | e | e <;> omega
  unfold setSearch
  refine seekM R tup hx hu K1 K2 K3 yes (fun q => noo K q K2 K3) 100000 0 none rfl (by omega) (by omega) fun i p hp e => ?_
  have z := R.tab.sz
  have il : i < t.place.toList.length := by
    have := (List.getElem?_eq_some_iff.mp hp).1
    simp only [Array.length_toList, List.length_map] at z ⊢
    omega
  have hj := List.getElem?_eq_getElem il
  have hh : (L.map fun p => hM P w p.2)[i]? = some (hM P w k) := by simp [hp, e]
  obtain ⟨d, d1, d2⟩ := R.tab.ahead K2 hh hj
  exact ⟨d, ⟨by omega, d1⟩, by rw [hj, d2]⟩
end
end PL

namespace PL
open PySem PySem.Spec PyProof.Rows L2
section
variable {P : Program} {w : World} {A : Around} {E : Value → Shared → Prop} {s : Shared} {a : Addr} {L : Elts} {es : Array (Int × Value)} {ep : Nat} {t : SetTable}
/-- a tuple is not the set that is written to -/
theorem isM_but {h h2 : Heap} {k : List Key} {b : Addr} {o : Obj} (q : IsM P w h k b) (oh : h.get? a = some o) (od : o.data = .set es ep t) (sb : Heap.SameBut a h h2) : IsM P w h2 k b := by
  obtain ⟨u, its, n, e1, e2, e3, e4⟩ := q
  have ne : b ≠ a := fun e => by
    rw [e, oh] at e1
    cases e1
    rw [od] at e3
    cases e3
  exact ⟨u, its, n, by rw [sb.2 b ne, e1], e2, e3, e4⟩
theorem ins_perm {α : Type} (l : List α) (p : Nat) (x : α) : (l.take p ++ x :: l.drop p).Perm (x :: l) := by
  have q : (l.take p ++ x :: l.drop p).Perm (x :: (l.take p ++ l.drop p)) := List.perm_middle
  simpa using q
theorem get_all {α : Type} (l : List α) : (List.range l.length).filterMap (fun i => l[i]?) = l := by
  have : ∀ n, n ≤ l.length → (List.range n).filterMap (fun i => l[i]?) = l.take n := fun n => by
    induction n with
    | zero => intro _; simp
    | succ n ih =>
      intro lt
      rw [List.range_succ, List.filterMap_append, ih (by omega), List.take_add_one]
      simp [List.getElem?_eq_getElem (show n < l.length by omega)]
  rw [this _ (Nat.le_refl _), List.take_length]
theorem reorder {order : Array Nat} (e : es.toList = rowM P w L) (pm : order.toList.Perm (List.range L.length)) :
    ∃ L2 : Elts, (order.filterMap (es[·]?)).toList = rowM P w L2 ∧ L2.Perm L ∧ (L2.map fun p => hM P w p.2) = order.toList.map fun i => (es.map (·.1)).getD i 0 := by
  have z := rowM_len e
  have ent : ∀ i (l : i < L.length), es[i]? = some (hM P w (L[i]).2, Value.ref (L[i]).1) := fun i l => by
    rw [← Array.getElem?_toList, e]
    simp [rowM, List.getElem?_eq_getElem l]
  have walk : ∀ l : List Nat, (∀ i ∈ l, i < L.length) → l.filterMap (fun i => es[i]?) = rowM P w (l.filterMap fun i => L[i]?) ∧ ((l.filterMap fun i => L[i]?).map fun p => hM P w p.2) = l.map fun i => (es.map (·.1)).getD i 0 := fun l => by
    induction l with
    | nil => exact fun _ => ⟨rfl, rfl⟩
    | cons i l ih =>
      intro all
      have il := all i (.head _)
      obtain ⟨r1, r2⟩ := ih fun j hj => all j (.tail _ hj)
      refine ⟨by rw [List.filterMap_cons_some (ent i il), List.filterMap_cons_some (List.getElem?_eq_getElem il), r1]; rfl, ?_⟩
      rw [List.filterMap_cons_some (List.getElem?_eq_getElem il), List.map_cons, List.map_cons, r2]
      congr 1
      have l2 : (es.map (·.1))[i]? = some (hM P w (L[i]).2) := by simp [ent i il]
      simp only [Array.getD_eq_getD_getElem?, l2, Option.getD_some]
  obtain ⟨r1, r2⟩ := walk order.toList fun i hi => by simpa using pm.mem_iff.mp hi
  refine ⟨_, by simpa using r1, ?_, r2⟩
  have := pm.filterMap fun i => L[i]?
  rwa [get_all] at this
theorem relayM {o : Obj} (oh : s.heap.get? a = some o) (hex : o.ExactSet) (od : o.data = .set es ep t) (e : es.toList = rowM P w L) (T : Tab t (L.map fun p => hM P w p.2)) (fl : L.length ≤ t.mask) (nd : (L.map (·.2)).Nodup)
    {wanted M : Nat} (e1 : SetTable.sizeAbove wanted - 1 = M) (k : Msk M) (e2 : SetTable.sizeAbove wanted ≤ 512) (room : L.length * 5 < M * 3) {Q : Unit → Shared → Prop}
    (next : ∀ h2 L2 es2 ep2 t2, Heap.SameBut a s.heap h2 → TSet P w h2 a L2 es2 ep2 t2 → L2.Perm L → Q () { s with heap := h2 }) : wpAny (model P w) A (setRelay a wanted) Q E s := by
  have z := rowM_len e
  have fits : t.fits es.size = true := by rw [z]; exact tab_fits T (by simp) fl
  obtain ⟨t2, order, r1, r2, r3, r4⟩ := relaidT t (hs := es.map (·.1)) e1 k (by simp only [Array.size_map]; omega)
  simp only [Array.size_map, z] at r2
  obtain ⟨L2, l1, l2, l3⟩ := reorder e r2
  rw [← l3] at r3
  have z2 : (order.filterMap (es[·]?)).size = es.size := by rw [rowM_len l1, l2.length_eq, z]
  rw [setRelay_eq]
  refine wpAny_bind (wpAny_setState_of oh od fits ?_)
  dsimp only
  refine wp_if_neg (by rw [sizeLine_eq]; omega) ?_
  try refine wpAny_bind (wpAny_pure ?_)
  rw [r1]
  dsimp only
  refine wpAny_bind (wp_if_neg (by rw [z2]; simp) ?_)
  try refine wpAny_bind (wpAny_pure ?_)
  refine wpAny_pure ?_
  dsimp only
  have lim : SetTable.sizeAbove wanted = M + 1 := by
    have : M ≠ 0 := by rcases k with q | q | q | q <;> omega
    omega
  refine wpAny_storeSet_of oh od ?_ (by rw [z2, z, sizeLine_eq]; omega)
  have sb : Heap.SameBut a s.heap (s.heap.update a (Obj.putSet (order.filterMap (es[·]?)) t2)) := Heap.SameBut.update ..
  exact next _ L2 (order.filterMap (es[·]?)) (ep + 1) t2 sb ⟨⟨_, store_at oh od, ⟨hex.1, hex.2.1, hex.2.2⟩, rfl⟩, l1, r3, (l2.map (·.2)).nodup_iff.mpr nd, by rw [l2.length_eq, r4]; exact room⟩ l2
theorem sz_5 : SetTable.sizeAbove (SetTable.grown 5) = 32 := by decide +kernel
theorem sz_19 : SetTable.sizeAbove (SetTable.grown 19) = 128 := by decide +kernel
theorem sz_77 : SetTable.sizeAbove (SetTable.grown 77) = 512 := by decide +kernel
theorem addM (R : TSet P w s.heap a L es ep t) (tup : ∀ p ∈ L, IsM P w s.heap p.2 p.1) {x : Addr} {k : List Key} (hx : IsM P w s.heap k x) (hu : A.units < cLine) (few : L.length < 305) {Q : Bool → Shared → Prop}
    (next : ∀ b h2 L2 es2 ep2 t2, Heap.SameBut a s.heap h2 → TSet P w h2 a L2 es2 ep2 t2 → (k ∈ L.map (·.2) → L2 = L) → (k ∉ L.map (·.2) → L2.Perm ((x, k) :: L)) → Q b { s with heap := h2 }) :
    wpAny (model P w) A (setAddHashed a (.ref x) (hM P w k)) Q E s := by
  obtain ⟨o, oh, hex, od⟩ := R.ob
  have z := rowM_len R.rw_
  have room := R.room
  unfold setAddHashed
  refine wpAny_holding ?_
  rw [(rfl : (100000 : Nat) = 99999 + 1), setAddHashedIn_succ]
  refine wpAny_bind (wpAny_setState_of oh od R.fits ?_)
  dsimp only
  refine wp_if_neg (by simp [byScan, Value.scannable]) ?_
  try refine wpAny_bind (wpAny_pure ?_)
  refine wpAny_bind (findM R tup hx hu (fun q => ?_) fun K q K2 K3 => ?_)
  · dsimp only
    exact wpAny_pure (next false s.heap L es ep t (Heap.SameBut.refl a s.heap) R (fun _ => rfl) fun n => absurd q n)
  dsimp only
  refine wpAny_bind (wpAny_setState_of oh od R.fits ?_)
  dsimp only
  obtain ⟨p, hp⟩ : ∃ p, SetTable.below t.place (way t.mask (hM P w k) K) = p := ⟨_, rfl⟩
  obtain ⟨p1, p2, p3, p4, p5⟩ := R.tab.more K2 K3 hp
  generalize t.put (way t.mask (hM P w k) K) = pt at p1 p3 p4 p5 ⊢
  obtain ⟨t1, pp⟩ := pt
  dsimp only at p1 p3 p4 p5 ⊢
  subst p1
  have pm := ins_perm L pp (x, k)
  have e3 : (L.map fun p => hM P w p.2).take pp ++ hM P w k :: (L.map fun p => hM P w p.2).drop pp = (L.take pp ++ (x, k) :: L.drop pp).map fun p => hM P w p.2 := by simp [List.map_take, List.map_drop]
  rw [e3] at p3
  have inn : (SetTable.insertAt es pp (hM P w k, Value.ref x)).toList = rowM P w (L.take pp ++ (x, k) :: L.drop pp) := by
    rw [SetTable.toList_insertAt, R.rw_]
    simp [rowM, List.map_take, List.map_drop]
  simp only [List.length_map] at p5
  generalize L.take pp ++ (x, k) :: L.drop pp = L1 at pm p3 inn
  have l1 : L1.length = L.length + 1 := by simpa using pm.length_eq
  have nd1 : (L1.map (·.2)).Nodup := (pm.map (·.2)).nodup_iff.mpr (by simpa using ⟨by simpa using q, R.nd⟩)
  have z1 := rowM_len inn
  generalize SetTable.insertAt es pp (hM P w k, Value.ref x) = es1 at inn z1 ⊢
  have both : ∀ b : Bool, Tab (if b = true then t1 else { t1 with plain := false }) (L1.map fun p => hM P w p.2) ∧ (if b = true then t1 else { t1 with plain := false }).mask = t.mask ∧ (if b = true then t1 else { t1 with plain := false }).fill = L.length + 1 := fun b => by
    cases b with
    | true => exact ⟨p3, p4, p5⟩
    | false => exact ⟨⟨p3.up, p3.dm, p3.sz, p3.msk, p3.met⟩, p4, p5⟩
  have casesP : t1.plain = true ∨ t1.plain = false := by cases t1.plain <;> simp
  rcases casesP with pl | pl
  · rw [pl]
    first
      | (refine wpAny_bind ?_; refine wp_if_pos rfl ?_; refine valM hx fun b => ?_)
      | refine wp_if_pos rfl (wpAny_bind (valM hx fun b => ?_))
    obtain ⟨T2, m2, f2⟩ := both b
    generalize (if b = true then t1 else { t1 with plain := false }) = t2 at T2 m2 f2 ⊢
    refine wpAny_bind (wpAny_storeSet_of oh od ?_ (by rw [z1, l1, sizeLine_eq]; omega))
    have sb : Heap.SameBut a s.heap (s.heap.update a (Obj.putSet es1 t2)) := Heap.SameBut.update ..
    have oh1 := store_at (es' := es1) (t' := t2) oh od
    generalize s.heap.update a (Obj.putSet es1 t2) = h1 at sb oh1 ⊢
    have full : t2.tooFull = decide ((L.length + 1) * 5 ≥ t.mask * 3) := by unfold SetTable.tooFull; rw [f2, m2]
    by_cases tf : (L.length + 1) * 5 ≥ t.mask * 3
    · have which : (t.mask = 7 ∧ L.length = 4) ∨ (t.mask = 31 ∧ L.length = 18) ∨ (t.mask = 127 ∧ L.length = 76) := by
        rcases R.tab.msk with e | e | e | e <;> rw [e] at tf room <;> omega
      have tf' : t2.tooFull = true := by rw [full]; exact decide_eq_true tf
      have go : ∀ M, SetTable.sizeAbove (SetTable.grown (L.length + 1)) - 1 = M → Msk M → SetTable.sizeAbove (SetTable.grown (L.length + 1)) ≤ 512 → (L.length + 1) * 5 < M * 3 →
          wpAny (model P w) A (setRelay a (SetTable.grown (L.length + 1))) (fun _ s' => wpAny (model P w) A (pure true) Q E s') E { s with heap := h1 } := fun M g1 g2 g3 g4 => by
        refine relayM (s := { s with heap := h1 }) oh1 ⟨hex.1, hex.2.1, hex.2.2⟩ rfl inn T2 (by rw [m2, l1]; rcases which with e | e | e <;> omega) nd1 g1 g2 g3 (by rw [l1]; exact g4) ?_
        intro h2 L2 es2 ep2 t3 sb2 R2 pm2
        exact wpAny_pure (next true h2 L2 es2 ep2 t3 (sb.trans sb2) R2 (fun n => absurd n q) fun _ => pm2.trans pm)
      rw [tf', z]
      first
        | (refine wpAny_bind ?_; refine wp_if_pos (by decide) ?_)
        | (refine wp_if_pos (by decide) ?_; refine wpAny_bind ?_)
      rcases which with ⟨_, e⟩ | ⟨_, e⟩ | ⟨_, e⟩
      · exact go 31 (by rw [e, sz_5]) (.inr (.inl rfl)) (by rw [e, sz_5]; decide) (by omega)
      · exact go 127 (by rw [e, sz_19]) (.inr (.inr (.inl rfl))) (by rw [e, sz_19]; decide) (by omega)
      · exact go 511 (by rw [e, sz_77]) (.inr (.inr (.inr rfl))) (by rw [e, sz_77]; decide) (by omega)
    · have tf' : t2.tooFull = false := by rw [full]; exact decide_eq_false tf
      rw [tf']
      first
        | refine wp_if_neg (by decide) ?_
        | (refine wpAny_bind ?_; refine wp_if_neg (by decide) ?_; refine wpAny_pure ?_)
      exact wpAny_pure (next true h1 L1 es1 (ep + 1) t2 sb ⟨⟨_, oh1, ⟨hex.1, hex.2.1, hex.2.2⟩, rfl⟩, inn, T2, nd1, by rw [l1, m2]; omega⟩ (fun n => absurd n q) fun _ => pm)
  · rw [pl]
    first
      | (refine wpAny_bind ?_; refine wp_if_neg (by decide) ?_; refine wpAny_pure ?_)
      | refine wp_if_neg (by decide) (wpAny_bind (wpAny_pure ?_))
    obtain ⟨T2, m2, f2⟩ := both true
    generalize (if true = true then t1 else { t1 with plain := false }) = t2 at T2 m2 f2 ⊢
    refine wpAny_bind (wpAny_storeSet_of oh od ?_ (by rw [z1, l1, sizeLine_eq]; omega))
    have sb : Heap.SameBut a s.heap (s.heap.update a (Obj.putSet es1 t2)) := Heap.SameBut.update ..
    have oh1 := store_at (es' := es1) (t' := t2) oh od
    generalize s.heap.update a (Obj.putSet es1 t2) = h1 at sb oh1 ⊢
    have full : t2.tooFull = decide ((L.length + 1) * 5 ≥ t.mask * 3) := by unfold SetTable.tooFull; rw [f2, m2]
    by_cases tf : (L.length + 1) * 5 ≥ t.mask * 3
    · have which : (t.mask = 7 ∧ L.length = 4) ∨ (t.mask = 31 ∧ L.length = 18) ∨ (t.mask = 127 ∧ L.length = 76) := by
        rcases R.tab.msk with e | e | e | e <;> rw [e] at tf room <;> omega
      have tf' : t2.tooFull = true := by rw [full]; exact decide_eq_true tf
      have go : ∀ M, SetTable.sizeAbove (SetTable.grown (L.length + 1)) - 1 = M → Msk M → SetTable.sizeAbove (SetTable.grown (L.length + 1)) ≤ 512 → (L.length + 1) * 5 < M * 3 →
          wpAny (model P w) A (setRelay a (SetTable.grown (L.length + 1))) (fun _ s' => wpAny (model P w) A (pure true) Q E s') E { s with heap := h1 } := fun M g1 g2 g3 g4 => by
        refine relayM (s := { s with heap := h1 }) oh1 ⟨hex.1, hex.2.1, hex.2.2⟩ rfl inn T2 (by rw [m2, l1]; rcases which with e | e | e <;> omega) nd1 g1 g2 g3 (by rw [l1]; exact g4) ?_
        intro h2 L2 es2 ep2 t3 sb2 R2 pm2
        exact wpAny_pure (next true h2 L2 es2 ep2 t3 (sb.trans sb2) R2 (fun n => absurd n q) fun _ => pm2.trans pm)
      rw [tf', z]
      first
        | (refine wpAny_bind ?_; refine wp_if_pos (by decide) ?_)
        | (refine wp_if_pos (by decide) ?_; refine wpAny_bind ?_)
      rcases which with ⟨_, e⟩ | ⟨_, e⟩ | ⟨_, e⟩
      · exact go 31 (by rw [e, sz_5]) (.inr (.inl rfl)) (by rw [e, sz_5]; decide) (by omega)
      · exact go 127 (by rw [e, sz_19]) (.inr (.inr (.inl rfl))) (by rw [e, sz_19]; decide) (by omega)
      · exact go 511 (by rw [e, sz_77]) (.inr (.inr (.inr rfl))) (by rw [e, sz_77]; decide) (by omega)
    · have tf' : t2.tooFull = false := by rw [full]; exact decide_eq_false tf
      rw [tf']
      first
        | refine wp_if_neg (by decide) ?_
        | (refine wpAny_bind ?_; refine wp_if_neg (by decide) ?_; refine wpAny_pure ?_)
      exact wpAny_pure (next true h1 L1 es1 (ep + 1) t2 sb ⟨⟨_, oh1, ⟨hex.1, hex.2.1, hex.2.2⟩, rfl⟩, inn, T2, nd1, by rw [l1, m2]; omega⟩ (fun n => absurd n q) fun _ => pm)
end
end PL

namespace PL
open PySem PySem.Spec PyProof.Rows L2 PpSet
/-! ### set comprehensions of tuples of ints and texts, and how many stand in them -/
def objM (P : Program) (w : World) (a : Addr) (L : Elts) : HO := .ext fun h => ∃ (L2 : Elts) (es : Array (Int × Value)) (ep : Nat) (t : SetTable), L2.Perm L ∧ TSet P w h a L2 es ep t
theorem objM_ok {P : Program} {w : World} {H : Hp} {h : Heap} {a : Addr} {L L2 : Elts} {es ep t} (pm : L2.Perm L) (R : TSet P w h a L2 es ep t) : ObjOk P w H h a (objM P w a L) := by
  refine ⟨⟨L2, es, ep, t, pm, R⟩, ?_, ?_⟩
  · obtain ⟨u, h1, _⟩ := R.ob
    exact ⟨u, h1⟩
  · rintro h1 h2 ⟨M, ms, mp, mt, mm, R1⟩ keep
    obtain ⟨u, e, r⟩ := R1.ob
    exact ⟨M, ms, mp, mt, mm, ⟨⟨u, keep u e, r⟩, R1.rw_, R1.tab, R1.nd, R1.room⟩⟩
open Classical in
noncomputable def putM (L : Elts) (b : Addr) (k : List Key) : Elts := if k ∈ L.map (·.2) then L else (b, k) :: L
def AddM : Hp → V → Elts → Elts → Prop := fun H y L L' => ∃ (b : Addr) (k : List Key), y = .ref b ∧ H b = some (.tup (k.map kV)) ∧ (∀ p ∈ L, H p.1 = some (.tup (p.2.map kV))) ∧ L.length < 305 ∧ L' = putM L b k
theorem newM_ok (P : Program) (w : World) (H : Hp) (h : Heap) : ObjOk P w H (h.push (freshSet w)) h.objs.size (objM P w h.objs.size []) :=
  objM_ok (L2 := []) (es := #[]) (ep := 0) (t := .fresh 0 0 (!w.params.followText "set-order")) (.refl _) ⟨⟨_, Heap.get?_push_size _ rfl, ⟨rfl, rfl, rfl⟩, rfl⟩, rfl, ⟨.nil, rfl, rfl, .inl rfl, fun i h j e => by simp at e⟩, .nil, by show 0 * 5 < 7 * 3; decide⟩
theorem addM_ok (Y : Cx) (hu : Y.A.units + 1 < cLine) : AddOk Y (objM Y.prog Y.w) AddM := by
  rintro pins s σ H E D y u L L' Q I hD ⟨b, k, rfl, hb, all, few, rfl⟩ ry h
  cases (show u = Value.ref b from ry)
  obtain ⟨⟨L2, es, ep, t, pm, R⟩, _⟩ := (show ObjOk Y.prog Y.w H s.heap D (objM Y.prog Y.w D L) from I.hok D _ hD)
  obtain ⟨o, oh, hex, od⟩ := R.ob
  have ty : s.TypeIs (.ref D) "set" := ⟨o, oh, hex.1⟩
  refine wpAny_call_entry F.slot_set_add ty F.entry_set_add ?_ (F.args_set_add_2 _ _)
  unfold Builtin.«set.add» Builtin.Frozenset.oneOther
  simp only [List.isEmpty_nil, bind_assoc]
  unfold Builtin.Frozenset.addrOf setAdd
  refine wpAny_bind (wpAny_pure ?_)
  try dsimp only
  refine wpAny_bind (wpAny_pure ?_)
  try dsimp only
  refine wpAny_bind ?_
  refine wpAny_holding ?_
  have x := key_of I.hok hb
  refine wpAny_bind (wpAny_pyHash_tuple (by first | exact hu | omega) x ?_)
  refine addM (s := { s with toks := s.toks + (k.length + 1) }) R (fun p hp => key_of I.hok (all p (pm.mem_iff.mp hp))) x (by first | exact hu | omega) (by rw [pm.length_eq]; exact few) fun z h2 L3 es2 ep2 t2 sb R2 c1 c2 => ?_
  show wpAny _ _ (ret Value.none) _ _ _
  have there : ∃ v, h2.get? D = some v := by
    obtain ⟨v, e, _⟩ := R2.ob
    exact ⟨v, e⟩
  have pm3 : L3.Perm (putM L b k) := by
    unfold putM
    have same : k ∈ L2.map (·.2) ↔ k ∈ L.map (·.2) := (pm.map (·.2)).mem_iff
    by_cases q : k ∈ L.map (·.2)
    · rw [if_pos q, c1 (same.mpr q)]
      exact pm
    · rw [if_neg q]
      exact (c2 fun z => q (same.mp z)).trans (pm.cons _)
  exact wpAny_pure ⟨_, rfl, h _ (I.write (e := D) (t' := s.toks + (k.length + 1)) (by rw [hD]; trivial) (.inl rfl) (fun c v hc hv => (sb.2 c hc).trans hv) there (objM_ok pm3 R2))⟩
def rLenM (P : Program) (w : World) : List V → Hp → VK → Prop := fun vs H Q => ∃ (a : Addr) (L : Elts), vs = [V.ref a] ∧ H a = some (objM P w a L) ∧ L.length < 1000 ∧ Q (.int (L.length : Int)) H
theorem cr_lenM {X : Cx} : CallR X (.builtin "len") (rLenM X.prog X.w) := by
  rintro pins s σ H xs us Q I r ⟨a, L, rfl, ha, few, q⟩
  rw [Vals.ref1 r]
  obtain ⟨⟨L2, es, ep, t, pm, R⟩, _⟩ := (show ObjOk X.prog X.w H s.heap a (objM X.prog X.w a L) from I.hok a _ ha)
  obtain ⟨o, oh, hex, od⟩ := R.ob
  have z := rowM_len R.rw_
  rw [pm.length_eq] at z
  refine call_len_set oh hex od R.fits (by omega) ⟨.int (L.length : Int), H, I.tok _, ⟨_, by rw [z]⟩, q⟩
open Classical in
theorem putM_keys {L : Elts} {b : Addr} {k : List Key} : (putM L b k).map (·.2) = if k ∈ L.map (·.2) then L.map (·.2) else k :: L.map (·.2) := by
  unfold putM
  split <;> simp
open Classical in
/-- the keys that stand in the set behind the first n -/
noncomputable def keysM (ky : Nat → List Key) : Nat → List (List Key)
  | 0 => []
  | n + 1 => if ky n ∈ keysM ky n then keysM ky n else ky n :: keysM ky n
theorem keysM_len (ky : Nat → List Key) : ∀ n, (keysM ky n).length ≤ n
  | 0 => Nat.le_refl _
  | n + 1 => by
    have := keysM_len ky n
    unfold keysM
    split
    · omega
    · simp only [List.length_cons]; omega
theorem keysM_mem (ky : Nat → List Key) : ∀ n k, k ∈ keysM ky n ↔ ∃ i, i < n ∧ ky i = k
  | 0, k => by simp [keysM]
  | n + 1, k => by
    have ih := keysM_mem ky n
    have two : (∃ i, i < n + 1 ∧ ky i = k) ↔ k = ky n ∨ ∃ i, i < n ∧ ky i = k := by
      constructor
      · rintro ⟨i, l, e⟩
        by_cases q : i = n
        · exact .inl (by rw [← e, q])
        · exact .inr ⟨i, by omega, e⟩
      · rintro (e | ⟨i, l, e⟩)
        · exact ⟨n, by omega, e.symm⟩
        · exact ⟨i, by omega, e⟩
    rw [two]
    unfold keysM
    split
    · rename_i h
      rw [ih]
      constructor
      · exact .inr
      · rintro (e | e)
        · rw [e]; exact (ih _).mp h
        · exact e
    · rw [List.mem_cons, ih]
/-- all unlike: as many stand in it as came -/
theorem keysM_all (ky : Nat → List Key) : ∀ n, (keysM ky n).length = n ↔ ∀ i j, i < j → j < n → ky i ≠ ky j
  | 0 => by simp [keysM]
  | n + 1 => by
    have ih := keysM_all ky n
    have le := keysM_len ky n
    have mem := keysM_mem ky n (ky n)
    unfold keysM
    split
    · rename_i h
      obtain ⟨i, l, e⟩ := mem.mp h
      constructor
      · intro q; omega
      · intro q; exact absurd e (q i n l (by omega))
    · rename_i h
      rw [List.length_cons]
      constructor
      · intro q i j ij jn
        by_cases z : j = n
        · subst z; exact fun e => h (mem.mpr ⟨i, ij, e⟩)
        · exact ih.mp (by omega) i j ij (by omega)
      · intro q
        rw [ih.mpr fun i j ij jn => q i j ij (by omega)]
section
variable {X : Cx} {Γ : Slots} {γ γ1 : Cells} {tg it elt a : Expr} {xs : List Itm} {stab : Cells → Prop} {scope : Scope} {own : List (Str × Nat)} {pos pos2 p : Pos} {P : EPost}
theorem ee_scT (ky : Nat → List Key) (hX : Cok X) (ok : BlkOk X.N X.env.scope scope own) (hi : ITV X Γ γ tg it xs stab γ1) (hst : ∀ o, stab (γ1 ++ [o])) (hsz : xs.length < 305)
    (hb : ∀ i x, xs[i]? = some x → ∃ Γ2 ws, (∀ j ∈ ws, j ∈ own.map (·.2)) ∧ ∀ X', Blk X scope X' → ∀ G o, G = γ1 ++ [o] →
      GV X' G (wipeS Γ (own.map (·.2))) tg x Γ2 ws ∧ ∃ d, keyT d = some (ky i) ∧ EV X' Γ2 G elt (.fz d) G)
    (hP : ∀ L : Elts, L.map (·.2) = keysM ky xs.length → P (.cl γ1.length) (γ1 ++ [.raw fun a => objM X.prog X.w a L]))
    (hs : ∀ x, foldedSetIterable it X.env x = pure x := by intro _; rfl) :
    EE X Γ γ (.SetComp elt [⟨tg, it, [], 0⟩] scope pos) P := fun F as σ H R E Q q => by
  refine ⟨_, pe_scG (obj := objM X.prog X.w) (emp := []) (Add := AddM) hX (newM_ok X.prog X.w) (fun Y h1 h2 h3 h4 => by rw [← h1, ← h2]; exact addM_ok Y (by rw [h4]; exact hX.hu1)) pi_wp ok (wbG_ok X scope tg) (wbT_ok X scope []) (wbE_ok X scope elt) hs, hi F as σ H R E _ fun J F1 as1 H1 x1 R1 hJ D hD => ?_⟩
  have l1 : as1.length = γ1.length := R1.len
  have R1' := R1.newCell (cell := .raw fun a => objM X.prog X.w a []) (o := objM X.prog X.w D []) hD ⟨upd_same, fun vs e => by simp [objM] at e⟩
  have at1 : (as1 ++ [D])[γ1.length]? = some D := by rw [← l1, List.getElem?_append_right (Nat.le_refl _)]; simp
  have x1' : Ext F1 as1 F1 (as1 ++ [D]) := ⟨Same.refl F1, [D], rfl⟩
  refine ⟨fun i m H' => (m = xs.length - i ∧ i ≤ xs.length) ∧ ∃ F' as' L, Ext F1 (as1 ++ [D]) F' as' ∧ Rep X.K F' as' (γ1 ++ [.raw fun a => objM X.prog X.w a L]) H' ∧ L.map (·.2) = keysM ky i ∧ ∀ p ∈ L, F' p.1 = some (.tup (p.2.map kV)), ⟨xs.length, ⟨by simp, Nat.zero_le _⟩, F1, as1 ++ [D], [], Ext.refl _ _, R1', rfl, by simp⟩, ?_⟩
  rintro i m H' ⟨⟨rfl, hle⟩, F', as', L, x', R', hk, hF⟩
  obtain ⟨j1, j2⟩ := hJ i F' as' _ H' (x1'.trans x') R' (hst _)
  by_cases hlt : i < xs.length
  · obtain ⟨g1, g2⟩ := j2 xs[i] (List.getElem?_eq_getElem hlt)
    refine .inr ⟨g1, fun H'' => ∃ F' as' L, Ext F1 (as1 ++ [D]) F' as' ∧ Rep X.K F' as' (γ1 ++ [.raw fun a => objM X.prog X.w a L]) H'' ∧ L.map (·.2) = keysM ky (i + 1) ∧ ∀ p ∈ L, F' p.1 = some (.tup (p.2.map kV)), fun H'' n => ⟨xs.length - (i + 1), by omega, ⟨rfl, hlt⟩, n⟩, fun v H'' y => ?_⟩
    obtain ⟨F'', x'', R'', i''⟩ := g2 v H'' y
    obtain ⟨Γ2, ws, hws, hall⟩ := hb i xs[i] (List.getElem?_eq_getElem hlt)
    intro X' hB
    have hK := blkK hB
    refine (hall X' hB _ _ rfl).1 F'' as' (wipe σ _) H'' v (hK ▸ R'') (hK ▸ env_wipe (E.mono (((x1.trans x1').trans x').trans x'')) _) (hK ▸ i'') _ fun σ2 E2 b2 => ⟨wipe_but b2 hws, ?_⟩
    rw [hK] at E2
    intro X2 hB2
    have hK2 := blkK hB2
    refine tvs_nil (X := X2) (Γ := Γ2) F'' as' σ2 H'' (hK2 ▸ R'') (hK2 ▸ E2) _ fun F3 as3 H3 x3 R3 => ?_
    rw [hK2] at R3
    have xx := (x'.trans x'').trans x3
    refine iteT fun X3 hB3 => ?_
    have hK3 := blkK hB3
    obtain ⟨_, d, hd, e1⟩ := hall X3 hB3 _ _ rfl
    refine e1.go (hK3 ▸ R3) (hK3 ▸ E2.mono x3) fun w F4 as4 H4 x4 R4 i4 => ?_
    rw [hK3] at R4 i4
    obtain ⟨b, rfl, hb4⟩ := keyT_v hd i4
    have hDx : as4[γ1.length]? = some D := (xx.trans x4).get at1
    have hc : (γ1 ++ [Cell.raw fun a => objM X.prog X.w a L])[γ1.length]? = some (.raw fun a => objM X.prog X.w a L) := by rw [List.getElem?_append_right (Nat.le_refl _)]; simp
    obtain ⟨D', k1, k2⟩ := R4.cellAt hc
    rw [hDx] at k1
    cases k1
    have few : L.length ≤ i := by
      have := congrArg List.length hk
      have := keysM_len ky i
      simp only [List.length_map] at *
      omega
    have up : ∀ p ∈ L, F4 p.1 = some (.tup (p.2.map kV)) := fun p hp => ((x''.trans x3).trans x4).1 _ _ (hF p hp)
    refine ⟨L, putM L b (ky i), k2.1, ⟨b, ky i, rfl, R4.fr _ _ hb4, fun p hp => R4.fr _ _ (up p hp), by omega, rfl⟩, F4, as4, putM L b (ky i), xx.trans x4, ?_, ?_, ?_⟩
    · have R6 := R4.write (cell := .raw fun a => objM X.prog X.w a (putM L b (ky i))) (o := objM X.prog X.w D (putM L b (ky i))) hc (by simp) hDx ⟨upd_same, fun vs e => by simp [objM] at e⟩
      rw [List.set_append_right _ _ (Nat.le_refl _), Nat.sub_self] at R6
      exact R6
    · rw [putM_keys, hk]
      rfl
    · intro p hp
      unfold putM at hp
      split at hp
      · exact up p hp
      · rcases List.mem_cons.mp hp with rfl | hp
        · exact hb4
        · exact up p hp
  · have e : i = xs.length := by omega
    subst e
    exact .inl ⟨j1 (Nat.le_refl _), q _ _ _ F' as' H' (hP L hk) ((x1.trans x1').trans x') R' (itm_cl.mpr ⟨D, x'.get at1, rfl⟩)⟩
/-- how many unlike tuples: the set itself is forgotten -/
theorem ev_lenST (ky : Nat → List Key) (bt : Bt X "len") (hX : Cok X) (ok : BlkOk X.N X.env.scope scope own) (hi : ITV X Γ γ tg it xs stab γ1) (hst : ∀ o, stab (γ1 ++ [o])) (hsz : xs.length < 305)
    (hb : ∀ i x, xs[i]? = some x → ∃ Γ2 ws, (∀ j ∈ ws, j ∈ own.map (·.2)) ∧ ∀ X', Blk X scope X' → ∀ G o, G = γ1 ++ [o] →
      GV X' G (wipeS Γ (own.map (·.2))) tg x Γ2 ws ∧ ∃ d, keyT d = some (ky i) ∧ EV X' Γ2 G elt (.fz d) G)
    (hs : ∀ x, foldedSetIterable it X.env x = pure x := by intro _; rfl)
    (hq : starEach [.SetComp elt [⟨tg, it, [], 0⟩] scope pos] X.env = (false, eval (.SetComp elt [⟨tg, it, [], 0⟩] scope pos) X.env) :: starEach [] X.env := by rfl) :
    EV X Γ γ (.Call (.Name "len" p) [.SetComp elt [⟨tg, it, [], 0⟩] scope pos] [] pos2) (.fz (.int ((keysM ky xs.length).length : Int))) (γ1 ++ [.dead]) :=
  ee_callB cr_lenM bt (by decide +kernel) (ae_cons (ee_scT ky hX ok hi hst hsz hb (fun L hL => ae_nil fun F as H vs R i Q q => by
    obtain ⟨v, rfl, h⟩ := itms1 i
    obtain ⟨D, hD, rfl⟩ := itm_cl.mp h
    have hc : (γ1 ++ [Cell.raw fun a => objM X.prog X.w a L])[γ1.length]? = some (.raw fun a => objM X.prog X.w a L) := by rw [List.getElem?_append_right (Nat.le_refl _)]; simp
    obtain ⟨D', k1, k2⟩ := R.cellAt hc
    rw [hD] at k1
    cases k1
    have ll : L.length = (keysM ky xs.length).length := by rw [← hL, List.length_map]
    have few := keysM_len ky xs.length
    refine ⟨D, L, rfl, k2.1, by omega, q _ _ (γ1 ++ [.dead]) F as H ⟨by rw [← ll], rfl⟩ (Ext.refl F as) ⟨R.fr, R.nd, by rw [R.len]; simp, R.th, fun c o e => ?_⟩ (itm_int.mpr rfl)⟩
    by_cases l : c < γ1.length
    · rw [List.getElem?_append_left l] at e
      exact R.at_ c o (by rw [List.getElem?_append_left l]; exact e)
    · have lt := (List.getElem?_eq_some_iff.mp e).1
      simp only [List.length_append, List.length_cons, List.length_nil] at lt
      have : c = γ1.length := by omega
      subst this
      simp at e
      subst e
      exact ⟨D, hD, fun z => absurd rfl z, trivial⟩) hs) hq) (he := hq)
end
end PL

namespace PL
open PySem PySem.Spec PyProof.Rows L2
/-! ### walks through a dict by tuples, whose values are ints: its keys, its values -/
abbrev IntD := List (List Key × Int)
def ditI (L : IntD) : Cell := .dit (L.map fun x => (x.1, Itm.fz (.int x.2)))
def intV (L : IntD) : List (List Key × V) := L.map fun x => (x.1, V.int x.2)
def frzI (od : Obj) (L : IntD) : Cell := .raw fun _ => .frz od (.dT (intV L))
section
variable {K : PySem.W.Frag} {F : Hp} {as : List Addr} {γ : Cells} {H : Hp}
/-- a tuple that stands in the heap may be known as data -/
theorem Rep.learn (R : Rep K F as γ H) {q : Addr} {vs : List V} (hq : H q = some (.tup vs)) : Same F (upd F q (.tup vs)) ∧ Rep K (upd F q (.tup vs)) as γ H := by
  have sm : Same F (upd F q (.tup vs)) := fun a o e => by
    by_cases z : a = q
    · subst z
      have := R.fr _ _ e
      rw [hq] at this
      cases this
      exact upd_same
    · rw [upd_ne z]; exact e
  refine ⟨sm, fun a o e => ?_, R.nd, R.len, R.th, fun c o e => ?_⟩
  · by_cases z : a = q
    · subst z
      rw [upd_same] at e
      cases e
      exact hq
    · rw [upd_ne z] at e; exact R.fr _ _ e
  · obtain ⟨a, h1, h2, h3⟩ := R.at_ c o e
    refine ⟨a, h1, fun nd => ?_, cell_mono ⟨sm, [], by simp⟩ (fun _ => rfl) h3⟩
    have ne : a ≠ q := fun z => by
      subst z
      cases o with
      | dead => exact nd rfl
      | lst xs => obtain ⟨_, h4, _⟩ := h3; rw [hq] at h4; cases h4
      | dic xs => obtain ⟨_, h4, _⟩ := h3; rw [hq] at h4; cases h4
      | dit xs => obtain ⟨_, h4, _⟩ := h3; rw [hq] at h4; cases h4
      | ins C xs => obtain ⟨_, _, h4, _⟩ := h3; rw [hq] at h4; cases h4
      | raw f =>
        have h4 := h3.1
        rw [hq] at h4
        exact h3.2 vs (Option.some.inj h4).symm
    rw [upd_ne ne]
    exact h2 nd
theorem dq_kss : ∀ (k : List Key), DqAll K F (k.map kV) (k.map kD)
  | [] => .nil
  | .inl i :: k => .cons (.int i) (dq_kss k)
  | .inr x :: k => .cons (.str x) (dq_kss k)
theorem dit_ints {a : Addr} {L : IntD} (h : CellR K F as H a (ditI L)) : H a = some (.dT (intV L)) := by
  obtain ⟨ks, h1, h2⟩ := h
  have e : ∀ {L : IntD} {ks : List (List Key × V)}, Paired (fun (p : List Key × Itm) (q : List Key × V) => p.1 = q.1 ∧ ItmR K F as p.2 q.2) (L.map fun x => (x.1, Itm.fz (.int x.2))) ks → ks = intV L := by
    intro L
    induction L with
    | nil => intro ks p; cases p; rfl
    | cons x L ih =>
      intro ks p
      cases p with
      | @cons _ y _ ys h t =>
        rw [ih t]
        obtain ⟨y1, y2⟩ := y
        obtain ⟨e1, e2⟩ := h
        have e3 := itm_int.mp e2
        simp only at e1 e3
        subst e1 e3
        rfl
  rw [h1, e h2]
theorem ints_dit {a : Addr} {L : IntD} (h : H a = some (.dT (intV L))) : CellR K F as H a (ditI L) := by
  refine ⟨intV L, h, ?_⟩
  unfold intV
  induction L with
  | nil => exact .nil
  | cons x L ih => exact .cons ⟨rfl, itm_int.mpr rfl⟩ (by
      have : ∀ (L : IntD), Paired (fun (p : List Key × Itm) (q : List Key × V) => p.1 = q.1 ∧ ItmR K F as p.2 q.2) (L.map fun x => (x.1, Itm.fz (.int x.2))) (L.map fun x => (x.1, V.int x.2)) := fun L => by
        induction L with
        | nil => exact .nil
        | cons x L ih => exact .cons ⟨rfl, itm_int.mpr rfl⟩ ih
      exact this L)
end
section
variable {X : Cx} {Γ : Slots} {γ γ1 γ2 : Cells} {tg e o i it : Expr} {r : Itm} {L : IntD} {c : Nat} {od : Obj} {pos apos cpos : Pos} {k : List Key} {d : PyData}
/-- while an expression is evaluated a dict may be locked -/
theorem ev_lock (hc : γ[c]? = some (ditI L)) (h : ∀ od, ∃ γ1, EV X Γ (γ.set c (frzI od L)) e r γ1 ∧ γ1[c]? = some (frzI od L) ∧ γ1.set c (ditI L) = γ2) : EV X Γ γ e r γ2 := .mk fun F as σ H R E Q q => by
  obtain ⟨a, h1, h2, h3⟩ := R.at_ c _ hc
  have hd := dit_ints h3
  refine ⟨_, pe_lock pe_wp, a, .dT (intV L), hd, trivial, fun od => ?_⟩
  obtain ⟨γ1, e1, e2, e3⟩ := h od
  have R1 := R.write (cell := frzI od L) (o := .frz od (.dT (intV L))) hc (by simp [ditI]) h1 ⟨upd_same, fun vs z => by cases z⟩
  refine e1.go R1 E fun v F1 as1 H1 x1 R2 i1 => ?_
  obtain ⟨a2, h4, h5, h6⟩ := R2.at_ c _ e2
  rw [x1.get h1] at h4
  cases h4
  refine ⟨h6.1, ?_⟩
  have R3 := R2.write (cell := ditI L) (o := .dT (intV L)) e2 (by simp [frzI]) (x1.get h1) (ints_dit upd_same)
  rw [e3] at R3
  exact q v F1 as1 _ x1 R3 i1
theorem ev_zget (hX : Cok X) (ho : EV X Γ γ o (.cl c) γ1) (hi : EV X Γ γ1 i (.fz d) γ2) (hc : γ2[c]? = some (frzI od L)) (hk : keyT d = some k) {n : Int} (hv : valI (L.map fun x => (x.1, Itm.fz (.int x.2))) k = some (.fz (.int n))) (hs : NoSl i := by exact fun _ _ => rfl) : EV X Γ γ (.Subscript o i pos) (.fz (.int n)) γ2 := .mk fun F as σ H R E Q q => by
  refine ⟨_, pe_dget hX.hu1 pe_wp pe_wp hs, ho.go R E fun v F1 as1 H1 x1 R1 i1 => hi.go R1 (E.mono x1) fun u F2 as2 H2 x2 R2 i2 => ?_⟩
  obtain ⟨l, hl, rfl⟩ := itm_cl.mp (itm_mono x2 i1)
  obtain ⟨l', h1, h2⟩ := R2.cellAt hc
  rw [hl] at h1
  cases h1
  obtain ⟨t, rfl, ht⟩ := keyT_v hk i2
  have hv2 : valV (intV L) k = some (.int n) := by
    have go : ∀ L : IntD, valI (L.map fun x => (x.1, Itm.fz (.int x.2))) k = some (.fz (.int n)) → valV (intV L) k = some (.int n) := fun L => by
      induction L with
      | nil => intro h; simp [valI] at h
      | cons x L ih =>
        intro h
        unfold valI at h ih
        unfold valV intV at *
        rw [List.map_cons, List.find?_cons] at h ⊢
        by_cases z : x.1 = k
        · simp [z] at h ⊢
          exact h
        · simp [z] at h ⊢
          simpa using ih (by simpa using h)
    exact go L hv
  refine ⟨l, .int n, rfl, ?_, q _ F2 as2 H2 (x1.trans x2) R2 (itm_int.mpr rfl)⟩
  rw [← hv2]
  exact .inr ⟨intV L, k, t, .inr ⟨od, h2.1⟩, rfl, R2.fr _ _ ht, rfl⟩
theorem itv_keysZ (ho : EV X Γ γ it (.cl c) γ) (hc : γ[c]? = some (frzI od L)) : ITV X Γ γ tg it (L.map fun x => Itm.fz (.tuple (x.1.map kD))) (fun g => g[c]? = some (frzI od L)) γ := fun F as σ H R E Q q => by
  refine ⟨_, pi_keys pe_wp, ho.go R E fun v F1 as1 H1 x1 R1 i1 => ?_⟩
  obtain ⟨l, hl, rfl⟩ := itm_cl.mp i1
  obtain ⟨l', h1, h2⟩ := R1.cellAt hc
  rw [hl] at h1
  cases h1
  refine ⟨l, od, rfl, .inr ⟨intV L, h2.1, q _ F1 as1 H1 x1 R1 fun i F' as' γ' H' x' R' st => ?_⟩⟩
  obtain ⟨l2, h3, h4⟩ := R'.cellAt st
  rw [x'.get hl] at h3
  cases h3
  refine ⟨fun le => ⟨h4.1, by simpa [intV] using le⟩, fun x hx => ?_⟩
  rw [List.getElem?_map] at hx
  cases hd : L[i]? with
  | none => rw [hd] at hx; cases hx
  | some y =>
    rw [hd] at hx
    cases hx
    refine ⟨⟨h4.1, by simpa [intV] using (List.getElem?_eq_some_iff.mp hd).1⟩, fun v H'' z => ?_⟩
    obtain ⟨rfl, k, v2, t, z1, rfl, z2⟩ := z
    have z1 : (intV L)[i]? = some (k, v2) := z1
    unfold intV at z1
    rw [List.getElem?_map, hd] at z1
    cases z1
    obtain ⟨sm, R2⟩ := R'.learn z2
    exact ⟨_, ⟨sm, [], by simp⟩, R2, .fz (.tup upd_same (dq_kss _))⟩
/-! #### values -/
def Itz (d : Addr) (o : Obj) (L : IntD) : It := ⟨fun i H => H d = some (.frz o (.dT (intV L))) ∧ i < L.length, fun i H x H' => H' = H ∧ ∃ k n, L[i]? = some (k, n) ∧ x = .int n, fun i H => H d = some (.frz o (.dT (intV L))) ∧ L.length ≤ i⟩
theorem frz_vals {pins : List (Addr × Obj)} {σ : L2.St} {H : Hp} {s : Shared} {d : Addr} {o : Obj} (I : Inv X pins σ H s) (h : H d = some (.frz o (.dT (intV L)))) {es : Array DictEntry} {ep : Nat} (hd : o.data = .dict es ep) :
    es.size = L.length ∧ ∀ (i : Nat) k n, L[i]? = some (k, n) → ∃ en t, es[i]? = some en ∧ en.val = .int n t := by
  obtain ⟨h0, z, hs, xs, pr, o', es', ep', ho, hx, hdt, he, _⟩ := I.hok d _ h
  rw [h0] at ho
  cases ho
  obtain ⟨rfl, rfl⟩ := dict_ep hd hdt
  have l1 : es'.size = xs.length := size_of_entries he
  have l2 : (intV L).length = xs.length := Paired.length pr
  simp only [intV, List.length_map] at l2
  refine ⟨by omega, fun i k n e => ?_⟩
  have e' : (intV L)[i]? = some (k, .int n) := by unfold intV; rw [List.getElem?_map, e]; rfl
  obtain ⟨b, hb, e1, e2, e3⟩ := paired_get pr e'
  have en := entry_at he i
  rw [hb] at en
  obtain ⟨t, e3⟩ := (show ∃ t, b.2.2 = Value.int n t from e3)
  exact ⟨_, t, en, e3⟩
theorem turn_valsZ {P : Program} {w : World} {K : PySem.W.Frag} {o : Obj} {d : Addr} {es : Array DictEntry} {ep : Nat} (it : Addr) (od : o.data = .dict es ep) : Turn P w K tg (Itz d o L) [it] it (fun i h => h.get? it = some (DVw.valOb d i L.length ep)) where
  mem := by simp
  obj := fun i h st b hb => by
    obtain rfl : b = it := by simpa using hb
    exact ⟨_, st, fun v z => nomatch z⟩
  keep := fun i h h' st k => k it (by simp) _ st
  item := by
    intro X hP hw hK hc i pins s σ H E I hf st hg
    subst hP hw hK
    obtain ⟨hd, hi⟩ := hg
    obtain ⟨f0, f1, f2, f3, f4, f5⟩ := hf it (by simp)
    obtain ⟨_, hgd, _⟩ := I.frzT hd
    obtain ⟨sz, ent⟩ := frz_vals I hd od
    obtain ⟨⟨k, n⟩, hkn⟩ : ∃ p, L[i]? = some p := ⟨L[i], List.getElem?_eq_getElem hi⟩
    obtain ⟨en, t, h1, h2⟩ := ent i k n hkn
    refine DVw.val_item st hgd od sz h1 fun h' st' sb => ?_
    have I1 : Inv X pins σ H { s with heap := h' } := I.turned (t' := s.toks) (fun b ob hb e => (sb.2 b hb).trans e) f0 f1 f3 f4 f5
    exact ⟨en.val, rfl, go_of (s := { s with heap := h' }) st' rfl rfl (by decide) ⟨.int n, H, I1, ⟨t, h2⟩, ⟨rfl, k, n, hkn, rfl⟩, st', fun b hb => (hf b hb).1⟩⟩
  done := by
    intro X hP hw hK hc i pins s σ H E I hf st hg
    subst hP hw hK
    obtain ⟨hd, hi⟩ := hg
    obtain ⟨f0, f1, f2, f3, f4, f5⟩ := hf it (by simp)
    obtain ⟨_, hgd, _⟩ := I.frzT hd
    obtain ⟨sz, _⟩ := frz_vals I hd od
    exact DVw.val_end (I.ok.hd hc) st hgd od sz (by rw [Array.getElem?_eq_none (by omega)]) fun h' eb => ⟨rfl, I.turned (t' := s.toks) (fun b ob hb e => eb b ob hb e) f0 f1 f3 f4 f5⟩
  self := fun A i s Q E st h => wpAny_pyIter_valiter (i := i) (n := L.length) (ep := ep) (d := d) ⟨_, st, rfl, rfl⟩ h
theorem meets_valsZ {P : Program} {w : World} (d : Addr) (hd : (d == sysModules) = false) :
    MeetsIn P w (Builtin.«dict.values» ⟨[.ref d], []⟩) (fun _ R s => s.TypeIs (.ref d) "dict" ∧ R (.ok (.ret (.ref s.heap.objs.size))) { s with heap := s.heap.push { cls := .type "dict_values", data := .fields #[.ref d] } }) :=
  .of_wp fun A R s ⟨ty, h⟩ => by
    refine wpAny_bind ?_
    unfold Builtin.Dict.noArgs
    refine wpAny_bind (wpAny_notOrdered_dict ty ?_)
    show wpAny _ _ (pure d) _ _ s
    refine wpAny_pure ?_
    show wpAny _ _ (Builtin.Dict.showsAll d >>= _) _ _ s
    unfold Builtin.Dict.showsAll
    rw [if_neg (by simp [hd])]
    refine wpAny_bind (wpAny_pure ?_)
    exact wpAny_bind (wpAny_newObj_type (wpAny_pure ⟨_, rfl, h⟩))
def iValsZ (td : TE) : TI := fun σ H R => td σ H fun x H1 => ∃ d o L, x = .ref d ∧ H1 d = some (.frz o (.dT (intV L))) ∧ R (Itz d o L) H1
theorem pi_valsZ {e : Expr} {td : TE} (he : PE X e td) (hbase : attributeBase e "values" X.env (eval e X.env) = eval e X.env := by rfl) (hline : (apos.endLine == cpos.line) = true := by rfl) : PI X tg (.Call (.Attribute e "values" apos) [] [] cpos) (iValsZ td) := by
  refine ⟨fun pins s σ H R I h => ?_⟩
  refine wpAny_Call_method (T := "dict") (id := "dict.values") hbase rfl hline F.plainAttrs_dict F.slot_dict_values F.type_dict_values (thn (he.run pins s σ H _ I h) fun u s1 ⟨x, H1, I1, rx, d, o, L, ex, hd, q⟩ => ?_)
  subst ex
  cases (show u = Value.ref d from rx)
  obtain ⟨hs, hgd, hx, es, ep, hdt, _⟩ := I1.frzT hd
  obtain ⟨sz, _⟩ := frz_vals I1 hd hdt
  have ty : s1.TypeIs (.ref d) "dict" := ⟨o, hgd, hx.1⟩
  refine ⟨ty, fun b e => by cases e; exact ⟨o, hgd, hx.2.1⟩, ?_⟩
  have I2 : Inv X pins σ H1 { s1 with heap := s1.heap.push { cls := .type "dict_values", data := .fields #[.ref d] } } := I1.kept (t' := s1.toks) fun b ob q => Heap.get?_push_of_some _ q
  have fin : wpAny (model X.prog X.w) X.A (pyIter (.ref s1.heap.objs.size)) (PIE X pins σ tg R) X.xe { s1 with heap := s1.heap.push { cls := .type "dict_values", data := .fields #[.ref d] } } := by
    refine DSub.iter_vals (a := d) (ob := o) (es := es) (ep := ep) (Heap.get?_push_size _ rfl) (Heap.get?_push_of_some _ hgd) hdt ?_
    rw [sz]
    exact pi_one (tk := s1.toks) I2 _ (turn_valsZ _ hdt) (Heap.get?_push_size _ rfl) q
  show wpAny _ _ (callWith cpos (.builtin "dict.values") [.ref d] [] []) _ X.xe s1
  exact method_meetsIn F.slot_dict_values F.entry_dict_values rfl (PySem.evalArgs_none ⟨rfl, ty, F.args_dict_values_1 _, _, meets_valsZ d hs, ty, fin⟩)
theorem itv_valsZ (ho : EV X Γ γ o (.cl c) γ) (hc : γ[c]? = some (frzI od L)) (hbase : attributeBase o "values" X.env (eval o X.env) = eval o X.env := by rfl) (hline : (apos.endLine == cpos.line) = true := by rfl) :
    ITV X Γ γ tg (.Call (.Attribute o "values" apos) [] [] cpos) (L.map fun x => Itm.fz (.int x.2)) (fun g => g[c]? = some (frzI od L)) γ := fun F as σ H R E Q q => by
  refine ⟨_, pi_valsZ pe_wp hbase hline, ho.go R E fun v F1 as1 H1 x1 R1 i1 => ?_⟩
  obtain ⟨l, hl, rfl⟩ := itm_cl.mp i1
  obtain ⟨l', h1, h2⟩ := R1.cellAt hc
  rw [hl] at h1
  cases h1
  refine ⟨l, od, L, rfl, h2.1, q _ F1 as1 H1 x1 R1 fun i F' as' γ' H' x' R' st => ?_⟩
  obtain ⟨l2, h3, h4⟩ := R'.cellAt st
  rw [x'.get hl] at h3
  cases h3
  refine ⟨fun le => ⟨h4.1, by simpa using le⟩, fun x hx => ?_⟩
  rw [List.getElem?_map] at hx
  cases hd : L[i]? with
  | none => rw [hd] at hx; cases hx
  | some y =>
    rw [hd] at hx
    cases hx
    refine ⟨⟨h4.1, (List.getElem?_eq_some_iff.mp hd).1⟩, fun v H'' z => ?_⟩
    obtain ⟨rfl, k, n, z1, rfl⟩ := z
    rw [hd] at z1
    cases z1
    exact ⟨F', Ext.refl _ _, R', itm_int.mpr rfl⟩
end
end PL

namespace PL
open PySem PySem.Spec PyProof.Rows L2
/-! ### whole numbers of the module -/
/-- the name x of the module is the number n -/
structure Ci (X : Cx) (x : Str) (n : Int) : Prop where
  gl : Gl X x
  mg : ∃ t, X.mg x = some (.int n t)
  d1 : (x == ("__debug__" : Str)) = false
theorem Ctx.ci {X : Cx} {P : Program} {w : World} {K : PySem.W.Frag} {mg : Str → Option Value} {base : Heap} {N : List Str} {sc : Scope} {k : Nat} {x : Str} {n : Int} (c : Ctx X P w K mg base N sc k) (h1 : sc.names.lookup x = some .globalImplicit) (h2 : ∃ t, mg x = some (.int n t)) (d1 : (x == ("__debug__" : Str)) = false) : Ci X x n :=
  ⟨by show X.env.scope.names.lookup x = _; rw [c.sc]; exact h1, by rw [c.mg]; exact h2, d1⟩
section
variable {X : Cx} {Γ : Slots} {γ γ1 γ2 γ3 γ4 : Cells} {a b c e : Expr} {r : Itm} {pos p : Pos} {x : Str} {n : Int} {P : EPost}
theorem ev_const (h : Ci X x n) : EV X Γ γ (.Name x pos) (.fz (.int n)) γ := .mk fun F as σ H R E Q q => by
  obtain ⟨t, e⟩ := h.mg
  exact ⟨_, pe_glob (v := .int n) h.gl e ⟨t, rfl⟩ h.d1, q _ F as H (Ext.refl F as) R (itm_int.mpr rfl)⟩
/-! ### dict(pairs): keys tuples, no key twice -/
theorem call_dictT (hc : X.calm = true) (hu : X.A.units + 100 < cLine) : CallR X (.type "dict") (fun vs H Q => ∃ (l : Addr) (ps : List Addr) (ks : List (List Key × Addr × V)), vs = [.ref l] ∧ SqL X.K H l (ps.map V.ref) ∧ Paired (fun q kv => SqT X.K H q [.ref kv.2.1, kv.2.2]) ps ks ∧
    (∀ kv ∈ ks, H kv.2.1 = some (.tup (kv.1.map kV))) ∧ (ks.map (·.1)).Nodup ∧ ∀ D, H D = none → Q (.ref D) (upd H D (.dT (ks.map fun kv => (kv.1, kv.2.2))))) := by
  rintro pins s σ H xs us Q I r ⟨l, ps, ks, rfl, hl, hps, hks, nd, q⟩
  rw [Vals.ref1 r]
  obtain ⟨its, rv, pl, hz⟩ := I.list hl
  have ei := refs_at rv
  subst ei
  simp only [List.length_map] at hz
  -- the pairs, as they stand
  have val : ∃ vs : List Value, Paired (fun (kv : List Key × Addr × V) u => RelV kv.2.2 u) ks vs ∧ ∀ (j : Nat) (kv : List Key × Addr × V) (u : Value), ks[j]? = some kv → vs[j]? = some u → ∃ b, ps[j]? = some b ∧ IsTup s.heap b #[.ref kv.2.1, u] := by
    clear hks nd q rv pl hz hl
    induction hps with
    | nil => exact ⟨[], .nil, fun j kv u e => by simp at e⟩
    | @cons t kv ps ks h _ ih =>
      obtain ⟨vs, v1, v2⟩ := ih
      obtain ⟨its, rv, ht, _⟩ := I.tuple h
      obtain ⟨u1, u2, e, r1, r2⟩ := vals2 rv
      subst e
      cases r1
      refine ⟨u2 :: vs, .cons r2 v1, fun j kv' u e1 e2 => ?_⟩
      cases j with
      | zero =>
        cases e1
        cases e2
        exact ⟨t, rfl, ht⟩
      | succ j => exact v2 j kv' u (by simpa using e1) (by simpa using e2)
  obtain ⟨vs, v1, v2⟩ := val
  have lv : vs.length = ks.length := v1.length.symm
  have lp : ps.length = ks.length := hps.length
  let xs : List (List Key × Addr × Value) := ks.zipWith (fun kv u => (kv.1, kv.2.1, u)) vs
  let qs : List (Value × Value) := ks.zipWith (fun kv u => (Value.ref kv.2.1, u)) vs
  have lx : xs.length = ks.length := by simp [xs, lv]
  have lq : qs.length = ks.length := by simp [qs, lv]
  have xk : xs.map (·.1) = ks.map (·.1) := by
    have : ∀ (ks : List (List Key × Addr × V)) (vs : List Value), vs.length = ks.length → (ks.zipWith (fun kv u => (kv.1, kv.2.1, u)) vs).map (·.1) = ks.map (·.1) := fun ks => by
      induction ks with
      | nil => intro vs _; simp
      | cons k ks ih =>
        intro vs e
        cases vs with
        | nil => simp at e
        | cons v vs => simp; simpa using ih vs (by simpa using e)
    exact this ks vs lv
  have at_ : ∀ (j : Nat) (kv : List Key × Addr × V) (u : Value), ks[j]? = some kv → vs[j]? = some u → xs[j]? = some (kv.1, kv.2.1, u) ∧ qs[j]? = some (Value.ref kv.2.1, u) := fun j kv u e1 e2 => by simp [xs, qs, List.getElem?_zipWith, e1, e2]
  have back : ∀ j : Nat, j < ks.length → ∃ kv u, ks[j]? = some kv ∧ vs[j]? = some u := fun j h => ⟨_, _, List.getElem?_eq_getElem h, List.getElem?_eq_getElem (show j < vs.length by omega)⟩
  have items : PairItems s.heap (ps.map Value.ref).toArray (fun j => (ps[j]?).getD 0) qs := ⟨by simp [lq, lp], fun j k v e => by
    have jl : j < ks.length := by rw [← lq]; exact (List.getElem?_eq_some_iff.mp e).1
    obtain ⟨kv, u, e1, e2⟩ := back j jl
    rw [(at_ j kv u e1 e2).2] at e
    cases e
    obtain ⟨b, b1, b2⟩ := v2 j kv _ e1 e2
    exact ⟨by simp [b1], .inl (by simp only [b1, Option.getD_some]; exact b2)⟩⟩
  have arg := PairArg.list (prog := X.prog) (w := X.w) l (ps.map Value.ref).toArray (fun j => (ps[j]?).getD 0) qs
  have isk : ∀ y ∈ xs, (tupleKind (mixKind X.prog X.w)).is s.heap y.1 y.2.1 ∧ H y.2.1 = some (.tup (y.1.map kV)) := fun y hy => by
    obtain ⟨j, jl, e⟩ := List.getElem_of_mem hy
    obtain ⟨kv, u, e1, e2⟩ := back j (by omega)
    have e3 := (at_ j kv u e1 e2).1
    rw [List.getElem?_eq_getElem jl, e] at e3
    cases e3
    have hk := hks kv (List.mem_of_getElem? e1)
    exact ⟨key_of I.hok hk, hk⟩
  refine PySem.call_dict_pairsH (knd := tupleKind (mixKind X.prog X.w)) (ps := xs) arg (I.ok.hd hc) (show X.A.units + 1 + 1 < cLine by omega) ⟨pl, items⟩ ⟨by rw [lx, lq], fun i key v e => ?_⟩ (fun h2 keep y hy => ?_) (by rw [lq, ← lp]; exact hz) fun h2 tk obj keep => ?_
  · have e : qs[i]? = some (key, v) := e
    obtain ⟨kv, u, e1, e2⟩ := back i (by rw [← lq]; exact (List.getElem?_eq_some_iff.mp e).1)
    rw [(at_ i kv u e1 e2).2] at e
    cases e
    exact ⟨_, _, (at_ i kv _ e1 e2).1, rfl⟩
  · obtain ⟨o, its, m, e1, e2, e3, e4⟩ := (isk y hy).1
    exact ⟨o, its, m, keep _ _ (Nat.ne_of_lt (Heap.lt_size e1)) (by simp) e1, e2, e3, e4⟩
  · rw [storedAllH_nil_of_nodup xs (by rw [xk]; exact nd)] at obj
    obtain ⟨o, es, ep, o1, o2, o3, o4, _, o6⟩ := obj
    have sm : (s.heap.objs.size == sysModules) = false := beq_eq_false_iff_ne.mpr (Nat.ne_of_gt I.big)
    have prs : Paired (fun (p : List Key × V) (q : List Key × Addr × Value) => p.1 = q.1 ∧ upd H s.heap.objs.size (.dT (ks.map fun kv => (kv.1, kv.2.2))) q.2.1 = some (.tup (p.1.map kV)) ∧ RelV p.2 q.2.2) (ks.map fun kv => (kv.1, kv.2.2)) xs := by
      have ne : ∀ kv ∈ ks, upd H s.heap.objs.size (.dT (ks.map fun kv => (kv.1, kv.2.2))) kv.2.1 = some (.tup (kv.1.map kV)) := fun kv h => by
        rw [upd_ne (ne_of_none (hks kv h) (I.hok.fresh (Nat.le_refl _)))]
        exact hks kv h
      have go : ∀ (ks2 : List (List Key × Addr × V)) (vs : List Value), Paired (fun (kv : List Key × Addr × V) u => RelV kv.2.2 u) ks2 vs → (∀ kv ∈ ks2, kv ∈ ks) → Paired (fun (p : List Key × V) (q : List Key × Addr × Value) => p.1 = q.1 ∧ upd H s.heap.objs.size (.dT (ks.map fun kv => (kv.1, kv.2.2))) q.2.1 = some (.tup (p.1.map kV)) ∧ RelV p.2 q.2.2) (ks2.map fun kv => (kv.1, kv.2.2)) (ks2.zipWith (fun kv u => (kv.1, kv.2.1, u)) vs) := fun ks2 vs h => by
        induction h with
        | nil => intro _; exact .nil
        | @cons kv u _ _ h _ ih => intro sub; exact .cons ⟨rfl, ne kv (sub kv (.head _)), h⟩ (ih fun z hz => sub z (.tail _ hz))
      exact go ks vs v1 fun _ h => h
    exact ⟨.ref s.heap.objs.size, upd H s.heap.objs.size (.dT (ks.map fun kv => (kv.1, kv.2.2))), I.laid (t' := tk) (fun b o e => keep b o (by simp) e) (Nat.le_refl _) (show ObjOk X.prog X.w _ _ _ (.dT (ks.map fun kv => (kv.1, kv.2.2))) from ⟨by simp only [List.length_map]; omega, sm, xs, prs, o, es, ep, o1, o2, o3, o4, o6⟩), rfl, q _ (I.hok.fresh (Nat.le_refl _))⟩
def pairsT (prs : List (List Key × PyData)) : List PyData := prs.map fun y => .tuple [.tuple (y.1.map kD), y.2]
theorem dq_kv {K F} : ∀ {k : List Key} {vs : List V}, DqAll K F vs (k.map kD) → vs = k.map kV
  | [], _, .nil => rfl
  | x :: k, _, .cons h t => by rw [keyD_v (kD_key x) h, dq_kv t]; rfl
theorem dq_prsT {K F as} : ∀ {prs : List (List Key × PyData)} {vs : List V}, DqAll K F vs (pairsT prs) → ∃ (ts : List Addr) (ks : List (List Key × Addr × V)), vs = ts.map V.ref ∧ Paired (fun t kv => F t = some (.tup [.ref kv.2.1, kv.2.2])) ts ks ∧ (∀ kv ∈ ks, F kv.2.1 = some (.tup (kv.1.map kV))) ∧ ks.map (·.1) = prs.map (·.1) ∧ Paired (fun (p : List Key × Itm) (q : List Key × V) => p.1 = q.1 ∧ ItmR K F as p.2 q.2) (prs.map fun y => (y.1, Itm.fz y.2)) (ks.map fun kv => (kv.1, kv.2.2))
  | [], _, .nil => ⟨[], [], rfl, .nil, by simp, rfl, .nil⟩
  | y :: prs, _, .cons h t => by
    obtain ⟨ts, ks, e1, e2, e3, e4, e5⟩ := dq_prsT (as := as) t
    cases h with
    | @tup A vs _ hA hr =>
      cases hr with
      | @cons v1 _ _ _ h1 hr =>
        cases hr with
        | @cons v2 _ _ _ h2 hr =>
          cases hr
          cases h1 with
          | @tup B ws _ hB hw =>
            rw [dq_kv hw] at hB
            refine ⟨A :: ts, (y.1, B, v2) :: ks, by rw [e1]; rfl, .cons hA e2, fun kv hk => ?_, by simp [e4], .cons ⟨rfl, .fz h2⟩ e5⟩
            rcases List.mem_cons.mp hk with e | hk
            · rw [e]; exact hB
            · exact e3 kv hk
theorem ev_dictPT {prs : List (List Key × PyData)} (hX : Cok X) (bt : Bt X "dict") (ha : EV X Γ γ a r γ1) (hr : Rdb γ1 r (.list (pairsT prs))) (nd : (prs.map (·.1)).Nodup) (hs : starEach [a] X.env = (false, eval a X.env) :: starEach [] X.env := by rfl) :
    EV X Γ γ (.Call (.Name "dict" p) [a] [] pos) (.cl γ1.length) (γ1 ++ [.dit (prs.map fun y => (y.1, Itm.fz y.2))]) :=
  ev_callTy (call_dictT hX.calm hX.hu) bt (by decide +kernel) (av_cons ha av_nil hs) (fun F as H vs R i Q q => by
    obtain ⟨v, rfl, h⟩ := itms1 i
    obtain ⟨l, us, rfl, k1, k2⟩ := hr.list R h
    obtain ⟨ts, ks, rfl, e2, e3, e4, e5⟩ := dq_prsT (as := as) k2
    refine ⟨l, ts, ks, rfl, k1, paired_imp' (fun t kv e => SqT.of (R.fr _ _ e)) e2, fun kv h => R.fr _ _ (e3 kv h), by rw [e4]; exact nd, fun D hD => ?_⟩
    have R2 := R.newCell (cell := .dit (prs.map fun y => (y.1, Itm.fz y.2))) (o := .dT (ks.map fun kv => (kv.1, kv.2.2))) hD ⟨_, upd_same, paired_mono ⟨Same.refl F, [D], rfl⟩ e5⟩
    exact q _ F (as ++ [D]) _ ⟨Same.refl F, [D], rfl⟩ R2 (itm_cl.mpr ⟨D, by rw [← R.len, List.getElem?_append_right (Nat.le_refl _)]; simp, rfl⟩)) (he := hs)
end
/-! ### min of four -/
section
variable {prog : Program} {w : World} {A : Around} {E : Value → Shared → Prop} {s : Shared}
theorem args_min4 (a b c d : Value) : argsOk "min" ⟨[a, b, c, d], []⟩ := by unfold argsOk; kernel_rfl
theorem four_ints {a b c d : Int} {t u x y : Tok} {Q : Value → Shared → Prop} (hh : A.handled = none)
    (h : ∀ z h' tk, (∀ e o, s.heap.get? e = some o → h'.get? e = some o) → Q (.int (min (min (min a b) c) d) z) { s with heap := h', toks := tk }) :
    wpAny (model prog w) A (call (.builtin "min") [.int a t, .int b u, .int c x, .int d y]) Q E s := by
  have name : (toString "min" ++ toString ".loop" : String) = "min.loop" := by decide
  refine call_function_tree F.kind_min F.plain_min F.entry_min (args_min4 _ _ _ _) ?_
  show wpAny _ A.in1 (Builtin.Builtins.bindParams "min" ["key", "default"] 0 ⟨[], []⟩ >>= _) _ _ s
  refine wpAny_bind (wpAny_of_eq (show Builtin.Builtins.bindParams "min" ["key", "default"] 0 ⟨[], []⟩ = pure [none, none] from rfl) ?_)
  show wpAny _ A.in1 (newTuple [.int a t, .int b u, .int c x, .int d y] >>= _) _ _ s
  refine wpAny_bind (wpAny_newObj_type ?_)
  have tup : (s.heap.push { cls := .type "tuple", data := .seq #[.int a t, .int b u, .int c x, .int d y] }).IsTuple s.heap.objs.size (intItems #[(a, t), (b, u), (c, x), (d, y)]) := ⟨_, Heap.get?_push_size _ rfl, rfl, 0, by simp [intItems]⟩
  have sz : (s.heap.push { cls := .type "tuple", data := .seq #[.int a t, .int b u, .int c x, .int d y] }).objs.size = s.heap.objs.size + 1 := Heap.size_push ..
  refine wpAny_bind (wpAny_pyIter_tuple tup ?_)
  have W := Walks.tuple (prog := prog) (w := w) (A := A.in1) hh (s.heap.push { cls := .type "tuple", data := .seq #[.int a t, .int b u, .int c x, .int d y] }).objs.size s.heap.objs.size (by rw [sz]; exact Nat.ne_of_lt (Nat.lt_succ_self _)) (intItems #[(a, t), (b, u), (c, x), (d, y)])
  refine wpAny_bind (wpAny_newObj_type ?_)
  rw [name]
  have many : 0 < (intItems #[(a, t), (b, u), (c, x), (d, y)]).size := by simp [intItems]
  refine wpAny_pure ⟨plainId_quiet F.plain_min_loop _, codeAny_min_loop_first W (fun i j => decide (numAt #[(a, t), (b, u), (c, x), (d, y)] i < numAt #[(a, t), (b, u), (c, x), (d, y)] j)) (CmpOf.ints_lt (numAt #[(a, t), (b, u), (c, x), (d, y)]) fun _ _ => intItems_at) _ (fun m => ?_) many (W.frame _ _ _ (show _ ∧ _ from ⟨⟨_, Heap.get?_push_size _ rfl, rfl, rfl⟩, tup.push _⟩) fun e _ o z => Heap.get?_push_of_some _ z) (Heap.get?_push_size _ rfl) fun v h' tk hP hk => ?_⟩
  · rcases List.mem_cons.mp m with z | m
    · have z : (_ : Nat) = _ := z
      simp only [Heap.size_push] at z
      exact absurd z (Nat.ne_of_gt (Nat.lt_succ_self _))
    · have z : (_ : Nat) = _ := List.mem_singleton.mp m
      simp only [Heap.size_push] at z
      exact absurd z (Nat.ne_of_gt (Nat.lt_succ_of_lt (Nat.lt_succ_self _)))
  · have old : ∀ e o, s.heap.get? e = some o → h'.get? e = some o := fun e o z => by
      have lt := Heap.lt_size z
      refine hk e o (fun m => ?_) (by simp only [Heap.size_push]; exact Nat.ne_of_lt (Nat.lt_succ_of_lt (Nat.lt_succ_of_lt lt))) (Heap.get?_push_of_some _ (Heap.get?_push_of_some _ (Heap.get?_push_of_some _ z)))
      have z : (_ : Nat) = _ := List.mem_singleton.mp m
      simp only [Heap.size_push] at z
      exact absurd z (Nat.ne_of_lt (Nat.lt_succ_of_lt lt))
    have sz2 : (intItems #[(a, t), (b, u), (c, x), (d, y)]).size - 1 = 3 := by simp [intItems]
    rw [sz2] at hP
    obtain ⟨z, hv⟩ : ∃ z, v = .int (min (min (min a b) c) d) z := by
      by_cases h1 : b < a
      · by_cases h2 : c < b
        · by_cases h3 : d < c
          · have e : argBest (fun i j => decide (numAt #[(a, t), (b, u), (c, x), (d, y)] i < numAt #[(a, t), (b, u), (c, x), (d, y)] j)) 3 = 3 := by simp [argBest, numAt, h1, h2, h3]
            rw [e] at hP
            exact ⟨y, by have := hP; simp [intItems] at this; rw [← this]; congr 1; omega⟩
          · have e : argBest (fun i j => decide (numAt #[(a, t), (b, u), (c, x), (d, y)] i < numAt #[(a, t), (b, u), (c, x), (d, y)] j)) 3 = 2 := by simp [argBest, numAt, h1, h2, h3]
            rw [e] at hP
            exact ⟨x, by have := hP; simp [intItems] at this; rw [← this]; congr 1; omega⟩
        · by_cases h3 : d < b
          · have e : argBest (fun i j => decide (numAt #[(a, t), (b, u), (c, x), (d, y)] i < numAt #[(a, t), (b, u), (c, x), (d, y)] j)) 3 = 3 := by simp [argBest, numAt, h1, h2, h3]
            rw [e] at hP
            exact ⟨y, by have := hP; simp [intItems] at this; rw [← this]; congr 1; omega⟩
          · have e : argBest (fun i j => decide (numAt #[(a, t), (b, u), (c, x), (d, y)] i < numAt #[(a, t), (b, u), (c, x), (d, y)] j)) 3 = 1 := by simp [argBest, numAt, h1, h2, h3]
            rw [e] at hP
            exact ⟨u, by have := hP; simp [intItems] at this; rw [← this]; congr 1; omega⟩
      · by_cases h2 : c < a
        · by_cases h3 : d < c
          · have e : argBest (fun i j => decide (numAt #[(a, t), (b, u), (c, x), (d, y)] i < numAt #[(a, t), (b, u), (c, x), (d, y)] j)) 3 = 3 := by simp [argBest, numAt, h1, h2, h3]
            rw [e] at hP
            exact ⟨y, by have := hP; simp [intItems] at this; rw [← this]; congr 1; omega⟩
          · have e : argBest (fun i j => decide (numAt #[(a, t), (b, u), (c, x), (d, y)] i < numAt #[(a, t), (b, u), (c, x), (d, y)] j)) 3 = 2 := by simp [argBest, numAt, h1, h2, h3]
            rw [e] at hP
            exact ⟨x, by have := hP; simp [intItems] at this; rw [← this]; congr 1; omega⟩
        · by_cases h3 : d < a
          · have e : argBest (fun i j => decide (numAt #[(a, t), (b, u), (c, x), (d, y)] i < numAt #[(a, t), (b, u), (c, x), (d, y)] j)) 3 = 3 := by simp [argBest, numAt, h1, h2, h3]
            rw [e] at hP
            exact ⟨y, by have := hP; simp [intItems] at this; rw [← this]; congr 1; omega⟩
          · have e : argBest (fun i j => decide (numAt #[(a, t), (b, u), (c, x), (d, y)] i < numAt #[(a, t), (b, u), (c, x), (d, y)] j)) 3 = 0 := by simp [argBest, numAt, h1, h2, h3]
            rw [e] at hP
            exact ⟨t, by have := hP; simp [intItems] at this; rw [← this]; congr 1; omega⟩
    rw [hv]
    exact h z h' tk old
end
section
variable {X : Cx} {Γ : Slots} {γ γ1 γ2 γ3 γ4 : Cells} {a b c d : Expr} {pos p : Pos} {i j k l : Int} {P : EPost}
theorem call_min4 (hc : X.calm = true) : CallR X (.builtin "min") (fun xs H Q => ∃ i j k l, xs = [.int i, .int j, .int k, .int l] ∧ Q (.int (min (min (min i j) k) l)) H) := by
  rintro pins s σ H xs us Q I r ⟨i, j, k, l, rfl, q⟩
  cases r with
  | cons r1 r =>
    cases r with
    | cons r2 r =>
      obtain ⟨u3, u4, rfl, ⟨t3, rfl⟩, ⟨t4, rfl⟩⟩ := vals2 r
      obtain ⟨t1, rfl⟩ := r1
      obtain ⟨t2, rfl⟩ := r2
      exact four_ints (I.ok.hd hc) fun z h' tk keep => ⟨.int _, H, I.kept keep, ⟨z, rfl⟩, q⟩
theorem ev_min4 (hX : Cok X) (bt : Bt X "min") (ha : AV X Γ γ [a, b, c, d] [.fz (.int i), .fz (.int j), .fz (.int k), .fz (.int l)] γ1) (hs : starEach [a, b, c, d] X.env = (false, eval a X.env) :: starEach [b, c, d] X.env := by rfl) (hpl : (backTo pos (starEach [b, c, d] X.env)).any (·.1) = false := by rfl) :
    EV X Γ γ (.Call (.Name "min" p) [a, b, c, d] [] pos) (.fz (.int (min (min (min i j) k) l))) γ1 :=
  ev_callB (call_min4 hX.calm) bt (by decide +kernel) ha (fun F as H vs R i' Q q => by
    cases i' with
    | cons h1 t =>
      cases t with
      | cons h2 t =>
        obtain ⟨v, u, rfl, h3, h4⟩ := itms2 t
        exact ⟨i, j, k, l, by rw [itm_int.mp h1, itm_int.mp h2, itm_int.mp h3, itm_int.mp h4], q _ F as H (Ext.refl F as) R (itm_int.mpr rfl)⟩) (he := hs) (hpl := hpl)
end
end PL
namespace PL
open PySem PySem.Spec PyProof.Rows L2
theorem Blk.ci {X X' : Cx} {scope : Scope} {x : Str} {n : Int} (b : Blk X scope X') (h1 : ∃ t, X.mg x = some (.int n t)) (h2 : scope.names.lookup x = some .globalImplicit) (d1 : (x == ("__debug__" : Str)) = false) : Ci X' x n := by
  obtain ⟨s, H, C, cl, fp, rfl⟩ := b
  exact ⟨relabel_keep (by decide) h2, h1, d1⟩
end PL

namespace PL
open PySem PySem.Spec PyProof.Rows L2
theorem rangeD {α β : Type} {f : α → β} (d : α) {L : List α} : ((List.range L.length).map fun i => f (L.getD i d)) = L.map f := by
  apply List.ext_getElem
  · simp
  · intro i h1 h2
    simp only [List.length_map, List.length_range] at h1
    simp [List.getD, List.getElem?_eq_getElem h1]
section
variable {X : Cx} {Γ : Slots} {γ γ1 : Cells} {elt it : Expr} {scope : Scope} {pos : Pos}
/-- a list comprehension over a tuple, one name -/
theorem ev_lcTM {y : Str} {py : Pos} {w : Nat} (ds : List PyData) (e : PyData → PyData) (hX : Cok X) (ok : BlkOk X.N X.env.scope scope [(y, w)]) (hn : ∀ X', Blk X scope X' → Cok X' ∧ Nm X' y w .local) (hi : EV X Γ γ it (.fz (.tuple ds)) γ1) (hsz : ds.length ≤ 1000000)
    (hb : ∀ d ∈ ds, ∀ acc X', Blk X scope X' → EV X' (Γ.set w (some (.fz d))) (γ1 ++ [.lst acc]) elt (.fz (e d)) (γ1 ++ [.lst acc]))
    (hs : ∀ x, foldedSetIterable it X.env x = pure x := by intro _; rfl) : EV X Γ γ (.ListComp elt [⟨.Name y py, it, [], 0⟩] scope pos) (.fz (.list (ds.map e))) γ1 := by
  have := ev_lcN (py := py) (pos := pos) (elt := elt) (ifs := []) (w := w) (fun _ => true) (fun i => e (ds.getD i .none)) hX ok hn (itv_tup hi) (fun _ => trivial) (by simpa using hsz) (fun i x acc hx X' hB => ⟨tvs_nil, fun _ => by
    rw [List.getElem?_map] at hx
    cases hd : ds[i]? with
    | none => rw [hd] at hx; cases hx
    | some d =>
      rw [hd] at hx
      cases hx
      have e1 : ds.getD i .none = d := by simp [List.getD, hd]
      rw [e1]
      exact hb d (List.mem_of_getElem? hd) acc X' hB⟩) hs
  rw [picked_all, List.length_map, rangeD] at this
  exact this
/-- a list comprehension over data, any target -/
theorem ev_lcAM {α : Type} {tg : Expr} {own : List (Str × Nat)} {r : Itm} (f : α → PyData) (L : List α) (e : α → PyData) (hX : Cok X) (ok : BlkOk X.N X.env.scope scope own) (hi : EV X Γ γ it r γ1) (hr : Rdb γ1 r (.list (L.map f))) (hsz : L.length ≤ 1000000)
    (hb : ∀ a ∈ L, ∃ Γ2 ws, (∀ j ∈ ws, j ∈ own.map (·.2)) ∧ ∀ acc X', Blk X scope X' →
      GV X' (γ1 ++ [.lst acc]) (wipeS Γ (own.map (·.2))) tg (.fz (f a)) Γ2 ws ∧ EV X' Γ2 (γ1 ++ [.lst acc]) elt (.fz (e a)) (γ1 ++ [.lst acc]))
    (hs : ∀ x, foldedSetIterable it X.env x = pure x := by intro _; rfl) : EV X Γ γ (.ListComp elt [⟨tg, it, [], 0⟩] scope pos) (.fz (.list (L.map e))) γ1 := by
  have := ev_lcA (pos := pos) (tg := tg) (ifs := []) f L (fun _ => true) e hX ok hi hr hsz (fun a ha => by
    obtain ⟨Γ2, ws, h1, h2⟩ := hb a ha
    exact ⟨Γ2, ws, h1, fun acc X' hB => ⟨(h2 acc X' hB).1, tvs_nil, fun _ => (h2 acc X' hB).2⟩⟩) hs
  rw [filter_all] at this
  exact this
end
theorem memB_false {κ : Type} [DecidableEq κ] {L : List κ} {j : κ} (h : ¬ j ∈ L) : memB L j = false := by
  cases e : memB L j with
  | false => rfl
  | true => exact absurd (memB_iff.mp e) h
theorem keysL_mem (ky : Nat → Key) : ∀ n k, k ∈ keysL ky n → ∃ i, i < n ∧ ky i = k
  | 0, k, h => by cases h
  | n + 1, k, h => by
    unfold keysL addL at h
    split at h
    · obtain ⟨i, l, e⟩ := keysL_mem ky n k h
      exact ⟨i, by omega, e⟩
    · rcases List.mem_append.mp h with h | h
      · obtain ⟨i, l, e⟩ := keysL_mem ky n k h
        exact ⟨i, by omega, e⟩
      · exact ⟨n, by omega, (List.mem_singleton.mp h).symm⟩
theorem keysL_all (ky : Nat → Key) : ∀ n, (∀ i j, i < j → j < n → ky i ≠ ky j) → (keysL ky n).length = n
  | 0, _ => rfl
  | n + 1, h => by
    have ih := keysL_all ky n fun i j a b => h i j a (by omega)
    have new : ¬ ky n ∈ keysL ky n := fun m => by
      obtain ⟨i, l, e⟩ := keysL_mem ky n _ m
      exact h i n l (by omega) e
    unfold keysL addL
    rw [memB_false new]
    simp [ih]
/-- all unlike, by their places -/
theorem nodup_get {α : Type} {L : List α} (h : L.Nodup) (d : α) {i j : Nat} (l : i < j) (b : j < L.length) : L.getD i d ≠ L.getD j d := by
  simp only [List.getD, List.getElem?_eq_getElem b, List.getElem?_eq_getElem (show i < L.length by omega), Option.getD_some]
  intro e
  exact absurd ((List.getElem_inj h).mp e) (by omega)
theorem sub_len {α : Type} [DecidableEq α] : ∀ {L M : List α}, L.Nodup → (∀ x ∈ L, x ∈ M) → L.length ≤ M.length
  | [], _, _, _ => Nat.zero_le _
  | x :: L, M, h, s => by
    obtain ⟨h1, h2⟩ := List.nodup_cons.mp h
    have xm := s x (.head _)
    have := sub_len (M := M.erase x) h2 fun y hy => (List.mem_erase_of_ne (fun e => h1 (by rw [← e]; exact hy))).mpr (s y (.tail _ hy))
    rw [List.length_erase_of_mem xm] at this
    have := List.length_pos_of_mem xm
    simp only [List.length_cons]
    omega
end PL

namespace PL
open PySem PySem.Spec PyProof.Rows L2
/-! ### dicts of ints over a fixed list of keys -/
section
variable {α κ : Type} [DecidableEq κ]
/-- the dict that has, for each a of L, f a at the key ke a -/
def tabI (ke : α → κ) (L : List α) (f : α → Int) : List (κ × Itm) := L.map fun a => (ke a, Itm.fz (.int (f a)))
variable {ke : α → κ} {L : List α} {f g : α → Int}
theorem tab_keys : (tabI ke L f).map (·.1) = L.map ke := by simp [tabI, Function.comp_def]
theorem tab_len : (tabI ke L f).length = L.length := by simp [tabI]
theorem tab_is {k : κ} : (valI (tabI ke L f) k).isSome = true ↔ k ∈ L.map ke := by rw [valI_mem, tab_keys]
theorem tab_at (nd : (L.map ke).Nodup) {a : α} (h : a ∈ L) : valI (tabI ke L f) (ke a) = some (.fz (.int (f a))) :=
  valI_of (by rw [tab_keys]; exact nd) (List.mem_map.mpr ⟨a, h, rfl⟩)
theorem tab_put {a : α} {n : Int} (h : a ∈ L) (e : ∀ b ∈ L, ke b = ke a → g b = n) (e2 : ∀ b ∈ L, ke b ≠ ke a → g b = f b) : putI (tabI ke L f) (ke a) (.fz (.int n)) = tabI ke L g := by
  have any : ((tabI ke L f).any fun kv => decide (kv.1 = ke a)) = true := List.any_eq_true.mpr ⟨(ke a, Itm.fz (.int (f a))), List.mem_map.mpr ⟨a, h, rfl⟩, by simp⟩
  unfold putI
  rw [if_pos any]
  unfold tabI
  rw [List.map_map]
  refine List.map_congr_left fun b hb => ?_
  simp only [Function.comp]
  by_cases q : ke b = ke a
  · rw [if_pos q, e b hb q]
  · rw [if_neg q, e2 b hb q]
theorem tab_congr (h : ∀ a ∈ L, f a = g a) : tabI ke L f = tabI ke L g := List.map_congr_left fun a ha => by rw [h a ha]
end
theorem accI_tab {α κ : Type} [DecidableEq κ] (ke : α → κ) (f : α → Int) (d : κ) (r : Itm) (L : List α) (nd : (L.map ke).Nodup) : accI (fun _ => true) (fun i => (L.map ke).getD i d) (fun i => (L.map fun a => Itm.fz (.int (f a))).getD i r) L.length = tabI ke L f := by
  have go : ∀ n, n ≤ L.length → accI (fun _ => true) (fun i => (L.map ke).getD i d) (fun i => (L.map fun a => Itm.fz (.int (f a))).getD i r) n = tabI ke (L.take n) f := fun n => by
    induction n with
    | zero => intro _; rfl
    | succ n ih =>
      intro lt
      have hn : n < L.length := lt
      unfold accI
      rw [if_pos rfl, ih (by omega)]
      have e1 : (L.map ke).getD n d = ke L[n] := by simp [List.getD, List.getElem?_eq_getElem hn]
      have e2 : (L.map fun a => Itm.fz (.int (f a))).getD n r = .fz (.int (f L[n])) := by simp [List.getD, List.getElem?_eq_getElem hn]
      rw [e1, e2, putI_new]
      · unfold tabI
        rw [List.take_add_one, List.getElem?_eq_getElem hn, List.map_append]
        rfl
      · rw [tab_keys]
        intro m
        obtain ⟨a, ha, e⟩ := List.mem_map.mp m
        obtain ⟨j, hj, ej⟩ := List.getElem_of_mem ha
        have hj2 : j < n := by simp only [List.length_take] at hj; omega
        have := nodup_get nd d (i := j) (j := n) hj2 (by simpa using hn)
        apply this
        have ej2 : L[j] = a := by rw [← ej]; simp
        simp [List.getD, List.getElem?_eq_getElem (show j < L.length by omega), List.getElem?_eq_getElem hn, ej2, e]
  have := go L.length (Nat.le_refl _)
  rwa [List.take_length] at this
theorem ditI_tab {α : Type} (ke : α → List Key) (L : List α) (f : α → Int) : Cell.dit (tabI ke L f) = ditI (L.map fun a => (ke a, f a)) := by simp [ditI, tabI, Function.comp_def]
end PL

namespace PL
open PySem PySem.Spec PyProof.Rows L2
/-! ### name = {(a, b): v for ..}: the dict is stored within the block's frame -/
theorem dcT_core {X : Cx} {pins : List (Addr × Obj)} {s : Shared} {σ : L2.St} {H : Hp} {Q : VK} {kx vx tg iter : Expr} {ifs : List Expr} {scope : Scope} {own : List (Str × Nat)} {pos pos2 : Pos} {wi : TI} {g : TG} {tt : TT} {tk tv : TE} {use : Option (Value → Sem Unit)} {Qf : Value → Shared → Prop} (hX : Cok X) (I : Inv X pins σ H s) (hi : PI X tg iter wi) (ok : BlkOk X.N X.env.scope scope own)
    (hg : ∀ s H C cl fp, PG (BlkE X s H scope C cl fp) tg g) (ht : ∀ s H C cl fp, PTs (BlkE X s H scope C cl fp) ifs tt)
    (hk : ∀ s H C cl fp, PE (BlkE X s H scope C cl fp) kx tk) (hv : ∀ s H C cl fp, PE (BlkE X s H scope C cl fp) vx tv)
    (hs : ∀ x, foldedSetIterable iter X.env x = pure x) (h : tDcT wi g tt tk tv (own.map (·.2)) σ H Q)
    (fin : ∀ D C sx m Hx, Inv X pins σ Hx sx → Q (.ref D) Hx → sx.heap.Ns C m → FpOk X pins Hx C → compPost (model X.prog X.w) X.A X.xe use Qf (.ref D) C (.ok .next) sx) :
    wpAny (model X.prog X.w) X.A (comprehension (.DictComp kx vx [⟨tg, iter, ifs, 0⟩] scope pos) scope X.env pos2 newDict false (eval iter X.env) use) Qf X.xe s := by
  have hcalm := hX.calm
  have hNd := hX.nd
  have hun : X.A.units + 1 < cLine := hX.hu1
  have caps : ∀ y ∈ scope.names, y.2 = .free → ∃ c, X.env.cells.lookup y.1 = some c := fun y hy e =>
    (ok.free y hy e).elim (fun z => I.ok.has _ (.inl z)) (fun z => I.ok.has _ (.inr z))
  refine wpAny_comprehension_free rfl hs (closure_ok caps) ok.kind (fun y hy e => by rw [ok.uniq y hy, e]) (thn (hi.run pins s σ H _ I h) fun w sa ha => thn ha fun iv sb hb => ?_)
  obtain ⟨it, fp, tn, J, Ha, rfl, Ia, T, sta, fpa, q⟩ := hb
  refine wpAny_newObj_type (newEnv_comp ?_)
  generalize eD : sb.heap.objs.size = D
  have noD : Ha D = none := Ia.hok.fresh (Nat.le_of_eq eD)
  obtain ⟨W, ⟨m0, w0⟩, each⟩ := q D noD
  generalize es3 : ({ sb with heap := sb.heap.push { cls := .type "dict", data := .dict #[] } } : Shared) = sc
  have hc0 : sc.heap = sb.heap.push { cls := .type "dict", data := .dict #[] } := by rw [← es3]
  have Ic : Inv X pins σ (upd Ha D (.dT [])) sc := by
    subst es3 eD
    exact Ia.laid (t' := sb.toks) (fun c o e => Heap.get?_push_of_some _ e) (Nat.le_refl _) (dt_empty sb.heap Ia.big)
  have fpc : ∀ c ∈ fp, FpOk X pins (upd Ha D (.dT [])) c ∧ c < sc.heap.objs.size := fun c hc => by
    obtain ⟨o, eo, _⟩ := T.obj _ _ sta c hc
    have lt := Heap.lt_size eo
    have neD : c ≠ D := by rw [← eD]; exact Nat.ne_of_lt lt
    exact ⟨⟨by rw [upd_ne neD]; exact (fpa c hc).1, (fpa c hc).2⟩, by rw [hc0, Heap.size_push]; exact Nat.lt_succ_of_lt lt⟩
  have stc : tn 0 sc.heap := T.keep _ _ _ sta fun c _ o e => by rw [hc0]; exact Heap.get?_push_of_some _ e
  have Id := block_start Ic ok hNd fpc
  have pg := hg sc (upd Ha D (.dT [])) sc.heap.objs.size (cellsFrom (sc.heap.objs.size + 1) scope.names (cloFrom X.env.cells scope.names [])) fp
  have pt := ht sc (upd Ha D (.dT [])) sc.heap.objs.size (cellsFrom (sc.heap.objs.size + 1) scope.names (cloFrom X.env.cells scope.names [])) fp
  have pk := hk sc (upd Ha D (.dT [])) sc.heap.objs.size (cellsFrom (sc.heap.objs.size + 1) scope.names (cloFrom X.env.cells scope.names [])) fp
  have pv := hv sc (upd Ha D (.dT [])) sc.heap.objs.size (cellsFrom (sc.heap.objs.size + 1) scope.names (cloFrom X.env.cells scope.names [])) fp
  unfold BlkE at pg pt pk pv
  have nofp : ∀ c ∈ fp, (upd Ha D (.dT [])) c = none := fun c hc => (fpc c hc).1.1
  show codeAny _ _ (.compStart (.DictComp kx vx [⟨tg, iter, ifs, 0⟩] scope pos) 0 (.ref it) (.ref D) (compEnvC scope (cellsFrom (sc.heap.objs.size + 1) scope.names (cloFrom X.env.cells scope.names [])) sc.heap.objs.size X.env)) _ _
  generalize eEnv : compEnvC scope (cellsFrom (sc.heap.objs.size + 1) scope.names (cloFrom X.env.cells scope.names [])) sc.heap.objs.size X.env = env at Id pg pt pk pv ⊢
  have locE : env.locals = sc.heap.objs.size := by subst eEnv; rfl
  generalize eHc : upd Ha D (.dT []) = Hc at Ic Id pg pt pk pv w0 nofp fpc
  generalize eSd : ({ heap := pushCells (sc.heap.push { cls := .type "dict", data := .dict #[] }) scope.names, gens := sc.gens, drawn := sc.drawn, toks := sc.toks, os := sc.os } : Shared) = sd at Id ⊢
  have std : tn 0 sd.heap := T.keep _ _ _ stc fun c _ o e => by subst eSd; exact pushCells_keeps _ _ _ _ (Heap.get?_push_of_some _ e)
  have okfp : ∀ {τ : L2.St} {Hx : Hp} {sx : Shared}, Inv (X.blk sc Hc scope env fp) [] τ Hx sx → (∀ c ∈ fp, Hx c = none) → ∀ c ∈ fp, FpOk (X.blk sc Hc scope env fp) [] Hx c := fun Ix no c hc =>
    have z := Ix.ok.exf c hc
    ⟨no c hc, z.1, Ix.ok.exfs c hc, .inl hc, fun x a e => z.2 x a e, fun y hy => by simp at hy⟩
  have loop : codeAny (model X.prog X.w) X.A (.compLoop (.DictComp kx vx [⟨tg, iter, ifs, 0⟩] scope pos) 0 (.ref it) (.ref D) env) (compPost (model X.prog X.w) X.A X.xe use Qf (.ref D) sc.heap.objs.size) sd := by
    refine compLoop_anyD (fun n sx => ∃ i Hx, Inv (X.blk sc Hc scope env fp) [] (wipe σ (own.map (·.2))) Hx sx ∧ tn i sx.heap ∧ (∀ c ∈ fp, Hx c = none) ∧ W i n Hx) (fun n sx hx => ?_) m0 ⟨0, Hc, Id, std, nofp, w0⟩
    obtain ⟨i, Hx, Ix, stx, nox, wx⟩ := hx
    rcases each i n Hx wx with ⟨stop, done⟩ | ⟨go, Nx, back, turn⟩
    · refine thnF (T.done (X.blk sc Hc scope env fp) rfl rfl rfl hcalm i [] sx _ Hx (fun _ _ => False) Ix (okfp Ix nox) stx stop) fun r sy hy => ?_
      obtain ⟨rfl, Iy⟩ := hy
      -- back in the def
      have Iz : Inv X pins σ Hx sy := Ic.call' (ch := fp) Iy.os Iy.base Iy.hok Iy.bare fun c hc =>
        have z := (fpc c hc).1.2
        ⟨z.2.2.1, z.1, z.2.2.2.1, z.2.2.2.2⟩
      have free : Hx env.locals = none := Iy.free
      obtain ⟨m, hm, _⟩ := Iy.loc
      have hm : sy.heap.Ns env.locals m := hm
      rw [locE] at free hm
      exact fin D sc.heap.objs.size sy m Hx Iz done hm (Ic.fpOk (Nat.le_refl _) free)
    · refine thnF (T.item (X.blk sc Hc scope env fp) rfl rfl rfl hcalm i [] sx _ Hx (fun _ _ => False) Ix (okfp Ix nox) stx go) fun r sy hy => ?_
      obtain ⟨u, rfl, hy⟩ := hy
      refine thnF hy fun _ sz hz => ?_
      obtain ⟨x, Hz, Iz, rz, yz, stz, noz⟩ := hz
      have Iz' := Iz.pinned (okfp Iz noz) (T.obj _ _ stz)
      refine thnF (pg.run _ sz _ Hz x u _ Iz' rz (turn x Hz yz)) fun _ s1 h1 => ?_
      obtain ⟨τ, H1, I1, e1, q1⟩ := h1
      refine thnF (pt.run _ s1 τ H1 _ I1 q1) fun b s2 h2 => ?_
      obtain ⟨H2, I2, q2⟩ := h2
      have over : ∀ {sw : Shared} {Hw : Hp}, Inv (X.blk sc Hc scope env fp) ([] ++ pinsAt fp sz.heap) τ Hw sw → Nx Hw →
          ∃ m, m < n ∧ ∃ i Hx, Inv (X.blk sc Hc scope env fp) [] (wipe σ (own.map (·.2))) Hx sw ∧ tn i sw.heap ∧ (∀ c ∈ fp, Hx c = none) ∧ W i m Hx := fun {sw Hw} Iw nw => by
        obtain ⟨m', lt, ww⟩ := back Hw nw
        have held : ∀ c ∈ fp, ∀ o, sz.heap.get? c = some o → sw.heap.get? c = some o ∧ Hw c = none := fun c hc o e => by
          have z := Iw.pin (c, o) (List.mem_append_right _ (List.mem_append_right _ (mem_pinsAt hc e)))
          exact ⟨z.1, z.2.1⟩
        have same : (wipe σ (own.map (·.2))).length = τ.length := by rw [← e1, wipe_length]
        refine ⟨m', lt, i + 1, Hw, (Iw.unpinned (pins := [])).weak same fun j v e => ?_, T.keep _ _ _ stz fun c hc o e => (held c hc o e).1, fun c hc => ?_, ww⟩
        · rw [← e1] at e; exact (wipe_some e).1
        · obtain ⟨o, e, _⟩ := T.obj _ _ stz c hc
          exact (held c hc o e).2
      cases b with
      | false =>
        simp only [Bool.false_eq_true, if_false] at q2 ⊢
        exact over I2 q2
      | true =>
        simp only [if_true] at q2 ⊢
        refine thnF (pk.run _ s2 τ H2 _ I2 q2) fun w1 s3 h3 => ?_
        obtain ⟨y, H3, I3, r3, q3⟩ := h3
        refine thnF (pv.run _ s3 τ H3 _ I3 q3) fun w2 s4 h4 => ?_
        obtain ⟨z, H4, I4, r4, kvs, k, t, rfl, h5, h6, h7, nw⟩ := h4
        cases r3
        exact put_tup (X := X.blk sc Hc scope env fp) hun I4 h6 h7 h5 r4 fun s5 I5 => over I5 nw
  exact codeAny_compStart_dict loop (T.self X.A 0 _ _ _ std loop)
theorem ps_setDcT {X : Cx} {i : Nat} {y : Str} {py : Pos} {kx vx tg iter : Expr} {ifs : List Expr} {scope : Scope} {own : List (Str × Nat)} {pos spos : Pos} {wi : TI} {g : TG} {tt : TT} {tk tv : TE} (hX : Cok X) (hy : X.N[i]? = some y) (hyl : X.env.scope.names.lookup y = some .local)
    (hsw : swapsWith (.DictComp kx vx [⟨tg, iter, ifs, 0⟩] scope pos) (some (.Name y py)) spos.line X.env = pure true) (hi : PI X tg iter wi) (ok : BlkOk X.N X.env.scope scope own)
    (hg : ∀ s H C cl fp, PG (BlkE X s H scope C cl fp) tg g) (ht : ∀ s H C cl fp, PTs (BlkE X s H scope C cl fp) ifs tt)
    (hk : ∀ s H C cl fp, PE (BlkE X s H scope C cl fp) kx tk) (hv : ∀ s H C cl fp, PE (BlkE X s H scope C cl fp) vx tv)
    (hs : ∀ x, foldedSetIterable iter X.env x = pure x := by intro _; rfl) :
    PS X (.Assign [.Name y py] (.DictComp kx vx [⟨tg, iter, ifs, 0⟩] scope pos) spos) (tAsg (tDcT wi g tt tk tv (own.map (·.2))) (gName i)) := by
  refine ⟨fun pins s σ H D I h => ?_⟩
  rw [exec_Assign_Name_used _ _ _ _ hsw]
  refine wpAny_bind (wpAny_standAt (wpAny_bind ?_))
  show wpAny _ X.A (do let _ ← comprehension (.DictComp kx vx [⟨tg, iter, ifs, 0⟩] scope pos) scope X.env (firstIterPos [⟨tg, iter, ifs, 0⟩] pos) newDict false (eval iter X.env) (some (assign (.Name y py) X.env))) _ _ s
  have h : tDcT wi g tt tk tv (own.map (·.2)) σ H (fun x H1 => gName i x σ H1 D.nx) := h
  refine wpAny_bind (thn (dcT_core (Qf := fun _ s' => SP X pins D .next s') hX I hi ok hg ht hk hv hs h fun L C sx m Hx Ix q ns f => ?_) fun _ sx hq => wpAny_pure (wpAny_pure hq))
  show wpAny _ _ (assign (.Name y py) X.env (.ref L)) _ _ _
  refine wpAny_assign_Name (store_ok2 (v := V.ref L) Ix hX.nd hy (.inl hyl) rfl (fun s2 I2 ⟨a, sb, ha⟩ => ?_) (.inr hyl))
  obtain ⟨k0, k1, k2, k3, k4, k5⟩ := f
  have ne : C ≠ a := by
    rcases ha with z | z
    · rw [z]; exact k1
    · exact fun e => k4 y a z e.symm
  exact ⟨m, ns.sameBut sb ne, fun h3 sb3 => ⟨_, Hx, I2.turned (t' := s2.toks) (fun b o hb e => (sb3.2 b hb).trans e) k0 k1 k3 k4 k5, q⟩⟩
section
variable {kx vx : Expr} {scope : Scope} {pos : Pos}
theorem swd_true {gs : List Comprehension} {py : Pos} {y : Str} {l : Nat} {env : Env} (hk : env.scope.kind = .function) (hy : env.scope.names.lookup y = some .local) (hl : (py.line == pos.line) = true)
    (ha : (scope.names.any fun (n, k) => n == y && (k == .local || k == .cell)) = false) : swapsWith (.DictComp kx vx gs scope pos) (some (.Name y py)) l env = pure true := by
  have e1 : env.kindOf y = some .local := hy
  have e2 : env.blockKind = .function := by unfold Env.blockKind; rw [hk]; rfl
  unfold swapsWith
  simp only [e2, e1, ha, Expr.pos, hl]
  rfl
theorem swd_cell {gs : List Comprehension} {py : Pos} {y : Str} {l : Nat} {env : Env} (hy : env.scope.names.lookup y = some .cell) : swapsWith (.DictComp kx vx gs scope pos) (some (.Name y py)) l env = pure false := by
  have e1 : env.kindOf y = some .cell := hy
  unfold swapsWith
  have e : (some NameKind.cell == some NameKind.local) = false := rfl
  simp only [e1, e, Bool.and_false, Bool.false_and]
end
section
variable {X : Cx} {Γ : Slots} {γ γ1 : Cells} {tg it kx vx : Expr} {ifs : List Expr} {xs : List Itm} {stab : Cells → Prop} {scope : Scope} {own : List (Str × Nat)} {pos spos : Pos} {R : SE} {rest : List Stmt}
theorem svs_setDcT {i : Nat} {y : Str} {py : Pos} (k : Nat → Bool) (ky : Nat → List Key) (f : Nat → Itm) (hX : Cok X) (n : Nm X y i .local) (hl : (py.line == pos.line) = true) (hany : (scope.names.any fun (n, k) => n == y && (k == .local || k == .cell)) = false) (ok : BlkOk X.N X.env.scope scope own) (hi : ITV X Γ γ tg it xs stab γ1) (hst : ∀ o, stab (γ1 ++ [o])) (hsz : xs.length ≤ 1000000)
    (hb : ∀ i x, xs[i]? = some x → ∃ Γ2 ws, (∀ j ∈ ws, j ∈ own.map (·.2)) ∧ ∀ X', Blk X scope X' → ∀ G, G = γ1 ++ [.dit (accI k ky f i)] →
      GV X' G (wipeS Γ (own.map (·.2))) tg x Γ2 ws ∧ TVs X' Γ2 G ifs (k i) G ∧ (k i = true → ∃ d, keyT d = some (ky i) ∧ EV X' Γ2 G kx (.fz d) G ∧ EV X' Γ2 G vx (f i) G))
    (h : SVs X (Γ.set i (some (.cl γ1.length))) (γ1 ++ [.dit (accI k ky f xs.length)]) rest R)
    (hs : ∀ x, foldedSetIterable it X.env x = pure x := by intro _; rfl) :
    SVs X Γ γ (.Assign [.Name y py] (.DictComp kx vx [⟨tg, it, ifs, 0⟩] scope pos) spos :: rest) R := svs_cons fun F as σ H Dr Rp E C => by
  refine ⟨_, ps_setDcT (i := i) (py := py) hX n.ix n.r.kd (swd_true hX.kind n.r.kd hl hany) pi_wp ok (wbG_ok X scope tg) (wbT_ok X scope ifs) (wbE_ok X scope kx) (wbE_ok X scope vx) hs, hi F as σ H Rp E _ fun J F1 as1 H1 x1 R1 hJ D hD => ?_⟩
  have l1 : as1.length = γ1.length := R1.len
  have R1' := R1.newCell (cell := .dit []) (o := .dT []) hD ⟨[], upd_same, .nil⟩
  have at1 : (as1 ++ [D])[γ1.length]? = some D := by rw [← l1, List.getElem?_append_right (Nat.le_refl _)]; simp
  have x1' : Ext F1 as1 F1 (as1 ++ [D]) := ⟨Same.refl F1, [D], rfl⟩
  refine ⟨fun i m H' => m = xs.length - i ∧ i ≤ xs.length ∧ ∃ F' as', Ext F1 (as1 ++ [D]) F' as' ∧ Rep X.K F' as' (γ1 ++ [.dit (accI k ky f i)]) H', ⟨xs.length, by simp, Nat.zero_le _, F1, as1 ++ [D], Ext.refl _ _, R1'⟩, ?_⟩
  rintro i m H' ⟨rfl, hle, F', as', x', R'⟩
  obtain ⟨j1, j2⟩ := hJ i F' as' _ H' (x1'.trans x') R' (hst _)
  by_cases hlt : i < xs.length
  · obtain ⟨g1, g2⟩ := j2 xs[i] (List.getElem?_eq_getElem hlt)
    refine .inr ⟨g1, fun H'' => ∃ F' as', Ext F1 (as1 ++ [D]) F' as' ∧ Rep X.K F' as' (γ1 ++ [.dit (accI k ky f (i + 1))]) H'', fun H'' n => ⟨xs.length - (i + 1), by omega, rfl, hlt, n⟩, fun v H'' y => ?_⟩
    obtain ⟨F'', x'', R'', i''⟩ := g2 v H'' y
    obtain ⟨Γ2, ws, hws, hall⟩ := hb i xs[i] (List.getElem?_eq_getElem hlt)
    intro X' hB
    have hK := blkK hB
    refine (hall X' hB _ rfl).1 F'' as' (wipe σ _) H'' v (hK ▸ R'') (hK ▸ env_wipe (E.mono (((x1.trans x1').trans x').trans x'')) _) (hK ▸ i'') _ fun σ2 E2 b2 => ⟨wipe_but b2 hws, ?_⟩
    rw [hK] at E2
    intro X2 hB2
    have hK2 := blkK hB2
    refine (hall X2 hB2 _ rfl).2.1 F'' as' σ2 H'' (hK2 ▸ R'') (hK2 ▸ E2) _ fun F3 as3 H3 x3 R3 => ?_
    rw [hK2] at R3
    have xx := (x'.trans x'').trans x3
    cases hk : k i with
    | false => exact iteF ⟨F3, as3, xx, by unfold accI; rw [hk]; exact R3⟩
    | true =>
      refine iteT fun X3 hB3 => ?_
      have hK3 := blkK hB3
      obtain ⟨d, hd, e1, _⟩ := (hall X3 hB3 _ rfl).2.2 hk
      refine e1.go (hK3 ▸ R3) (hK3 ▸ E2.mono x3) fun w F4 as4 H4 x4 R4 i4 => ?_
      rw [hK3] at R4 i4
      intro X4 hB4
      have hK4 := blkK hB4
      obtain ⟨_, _, _, e2⟩ := (hall X4 hB4 _ rfl).2.2 hk
      refine e2.go (hK4 ▸ R4) (hK4 ▸ E2.mono (x3.trans x4)) fun z F5 as5 H5 x5 R5 i5 => ?_
      rw [hK4] at R5 i5
      obtain ⟨t, rfl, ht⟩ := keyT_v hd (itm_mono x5 i4)
      have hDx : as5[γ1.length]? = some D := ((xx.trans x4).trans x5).get at1
      have hc : (γ1 ++ [Cell.dit (accI k ky f i)])[γ1.length]? = some (.dit (accI k ky f i)) := by rw [List.getElem?_append_right (Nat.le_refl _)]; simp
      obtain ⟨D', k1, ks, k2, k3⟩ := R5.cellAt hc
      rw [hDx] at k1
      cases k1
      have few := accI_len k ky f i
      refine ⟨ks, ky i, t, rfl, R5.fr _ _ ht, k2, by rw [← pr_length k3, sizeLine_eq]; omega, F5, as5, (xx.trans x4).trans x5, ?_⟩
      have R6 := R5.write (cell := .dit (putI (accI k ky f i) (ky i) (f i))) hc (by simp) hDx ⟨_, upd_same, pr_put k3 i5⟩
      have es : (γ1 ++ [Cell.dit (accI k ky f i)]).set γ1.length (.dit (putI (accI k ky f i) (ky i) (f i))) = γ1 ++ [.dit (accI k ky f (i + 1))] := by
        rw [List.set_append_right _ _ (Nat.le_refl _), Nat.sub_self]
        show γ1 ++ [Cell.dit (putI (accI k ky f i) (ky i) (f i))] = _
        rw [show accI k ky f (i + 1) = putI (accI k ky f i) (ky i) (f i) by show (if k i = true then _ else _) = _; rw [if_pos hk]]
      rw [es] at R6
      exact R6
  · have e : i = xs.length := by omega
    subst e
    exact .inl ⟨j1 (Nat.le_refl _), C.nx _ _ _ _ _ _ h ((x1.trans x1').trans x') R' ((E.mono ((x1.trans x1').trans x')).set (itm_cl.mpr ⟨D, x'.get at1, rfl⟩))⟩
end
end PL

namespace PL
open PySem PySem.Spec PyProof.Rows L2
section
variable {X : Cx} {Γ : Slots} {γ γ1 : Cells} {elt it o : Expr} {ifs : List Expr} {scope : Scope} {pos apos cpos : Pos} {c : Nat} {L : IntD}
theorem set_back {γ : Cells} {c : Nat} {a b : Cell} (h : γ[c]? = some b) : (γ.set c a).set c b = γ := by
  rw [List.set_set]
  obtain ⟨l, e⟩ := List.getElem?_eq_some_iff.mp h
  rw [← e]
  exact List.set_getElem_self l
theorem set_get {γ : Cells} {c : Nat} {a b : Cell} (h : γ[c]? = some b) : (γ.set c a)[c]? = some a := by
  rw [List.getElem?_set_self (List.getElem?_eq_some_iff.mp h).1]
/-- a list comprehension over the values of a dict by tuples -/
theorem ev_lcVals {y : Str} {py : Pos} {w : Nat} (e : Int → PyData) (hc : γ[c]? = some (ditI L)) (hX : Cok X) (ok : BlkOk X.N X.env.scope scope [(y, w)]) (hn : ∀ X', Blk X scope X' → Cok X' ∧ Nm X' y w .local) (ho : ∀ g, EV X Γ g o (.cl c) g) (hsz : L.length ≤ 1000000)
    (hb : ∀ x ∈ L, ∀ g X', Blk X scope X' → EV X' (Γ.set w (some (.fz (.int x.2)))) g elt (.fz (e x.2)) g)
    (hbase : attributeBase o "values" X.env (eval o X.env) = eval o X.env := by rfl) (hline : (apos.endLine == cpos.line) = true := by rfl)
    (hs : ∀ x, foldedSetIterable (.Call (.Attribute o "values" apos) [] [] cpos) X.env x = pure x := by intro _; rfl) : EV X Γ γ (.ListComp elt [⟨.Name y py, .Call (.Attribute o "values" apos) [] [] cpos, [], 0⟩] scope pos) (.fz (.list (L.map fun x => e x.2))) γ :=
  ev_lock hc fun od => ⟨γ.set c (frzI od L), by
    have := ev_lcN (py := py) (pos := pos) (elt := elt) (ifs := []) (w := w) (fun _ => true) (fun i => e ((L.map (·.2)).getD i 0)) hX ok hn (itv_valsZ (od := od) (apos := apos) (cpos := cpos) (ho _) (set_get hc) hbase hline) (fun acc => by
      show (γ.set c (frzI od L) ++ [_])[c]? = _
      rw [List.getElem?_append_left (by simpa using (List.getElem?_eq_some_iff.mp hc).1)]
      exact set_get hc) (by simpa using hsz) (fun i x acc hx X' hB => ⟨tvs_nil, fun _ => by
      rw [List.getElem?_map] at hx
      cases hd : L[i]? with
      | none => rw [hd] at hx; cases hx
      | some d =>
        rw [hd] at hx
        cases hx
        have e1 : (L.map (·.2)).getD i 0 = d.2 := by simp [List.getD, hd]
        rw [e1]
        exact hb d (List.mem_of_getElem? hd) _ X' hB⟩) hs
    rw [picked_all] at this
    have len : (L.map fun x => Itm.fz (.int x.2)).length = (L.map (·.2)).length := by simp
    rw [len, rangeD (f := fun n => e n) 0, List.map_map] at this
    exact this, set_get hc, set_back hc⟩
end
end PL

namespace PL
open PySem PySem.Spec PyProof.Rows L2
section
variable {K : PySem.W.Frag} {F : Hp} {as : List Addr}
theorem itms_at : ∀ {xs : List Itm} {vs : List V}, ItmsR K F as xs vs → ∀ {i : Nat} {x : Itm}, xs[i]? = some x → ∃ v, vs[i]? = some v ∧ ItmR K F as x v
  | _, _, .nil, i, x, h => by simp at h
  | _, _, .cons h1 t, 0, x, h => by cases h; exact ⟨_, rfl, h1⟩
  | _, _, .cons h1 t, i + 1, x, h => by obtain ⟨v, e, r⟩ := itms_at t (by simpa using h); exact ⟨v, by simpa using e, r⟩
theorem itms_len : ∀ {xs : List Itm} {vs : List V}, ItmsR K F as xs vs → vs.length = xs.length
  | _, _, .nil => rfl
  | _, _, .cons _ t => by simp [itms_len t]
theorem itms_snoc : ∀ {xs : List Itm} {vs : List V} {x : Itm} {v : V}, ItmsR K F as xs vs → ItmR K F as x v → ItmsR K F as (xs ++ [x]) (vs ++ [v])
  | _, _, _, _, .nil, h => .cons h .nil
  | _, _, _, _, .cons h1 t, h => .cons h1 (itms_snoc t h)
end
section
variable {X : Cx} {Γ : Slots} {γ γ1 : Cells} {tg it elt : Expr} {xs : List Itm} {stab : Cells → Prop} {scope : Scope} {own : List (Str × Nat)} {pos spos : Pos} {R : SE} {rest : List Stmt}
/-- over a list in a cell, whatever stands in it -/
theorem itv_cell {c : Nat} (h : EV X Γ γ it (.cl c) γ1) (hc : γ1[c]? = some (.lst xs)) : ITV X Γ γ tg it xs (fun g => g[c]? = some (.lst xs)) γ1 := fun F as σ H R E Q q => by
  refine ⟨_, pi_list pe_wp, h.go R E fun v F1 as1 H1 x1 R1 i1 => ?_⟩
  obtain ⟨a, ha, rfl⟩ := itm_cl.mp i1
  obtain ⟨a', h1, vs, h2, h3⟩ := R1.cellAt hc
  rw [ha] at h1
  cases h1
  refine ⟨a, rfl, ⟨vs, SqL.of h2⟩, q _ F1 as1 H1 x1 R1 fun i F' as' γ' H' x' R' st => ?_⟩
  obtain ⟨a2, h4, ws, h5, h6⟩ := R'.cellAt st
  rw [x'.get ha] at h4
  cases h4
  refine ⟨fun hl => ⟨ws, SqL.of h5, by rw [itms_len h6]; exact hl⟩, fun x hx => ?_⟩
  obtain ⟨u, hu, hr⟩ := itms_at h6 hx
  refine ⟨⟨ws, u, SqL.of h5, hu⟩, fun v H'' y => ?_⟩
  obtain ⟨rfl, y⟩ := y
  cases hu.symm.trans (y ws (SqL.of h5))
  exact ⟨F', Ext.refl _ _, R', hr⟩
/-- name = [..], the name a local; what the elements make stands behind the list -/
theorem svs_setLcX {i : Nat} {y : Str} {py : Pos} (Pv : Nat → List Itm → Cells → Prop) (hX : Cok X) (n : Nm X y i .local) (hl : (py.line == pos.line) = true) (hany : (scope.names.any fun (n, k) => n == y && (k == .local || k == .cell)) = false) (ok : BlkOk X.N X.env.scope scope own) (hi : ITV X Γ γ tg it xs stab γ1)
    (h0 : Pv 0 [] (γ1 ++ [.lst []])) (hst : ∀ i acc G, i ≤ xs.length → Pv i acc G → stab G) (hcell : ∀ i acc G, Pv i acc G → G[γ1.length]? = some (.lst acc) ∧ acc.length ≤ i) (hsz : xs.length ≤ 1000000)
    (hb : ∀ i x acc G, xs[i]? = some x → Pv i acc G → ∃ Γ2 ws, (∀ j ∈ ws, j ∈ own.map (·.2)) ∧ ∀ X', Blk X scope X' →
      GV X' G (wipeS Γ (own.map (·.2))) tg x Γ2 ws ∧ EE X' Γ2 G elt fun r g => g[γ1.length]? = some (.lst acc) ∧ Pv (i + 1) (acc ++ [r]) (g.set γ1.length (.lst (acc ++ [r]))))
    (h : ∀ acc G, Pv xs.length acc G → SVs X (Γ.set i (some (.cl γ1.length))) G rest R)
    (hs : ∀ x, foldedSetIterable it X.env x = pure x := by intro _; rfl) :
    SVs X Γ γ (.Assign [.Name y py] (.ListComp elt [⟨tg, it, [], 0⟩] scope pos) spos :: rest) R := svs_cons fun F as σ H Dr Rp E C => by
  refine ⟨_, ps_setLc (i := i) (own := own) (wi := wpI X tg it) (g := wbG X scope tg) (tt := wbT X scope []) (te := wbE X scope elt) hX.calm hX.nd n.ix n.r.kd (sw_true hX.kind n.r.kd hl hany) pi_wp ok (wbG_ok X scope tg) (wbT_ok X scope []) (wbE_ok X scope elt) hs, hi F as σ H Rp E _ fun J F1 as1 H1 x1 R1 hJ D hD => ?_⟩
  have l1 : as1.length = γ1.length := R1.len
  have R1' := R1.newCell (cell := .lst []) (o := .lst []) hD ⟨[], upd_same, .nil⟩
  have at1 : (as1 ++ [D])[γ1.length]? = some D := by rw [← l1, List.getElem?_append_right (Nat.le_refl _)]; simp
  have x1' : Ext F1 as1 F1 (as1 ++ [D]) := ⟨Same.refl F1, [D], rfl⟩
  refine ⟨fun k m H' => (m = xs.length - k ∧ k ≤ xs.length) ∧ ∃ F' as' acc G, Ext F1 (as1 ++ [D]) F' as' ∧ Rep X.K F' as' G H' ∧ Pv k acc G, ⟨xs.length, ⟨by simp, Nat.zero_le _⟩, F1, as1 ++ [D], [], _, Ext.refl _ _, R1', h0⟩, ?_⟩
  rintro k m H' ⟨⟨rfl, hle⟩, F', as', acc, G, x', R', hp⟩
  obtain ⟨j1, j2⟩ := hJ k F' as' _ H' (x1'.trans x') R' (hst k acc G hle hp)
  by_cases hlt : k < xs.length
  · obtain ⟨g1, g2⟩ := j2 xs[k] (List.getElem?_eq_getElem hlt)
    refine .inr ⟨g1, fun H'' => ∃ F' as' acc G, Ext F1 (as1 ++ [D]) F' as' ∧ Rep X.K F' as' G H'' ∧ Pv (k + 1) acc G, fun H'' n => ⟨xs.length - (k + 1), by omega, ⟨rfl, hlt⟩, n⟩, fun v H'' y => ?_⟩
    obtain ⟨F'', x'', R'', i''⟩ := g2 v H'' y
    obtain ⟨Γ2, ws, hws, hall⟩ := hb k xs[k] acc G (List.getElem?_eq_getElem hlt) hp
    intro X' hB
    have hK := blkK hB
    refine (hall X' hB).1 F'' as' (wipe σ _) H'' v (hK ▸ R'') (hK ▸ env_wipe (E.mono (((x1.trans x1').trans x').trans x'')) _) (hK ▸ i'') _ fun σ2 E2 b2 => ⟨wipe_but b2 hws, ?_⟩
    rw [hK] at E2
    intro X2 hB2
    have hK2 := blkK hB2
    refine tvs_nil (X := X2) (Γ := Γ2) F'' as' σ2 H'' (hK2 ▸ R'') (hK2 ▸ E2) _ fun F3 as3 H3 x3 R3 => ?_
    rw [hK2] at R3
    have xx := (x'.trans x'').trans x3
    refine iteT fun X3 hB3 => ?_
    have hK3 := blkK hB3
    refine (hall X3 hB3).2 F3 as3 σ2 H3 (hK3 ▸ R3) (hK3 ▸ E2.mono x3) _ fun w r g F4 as4 H4 hp4 x4 R4 i4 => ?_
    rw [hK3] at R4 i4
    obtain ⟨hc, hn⟩ := hp4
    obtain ⟨D', k1, vs, k2, k3⟩ := R4.cellAt hc
    rw [(xx.trans x4).get at1] at k1
    cases k1
    have few := (hcell k acc G hp).2
    refine ⟨vs, k2, by rw [itms_len k3, sizeLine_eq]; omega, F4, as4, acc ++ [r], _, xx.trans x4, ?_, hn⟩
    exact R4.write hc (by simp) ((xx.trans x4).get at1) ⟨_, upd_same, itms_snoc k3 i4⟩
  · have e : k = xs.length := by omega
    subst e
    exact .inl ⟨j1 (Nat.le_refl _), C.nx _ _ _ _ _ _ (h acc G hp) ((x1.trans x1').trans x') R' ((E.mono ((x1.trans x1').trans x')).set (itm_cl.mpr ⟨D, x'.get at1, rfl⟩))⟩
end
/-- a dict of pairs, no key twice: as it was told -/
theorem merge_tab {α : Type} (ke : α → Key) (f : α → Int) (L : List α) (nd : (L.map ke).Nodup) : mergeI [] (L.map fun a => (ke a, Itm.fz (.int (f a)))) = tabI ke L f := by
  have go : ∀ (L acc : List (Key × Itm)), ((acc ++ L).map (·.1)).Nodup → mergeI acc L = acc ++ L := fun L => by
    induction L with
    | nil => intro acc _; simp [mergeI]
    | cons x L ih =>
      intro acc h
      have new : x.1 ∉ acc.map (·.1) := by
        rw [List.map_append, List.nodup_append] at h
        exact fun m => h.2.2 _ m _ (by simp) rfl
      have := ih (acc ++ [x]) (by simpa using h)
      unfold mergeI at this ⊢
      rw [List.foldl_cons, putI_new new]
      simpa using this
  exact go _ [] (by simpa [Function.comp_def] using nd)
end PL
namespace PL
open PySem PySem.Spec PyProof.Rows L2
theorem Blk.nN {X X' : Cx} {scope : Scope} (b : Blk X scope X') : X'.N = X.N := by obtain ⟨s, H, C, cl, fp, rfl⟩ := b; rfl
theorem BlkOk.closed {N : List Str} {sc scope : Scope} {own : List (Str × Nat)} (k : scope.kind = .function) (u : ∀ y ∈ scope.names, scope.names.lookup y.1 = some y.2) (ix : ∀ p ∈ own, N[p.2]? = some p.1) (nf : ∀ y ∈ scope.names, y.2 ≠ .free) (o : ∀ y ∈ scope.names, y.2 = .local ∨ y.2 = .cell → y.1 ∈ own.map (·.1) ∨ y.1 ∉ N) : BlkOk N sc scope own := ⟨k, u, ix, fun y hy e => absurd e (nf y hy), o⟩
/-- cells behind the frame -/
theorem app_at (γ t : Cells) (i : Nat) : (γ ++ t)[γ.length + i]? = t[i]? := by rw [List.getElem?_append_right (by omega)]; congr 1; omega
theorem app_set (γ t : Cells) (i : Nat) (o : Cell) : (γ ++ t).set (γ.length + i) o = γ ++ t.set i o := by rw [List.set_append_right _ _ (by omega)]; congr 2; omega
end PL

namespace PL
open PySem PySem.Spec PyProof.Rows L2
theorem picked_of {α : Type} (L : List α) (d : α) (p : α → Bool) (e : α → PyData) : picked (fun i => p (L.getD i d)) (fun i => e (L.getD i d)) L.length = (L.filter p).map e := by
  have id_ : ((List.range L.length).map fun i => L.getD i d) = L := by
    have := rangeD (f := fun x : α => x) d (L := L)
    simpa using this
  unfold picked
  conv => rhs; rw [← id_]
  rw [List.filter_map, List.map_map]
  rfl
section
variable {X : Cx} {Γ : Slots} {γ γ1 : Cells} {elt it o : Expr} {scope : Scope} {pos pos2 pos3 : Pos} {c : Nat} {L : IntD}
/-- `[k for k in d if d[k] < 0]`: the keys of a dict by tuples whose number is below nought -/
theorem ev_lcNeg {y z : Str} {py pz : Pos} {w v : Nat} {kd : NameKind} (hc : γ[c]? = some (ditI L)) (nd : (L.map (·.1)).Nodup) (hX : Cok X) (ok : BlkOk X.N X.env.scope scope [(y, w)]) (hn : ∀ X', Blk X scope X' → Cok X' ∧ Nm X' y w .local ∧ ∃ k2, Nr X' z v k2) (hz : Nr X z v kd) (hv : Γ[v]? = some (some (.cl c))) (hw : v ≠ w) (hwl : w < Γ.length) (hsz : L.length ≤ 1000000) {p0 p1 p2 p3 : Pos}
    (hs : ∀ x, foldedSetIterable (.Name z pz) X.env x = pure x := by intro _; rfl) : EV X Γ γ (.ListComp (.Name y p0) [⟨.Name y py, .Name z pz, [.Compare (.Subscript (.Name z p1) (.Name y p2) pos2) [.Lt] [.Constant (.int 0) 0 p3] pos3], 0⟩] scope pos) (.fz (.list ((L.filter fun x => decide (x.2 < 0)).map fun x => .tuple (x.1.map kD)))) γ :=
  ev_lock hc fun od => ⟨γ.set c (frzI od L), by
    have cl : ∀ acc, (γ.set c (frzI od L) ++ [Cell.lst acc])[c]? = some (frzI od L) := fun acc => by
      rw [List.getElem?_append_left (by simpa using (List.getElem?_eq_some_iff.mp hc).1)]
      exact set_get hc
    have := ev_lcN (py := py) (pos := pos) (elt := .Name y p0) (ifs := [.Compare (.Subscript (.Name z p1) (.Name y p2) pos2) [.Lt] [.Constant (.int 0) 0 p3] pos3]) (w := w) (fun i => (fun x : List Key × Int => decide (x.2 < 0)) (L.getD i ([], 0))) (fun i => (fun x : List Key × Int => PyData.tuple (x.1.map kD)) (L.getD i ([], 0))) hX ok (fun X' hB => ⟨(hn X' hB).1, (hn X' hB).2.1⟩) (itv_keysZ (od := od) (L := L) (ev_name hz hv) (set_get hc)) (fun acc => cl _) (by simpa using hsz) (fun i x acc hx X' hB => by
      obtain ⟨hX', ny, k2, nz⟩ := hn X' hB
      rw [List.getElem?_map] at hx
      cases hd : L[i]? with
      | none => rw [hd] at hx; cases hx
      | some d =>
        rw [hd] at hx
        cases hx
        have e1 : L.getD i ([], 0) = d := by simp [List.getD, hd]
        have here : (Γ.set w (some (.fz (.tuple (d.1.map kD)))))[w]? = some (some (.fz (.tuple (d.1.map kD)))) := by rw [List.getElem?_set_self hwl]
        have there : (Γ.set w (some (.fz (.tuple (d.1.map kD)))))[v]? = some (some (.cl c)) := by rw [List.getElem?_set_ne (Ne.symm hw)]; exact hv
        have key : keyT (.tuple (d.1.map kD)) = some d.1 := by
          show keysD (d.1.map kD) = _
          have go : ∀ k : List Key, keysD (k.map kD) = some k := fun k => by
            induction k with
            | nil => rfl
            | cons x k ih => simp [keysD, kD_key, ih]
          exact go _
        simp only [e1]
        refine ⟨tvs_one (tv_cmp (ev_zget hX' (ev_name nz there) (ev_name ny.r here) (cl _) key (valI_of (r := .fz (.int d.2)) ?_ ?_)) ev_int cmp_lt), fun _ => ev_name ny.r here⟩
        · rw [List.map_map]; exact nd
        · exact List.mem_map.mpr ⟨d, List.mem_of_getElem? hd, rfl⟩) hs
    rw [List.length_map] at this
    exact this.is (congrArg PyData.list (picked_of L ([], 0) (fun x => decide (x.2 < 0)) fun x => PyData.tuple (x.1.map kD))), set_get hc, set_back hc⟩
end
end PL
namespace PL
open PySem PySem.Spec PyProof.Rows L2
section
variable {X : Cx} {Γ : Slots} {γ γ1 : Cells} {a b : Expr} {pos : Pos} {k : Bool}
/-- `a and b` as a test, the second part by what follows -/
theorem tp_and2 {P : Bool → Cells → Prop} (h1 : TV X Γ γ a k γ1) (h2 : k = true → TP X Γ γ1 b P) (h3 : k = false → P false γ1) : TP X Γ γ (.BoolOp .And [a, b] pos) P := fun F as σ H R E Q q => by
  refine ⟨_, (pw_and pt_wp (pw_and1 pt_wp)).pt, h1 F as σ H R E _ fun F1 as1 H1 x1 R1 => ?_⟩
  cases k with
  | true => exact iteT (h2 rfl F1 as1 σ H1 R1 (E.mono x1) Q fun k g F2 as2 H2 hp x2 R2 => q k g F2 as2 H2 hp (x1.trans x2) R2)
  | false => exact iteF (q false γ1 F1 as1 H1 (h3 rfl) x1 R1)
end
end PL

namespace PL
open PySem PySem.Spec PyProof.Rows L2
/-! ### zip of what follows; comprehensions over typed items of any walk -/
section
variable {X : Cx} {Γ Γ' : Slots} {γ γ1 : Cells} {a b : Expr} {pos p tpos : Pos} {elts : List Expr} {kk : Nat}
theorem ite_zip {Pi : List Itm → (Cells → Prop) → Cells → Prop} (bt : Bt X "zip") (h : EE X Γ γ a fun ra g1 => EE X Γ g1 b fun rb g2 => ∃ ds es : List PyData, Rdb g2 ra (.list ds) ∧ Rdb g2 rb (.list es) ∧ Pi (zipD ds es) (fun g => Rdb g ra (.list ds) ∧ Rdb g rb (.list es)) g2)
    (hs : starEach [a, b] X.env = (false, eval a X.env) :: starEach [b] X.env := by rfl) (hs2 : starEach [b] X.env = (false, eval b X.env) :: starEach [] X.env := by rfl) (hpl : (backTo pos (starEach [b] X.env)).any (·.1) = false := by rfl) :
    ITE X Γ γ (.Tuple elts kk tpos) (.Call (.Name "zip" p) [a, b] [] pos) Pi := fun F as σ H R E Q q => by
  refine ⟨_, pi_zip bt.gl bt.mg (pa_cons pe_wp (pa_cons pe_wp pa_nil hs2) hs) hs hpl, h F as σ H R E _ fun v ra g1 F1 as1 H1 hb x1 R1 i1 => hb F1 as1 σ H1 R1 (E.mono x1) _ fun u rb g2 F2 as2 H2 ⟨ds, es', h1, h2, hPi⟩ x2 R2 i2 => ?_⟩
  have i1' := itm_mono x2 i1
  obtain ⟨l, us, rfl, p1, p2⟩ := h1.list R2 i1'
  obtain ⟨l', us', rfl, p1', p2'⟩ := h2.list R2 i2
  refine ⟨l, l', us, us', rfl, p1, p1', q _ _ _ _ F2 as2 H2 hPi (x1.trans x2) R2 fun i F' as' γ' H' x' R' st => ?_⟩
  obtain ⟨m, ws, e1, q1, q2⟩ := st.1.list R' (itm_mono x' i1')
  obtain ⟨m', ws', e2, q1', q2'⟩ := st.2.list R' (itm_mono x' i2)
  cases e1
  cases e2
  have l1 := dpAll_length q2
  have l2 := dpAll_length q2'
  refine ⟨fun hl => ?_, fun x hx => ?_⟩
  · refine ⟨ws, ws', q1, q1', ?_⟩
    unfold zipD at hl
    simp at hl
    omega
  · unfold zipD at hx
    rw [List.getElem?_map] at hx
    cases hd : (ds.zip es')[i]? with
    | none => rw [hd] at hx; cases hx
    | some d =>
      rw [hd] at hx
      cases hx
      obtain ⟨d1, d2⟩ := d
      rw [List.getElem?_zip_eq_some] at hd
      obtain ⟨w1, hw1, hp1⟩ := dpAll_get q2 hd.1
      obtain ⟨w2, hw2, hp2⟩ := dpAll_get q2' hd.2
      refine ⟨⟨ws, ws', w1, w2, q1, q1', hw1, hw2⟩, fun v H'' y => ?_⟩
      obtain ⟨T, y1, y2, rfl, nT, rfl, f1, f2⟩ := y
      cases hw1.symm.trans (f1 ws q1)
      cases hw2.symm.trans (f2 ws' q1')
      refine ⟨upd F' T (.tup [w1, w2]), ⟨R'.sameNew _ nT, [], by simp⟩, R'.new _ nT, itm_tup.mpr ⟨T, _, rfl, upd_same, ?_⟩⟩
      exact .cons (dp_mono (R'.sameNew _ nT) hp1) (.cons (dp_mono (R'.sameNew _ nT) hp2) .nil)
end
section
variable {α : Type} {X : Cx} {Γ Γ' : Slots} {γ γ1 : Cells} {tg it elt : Expr} {ifs : List Expr} {scope : Scope} {own : List (Str × Nat)}
theorem lcS {stab : Cells → Prop} (f : α → PyData) (L : List α) (p : α → Bool) (e : α → PyData) (hst : ∀ acc, stab (γ1 ++ [.lst acc])) (hsz : L.length ≤ 1000000)
    (hb : ∀ a ∈ L, ∃ Γ2 ws, (∀ j ∈ ws, j ∈ own.map (·.2)) ∧ ∀ acc X', Blk X scope X' →
      GV X' (γ1 ++ [.lst acc]) (wipeS Γ (own.map (·.2))) tg (.fz (f a)) Γ2 ws ∧ TVs X' Γ2 (γ1 ++ [.lst acc]) ifs (p a) (γ1 ++ [.lst acc]) ∧ (p a = true → EV X' Γ2 (γ1 ++ [.lst acc]) elt (.fz (e a)) (γ1 ++ [.lst acc]))) :
    LcK X Γ tg elt ifs scope own ((L.map f).map Itm.fz) stab γ1 (fun i acc g => g = γ1 ∧ i ≤ L.length ∧ acc = (((L.take i).filter p).map e).map Itm.fz) := by
  refine ⟨⟨rfl, Nat.zero_le _, by simp⟩, fun i acc g _ h => h.1 ▸ hst _, fun i acc g h => ⟨by rw [h.1], ?_⟩, by simpa using hsz, ?_⟩
  · rw [h.2.2]
    have h1 := List.length_filter_le p (L.take i)
    have h2 : (L.take i).length ≤ i := by rw [List.length_take]; omega
    simp; omega
  · rintro i x acc g hx ⟨rfl, hi, rfl⟩
    obtain ⟨a, ha, hm, rfl, ht⟩ := take_get hx
    have hlt := (List.getElem?_eq_some_iff.mp ha).1
    obtain ⟨Γ2, ws, h1, h2⟩ := hb a hm
    refine ⟨Γ2, ws, p a, g, h1, rfl, fun X' hB => ?_⟩
    obtain ⟨h3, h4, h5⟩ := h2 ((((L.take i).filter p).map e).map Itm.fz) X' hB
    refine ⟨h3, h4, fun hk => ⟨rfl, hlt, by rw [ht, List.filter_append]; simp [hk]⟩, fun hk => EE.of (h5 hk) ⟨g, rfl, rfl, hlt, by rw [ht, List.filter_append]; simp [hk]⟩⟩
end
end PL
namespace PL
open PySem PySem.Spec PyProof.Rows L2
/-- both ways of an if meet again -/
theorem svs_ifM {X : Cx} {Γ : Slots} {γ : Cells} {c : Expr} {sa sb rest : List Stmt} {pos : Pos} {R : SE} (M : Slots → Cells → Prop)
    (h : TP X Γ γ c fun k g => (k = true → SVs X Γ g sa { R with nx := M }) ∧ (k = false → SVs X Γ g sb { R with nx := M })) (hr : ∀ Γ' γ', M Γ' γ' → SVs X Γ' γ' rest R) : SVs X Γ γ (.If c sa sb pos :: rest) R := by
  refine svs_ifP fun F as σ H Rp E Q q => h F as σ H Rp E Q fun k γ' F' as' H' hk => q k γ' F' as' H' ⟨fun e => (hk.1 e).imp (fun a b m => hr a b m) (fun _ _ h => h) (fun _ _ h => h) (fun _ _ h => h), fun e => (hk.2 e).imp (fun a b m => hr a b m) (fun _ _ h => h) (fun _ _ h => h) (fun _ _ h => h)⟩
end PL

namespace PL
open PySem PySem.Spec PyProof.Rows L2 PpSet
/-! ### len(set(xs)), xs a list of tuples of ints and texts -/
section
variable {P : Program} {w : World} {A : Around} {E : Value → Shared → Prop} {s : Shared}
def kyM (M : Elts) (i : Nat) : List Key := (M.map (·.2)).getD i []
structure GotM (M : Elts) (i : Nat) (L : Elts) : Prop where
  sub : ∀ p ∈ L, p ∈ M
  keys : (L.map (·.2)).Perm (keysM (kyM M) i)
theorem GotM.len {M L : Elts} {i : Nat} (g : GotM M i L) : L.length ≤ i := by
  have h1 := g.keys.length_eq
  have h2 := keysM_len (kyM M) i
  rw [List.length_map] at h1
  omega
theorem kyM_at {M : Elts} {i : Nat} {p : Addr × List Key} (h : M[i]? = some p) : kyM M i = p.2 := by
  unfold kyM
  rw [List.getD_eq_getElem?_getD, List.getElem?_map, h]
  rfl
open Classical in
theorem GotM.next {M L L2 : Elts} {i : Nat} {p : Addr × List Key} (g : GotM M i L) (h : M[i]? = some p) (c1 : p.2 ∈ L.map (·.2) → L2 = L) (c2 : p.2 ∉ L.map (·.2) → L2.Perm (p :: L)) : GotM M (i + 1) L2 := by
  have e := kyM_at h
  have q : keysM (kyM M) (i + 1) = if kyM M i ∈ keysM (kyM M) i then keysM (kyM M) i else kyM M i :: keysM (kyM M) i := rfl
  by_cases z : p.2 ∈ L.map (·.2)
  · rw [c1 z]
    refine ⟨g.sub, ?_⟩
    rw [q, if_pos (by rw [e]; exact g.keys.mem_iff.mp z)]
    exact g.keys
  · have pm := c2 z
    refine ⟨fun x hx => ?_, ?_⟩
    · rcases List.mem_cons.mp (pm.mem_iff.mp hx) with rfl | hx
      · exact List.mem_of_getElem? h
      · exact g.sub x hx
    · rw [q, if_neg (by rw [e]; exact fun y => z (g.keys.mem_iff.mpr y)), e]
      exact (pm.map fun x => x.2).trans (show List.Perm ((p :: L).map fun x => x.2) _ from g.keys.cons p.2)
theorem isM_up {h h2 : Heap} {k : List Key} {b : Addr} (q : IsM P w h k b) (up : ∀ c o, h.get? c = some o → h2.get? c = some o) : IsM P w h2 k b := by
  obtain ⟨u, vs, m, hu, r⟩ := q
  exact ⟨u, vs, m, up b u hu, r⟩
theorem TSet.up {h h2 : Heap} {a : Addr} {L : Elts} {es ep t} (R : TSet P w h a L es ep t) (up : ∀ o, h.get? a = some o → h2.get? a = some o) : TSet P w h2 a L es ep t := by
  obtain ⟨u, hu, r⟩ := R.ob
  exact ⟨⟨u, up u hu, r⟩, R.rw_, R.tab, R.nd, R.room⟩
theorem upd_loopM {I : Addr} {fp wr : List Addr} {G : Array GenState → Array GenState → Prop} {n : Nat} {Pv : Nat → Value → Prop} {St : Nat → Shared → Prop} {R : Result → Shared → Prop}
    (Wk : WalksS P w A.in1 I fp wr G n Pv St) (D : Addr) (Df : D ∉ fp) (M : Elts) (en : n = M.length) (few : M.length < 305) (vals : ∀ i v, Pv i v → ∃ p, M[i]? = some p ∧ v = .ref p.1)
    (g0 : Heap) (all : ∀ p ∈ M, IsM P w g0 p.2 p.1) (D0 : g0.get? D = none) (wr0 : ∀ b ∈ wr, g0.get? b = none) (un : A.in1.units < cLine) :
    ∀ (k i : Nat) (s : Shared), n - i = k → i ≤ n → St i s → (∀ b o, g0.get? b = some o → s.heap.get? b = some o) → (∃ L es ep t, TSet P w s.heap D L es ep t ∧ GotM M i L) →
      (∀ s2 L es ep t, Moved (D :: wr) G s s2 → TSet P w s2.heap D L es ep t → GotM M n L → (∀ b o, g0.get? b = some o → s2.heap.get? b = some o) → R (.ok (.ret .none)) s2) →
      codeAny (model P w) A (.builtin "set.update.loop" ⟨[.ref D, .ref I], []⟩) R s := by
  have Dw : D ∉ wr := fun z => Df (Wk.sub _ z)
  have inn : ∀ b ∈ wr, b ∈ D :: wr := fun b z => List.mem_cons_of_mem _ z
  have still : ∀ {s1 s2 : Shared}, Moved wr G s1 s2 → (∀ b o, g0.get? b = some o → s1.heap.get? b = some o) → ∀ b o, g0.get? b = some o → s2.heap.get? b = some o := fun mv up b o z =>
    mv.heap b o (fun hb => by rw [wr0 b hb] at z; cases z) (up b o z)
  intro k
  induction k with
  | zero =>
    intro i s ek le st up ⟨L, es, ep, t, T, g⟩ fin
    have e : i = n := by omega
    subst e
    refine codeAny_builtin F.entry_set_update_loop ?_
    rw [Around.under_plainId F.plain_set_update_loop _]
    show wpAny _ A.in1 (pyNext (.ref I) >>= _) _ _ s
    refine wpAny_bind (Wk.done s _ _ st fun s2 mv => ?_)
    show wpAny _ A.in1 (ret Value.none) _ _ s2
    exact wpAny_pure (fin s2 L es ep t (mv.mono inn) (T.up fun o z => mv.heap D o Dw z) g (still mv up))
  | succ k ih =>
    intro i s ek le st up ⟨L, es, ep, t, T, g⟩ fin
    have lt : i < n := by omega
    refine codeAny_builtin F.entry_set_update_loop ?_
    rw [Around.under_plainId F.plain_set_update_loop _]
    show wpAny _ A.in1 (pyNext (.ref I) >>= _) _ _ s
    refine wpAny_bind (Wk.item i s _ _ lt st fun v s2 pv st2 mv => ?_)
    obtain ⟨p, hp, rfl⟩ := vals i v pv
    have up2 := still mv up
    have T2 : TSet P w s2.heap D L es ep t := T.up fun o z => mv.heap D o Dw z
    have x : IsM P w s2.heap p.2 p.1 := isM_up (all p (List.mem_of_getElem? hp)) up2
    show wpAny _ A.in1 (holding [Value.ref p.1] (setAdd D (.ref p.1)) >>= _) _ _ s2
    refine wpAny_bind (wpAny_holding ?_)
    unfold setAdd
    refine wpAny_holding ?_
    refine wpAny_bind (wpAny_pyHash_tuple un x ?_)
    refine addM (s := { s2 with toks := s2.toks + (p.2.length + 1) }) T2 (fun q hq => isM_up (all q (g.sub q hq)) up2) x un (by have := g.len; omega) fun b h2 L3 es3 ep3 t3 sb T3 c1 c2 => ?_
    have g3 := g.next hp c1 c2
    have up3 : ∀ b o, g0.get? b = some o → h2.get? b = some o := fun b o z => (sb.2 b (fun q => by rw [q, D0] at z; cases z)).trans (up2 b o z)
    refine wpAny_pure ⟨plainId_quiet F.plain_set_update_loop _, ih (i + 1) _ (by omega) lt (Wk.frame _ s2 _ _ st2 (Nat.le_add_right _ _) fun b hb o z => ?_) up3 ⟨L3, es3, ep3, t3, T3, g3⟩ fun s4 L4 es4 ep4 t4 mv4 T4 g4 up4 => ?_⟩
    · rw [sb.2 b (fun q : b = D => Df (by rw [← q]; exact hb))]; exact z
    · refine fin s4 L4 es4 ep4 t4 (Moved.trans Wk.gtrans ((mv.mono inn).then_heap (Nat.le_add_right _ _) fun b o hb z => ?_) mv4) T4 g4 up4
      rw [sb.2 b (fun q : b = D => hb (by rw [q]; exact List.mem_cons_self))]; exact z
abbrev nuS (w : World) : Obj := freshSet w
theorem fresh_tset {h : Heap} {a : Addr} (e : h.get? a = some (nuS w)) : TSet P w h a [] #[] 0 (.fresh 0 0 (!w.params.followText "set-order")) :=
  ⟨⟨_, e, ⟨rfl, rfl, rfl⟩, rfl⟩, rfl, ⟨.nil, rfl, rfl, .inl rfl, fun i h j e => by simp at e⟩, .nil, by show 0 * 5 < 7 * 3; decide⟩
set_option maxHeartbeats 3200000 in
theorem call_setM {l : Addr} {its : Array Value} (M : Elts) {Q : Value → Shared → Prop} (hh : A.handled = none) (hl : s.heap.IsList l its) (eit : its.toList = M.map fun p => Value.ref p.1)
    (all : ∀ p ∈ M, IsM P w s.heap p.2 p.1) (few : M.length < 305) (un : A.units + 3 < cLine)
    (fin : ∀ (h2 : Heap) (tk : Nat) L es ep t, TSet P w h2 s.heap.objs.size L es ep t → GotM M M.length L → (∀ b o, s.heap.get? b = some o → h2.get? b = some o) → Q (.ref s.heap.objs.size) { s with heap := h2, toks := tk }) :
    wpAny (model P w) A (call (.type "set") [.ref l]) Q E s := by
  have sz : its.size = M.length := by
    have q := congrArg List.length eit
    rw [Array.length_toList, List.length_map] at q
    exact q
  obtain ⟨c, tl, mro⟩ := F.called_set.mro
  have made := F.called_set.made
  have sub := F.called_set.sub
  refine wpAny_call (codeAny_of_tree ?_)
  show wpAny _ _ (callAny (.type "set") _) _ _ _
  refine wpAny_pure ⟨Code.quiet_builtin _ (by decide +kernel), codeAny_builtin F.entry_type_call ?_⟩
  rw [Around.under_plain (weight_type_call_type "set" [.ref l] []) rfl]
  have q1 := F.called_set.notType
  have q2 := F.called_set.canCreate
  have q3 := F.typeCall_set_1 (.ref l)
  repeat (any_goals (first | assumption | wp_step))
  refine codeAny_mono (code_set_led1 (.ref l) (E := E) (Q₁ := fun obj s₁ => obj = .ref s.heap.objs.size ∧ s₁ = { s with heap := s.heap.push (nuS w) }) ⟨rfl, rfl⟩) fun r s₁ hr => ?_
  cases r with
  | error e => exact hr
  | ok fl =>
    cases fl with
    | ret obj =>
      obtain ⟨rfl, rfl⟩ := hr
      have hS : (s.heap.push (nuS w)).get? s.heap.objs.size = some (nuS w) := Heap.get?_push_size _ rfl
      have hT : Shared.TypeIs { s with heap := s.heap.push (nuS w) } (.ref s.heap.objs.size) "set" := ⟨_, hS, rfl⟩
      have q4 := F.called_set.init.lookup
      have q5 := F.called_set.init.bind (.ref s.heap.objs.size)
      repeat (any_goals (first | assumption | wp_step))
      refine codeAny_mono (codeAny_call_builtin (R := wants (fun r s₂ => r = .none ∧ ∃ h2 tk L es ep t, s₂ = { s with heap := h2, toks := tk } ∧ TSet P w h2 s.heap.objs.size L es ep t ∧ GotM M M.length L ∧
          (∀ b o, s.heap.get? b = some o → h2.get? b = some o)) E) F.called_set.init.plain F.entry_set_init (check_set_init_1 hT ?_)) fun r₂ s₂ hr₂ => ?_
      · obtain ⟨ol, hol, hcl, nl, hdl⟩ := hl
        obtain ⟨oc, od, oda, osl⟩ := ol
        simp only at hcl hdl
        subst hcl; subst hdl
        have hol2 : (s.heap.push (nuS w)).get? l = some { cls := .type "list", dict := od, data := .seq its nl, slots := osl } := Heap.get?_push_of_some _ hol
        have q6 := F.sub_list_set
        have q7 := F.sub_list_frozenset
        have q8 : (Value.type "list" == Value.type "dict") = false := by decide
        have il : (s.heap.push (nuS w)).IsList l its := ⟨_, hol2, rfl, nl, rfl⟩
        unfold Builtin.«set.__init__» noKeywords Builtin.Frozenset.updateFrom
        generalize hPI : pyIter = PI
        wp_walk
        subst hPI
        refine wpAny_pyIter_list il ?_
        refine wpAny_bind (wpAny_runValue ?_)
        have lS : l < s.heap.objs.size := Heap.lt_size hol
        have hh3 : A.in1.in1.in1.handled = none := by simp [hh]
        have neI : l ≠ (s.heap.push (nuS w)).objs.size := by
          rw [Heap.size_push]; exact Nat.ne_of_lt (Nat.lt_succ_of_lt lS)
        have nin : s.heap.objs.size ∉ [(s.heap.push (nuS w)).objs.size, l] := by
          rw [Heap.size_push]; simp only [List.mem_cons, List.mem_singleton, List.not_mem_nil, or_false, not_or]
          exact ⟨Nat.ne_of_lt (Nat.lt_succ_self _), Nat.ne_of_gt lS⟩
        have vals : ∀ (i : Nat) (v : Value), its[i]? = some v → ∃ p, M[i]? = some p ∧ v = .ref p.1 := fun i v hv => by
          have q : its.toList[i]? = some v := by rw [Array.getElem?_toList]; exact hv
          rw [eit, List.getElem?_map] at q
          cases z : M[i]? with
          | none => rw [z] at q; cases q
          | some p =>
            rw [z] at q
            exact ⟨p, rfl, (Option.some.inj q).symm⟩
        have free : ∀ b, s.heap.objs.size ≤ b → s.heap.get? b = none := fun b hb => by
          cases z : s.heap.get? b with
          | none => rfl
          | some o => exact absurd (Nat.lt_of_lt_of_le (Heap.lt_size z) hb) (Nat.lt_irrefl _)
        refine upd_loopM ((Walks.list hh3 _ l neI its).toS) s.heap.objs.size nin M sz few vals s.heap all (free _ (Nat.le_refl _)) (fun b hb => free b (by rw [List.mem_singleton.mp hb, Heap.size_push]; exact Nat.le_succ _)) un (its.size - 0) 0 _ (by omega) (Nat.zero_le _)
          ⟨⟨_, Heap.get?_push_size _ rfl, rfl, rfl⟩, (il.push _)⟩ (fun b o e => Heap.get?_push_of_some _ (Heap.get?_push_of_some _ e)) ⟨[], #[], 0, _, fresh_tset (Heap.get?_push_of_some _ hS), fun p h => (by cases h), .nil⟩ fun s2 L es ep t mv T g up => ?_
        obtain ⟨h2, g2, d2, tk2, os2⟩ := s2
        have eg : g2 = s.gens := mv.gens
        have ed : d2 = s.drawn := mv.drawn
        have eo : os2 = s.os := mv.os
        subst eg; subst ed; subst eo
        show wpAny _ _ _ _ _ _
        refine wpAny_pure ?_
        show wpAny _ _ (ret Value.none) _ _ _
        rw [sz] at g
        exact wpAny_pure ⟨rfl, h2, tk2, L, es, ep, t, rfl, T, g, up⟩
      · cases r₂ with
        | error e => exact hr₂
        | ok fl₂ =>
          cases fl₂ with
          | ret r =>
            obtain ⟨rfl, h2, tk, L, es, ep, t, rfl, T, g, up⟩ := hr₂
            repeat (any_goals (first | assumption | wp_step))
            exact fin _ _ _ _ _ _ T g up
          | _ => exact hr₂.elim
    | _ => exact hr.elim
end
section
variable {X : Cx}
def tLenSetM (K : PySem.W.Frag) (ta : TE) : TE := fun σ H Q => ta σ H fun x H1 => ∃ (l : Addr) (M : Elts), x = V.ref l ∧ SqL K H1 l (M.map fun p => V.ref p.1) ∧ (∀ p ∈ M, H1 p.1 = some (.tup (p.2.map kV))) ∧ M.length < 305 ∧ Q (.int ((keysM (kyM M) M.length).length : Int)) H1
theorem valsM : ∀ {M : Elts} {us : List Value}, Vals (M.map fun p => V.ref p.1) us → us = M.map fun p => Value.ref p.1
  | [], _, r => by cases r; rfl
  | p :: M, _, .cons h t => by
    cases (show _ = Value.ref p.1 from h)
    rw [valsM t]
    rfl
theorem pe_lenSetM {a : Expr} {ta : TE} {p p2 q pos : Pos} (hc : X.calm = true) (hu : X.A.units + 70 < cLine) (hg : Gl X "len") (hm : X.mg "len" = none) (hg2 : Gl X "set") (hm2 : X.mg "set" = none) (ha : PE X a ta)
    (na : starEach [a] X.env = (false, eval a X.env) :: starEach [] X.env := by rfl) : PE X (.Call (.Name "len" p) [.Call (.Name "set" p2) [a] [] q] [] pos) (tLenSetM X.K ta) := by
  refine ⟨fun pins s σ H Q I h => Call_ (ld_blt I hg hm PySem.boot_len (PyProof.Rows.callWith_builtin1 (PyProof.Rows.args_cons ?_ rfl) rfl rfl))⟩
  refine Call_ (ld_blt I hg2 hm2 PyProof.Rows.boot_set (PyProof.Rows.callWith_type1 (PyProof.Rows.args_cons (thn (ha.run pins s σ H _ I h) fun v s1 ⟨x, H1, I1, r1, q1⟩ => PyProof.Rows.args_nil ?_) na) na rfl))
  obtain ⟨l, M, rfl, hq, ht, few, q1⟩ := q1
  cases r1
  obtain ⟨its, r, pl, hz⟩ := I1.list hq
  refine call_setM M (I1.ok.hd hc) pl.isList (by simpa using valsM r) (fun p hp => key_of I1.hok (ht p hp)) few (by first | exact Nat.lt_of_le_of_lt (by simp) hu | (simp; omega) | omega) fun h2 tk L es ep t T g up => ?_
  refine PyProof.Rows.args_nil ?_
  obtain ⟨o, oh, hex, od⟩ := T.ob
  have z := rowM_len T.rw_
  have e := g.keys.length_eq
  rw [List.length_map] at e
  have le := keysM_len (kyM M) M.length
  have I2 : Inv X pins σ H1 { s1 with heap := h2, toks := tk } := I1.kept up
  refine call_len_set oh hex od (TSet.fits (s := { s1 with heap := h2, toks := tk }) T) (by omega) ⟨.int ((keysM (kyM M) M.length).length : Int), H1, I2.tok _, ⟨_, by rw [z, e]⟩, q1⟩
end
section
variable {X : Cx} {Γ : Slots} {γ γ1 : Cells} {a : Expr} {r : Itm} {pos p p2 q : Pos}
theorem dq_keysM {K F} : ∀ {ts : List (List Key)} {vs : List V}, DqAll K F vs (ts.map fun k => PyData.tuple (k.map kD)) → ∃ M : Elts, vs = M.map (fun p => V.ref p.1) ∧ M.map (·.2) = ts ∧ ∀ p ∈ M, F p.1 = some (.tup (p.2.map kV))
  | [], _, h => by cases h; exact ⟨[], rfl, rfl, by simp⟩
  | k :: ts, _, h => by
    cases h with
    | cons h t =>
      cases h with
      | tup h1 h2 =>
        obtain ⟨M, rfl, e, f⟩ := dq_keysM t
        rw [dq_kv h2] at h1
        refine ⟨(_, k) :: M, rfl, by rw [List.map_cons, e], fun p hp => ?_⟩
        rcases List.mem_cons.mp hp with rfl | hp
        · exact h1
        · exact f p hp
/-- how many unlike tuples stand in a list -/
theorem ev_lenSetM {ts : List (List Key)} (hX : Cok X) (bt : Bt X "len") (bt2 : Bt X "set") (ha : EV X Γ γ a r γ1) (hr : Rdb γ1 r (.list (ts.map fun k => PyData.tuple (k.map kD)))) (few : ts.length < 305)
    (na : starEach [a] X.env = (false, eval a X.env) :: starEach [] X.env := by rfl) : EV X Γ γ (.Call (.Name "len" p) [.Call (.Name "set" p2) [a] [] q] [] pos) (.fz (.int ((keysM (fun i => ts.getD i []) ts.length).length : Int))) γ1 := .mk fun F as σ H R E Q qq => by
  refine ⟨_, pe_lenSetM hX.calm (by have := hX.hu; omega) bt.gl bt.mg bt2.gl bt2.mg pe_wp na, ha.go R E fun v F1 as1 H1 x1 R1 i1 => ?_⟩
  obtain ⟨l, vs, rfl, k1, k2⟩ := hr.list R1 i1
  obtain ⟨M, rfl, e, f⟩ := dq_keysM k2
  have el : M.length = ts.length := by rw [← e, List.length_map]
  refine ⟨l, M, rfl, k1, fun p hp => R1.fr _ _ (f p hp), by omega, ?_⟩
  have ek : kyM M = fun i => ts.getD i [] := by funext i; unfold kyM; rw [e]
  rw [ek, el]
  exact qq _ F1 as1 H1 x1 R1 (itm_int.mpr rfl)
end
end PL

/-! ### tuple(xs); t[1::-1] of four -/
namespace HT
open PySem PyProof.Rows
open PySem.SeqAt
open PySem.AutoSeq1 (wpAny_loadPart')
open PySem.MeetsSeq PySem.MeetsSeq2 PySem.MeetsSeq3
section
variable {prog : Program} {w : World} {A : Around} {E : Value → Shared → Prop} {s : Shared}
theorem getItem_rev2 {t sl : Addr} {a b c d : Value} {vl vs : Value} {Q : Value → Shared → Prop} (ht : IsTup s.heap t #[a, b, c, d]) (hs : s.heap.IsSliceOf sl vl .none vs) (pl : IsPart vl (some 1)) (ps : IsPart vs (some (-1)))
    (h : Q (.ref s.heap.objs.size) { s with heap := s.heap.push { cls := .type "tuple", data := .seq #[b, a] } }) : wpAny (model prog w) A (getItem (.ref t) (.ref sl)) Q E s := by
  have room : sizeOk (.seq #[b, a]) := by show (2 : Nat) ≤ sizeLine; rw [sizeLine_eq]; decide
  obtain ⟨os, hos, hcs, hds⟩ := id hs
  have ty : s.TypeIs (.ref sl) "slice" := ⟨os, hos, hcs⟩
  unfold getItem
  try with_reducible refine wpAny_holding ?_
  first | refine wpAny_bind (wpAny_pure ?_) | skip
  refine wpAny_bind (wpAny_sequenceKey ht.typeIs (by decide) ?_)
  refine wpAny_bind (wpAny_callSpecial?_slot (name := Str.ofString "__getitem__") ht.typeIs PyProof.Rows.slot_tuple_getitem
    (wpAny_call_entry PyProof.Rows.slot_tuple_getitem ht.typeIs entry_tuple_getitem ?_ (args_tuple_getitem _ _)))
  show wpAny _ _ (Builtin.Tuple.tupleItemsOf (.ref t) >>= _) _ _ s
  refine wpAny_bind (tupleItemsOf_ ht (wpAny_bind (wpAny_typeOf ty ?_)))
  rw [if_pos (by decide)]
  have cut : ∀ {A : Around} {Q : Int × Int × Nat → Shared → Prop}, Q (1, -1, 2) s → wpAny (model prog w) A (Builtin.Slice.sliceApplied (.ref sl) (pure ((#[a, b, c, d].size : Nat) : Int))) Q E s := fun {A} {Q} q => by
    unfold Builtin.Slice.sliceApplied Builtin.Slice.sliceFields
    refine wpAny_bind (wpAny_bind (wpAny_field hos hds (x := vl) rfl (wpAny_bind (wpAny_field hos hds (x := .none) rfl (wpAny_bind (wpAny_field hos hds (x := vs) rfl (wpAny_pure ?_)))))))
    refine wpAny_bind (slicePart_ ps ?_)
    show wpAny _ _ (if ((-1 : Int) == 0) = true then _ else _) _ _ s
    rw [if_neg (by decide)]
    refine wpAny_bind (slicePart_ pl (wpAny_bind (slicePart_none (wpAny_bind (wpAny_pure ?_)))))
    exact wpAny_pure q
  refine wpAny_bind (cut ?_)
  first
    | exact wpAny_bind (m := Builtin.Tuple.tupleExact _) (wpAny_newObj_type (wpAny_pure ⟨_, rfl, wpAny_pure h⟩) room)
    | exact wpAny_bind (m := Builtin.Tuple.tupleExact _) (wpAny_newObj_type (wpAny_bind (wpAny_pure (wpAny_pure ⟨_, rfl, wpAny_pure h⟩))) room)
    | exact wpAny_bind (wpAny_bind (m := Builtin.Tuple.tupleExact _) (wpAny_newObj_type (wpAny_pure (wpAny_pure ⟨_, rfl, wpAny_pure h⟩)) room))
    | exact wpAny_bind (wpAny_bind (m := Builtin.Tuple.tupleExact _) (wpAny_newObj_type (wpAny_pure ⟨_, rfl, wpAny_pure h⟩) room))
end
end HT
namespace PL
open PySem PySem.Spec PyProof.Rows L2
def tRev2 (K : PySem.W.Frag) (te tl ts : TE) : TE := fun σ H Q => te σ H fun x H1 => tPart tl σ H1 fun o H2 => tPart ts σ H2 fun o2 H3 => ∃ l a b c d, x = .ref l ∧ o = some 1 ∧ o2 = some (-1) ∧ SqT K H3 l [a, b, c, d] ∧ ∀ t, H3 t = none → Q (.ref t) (upd H3 t (.tup [b, a]))
theorem pe_rev2 {X : Cx} {e lo st : Expr} {te tl ts : TE} {p3 pos : Pos} (he : PE X e te) (hlo : PE X lo tl) (hst : PE X st ts) : PE X (.Subscript e (.Slice (some lo) none (some st) p3) pos) (tRev2 X.K te tl ts) := by
  refine ⟨fun pins s σ H Q I h => Subscript_ (thn (he.run pins s σ H _ I h) fun v sa ⟨x, Ha, Ia, ra, qa⟩ => ?_)⟩
  have one : PO X (some lo) _ := po_some hlo
  have no : PO X none _ := po_none
  have yes : PO X (some st) _ := po_some hst
  refine wpAny_Slice (thn (one.run pins sa σ Ha _ Ia qa) fun vl sb ⟨o, Hb, Ib, pl, qb⟩ => ?_)
  refine thn (no.run pins sb σ Hb (fun o H3 => o = none ∧ H3 = Hb) Ib ⟨rfl, rfl⟩) fun vu sc ⟨hi, Hc, Ic, pu, ehi, ec⟩ => ?_
  cases ehi
  cases ec
  refine thn (yes.run pins sc σ Hb _ Ic qb) fun vs sd ⟨o2, Hd, Id, ps, l, a, b, c, d, ex, eo, eo2, hx, q⟩ => ?_
  subst ex eo eo2
  cases ra
  cases (show vu = Value.none from by cases pu; rfl)
  have Ie : Inv X pins σ Hd { sd with heap := sd.heap.push { cls := .type "slice", data := .fields #[vl, .none, vs] } } := Id.kept (t' := sd.toks) fun c oc z => Heap.get?_push_of_some _ z
  obtain ⟨its, rv, ht, hz⟩ := Ie.tuple hx
  obtain ⟨u1, t1, rfl, r1, rv⟩ := (show ∃ u t, its = u :: t ∧ RelV a u ∧ Vals [b, c, d] t from by cases rv with | cons h t => exact ⟨_, _, rfl, h, t⟩)
  obtain ⟨u2, t2, rfl, r2, rv⟩ := (show ∃ u t, t1 = u :: t ∧ RelV b u ∧ Vals [c, d] t from by cases rv with | cons h t => exact ⟨_, _, rfl, h, t⟩)
  obtain ⟨u3, t3, rfl, r3, rv⟩ := (show ∃ u t, t2 = u :: t ∧ RelV c u ∧ Vals [d] t from by cases rv with | cons h t => exact ⟨_, _, rfl, h, t⟩)
  obtain ⟨u4, t4, rfl, r4, rv⟩ := (show ∃ u t, t3 = u :: t ∧ RelV d u ∧ Vals [] t from by cases rv with | cons h t => exact ⟨_, _, rfl, h, t⟩)
  cases rv
  refine tail_any (ops := [.ref l, .ref sd.heap.objs.size]) ht.typeIs (PyProof.Rows.slot_tuple_getitem.lookup) ?_ (by with_unfolding_all rfl)
  refine HT.getItem_rev2 ht (Heap.IsSliceOf.new _ vl .none vs) pl ps ?_
  exact ⟨.ref _, _, Ie.laid (t' := sd.toks) (o := .tup [b, a]) (fun c oc z => Heap.get?_push_of_some _ z) (Nat.le_refl _) ⟨by show (2 : Nat) ≤ sizeLine; rw [sizeLine_eq]; decide, _, .cons r2 (.cons r1 .nil), IsTup.new _ _⟩, rfl, q _ (Ie.hok.fresh (Nat.le_refl _))⟩
section
variable {X : Cx} {Γ : Slots} {γ γ1 γ2 γ3 : Cells} {a lo st : Expr} {ra r : Itm} {p p3 pos : Pos} {ds : List PyData} {d1 d2 d3 d4 : PyData}
theorem ev_rev2 (ha : EV X Γ γ a (.fz (.tuple [d1, d2, d3, d4])) γ1) (hl : EV X Γ γ1 lo (.fz (.int 1)) γ2) (hs : EV X Γ γ2 st (.fz (.int (-1))) γ3) : EV X Γ γ (.Subscript a (.Slice (some lo) none (some st) p3) pos) (.fz (.tuple [d2, d1])) γ3 := .mk fun F as σ H R E Q q => by
  refine ⟨_, pe_rev2 pe_wp pe_wp pe_wp, ha.go R E fun v F1 as1 H1 x1 R1 i1 => hl.go R1 (E.mono x1) fun u F2 as2 H2 x2 R2 i2 => ⟨1, itm_int.mp i2, hs.go R2 (E.mono (x1.trans x2)) fun u3 F3 as3 H3 x3 R3 i3 => ⟨-1, itm_int.mp i3, ?_⟩⟩⟩
  obtain ⟨l, us, rfl, p1, p2⟩ := itm_tup.mp (itm_mono (x2.trans x3) i1)
  cases p2 with | cons e1 p2 => cases p2 with | cons e2 p2 => cases p2 with | cons e3 p2 => cases p2 with | cons e4 p2 => cases p2 with | nil =>
  refine ⟨l, _, _, _, _, rfl, rfl, rfl, SqT.of (R3.fr _ _ p1), fun t ht => ?_⟩
  exact q _ _ as3 _ (((x1.trans x2).trans x3).trans ⟨R3.sameNew _ ht, [], by simp⟩) (R3.new _ ht) (itm_tup.mpr ⟨t, _, rfl, upd_same, .cons (dp_mono (R3.sameNew _ ht) e2) (.cons (dp_mono (R3.sameNew _ ht) e1) .nil)⟩)
theorem ev_tupleF (bt : Bt X "tuple") (ha : EV X Γ γ a r γ1) (hr : Rdb γ1 r (.list ds)) (hs : starEach [a] X.env = (false, eval a X.env) :: starEach [] X.env := by rfl) : EV X Γ γ (.Call (.Name "tuple" p) [a] [] pos) (.fz (.tuple ds)) γ1 :=
  ev_callTy call_tuple_of bt (by decide +kernel) (av_cons ha av_nil hs) (fun F as H vs R i Q q => by
    obtain ⟨v, rfl, h⟩ := itms1 i
    obtain ⟨l, us, rfl, k1, k2⟩ := hr.list R h
    exact ⟨l, us, rfl, .inl ⟨k1, fun t ht => q _ _ as _ ⟨R.sameNew _ ht, [], by simp⟩ (R.new _ ht) (itm_tup.mpr ⟨t, _, rfl, upd_same, dpAll_mono (R.sameNew _ ht) k2⟩)⟩⟩) (he := hs)
end
end PL

namespace KK
open PySem PySem.Spec PyProof.Rows L2 PL
def topS (i : Nat) : Stmt := PySem.Challenge.pw_hourring_k02_exchanges_told.main.body.getD i (.Pass ⟨0, 0, 0, 0⟩)
abbrev s_is_name : Stmt := topS 6
abbrev N_is_name : List Str := ["thing", "sign"]
theorem sc_is_name : FnScope N_is_name ["thing"] (defScope s_is_name) := ⟨rfl, rfl, rfl, by decide +kernel, rfl, by decide +kernel, by decide +kernel⟩
abbrev s_is_whole : Stmt := topS 7
abbrev N_is_whole : List Str := ["thing", "least", "most"]
theorem sc_is_whole : FnScope N_is_whole ["thing", "least", "most"] (defScope s_is_whole) := ⟨rfl, rfl, rfl, by decide +kernel, rfl, by decide +kernel, by decide +kernel⟩
abbrev s_skills_of : Stmt := topS 8
abbrev N_skills_of : List Str := ["day", "offers", "wishes", "skills", "row"]
theorem sc_skills_of : FnScope N_skills_of ["day"] (defScope s_skills_of) := ⟨rfl, rfl, rfl, by decide +kernel, rfl, by decide +kernel, by decide +kernel⟩
abbrev s_is_exchange : Stmt := topS 9
abbrev N_is_exchange : List Str := ["town", "day", "jobs", "offers", "wishes", "given", "taken", "giver", "_", "skill", "hours", "taker"]
theorem sc_is_exchange : FnScope N_is_exchange ["town", "day", "jobs"] (defScope s_is_exchange) := ⟨rfl, rfl, rfl, by decide +kernel, rfl, by decide +kernel, by decide +kernel⟩
abbrev s_moved : Stmt := topS 10
abbrev N_moved : List Str := ["jobs", "job"]
theorem sc_moved : FnScope N_moved ["jobs"] (defScope s_moved) := ⟨rfl, rfl, rfl, by decide +kernel, rfl, by decide +kernel, by decide +kernel⟩
abbrev s__is_row : Stmt := topS 11
abbrev N__is_row : List Str := ["thing", "length"]
theorem sc__is_row : FnScope N__is_row ["thing", "length"] (defScope s__is_row) := ⟨rfl, rfl, rfl, by decide +kernel, rfl, by decide +kernel, by decide +kernel⟩
abbrev s__is_town : Stmt := topS 12
abbrev N__is_town : List Str := ["thing", "row"]
theorem sc__is_town : FnScope N__is_town ["thing"] (defScope s__is_town) := ⟨rfl, rfl, rfl, by decide +kernel, rfl, by decide +kernel, by decide +kernel⟩
abbrev s__is_neighbour : Stmt := topS 13
abbrev N__is_neighbour : List Str := ["thing", "_", "purse", "floor", "ceiling", "hours"]
theorem sc__is_neighbour : FnScope N__is_neighbour ["thing"] (defScope s__is_neighbour) := ⟨rfl, rfl, rfl, by decide +kernel, rfl, by decide +kernel, by decide +kernel⟩
abbrev s__is_day : Stmt := topS 14
abbrev N__is_day : List Str := ["town", "thing", "offers", "wishes", "rows", "names", "row", "name", "skill", "_"]
theorem sc__is_day : FnScope N__is_day ["town", "thing"] (defScope s__is_day) := ⟨rfl, rfl, rfl, by decide +kernel, rfl, by decide +kernel, by decide +kernel⟩
abbrev s__is_offer_or_wish : Stmt := topS 15
abbrev N__is_offer_or_wish : List Str := ["thing", "names", "name", "skill", "hours"]
theorem sc__is_offer_or_wish : FnScope N__is_offer_or_wish ["thing", "names"] (defScope s__is_offer_or_wish) := ⟨rfl, rfl, rfl, by decide +kernel, rfl, by decide +kernel, by decide +kernel⟩
abbrev s__are_jobs : Stmt := topS 16
abbrev N__are_jobs : List Str := ["thing", "job", "giver", "taker", "skill", "_"]
theorem sc__are_jobs : FnScope N__are_jobs ["thing"] (defScope s__are_jobs) := ⟨rfl, rfl, rfl, by decide +kernel, rfl, by decide +kernel, by decide +kernel⟩
abbrev s__is_job : Stmt := topS 17
abbrev N__is_job : List Str := ["thing", "word"]
theorem sc__is_job : FnScope N__is_job ["thing"] (defScope s__is_job) := ⟨rfl, rfl, rfl, by decide +kernel, rfl, by decide +kernel, by decide +kernel⟩
abbrev s__covers : Stmt := topS 18
abbrev N__covers : List Str := ["rows", "shares", "name", "skill", "hours", "left"]
theorem sc__covers : FnScope N__covers ["rows", "shares"] (defScope s__covers) := ⟨rfl, rfl, rfl, by decide +kernel, rfl, by decide +kernel, by decide +kernel⟩
abbrev s__purses_hold : Stmt := topS 19
abbrev N__purses_hold : List Str := ["town", "jobs", "change", "giver", "taker", "_", "hours", "row", "name", "purse", "floor", "ceiling"]
theorem sc__purses_hold : FnScope N__purses_hold ["town", "jobs"] (defScope s__purses_hold) := ⟨rfl, rfl, rfl, by decide +kernel, rfl, by decide +kernel, by decide +kernel⟩
abbrev s_mixed : Stmt := topS 21
abbrev N_mixed : List Str := ["_law_script", "_law_k", "_law_cell"]
theorem sc_mixed : FnScope N_mixed ["_law_script", "_law_k"] (defScope s_mixed) := ⟨rfl, rfl, rfl, by decide +kernel, rfl, by decide +kernel, by decide +kernel⟩
abbrev s_turned : Stmt := topS 22
abbrev N_turned : List Str := ["_law_number", "_law_k"]
theorem sc_turned : FnScope N_turned ["_law_number", "_law_k"] (defScope s_turned) := ⟨rfl, rfl, rfl, by decide +kernel, rfl, by decide +kernel, by decide +kernel⟩
abbrev s_name : Stmt := topS 23
abbrev N_name : List Str := ["_law_seed", "_law_k", "_law_size_here", "_law_tail", "_law_at", "_law_j"]
theorem sc_name : FnScope N_name ["_law_seed", "_law_k"] (defScope s_name) := ⟨rfl, rfl, rfl, by decide +kernel, rfl, by decide +kernel, by decide +kernel⟩
abbrev s_size : Stmt := topS 24
abbrev N_size : List Str := ["_law_number", "_law_some"]
theorem sc_size : FnScope N_size ["_law_number"] (defScope s_size) := ⟨rfl, rfl, rfl, by decide +kernel, rfl, by decide +kernel, by decide +kernel⟩
abbrev s_town : Stmt := topS 25
abbrev N_town : List Str := ["_law_seed", "_law_many", "_law_found", "_law_k", "_law_low", "_law_purse", "_law_high", "_law_j"]
theorem sc_town : FnScope N_town ["_law_seed", "_law_many"] (defScope s_town) := ⟨rfl, rfl, rfl, by decide +kernel, rfl, by decide +kernel, by decide +kernel⟩
abbrev s_day : Stmt := topS 26
abbrev N_day : List Str := ["_law_town_here", "_law_seed", "_law_many", "_law_found", "_law_pairs", "_law_k", "_law_number", "_law_pair", "_law_hours"]
theorem sc_day : FnScope N_day ["_law_town_here", "_law_seed", "_law_many"] (defScope s_day) := ⟨rfl, rfl, rfl, by decide +kernel, rfl, by decide +kernel, by decide +kernel⟩
abbrev s_is_job : Stmt := topS 27
abbrev N_is_job : List Str := ["_law_job", "_law_day_here", "_law_offers", "_law_wishes", "_law_one", "_law_rows"]
theorem sc_is_job : FnScope N_is_job ["_law_job", "_law_day_here"] (defScope s_is_job) := ⟨rfl, rfl, rfl, by decide +kernel, rfl, by decide +kernel, by decide +kernel⟩
abbrev s_due : Stmt := topS 28
abbrev N_due : List Str := ["_law_town_here", "_law_day_here", "_law_jobs_here", "_law_side", "_law_name_here", "_law_skill", "_law_hours", "_law_purse", "_law_low", "_law_high", "_law_given", "_law_taken", "_law_job"]
theorem sc_due : FnScope N_due ["_law_town_here", "_law_day_here", "_law_jobs_here"] (defScope s_due) := ⟨rfl, rfl, rfl, by decide +kernel, rfl, by decide +kernel, by decide +kernel⟩
abbrev s_jobs : Stmt := topS 29
abbrev N_jobs : List Str := ["_law_day_here", "_law_seed", "_law_found", "_law_j", "_law_one", "_law_number", "_law_other", "_law_some", "_law_left", "_law_most", "_law_hours", "_law_job"]
theorem sc_jobs : FnScope N_jobs ["_law_day_here", "_law_seed"] (defScope s_jobs) := ⟨rfl, rfl, rfl, by decide +kernel, rfl, by decide +kernel, by decide +kernel⟩
abbrev s_bent : Stmt := topS 30
abbrev N_bent : List Str := ["_law_jobs_here", "_law_town_here", "_law_number", "_law_way", "_law_at", "_law_job", "_law_names", "_law_name_here", "_law_some", "_law_one"]
theorem sc_bent : FnScope N_bent ["_law_jobs_here", "_law_town_here", "_law_number"] (defScope s_bent) := ⟨rfl, rfl, rfl, by decide +kernel, rfl, by decide +kernel, by decide +kernel⟩
abbrev s_law : Stmt := topS 31
abbrev N_law : List Str := ["_law_script", "_law_k", "_law_number", "_law_town_here", "_law_day_here", "_law_jobs_here", "_law_handed", "_law_turn", "_law_told", "_law_job"]
theorem sc_law : FnScope N_law ["_law_script"] (defScope s_law) := ⟨rfl, rfl, rfl, by decide +kernel, rfl, by decide +kernel, by decide +kernel⟩
structure G0 (mg : Str → Option Value) : Prop where
  b_all : mg "all" = none
  b_bool : mg "bool" = none
  b_enumerate : mg "enumerate" = none
  b_int : mg "int" = none
  b_isinstance : mg "isinstance" = none
  b_len : mg "len" = none
  b_list : mg "list" = none
  b_max : mg "max" = none
  b_min : mg "min" = none
  b_range : mg "range" = none
  b_set : mg "set" = none
  b_sorted : mg "sorted" = none
  b_str : mg "str" = none
  b_sum : mg "sum" = none
  b_tuple : mg "tuple" = none
  c_MOST_HOURS : ∃ t, mg "MOST_HOURS" = some (.int 1000000000000000000000000000000 t)
  c_MOST_LETTERS : ∃ t, mg "MOST_LETTERS" = some (.int 8 t)
  c_MOST_NEIGHBOURS : ∃ t, mg "MOST_NEIGHBOURS" = some (.int 12 t)
  c_MOST_ROWS : ∃ t, mg "MOST_ROWS" = some (.int 40 t)
  c_MOST_SKILLS : ∃ t, mg "MOST_SKILLS" = some (.int 12 t)
section
variable {α : Type} {a b c d e f g h : α} {r : List α}
theorem ix_0 : atI (a :: r) 0 = some a := atI_nat (j := 0) rfl
theorem ix_1 : atI (a :: b :: r) 1 = some b := atI_nat (j := 1) rfl
theorem ix_2 : atI (a :: b :: c :: r) 2 = some c := atI_nat (j := 2) rfl
theorem ix_3 : atI (a :: b :: c :: d :: r) 3 = some d := atI_nat (j := 3) rfl
theorem ix_4 : atI (a :: b :: c :: d :: e :: r) 4 = some e := atI_nat (j := 4) rfl
end
theorem cutD_map {α β : Type} (f : α → β) (xs : List α) (lo hi : Option Int) : PL.cutD (xs.map f) lo hi = (PL.cutD xs lo hi).map f := by
  unfold PL.cutD
  rw [List.length_map, List.map_take, List.map_drop]
theorem cutD_length {α : Type} (xs : List α) (lo hi : Option Int) : (PL.cutD xs lo hi).length ≤ xs.length := by
  unfold PL.cutD
  rw [List.length_take, List.length_drop]
  omega
theorem atI_map {α β : Type} (f : α → β) (xs : List α) (i : Int) : atI (xs.map f) i = (atI xs i).map f := by
  unfold atI
  rw [List.length_map]
  cases ixN xs.length i with
  | none => rfl
  | some j => simp
theorem at0 (xs : List Int) (h : xs ≠ []) : ∃ z : Int, (atI xs 0).map PyData.int = some (.int z) := by
  cases xs with
  | nil => exact (h rfl).elim
  | cons x r => exact ⟨x, by rw [ix_0]; rfl⟩
theorem small_mul {i j : Int} (a b : Nat) (ha : i.natAbs < 2 ^ a) (hb : j.natAbs < 2 ^ b) (h0 : 0 < a := by decide) (h1 : 0 < b := by decide) (h : a + b ≤ 1000000 := by decide) : CMulW i j := wide_mul ha hb h0 h1 h
theorem av_consF {X : Cx} {Γ : Slots} {γ γ1 γ2 : Cells} {e : Expr} {es : List Expr} {d : PyData} {ds : List PyData} (h : EV X Γ γ e (.fz d) γ1) (hr : AV X Γ γ1 es (ds.map Itm.fz) γ2) (hs : starEach (e :: es) X.env = (false, eval e X.env) :: starEach es X.env := by rfl) : AV X Γ γ (e :: es) ((d :: ds).map Itm.fz) γ2 := av_cons h hr hs
theorem av_nilF {X : Cx} {Γ : Slots} {γ : Cells} : AV X Γ γ [] (([] : List PyData).map Itm.fz) γ := av_nil
theorem fin_set {P : EPost} {d : PyData} {γ : Cells} {c : Nat} {xs : List Itm} (h : Clo γ) (hx : ∀ x ∈ xs, ∃ d, x = Itm.fz d) (hp : P (.fz d) (γ.set c (.lst xs))) : PL.Fin γ.length P (.fz d) (γ.set c (.lst xs)) :=
  ⟨γ.set c (.lst xs), [], by simp, by simp, clo_set h (fun x hm => by obtain ⟨d, rfl⟩ := hx x hm; exact .fz d), .fz d, hp⟩

/-- the counter of the draws is k, in cell c -/
def at_ (γ : Cells) (c : Nat) (k : Int) : Cells := γ.set c (.lst [.fz (.int k)])
theorem at_at (γ : Cells) (c : Nat) (k k' : Int) : (at_ γ c k).set c (.lst [.fz (.int k')]) = at_ γ c k' := List.set_set ..
theorem at_len (γ : Cells) (c : Nat) (k : Int) : (at_ γ c k).length = γ.length := List.length_set
theorem at_get {γ : Cells} {c : Nat} (h : c < γ.length) (k : Int) : (at_ γ c k)[c]? = some (.lst [.fz (.int k)]) := List.getElem?_set_self h
theorem at_ne {γ : Cells} {c j : Nat} (h : c ≠ j) (k : Int) : (at_ γ c k)[j]? = γ[j]? := List.getElem?_set_ne h
theorem at_app {γ : Cells} {c : Nat} (h : c < γ.length) (k : Int) (ex : Cells) : at_ γ c k ++ ex = at_ (γ ++ ex) c k := (List.set_append_left _ _ h).symm
theorem at_clo {γ : Cells} {c : Nat} {k : Int} (k' : Int) (h : Clo (at_ γ c k)) : Clo (at_ γ c k') := by
  rw [← at_at γ c k k']
  exact clo_set h (fun x hx => by
    obtain rfl : x = .fz (.int k') := by simpa using hx
    exact .fz _)
theorem fin_at {P : EPost} {d : PyData} {γ : Cells} {c : Nat} {k k' : Int} (h : Clo (at_ γ c k)) (hp : P (.fz d) (at_ γ c k')) : PL.Fin (at_ γ c k).length P (.fz d) (at_ γ c k') :=
  ⟨at_ γ c k', [], by simp, by rw [at_len, at_len]; exact Nat.le_refl _, at_clo k' h, .fz d, hp⟩
theorem fin_at_junk {P : EPost} {d : PyData} {γ junk : Cells} {c : Nat} {k k' : Int} (hc : c < γ.length) (h : Clo (at_ γ c k)) (hp : P (.fz d) (at_ γ c k')) : PL.Fin (at_ γ c k).length P (.fz d) (at_ (γ ++ junk) c k') :=
  ⟨at_ γ c k', junk, (at_app hc k' junk).symm, by rw [at_len, at_len]; exact Nat.le_refl _, at_clo k' h, .fz d, hp⟩
/-- an item at an open place of a display -/
theorem pick_go {C : PyData → Prop} {ds : List PyData} {i : Int} {g : Cells} (G : PyData → Prop) (h0 : 0 ≤ i) (h1 : i < ds.length) (hall : ∀ d ∈ ds, G d) (k : ∀ d, G d → C d) :
    ∃ ds' i' d, Rdb g (.fz (.list ds)) (.list ds') ∧ (Itm.fz (.int i)) = .fz (.int i') ∧ atI ds' i' = some d ∧ C d := by
  have hlt : i.toNat < ds.length := by omega
  refine ⟨ds, i, ds[i.toNat], .fz _, rfl, ?_, k _ (hall _ (List.getElem_mem hlt))⟩
  have h := atI_nat (List.getElem?_eq_getElem hlt)
  rw [Int.toNat_of_nonneg h0] at h
  exact h
def iB (lo hi : Int) (d : PyData) : Prop := ∃ z : Int, d = .int z ∧ lo ≤ z ∧ z ≤ hi
theorem all_nil {G : PyData → Prop} : ∀ d ∈ ([] : List PyData), G d := fun _ h => by simp at h
theorem all_cons {G : PyData → Prop} {d : PyData} {ds : List PyData} (h : G d) (t : ∀ x ∈ ds, G x) : ∀ x ∈ d :: ds, G x := fun x hx => by
  rcases List.mem_cons.mp hx with rfl | hx
  · exact h
  · exact t x hx
theorem at_last {γ : Cells} {c : Nat} (h : c < γ.length) (k : Int) (o : Cell) : (at_ (γ ++ [o]) c k)[γ.length]? = some o := by
  rw [at_ne (by omega), List.getElem?_append_right (Nat.le_refl _)]; simp
theorem at_setl {γ : Cells} {c : Nat} (h : c < γ.length) (k : Int) (o o' : Cell) : (at_ (γ ++ [o]) c k).set γ.length o' = at_ (γ ++ [o']) c k := by
  rw [← at_app h, ← at_app h, List.set_append_right _ _ (by rw [at_len]; exact Nat.le_refl _), at_len, Nat.sub_self]; rfl

local macro_rules | `(tactic| tm_at "nm") => `(tactic| with_reducible first | assumption | exact Nm.r (by assumption))
local macro_rules | `(tactic| tm_at "bt") => `(tactic| with_reducible assumption)
local macro_rules | `(tactic| tm_at "asm") => `(tactic| assumption)
local macro_rules | `(tactic| tm_at "auto") => `(tactic| first | rfl | exact fun _ _ => rfl | (intro _; rfl) | decide | exact nomark _ | (with_unfolding_all rfl))
local macro_rules | `(tactic| tm_at "boot") => `(tactic| decide +kernel)
local macro_rules | `(tactic| tm_at "kit") => `(tactic| first | exact kit_int _ | exact kit_bool _ | exact kit_str _ | exact kit_list _ | exact kit_tuple _ | exact kit_dict _)
local macro_rules | `(tactic| tm_at "side") => `(tactic| first | assumption | decide | omega | (simp only [List.length_map, List.length_cons, List.length_nil, List.length_append]; omega) | (simp; done))
local macro_rules | `(tactic| tm_at "pos") => `(tactic| first | decide | assumption | exact Int.pow_pos (by decide) | omega)
local macro_rules | `(tactic| tm_at "mul") => `(tactic| first | assumption | (exact small_mul 200 200 (by omega) (by omega)))
local macro_rules | `(tactic| tm_at "div") => `(tactic| first | assumption | (exact wide_div (b := 200) (by omega) (by omega) (by decide) (by decide)))
local macro_rules | `(tactic| tm_at "pow") => `(tactic| (refine ⟨?_, ?_, ?_⟩ <;> decide))
local macro_rules | `(tactic| tm_at "rd") => `(tactic| first | exact Rdb.fz _ | exact Rdb.cl (by assumption) | exact Rdb.cl rfl)
local macro_rules | `(tactic| tm_at "rdl") => `(tactic| first | exact .inr rfl | exact .inl (by tm_at "rd"))
local macro_rules | `(tactic| tm_at "ix") => `(tactic| first | assumption | exact ix_0 | exact ix_1 | exact ix_2 | exact ix_3 | exact ix_4 | rfl)
local macro_rules | `(tactic| tm_at "cmp") => `(tactic| first | exact cmp_lt | exact cmp_le | exact cmp_gt | exact cmp_ge | exact cmp_eqI | exact cmp_neI | exact cmp_eqS | exact cmp_neS | exact cmp_leS | exact cmp_ltS | exact cmp_inSign | exact cmp_notInSign | exact cmp_isB | exact cmp_notB | exact cmp_isN | exact cmp_notN | exact cmp_eqB | exact cmp_neB)
local macro_rules | `(tactic| tm_at "intro") => `(tactic| (intro _; tm_at "e"))
local macro_rules | `(tactic| tm_at "introe") => `(tactic| (intro _; tm_at "e"))
local macro_rules | `(tactic| tm_at "introw") => `(tactic| (intro _; tm_at "w"))
local macro_rules | `(tactic| tm_at "a") => `(tactic| first
  | exact av_nil
  | (apply av_cons; (focus tm_at "e"); (focus tm_at "a"); (focus tm_at "auto")))
local macro_rules | `(tactic| tm_at "alli") => `(tactic| (repeat (first | exact all_nil | (refine all_cons ⟨_, rfl, ?_, ?_⟩ ?_; (focus omega); (focus omega)))))
local macro_rules | `(tactic| tm_at "afz") => `(tactic| first
  | exact av_nilF
  | (apply av_consF; (focus tm_at "e"); (focus tm_at "afz"); (focus tm_at "auto")))
local macro_rules | `(tactic| tm_at "o") => `(tactic| first
  | exact ov_none
  | (apply ov_some; (focus tm_at "e")))
local macro_rules | `(tactic| tm_at "e") => `(tactic| ((with_reducible show EV _ _ _ (Expr.Tuple _ _ _) _ _); first | (apply ev_tup; (focus tm_at "afz"); (focus tm_at "side"))))
local macro_rules | `(tactic| tm_at "e") => `(tactic| ((with_reducible show EV _ _ _ (Expr.List _ _) _ _); first | (apply ev_lst; (focus tm_at "afz"); (focus tm_at "side"))))
local macro_rules | `(tactic| tm_at "e") => `(tactic| ((with_reducible show EV _ _ _ (Expr.Call (Expr.Attribute _ _ _) _ _ _) _ _); first | (apply ev_join; (focus tm_at "e"); (focus tm_at "e"); (focus tm_at "rd"); (focus tm_at "side"); (focus tm_at "auto"); (focus tm_at "auto"); (focus tm_at "auto"))))
local macro_rules | `(tactic| tm_at "e") => `(tactic| ((with_reducible show EV _ _ _ (Expr.Call (Expr.Name _ _) _ _ _) _ _); first | (apply ev_lenL; (focus tm_at "bt"); (focus tm_at "e"); (focus tm_at "rd"); (focus tm_at "auto")) | (apply ev_lenC; (focus tm_at "bt"); (focus tm_at "e"); (focus tm_at "ix"); (focus tm_at "auto")) | (apply ev_lenT; (focus tm_at "bt"); (focus tm_at "e"); (focus tm_at "auto")) | (apply ev_lenS; (focus tm_at "bt"); (focus tm_at "e"); (focus tm_at "side"); (focus tm_at "auto")) | (apply ev_max2; (focus tm_at "asm"); (focus tm_at "bt"); (focus tm_at "e"); (focus tm_at "e"); (focus tm_at "auto"); (focus tm_at "auto"); (focus tm_at "auto")) | (apply ev_min2; (focus tm_at "asm"); (focus tm_at "bt"); (focus tm_at "e"); (focus tm_at "e"); (focus tm_at "auto"); (focus tm_at "auto"); (focus tm_at "auto")) | (apply ev_intB; (focus tm_at "bt"); (focus tm_at "e"); (focus tm_at "auto")) | (apply ev_intI; (focus tm_at "bt"); (focus tm_at "e"); (focus tm_at "auto")) | (apply ev_abs; (focus tm_at "bt"); (focus tm_at "e"); (focus tm_at "auto")) | (apply ev_sum; (focus tm_at "asm"); (focus tm_at "bt"); (focus tm_at "e"); (focus tm_at "rd"); (focus tm_at "auto")) | (apply ev_listF; (focus tm_at "bt"); (focus tm_at "e"); (focus tm_at "rdl"); (focus tm_at "auto")) | (apply ev_sorted; (focus tm_at "bt"); (focus tm_at "e"); (focus tm_at "rd"); (focus tm_at "auto")) | (apply ev_isi; (focus tm_at "bt"); (focus tm_at "bt"); (focus tm_at "boot"); (focus tm_at "e"); (focus tm_at "rd"); (focus tm_at "kit"); (focus tm_at "auto"); (focus tm_at "auto"); (focus tm_at "auto"); (focus tm_at "auto"); (focus tm_at "auto"))))
local macro_rules | `(tactic| tm_at "e") => `(tactic| ((with_reducible show EV _ _ _ (Expr.BoolOp BoolOp.Or _ _) _ _); first | (apply ev_or; (focus tm_at "e"); (focus tm_at "introe"))))
local macro_rules | `(tactic| tm_at "e") => `(tactic| ((with_reducible show EV _ _ _ (Expr.BoolOp BoolOp.And _ _) _ _); first | (apply ev_and; (focus tm_at "e"); (focus tm_at "introe"))))
local macro_rules | `(tactic| tm_at "e") => `(tactic| ((with_reducible show EV _ _ _ (Expr.BoolOp _ [_] _) _ _); first | (apply ev_one; (focus tm_at "e"))))
local macro_rules | `(tactic| tm_at "e") => `(tactic| ((with_reducible show EV _ _ _ (Expr.IfExp _ _ _ _) _ _); first | (apply ev_ifx; (focus tm_at "t"); (focus tm_at "intro"); (focus tm_at "intro"))))
local macro_rules | `(tactic| tm_at "e") => `(tactic| ((with_reducible show EV _ _ _ (Expr.Compare _ [_, _] [_, _] _) _ _); first | (apply ev_chain2; (focus tm_at "e"); (focus tm_at "e"); (focus tm_at "cmp"); (focus tm_at "e"); (focus tm_at "cmp"); (focus tm_at "auto"))))
local macro_rules | `(tactic| tm_at "e") => `(tactic| ((with_reducible show EV _ _ _ (Expr.Compare _ [_] [_] _) _ _); first | (apply ev_cmp; (focus tm_at "e"); (focus tm_at "e"); (focus tm_at "cmp"); (focus tm_at "auto"))))
local macro_rules | `(tactic| tm_at "e") => `(tactic| ((with_reducible show EV _ _ _ (Expr.UnaryOp UnaryOp.Not _ _) _ _); first | (apply ev_not; (focus tm_at "e"))))
local macro_rules | `(tactic| tm_at "e") => `(tactic| ((with_reducible show EV _ _ _ (Expr.UnaryOp UnaryOp.USub _ _) _ _); first | (apply ev_neg; (focus tm_at "e"))))
local macro_rules | `(tactic| tm_at "e") => `(tactic| ((with_reducible show EV _ _ _ (Expr.Subscript _ _ _) _ _); first | (apply ev_ixL; (focus tm_at "e"); (focus tm_at "e"); (focus tm_at "rd"); (focus tm_at "ix"); (focus tm_at "auto")) | (apply ev_ixT; (focus tm_at "e"); (focus tm_at "e"); (focus tm_at "ix"); (focus tm_at "auto")) | (apply ev_ixC; (focus tm_at "e"); (focus tm_at "e"); (focus tm_at "ix"); (focus tm_at "ix"); (focus tm_at "auto")) | (apply ev_ixP; (focus tm_at "e"); (focus tm_at "e"); (focus tm_at "ix"); (focus tm_at "auto")) | (apply ev_ixS; (focus tm_at "e"); (focus tm_at "e"); (focus tm_at "side"); (focus tm_at "asm"); (focus tm_at "auto"))))
local macro_rules | `(tactic| tm_at "e") => `(tactic| ((with_reducible show EV _ _ _ (Expr.Subscript _ (Expr.Slice _ _ _ _) _) _ _); first | (apply ev_slL; (focus tm_at "e"); (focus tm_at "o"); (focus tm_at "o"); (focus tm_at "rd")) | (apply ev_slT; (focus tm_at "e"); (focus tm_at "o"); (focus tm_at "o"); (focus tm_at "side")) | (apply ev_slS; (focus tm_at "e"); (focus tm_at "o"); (focus tm_at "o"); (focus tm_at "side"))))
local macro_rules | `(tactic| tm_at "e") => `(tactic| ((with_reducible show EV _ _ _ (Expr.BinOp _ Operator.Pow _ _) _ _); first | (apply ev_pow; (focus tm_at "e"); (focus tm_at "e"); (focus tm_at "pow"))))
local macro_rules | `(tactic| tm_at "e") => `(tactic| ((with_reducible show EV _ _ _ (Expr.BinOp _ Operator.FloorDiv _ _) _ _); first | (apply ev_div; (focus tm_at "e"); (focus tm_at "e"); (focus tm_at "div"))))
local macro_rules | `(tactic| tm_at "e") => `(tactic| ((with_reducible show EV _ _ _ (Expr.BinOp _ Operator.Mod _ _) _ _); first | (apply ev_mod; (focus tm_at "e"); (focus tm_at "e"); (focus tm_at "pos"))))
local macro_rules | `(tactic| tm_at "e") => `(tactic| ((with_reducible show EV _ _ _ (Expr.BinOp _ Operator.Mult _ _) _ _); first | (apply ev_mul; (focus tm_at "e"); (focus tm_at "e"); (focus tm_at "mul")) | (apply ev_repF; (focus tm_at "afz"); (focus tm_at "e"); (focus tm_at "side"); (focus tm_at "side"); (focus tm_at "side"))))
local macro_rules | `(tactic| tm_at "e") => `(tactic| ((with_reducible show EV _ _ _ (Expr.BinOp _ Operator.Sub _ _) _ _); first | (apply ev_sub; (focus tm_at "e"); (focus tm_at "e"))))
local macro_rules | `(tactic| tm_at "e") => `(tactic| ((with_reducible show EV _ _ _ (Expr.BinOp _ Operator.Add _ _) _ _); first | (apply ev_add; (focus tm_at "e"); (focus tm_at "e")) | (apply ev_catF; (focus tm_at "e"); (focus tm_at "e"); (focus tm_at "rd"); (focus tm_at "rd"); (focus tm_at "side")) | (apply ev_addS; (focus tm_at "e"); (focus tm_at "e"); (focus tm_at "side")) | (apply ev_catT; (focus tm_at "e"); (focus tm_at "e"); (focus tm_at "side"))))
local macro_rules | `(tactic| tm_at "e") => `(tactic| ((with_reducible show EV _ _ _ (Expr.Name _ _) _ _); first | (apply ev_name; (focus tm_at "nm"); (focus rfl))))
local macro_rules | `(tactic| tm_at "e") => `(tactic| ((with_reducible show EV _ _ _ (Expr.Constant _ _ _) _ _); first | exact ev_int | exact ev_bl | exact ev_str | exact ev_non))
local macro_rules | `(tactic| tm_at "t") => `(tactic| ((with_reducible show TV _ _ _ _ _ _); first | (apply tv_val; (focus tm_at "e"); (focus tm_at "auto")) | (apply tv_truthL; (focus tm_at "e"); (focus tm_at "rd"); (focus tm_at "auto")) | (apply tv_truthI; (focus tm_at "e"); (focus tm_at "auto"))))
local macro_rules | `(tactic| tm_at "t") => `(tactic| ((with_reducible show TV _ _ _ (Expr.BoolOp _ _ _) _ _); first | (apply tv_w; (focus tm_at "w"))))
local macro_rules | `(tactic| tm_at "t") => `(tactic| ((with_reducible show TV _ _ _ (Expr.UnaryOp UnaryOp.Not _ _) _ _); first | (apply tv_not; (focus tm_at "t"))))
local macro_rules | `(tactic| tm_at "t") => `(tactic| ((with_reducible show TV _ _ _ (Expr.Compare _ [_, _] [_, _] _) _ _); first | (apply tv_chain2; (focus tm_at "e"); (focus tm_at "e"); (focus tm_at "cmp"); (focus tm_at "e"); (focus tm_at "cmp"); (focus tm_at "auto"))))
local macro_rules | `(tactic| tm_at "t") => `(tactic| ((with_reducible show TV _ _ _ (Expr.Compare _ [_] [_] _) _ _); first | (apply tv_cmp; (focus tm_at "e"); (focus tm_at "e"); (focus tm_at "cmp"); (focus tm_at "auto"))))
local macro_rules | `(tactic| tm_at "w") => `(tactic| ((with_reducible show WV _ _ _ (Expr.BoolOp BoolOp.Or _ _) _ _); first | (apply wv_or; (focus tm_at "t"); (focus tm_at "introw"))))
local macro_rules | `(tactic| tm_at "w") => `(tactic| ((with_reducible show WV _ _ _ (Expr.BoolOp BoolOp.And _ _) _ _); first | (apply wv_and; (focus tm_at "t"); (focus tm_at "introw"))))
local macro_rules | `(tactic| tm_at "w") => `(tactic| ((with_reducible show WV _ _ _ (Expr.BoolOp BoolOp.Or [_] _) _ _); first | (apply wv_or1; (focus tm_at "t"))))
local macro_rules | `(tactic| tm_at "w") => `(tactic| ((with_reducible show WV _ _ _ (Expr.BoolOp BoolOp.And [_] _) _ _); first | (apply wv_and1; (focus tm_at "t"))))
local macro_rules | `(tactic| tm_at "ee") => `(tactic| first
  | (apply EE.of; (focus tm_at "e"); try (tm_at "ee"))
  | (refine ee_call' (by assumption) ?_; apply AE.of; (focus tm_at "a"))
  | (with_reducible refine ee_mod ?_; tm_at "ee")
  | (with_reducible refine ee_add ?_; tm_at "ee")
  | (with_reducible refine ee_sub ?_; tm_at "ee")
  | (with_reducible refine ee_mul ?_; tm_at "ee")
  | (with_reducible refine ee_div ?_; tm_at "ee")
  | (with_reducible refine ee_ixL ?_; tm_at "ee")
  | (refine ⟨_, rfl, ?_⟩; tm_at "ee"))

theorem fin_at_junk' {P : EPost} {d : PyData} {γ junk : Cells} {c : Nat} {k k' : Int} (hc : c < γ.length) (h : Clo (at_ γ c k)) (hp : P (.fz d) (at_ γ c k')) : PL.Fin γ.length P (.fz d) (at_ (γ ++ junk) c k') := by
  have := fin_at_junk (junk := junk) hc h hp
  rwa [at_len] at this
theorem b30 : (10 : Int) ^ (30 : Int).toNat = 1000000000000000000000000000000 := by decide +kernel
theorem b20 : (10 : Int) ^ (20 : Int).toNat = 100000000000000000000 := by decide +kernel
theorem b9 : (10 : Int) ^ (9 : Int).toNat = 1000000000 := by decide +kernel
theorem b6 : (10 : Int) ^ (6 : Int).toNat = 1000000 := by decide +kernel
abbrev B30 : Int := 1000000000000000000000000000000
def cellsOf (ns : List Int) : List Int := if ns = [] then [0] else ns
theorem cells_eq (ns : List Int) (hn : ns.length ≤ 63) : ns.map PyData.int ++ PL.repD [PyData.int 0] (if PyData.eqv (.list (ns.map .int)) (.list []) = true then 1 else 0) = (cellsOf ns).map PyData.int := by
  cases ns with
  | nil => rfl
  | cons a r =>
    have e : PyData.eqv (.list ((a :: r).map .int)) (.list []) = false := by simp [PyData.eqv, PyData.eqvAll]
    rw [e]
    simp [cellsOf, PL.repD]
theorem cells_len (ns : List Int) (hn : ns.length ≤ 63) : 0 < (cellsOf ns).length ∧ (cellsOf ns).length ≤ 63 := by
  unfold cellsOf
  cases ns with
  | nil => simp
  | cons a r => simp at hn ⊢; omega
theorem atInts {L : List Int} (h : L ≠ []) (k : Int) : ∃ z : Int, atI (L.map PyData.int) (k % ((L.map PyData.int).length : Int)) = some (.int z) := by
  have hl : 0 < L.length := List.length_pos_iff.mpr h
  rw [List.length_map]
  have h1 := Int.emod_nonneg k (show (L.length : Int) ≠ 0 by omega)
  have h2 := Int.emod_lt_of_pos k (show 0 < (L.length : Int) by omega)
  have hlt : (k % (L.length : Int)).toNat < L.length := by omega
  refine ⟨L[(k % (L.length : Int)).toNat], ?_⟩
  have h := atI_nat (xs := L.map PyData.int) (j := (k % (L.length : Int)).toNat) (v := .int L[(k % (L.length : Int)).toNat]) (by rw [List.getElem?_map, List.getElem?_eq_getElem hlt]; rfl)
  rw [Int.toNat_of_nonneg h1] at h
  exact h
/-! ### names -/
def NmOk (z : Str) : Prop := 1 ≤ z.length ∧ z.length ≤ 8 ∧ Lows z
theorem mkN_len' (f : Str) (t c : Nat) : (mkN f t c).length = f.length + 1 := by
  rcases Nat.le_total t f.length with h | h
  · exact mkN_len h
  · unfold mkN
    have e1 : (cutS f none (some (t : Int))).length = f.length := by
      rw [str_len]
      show (List.toArray _).toList.length = _
      rw [List.toList_toArray, List.length_take, List.length_drop, HT.sIx_none, HT.sIx_nat, ← str_len]
      omega
    have e2 : (cutS f (some (t : Int)) none).length = 0 := by
      rw [str_len]
      show (List.toArray _).toList.length = _
      rw [List.toList_toArray, List.length_take, List.length_drop, HT.sIx_none, HT.sIx_nat, ← str_len]
      omega
    rw [length_addS, length_addS, e1, e2]
    rfl
theorem nms_nmok {f : Str} (t : Nat) (hf : Lows f) (hl : f.length ≤ 7) (a s : Int) (n : Nat) : ∀ z ∈ nms f t a s n, NmOk z := fun z hz => by
  obtain ⟨k, hk, rfl⟩ := List.mem_map.mp hz
  refine ⟨?_, ?_, mkN_lows hf (low_abc (Int.emod_nonneg _ (by decide)) (Int.emod_lt_of_pos _ (by decide)))⟩ <;> rw [mkN_len'] <;> omega

/-! ### towns -/
abbrev Nb := Str × Int × Int × Int
def dNb (a : Nb) : PyData := .tuple [.str a.1, .int a.2.1, .int a.2.2.1, .int a.2.2.2]
structure NbOk (a : Nb) : Prop where
  nm : NmOk a.1
  lo : -1000000000000000000000000000000 ≤ a.2.2.1
  le : a.2.2.1 ≤ a.2.1
  ge : a.2.1 ≤ a.2.2.2
  hi : a.2.2.2 ≤ 1000000000000000000000000000000
structure Town (t : List Nb) : Prop where
  len : t.length ≤ 12
  nd : (t.map (·.1)).Nodup
  ok : ∀ a ∈ t, NbOk a

/-! ### days -/
abbrev Rw := Str × Str × Int
def dRw (a : Rw) : PyData := .tuple [.str a.1, .str a.2.1, .int a.2.2]
abbrev Day := List Rw × List Rw
def dDay (d : Day) : PyData := .tuple [.list (d.1.map dRw), .list (d.2.map dRw)]
def rows (d : Day) : List Rw := d.1 ++ d.2
def prs (L : List Rw) : List (Str × Str) := L.map fun a => (a.1, a.2.1)
structure RwOk (a : Rw) : Prop where
  nm : NmOk a.1
  sk : NmOk a.2.1
  h0 : 1 ≤ a.2.2
  h1 : a.2.2 ≤ 1000000000000000000000000000000
/-- the rows of a day as they are drawn -/
structure Rows (t : List Nb) (zs : List Str) (L : List Rw) : Prop where
  ok : ∀ a ∈ L, RwOk a
  nm : ∀ a ∈ L, a.1 ∈ t.map (·.1)
  sk : ∀ a ∈ L, a.2.1 ∈ zs
  nd : (prs L).Nodup
theorem Rows.snoc {t zs} {L L' : List Rw} {r : Rw} (h : Rows t zs L) (hp : L'.Perm (r :: L)) (hr : RwOk r) (hm : r.1 ∈ t.map (·.1)) (hs : r.2.1 ∈ zs) (hn : (r.1, r.2.1) ∉ prs L) : Rows t zs L' := by
  have all : ∀ {Q : Rw → Prop}, Q r → (∀ a ∈ L, Q a) → ∀ a ∈ L', Q a := fun {Q} q1 q2 a ha => by
    rcases List.mem_cons.mp (hp.mem_iff.mp ha) with rfl | ha
    · exact q1
    · exact q2 a ha
  refine ⟨all hr h.ok, all hm h.nm, all hs h.sk, ?_⟩
  have : (prs L').Perm (prs (r :: L)) := hp.map _
  rw [this.nodup_iff]
  exact List.nodup_cons.mpr ⟨hn, h.nd⟩
theorem Rows.none (t zs) : Rows t zs [] := ⟨by simp, by simp, by simp, by simp [prs]⟩
theorem natOf {d : Int} {n : Nat} (h0 : 0 ≤ d) (h1 : d < (n : Int)) : ∃ j : Nat, d = (j : Int) ∧ j < n := ⟨d.toNat, by omega, by omega⟩
theorem atMap {α : Type} {f : α → PyData} {L : List α} {j : Nat} (h : j < L.length) : atI (L.map f) (j : Int) = some (f L[j]) := by
  refine atI_nat ?_
  rw [List.getElem?_map, List.getElem?_eq_getElem h]; rfl
theorem empD {α : Type} (f : α → PyData) (t : List α) : PyData.eqv (.list (t.map f)) (.list []) = t.isEmpty := by
  cases t <;> simp [PyData.eqv, PyData.eqvAll]
theorem shp_nb {a : Nb} (h : NbOk a) : Shp 1 (dNb a) := shp_tuple (n := 0) fun d hd => by
  simp at hd
  rcases hd with rfl | rfl | rfl | rfl
  · exact shp_low h.nm.2.2
  all_goals exact shp_int _
theorem shp_town {t : List Nb} (h : ∀ a ∈ t, NbOk a) : Shp 2 (.list (t.map dNb)) := shp_list (n := 1) fun d hd => by
  obtain ⟨a, ha, rfl⟩ := List.mem_map.mp hd
  exact shp_nb (h a ha)
section
variable (γ : Cells) (c : Nat) (k : Int) (o1 o2 o3 o : Cell)
theorem a3_0 (h : c < γ.length) : (at_ (γ ++ [o1, o2, o3]) c k)[γ.length]? = some o1 := by rw [at_ne (by omega), List.getElem?_append_right (Nat.le_refl _)]; simp
theorem a3_1 (h : c < γ.length) : (at_ (γ ++ [o1, o2, o3]) c k)[γ.length + 1]? = some o2 := by rw [at_ne (by omega), List.getElem?_append_right (by omega)]; simp
theorem a3_2 (h : c < γ.length) : (at_ (γ ++ [o1, o2, o3]) c k)[γ.length + 2]? = some o3 := by rw [at_ne (by omega), List.getElem?_append_right (by omega)]; simp
theorem a3_s0 (h : c < γ.length) : (at_ (γ ++ [o1, o2, o3]) c k).set γ.length o = at_ (γ ++ [o, o2, o3]) c k := by
  rw [← at_app h, ← at_app h, List.set_append_right _ _ (by rw [at_len]; omega), at_len]; simp
theorem a3_s1 (h : c < γ.length) : (at_ (γ ++ [o1, o2, o3]) c k).set (γ.length + 1) o = at_ (γ ++ [o1, o, o3]) c k := by
  rw [← at_app h, ← at_app h, List.set_append_right _ _ (by rw [at_len]; omega), at_len]; simp
theorem a3_s2 (h : c < γ.length) : (at_ (γ ++ [o1, o2, o3]) c k).set (γ.length + 2) o = at_ (γ ++ [o1, o2, o]) c k := by
  rw [← at_app h, ← at_app h, List.set_append_right _ _ (by rw [at_len]; omega), at_len]; simp
end
abbrev cR (l : List Rw) : Cell := .lst ((l.map dRw).map Itm.fz)
def k2 (q : Str × Str) : List Key := [Sum.inr q.1, Sum.inr q.2]
theorem k2_inj {a b : Str × Str} (h : k2 a = k2 b) : a = b := by
  obtain ⟨a1, a2⟩ := a
  obtain ⟨b1, b2⟩ := b
  simp only [k2, List.cons.injEq, and_true, Sum.inr.injEq] at h
  rw [h.1, h.2]
def seenL (ps : List (Str × Str)) : List (List Key × Itm) := ps.map fun q => (k2 q, .fz (.bool true))
theorem seen_is (ps : List (Str × Str)) (q : Str × Str) : (valI (seenL ps) (k2 q)).isSome = decide (q ∈ ps) := by
  have : (seenL ps).map (·.1) = ps.map k2 := by simp [seenL]
  rw [Bool.eq_iff_iff]
  constructor
  · intro h
    have h := valI_mem.mp h
    rw [this] at h
    obtain ⟨a, ha, e⟩ := List.mem_map.mp h
    exact decide_eq_true (k2_inj e ▸ ha)
  · intro h
    exact valI_mem.mpr (by rw [this]; exact List.mem_map.mpr ⟨q, of_decide_eq_true h, rfl⟩)
theorem seen_put {ps : List (Str × Str)} {q : Str × Str} (h : q ∉ ps) : putI (seenL ps) (k2 q) (.fz (.bool true)) = seenL (ps ++ [q]) := by
  rw [putI_new]
  · simp [seenL]
  · intro hm
    have : (seenL ps).map (·.1) = ps.map k2 := by simp [seenL]
    rw [this] at hm
    obtain ⟨a, ha, e⟩ := List.mem_map.mp hm
    exact h (k2_inj e ▸ ha)

/-! ### skills, prices -/
def skl (d : Day) : List Str := dd [] ((rows d).map (·.2.1))
abbrev kN : Str := "name"
abbrev kS : Str := "skill"
theorem kNS : ¬ kN = kS := by decide +kernel
/-- the keys of a paper: of the names, of the skills -/
def pkeys (t : List Nb) (d : Day) : List (Str × Str) := (t.map fun a => (kN, a.1)) ++ (skl d).map fun s => (kS, s)
def dPr (a : Str × Str) : PyData := .tuple [.str a.1, .str a.2]
/-- a paper: the entries of a dict -/
def pap (L : List ((Str × Str) × Int)) : List (List Key × Itm) := L.map fun q => (k2 q.1, .fz (.int q.2))
structure Paper (t : List Nb) (d : Day) (L : List ((Str × Str) × Int)) : Prop where
  ks : L.map (·.1) = pkeys t d
  b0 : ∀ q ∈ L, -2000000000000000000000000000000 ≤ q.2 ∧ q.2 ≤ 2000000000000000000000000000000
theorem pkeys_nodup {t : List Nb} {d : Day} (hT : Town t) : (pkeys t d).Nodup := by
  unfold pkeys
  refine List.nodup_append.mpr ⟨?_, ?_, ?_⟩
  · have := hT.nd
    unfold List.Nodup at this ⊢
    rw [List.pairwise_map] at this ⊢
    exact this.imp fun h e => h (Prod.mk.inj e).2
  · have := dd_nodup ((rows d).map (·.2.1)) [] List.nodup_nil
    unfold List.Nodup at this ⊢
    rw [List.pairwise_map]
    exact this.imp fun h e => h (Prod.mk.inj e).2
  · intro a ha b hb e
    obtain ⟨x, _, rfl⟩ := List.mem_map.mp ha
    obtain ⟨y, _, rfl⟩ := List.mem_map.mp hb
    exact kNS (Prod.mk.inj e).1
theorem skl_len {d : Day} (h : (rows d).length ≤ 40) : (skl d).length ≤ 40 := by
  have := dd_len ((rows d).map (·.2.1)) []
  simp at this
  unfold skl
  omega
theorem pap_put {L : List ((Str × Str) × Int)} {q : Str × Str} {z : Int} (h : q ∉ L.map (·.1)) : putI (pap L) (k2 q) (.fz (.int z)) = pap (L ++ [(q, z)]) := by
  rw [putI_new]
  · simp [pap]
  · intro hm
    obtain ⟨y, hy, e⟩ := List.mem_map.mp hm
    obtain ⟨a, ha, rfl⟩ := List.mem_map.mp hy
    exact h (List.mem_map.mpr ⟨a, ha, k2_inj e⟩)
theorem clo_app {γ : Cells} {o : Cell} (h : Clo γ) (ho : CLt (γ.length + 1) o) : Clo (γ ++ [o]) := fun q hq => by
  have up : ∀ {n m : Nat}, n ≤ m → ∀ {x : Itm}, ILt n x → ILt m x := fun {n m} hnm => by
    intro x hx
    induction hx with
    | fz d => exact .fz d
    | cl h => exact .cl (by omega)
    | tp h ih => exact .tp ih
  rw [List.length_append]
  rcases List.mem_append.mp hq with hq | hq
  · have := h q hq
    cases q with
    | lst xs => exact fun x hx => up (by simp) (this x hx)
    | dic xs => exact fun x hx => up (by simp) (this x hx)
    | dit xs => exact fun x hx => up (by simp) (this x hx)
    | ins C xs => exact fun x hx => up (by simp) (this x hx)
    | raw f => trivial
    | dead => trivial
  · obtain rfl : q = o := by simpa using hq
    exact ho

/-! ### what a paper bounds -/
def prI (L : List ((Str × Str) × Int)) (q : Str × Str) : Int := ((L.find? fun x => decide (x.1 = q)).map (·.2)).getD 0
theorem pap_val : ∀ (L : List ((Str × Str) × Int)) (q : Str × Str), valI (pap L) (k2 q) = (L.find? fun x => decide (x.1 = q)).map fun x => Itm.fz (.int x.2)
  | [], q => rfl
  | x :: L, q => by
    have ih := pap_val L q
    unfold valI pap at ih ⊢
    rw [List.map_cons, List.find?_cons, List.find?_cons]
    by_cases h : x.1 = q
    · have : (k2 x.1, Itm.fz (.int x.2)).1 = k2 q := by rw [h]
      rw [decide_eq_true this, decide_eq_true h]
      rfl
    · have : ¬ (k2 x.1, Itm.fz (.int x.2)).1 = k2 q := fun e => h (k2_inj e)
      rw [decide_eq_false this, decide_eq_false h]
      exact ih
theorem pap_at {t d L} (hL : Paper t d L) {q : Str × Str} (hq : q ∈ pkeys t d) : valI (pap L) (k2 q) = some (.fz (.int (prI L q))) := by
  rw [pap_val]
  unfold prI
  rw [← hL.ks] at hq
  obtain ⟨x, hx, e⟩ := List.mem_map.mp hq
  cases hf : L.find? (fun x => decide (x.1 = q)) with
  | none =>
    have := List.find?_eq_none.mp hf x hx
    simp [e] at this
  | some y => rfl
theorem prI_bd {t d L} (hL : Paper t d L) (q : Str × Str) : -2000000000000000000000000000000 ≤ prI L q ∧ prI L q ≤ 2000000000000000000000000000000 := by
  unfold prI
  cases hf : L.find? (fun x => decide (x.1 = q)) with
  | none => show _ ≤ (0 : Int) ∧ (0 : Int) ≤ _; omega
  | some y => exact hL.b0 y (List.mem_of_find?_eq_some hf)
theorem key_name {t : List Nb} {d : Day} {n : Str} (h : n ∈ t.map (·.1)) : (kN, n) ∈ pkeys t d := by
  obtain ⟨a, ha, rfl⟩ := List.mem_map.mp h
  exact List.mem_append_left _ (List.mem_map.mpr ⟨a, ha, rfl⟩)
theorem key_skill {t : List Nb} {d : Day} {a : Rw} (h : a ∈ rows d) : (kS, a.2.1) ∈ pkeys t d :=
  List.mem_append_right _ (List.mem_map.mpr ⟨a.2.1, (dd_mem _ _ _).mpr (.inr (List.mem_map.mpr ⟨a, h, rfl⟩)), rfl⟩)
abbrev Pp := List ((Str × Str) × Int)
def gain (L : Pp) (a : Rw) : Int := prI L (kS, a.2.1) - prI L (kN, a.1)
def fo (L : Pp) (a : Rw) : Int := max 0 (a.2.2 * (1 - gain L a))
def fw (L : Pp) (a : Rw) : Int := max 0 (a.2.2 * gain L a)
def ft (L : Pp) (a : Nb) : Int := ((prI L (kN, a.1)).natAbs : Int) * (if 0 < prI L (kN, a.1) then a.2.1 - a.2.2.1 else a.2.2.2 - a.2.1)
def bnd (t : List Nb) (d : Day) (L : Pp) : Int := (d.1.map (fo L)).sum + (d.2.map (fw L)).sum + (t.map (ft L)).sum
/-- what is asked of a day's rows -/
structure DayR (t : List Nb) (d : Day) : Prop where
  nm : ∀ a ∈ rows d, a.1 ∈ t.map (·.1)
  h0 : ∀ a ∈ rows d, 1 ≤ a.2.2
  h1 : ∀ a ∈ rows d, a.2.2 ≤ 1000000000000000000000000000000


end KK

namespace KK
open PySem PySem.Spec PyProof.Rows L2 PL
local macro_rules | `(tactic| tm_at "nm") => `(tactic| with_reducible first | assumption | exact Nm.r (by assumption))
local macro_rules | `(tactic| tm_at "bt") => `(tactic| with_reducible assumption)
local macro_rules | `(tactic| tm_at "asm") => `(tactic| assumption)
local macro_rules | `(tactic| tm_at "auto") => `(tactic| first | rfl | exact fun _ _ => rfl | (intro _; rfl) | decide | exact nomark _ | (with_unfolding_all rfl))
local macro_rules | `(tactic| tm_at "boot") => `(tactic| decide +kernel)
local macro_rules | `(tactic| tm_at "kit") => `(tactic| first | exact kit_int _ | exact kit_bool _ | exact kit_str _ | exact kit_list _ | exact kit_tuple _ | exact kit_dict _)
local macro_rules | `(tactic| tm_at "side") => `(tactic| first | assumption | decide | omega | (simp only [List.length_map, List.length_cons, List.length_nil, List.length_append]; omega) | (simp; done))
local macro_rules | `(tactic| tm_at "pos") => `(tactic| first | decide | assumption | exact Int.pow_pos (by decide) | omega)
local macro_rules | `(tactic| tm_at "mul") => `(tactic| first | assumption | (exact small_mul 200 200 (by omega) (by omega)))
local macro_rules | `(tactic| tm_at "div") => `(tactic| first | assumption | (exact wide_div (b := 200) (by omega) (by omega) (by decide) (by decide)))
local macro_rules | `(tactic| tm_at "pow") => `(tactic| (refine ⟨?_, ?_, ?_⟩ <;> decide))
local macro_rules | `(tactic| tm_at "rd") => `(tactic| first | exact Rdb.fz _ | exact Rdb.cl (by assumption) | exact Rdb.cl rfl)
local macro_rules | `(tactic| tm_at "rdl") => `(tactic| first | exact .inr rfl | exact .inl (by tm_at "rd"))
local macro_rules | `(tactic| tm_at "ix") => `(tactic| first | assumption | exact ix_0 | exact ix_1 | exact ix_2 | exact ix_3 | exact ix_4 | rfl)
local macro_rules | `(tactic| tm_at "cmp") => `(tactic| first | exact cmp_lt | exact cmp_le | exact cmp_gt | exact cmp_ge | exact cmp_eqI | exact cmp_neI | exact cmp_eqS | exact cmp_neS | exact cmp_leS | exact cmp_ltS | exact cmp_inSign | exact cmp_notInSign | exact cmp_isB | exact cmp_notB | exact cmp_isN | exact cmp_notN | exact cmp_eqB | exact cmp_neB)
local macro_rules | `(tactic| tm_at "intro") => `(tactic| (intro _; tm_at "e"))
local macro_rules | `(tactic| tm_at "introe") => `(tactic| (intro _; tm_at "e"))
local macro_rules | `(tactic| tm_at "introw") => `(tactic| (intro _; tm_at "w"))
local macro_rules | `(tactic| tm_at "a") => `(tactic| first
  | exact av_nil
  | (apply av_cons; (focus tm_at "e"); (focus tm_at "a"); (focus tm_at "auto")))
local macro_rules | `(tactic| tm_at "alli") => `(tactic| (repeat (first | exact all_nil | (refine all_cons ⟨_, rfl, ?_, ?_⟩ ?_; (focus omega); (focus omega)))))
local macro_rules | `(tactic| tm_at "afz") => `(tactic| first
  | exact av_nilF
  | (apply av_consF; (focus tm_at "e"); (focus tm_at "afz"); (focus tm_at "auto")))
local macro_rules | `(tactic| tm_at "o") => `(tactic| first
  | exact ov_none
  | (apply ov_some; (focus tm_at "e")))
local macro_rules | `(tactic| tm_at "e") => `(tactic| ((with_reducible show EV _ _ _ (Expr.Tuple _ _ _) _ _); first | (apply ev_tup; (focus tm_at "afz"); (focus tm_at "side"))))
local macro_rules | `(tactic| tm_at "e") => `(tactic| ((with_reducible show EV _ _ _ (Expr.List _ _) _ _); first | (apply ev_lst; (focus tm_at "afz"); (focus tm_at "side"))))
local macro_rules | `(tactic| tm_at "e") => `(tactic| ((with_reducible show EV _ _ _ (Expr.Call (Expr.Attribute _ _ _) _ _ _) _ _); first | (apply ev_join; (focus tm_at "e"); (focus tm_at "e"); (focus tm_at "rd"); (focus tm_at "side"); (focus tm_at "auto"); (focus tm_at "auto"); (focus tm_at "auto"))))
local macro_rules | `(tactic| tm_at "e") => `(tactic| ((with_reducible show EV _ _ _ (Expr.Call (Expr.Name _ _) _ _ _) _ _); first | (apply ev_lenL; (focus tm_at "bt"); (focus tm_at "e"); (focus tm_at "rd"); (focus tm_at "auto")) | (apply ev_lenC; (focus tm_at "bt"); (focus tm_at "e"); (focus tm_at "ix"); (focus tm_at "auto")) | (apply ev_lenT; (focus tm_at "bt"); (focus tm_at "e"); (focus tm_at "auto")) | (apply ev_lenS; (focus tm_at "bt"); (focus tm_at "e"); (focus tm_at "side"); (focus tm_at "auto")) | (apply ev_max2; (focus tm_at "asm"); (focus tm_at "bt"); (focus tm_at "e"); (focus tm_at "e"); (focus tm_at "auto"); (focus tm_at "auto"); (focus tm_at "auto")) | (apply ev_min2; (focus tm_at "asm"); (focus tm_at "bt"); (focus tm_at "e"); (focus tm_at "e"); (focus tm_at "auto"); (focus tm_at "auto"); (focus tm_at "auto")) | (apply ev_intB; (focus tm_at "bt"); (focus tm_at "e"); (focus tm_at "auto")) | (apply ev_intI; (focus tm_at "bt"); (focus tm_at "e"); (focus tm_at "auto")) | (apply ev_abs; (focus tm_at "bt"); (focus tm_at "e"); (focus tm_at "auto")) | (apply ev_sum; (focus tm_at "asm"); (focus tm_at "bt"); (focus tm_at "e"); (focus tm_at "rd"); (focus tm_at "auto")) | (apply ev_listF; (focus tm_at "bt"); (focus tm_at "e"); (focus tm_at "rdl"); (focus tm_at "auto")) | (apply ev_sorted; (focus tm_at "bt"); (focus tm_at "e"); (focus tm_at "rd"); (focus tm_at "auto")) | (apply ev_isi; (focus tm_at "bt"); (focus tm_at "bt"); (focus tm_at "boot"); (focus tm_at "e"); (focus tm_at "rd"); (focus tm_at "kit"); (focus tm_at "auto"); (focus tm_at "auto"); (focus tm_at "auto"); (focus tm_at "auto"); (focus tm_at "auto"))))
local macro_rules | `(tactic| tm_at "e") => `(tactic| ((with_reducible show EV _ _ _ (Expr.BoolOp BoolOp.Or _ _) _ _); first | (apply ev_or; (focus tm_at "e"); (focus tm_at "introe"))))
local macro_rules | `(tactic| tm_at "e") => `(tactic| ((with_reducible show EV _ _ _ (Expr.BoolOp BoolOp.And _ _) _ _); first | (apply ev_and; (focus tm_at "e"); (focus tm_at "introe"))))
local macro_rules | `(tactic| tm_at "e") => `(tactic| ((with_reducible show EV _ _ _ (Expr.BoolOp _ [_] _) _ _); first | (apply ev_one; (focus tm_at "e"))))
local macro_rules | `(tactic| tm_at "e") => `(tactic| ((with_reducible show EV _ _ _ (Expr.IfExp _ _ _ _) _ _); first | (apply ev_ifx; (focus tm_at "t"); (focus tm_at "intro"); (focus tm_at "intro"))))
local macro_rules | `(tactic| tm_at "e") => `(tactic| ((with_reducible show EV _ _ _ (Expr.Compare _ [_, _] [_, _] _) _ _); first | (apply ev_chain2; (focus tm_at "e"); (focus tm_at "e"); (focus tm_at "cmp"); (focus tm_at "e"); (focus tm_at "cmp"); (focus tm_at "auto"))))
local macro_rules | `(tactic| tm_at "e") => `(tactic| ((with_reducible show EV _ _ _ (Expr.Compare _ [_] [_] _) _ _); first | (apply ev_cmp; (focus tm_at "e"); (focus tm_at "e"); (focus tm_at "cmp"); (focus tm_at "auto"))))
local macro_rules | `(tactic| tm_at "e") => `(tactic| ((with_reducible show EV _ _ _ (Expr.UnaryOp UnaryOp.Not _ _) _ _); first | (apply ev_not; (focus tm_at "e"))))
local macro_rules | `(tactic| tm_at "e") => `(tactic| ((with_reducible show EV _ _ _ (Expr.UnaryOp UnaryOp.USub _ _) _ _); first | (apply ev_neg; (focus tm_at "e"))))
local macro_rules | `(tactic| tm_at "e") => `(tactic| ((with_reducible show EV _ _ _ (Expr.Subscript _ _ _) _ _); first | (apply ev_ixL; (focus tm_at "e"); (focus tm_at "e"); (focus tm_at "rd"); (focus tm_at "ix"); (focus tm_at "auto")) | (apply ev_ixT; (focus tm_at "e"); (focus tm_at "e"); (focus tm_at "ix"); (focus tm_at "auto")) | (apply ev_ixC; (focus tm_at "e"); (focus tm_at "e"); (focus tm_at "ix"); (focus tm_at "ix"); (focus tm_at "auto")) | (apply ev_ixP; (focus tm_at "e"); (focus tm_at "e"); (focus tm_at "ix"); (focus tm_at "auto")) | (apply ev_ixS; (focus tm_at "e"); (focus tm_at "e"); (focus tm_at "side"); (focus tm_at "asm"); (focus tm_at "auto"))))
local macro_rules | `(tactic| tm_at "e") => `(tactic| ((with_reducible show EV _ _ _ (Expr.Subscript _ (Expr.Slice _ _ _ _) _) _ _); first | (apply ev_slL; (focus tm_at "e"); (focus tm_at "o"); (focus tm_at "o"); (focus tm_at "rd")) | (apply ev_slT; (focus tm_at "e"); (focus tm_at "o"); (focus tm_at "o"); (focus tm_at "side")) | (apply ev_slS; (focus tm_at "e"); (focus tm_at "o"); (focus tm_at "o"); (focus tm_at "side"))))
local macro_rules | `(tactic| tm_at "e") => `(tactic| ((with_reducible show EV _ _ _ (Expr.BinOp _ Operator.Pow _ _) _ _); first | (apply ev_pow; (focus tm_at "e"); (focus tm_at "e"); (focus tm_at "pow"))))
local macro_rules | `(tactic| tm_at "e") => `(tactic| ((with_reducible show EV _ _ _ (Expr.BinOp _ Operator.FloorDiv _ _) _ _); first | (apply ev_div; (focus tm_at "e"); (focus tm_at "e"); (focus tm_at "div"))))
local macro_rules | `(tactic| tm_at "e") => `(tactic| ((with_reducible show EV _ _ _ (Expr.BinOp _ Operator.Mod _ _) _ _); first | (apply ev_mod; (focus tm_at "e"); (focus tm_at "e"); (focus tm_at "pos"))))
local macro_rules | `(tactic| tm_at "e") => `(tactic| ((with_reducible show EV _ _ _ (Expr.BinOp _ Operator.Mult _ _) _ _); first | (apply ev_mul; (focus tm_at "e"); (focus tm_at "e"); (focus tm_at "mul")) | (apply ev_repF; (focus tm_at "afz"); (focus tm_at "e"); (focus tm_at "side"); (focus tm_at "side"); (focus tm_at "side"))))
local macro_rules | `(tactic| tm_at "e") => `(tactic| ((with_reducible show EV _ _ _ (Expr.BinOp _ Operator.Sub _ _) _ _); first | (apply ev_sub; (focus tm_at "e"); (focus tm_at "e"))))
local macro_rules | `(tactic| tm_at "e") => `(tactic| ((with_reducible show EV _ _ _ (Expr.BinOp _ Operator.Add _ _) _ _); first | (apply ev_add; (focus tm_at "e"); (focus tm_at "e")) | (apply ev_catF; (focus tm_at "e"); (focus tm_at "e"); (focus tm_at "rd"); (focus tm_at "rd"); (focus tm_at "side")) | (apply ev_addS; (focus tm_at "e"); (focus tm_at "e"); (focus tm_at "side")) | (apply ev_catT; (focus tm_at "e"); (focus tm_at "e"); (focus tm_at "side"))))
local macro_rules | `(tactic| tm_at "e") => `(tactic| ((with_reducible show EV _ _ _ (Expr.Name _ _) _ _); first | (apply ev_name; (focus tm_at "nm"); (focus rfl))))
local macro_rules | `(tactic| tm_at "e") => `(tactic| ((with_reducible show EV _ _ _ (Expr.Constant _ _ _) _ _); first | exact ev_int | exact ev_bl | exact ev_str | exact ev_non))
local macro_rules | `(tactic| tm_at "t") => `(tactic| ((with_reducible show TV _ _ _ _ _ _); first | (apply tv_val; (focus tm_at "e"); (focus tm_at "auto")) | (apply tv_truthL; (focus tm_at "e"); (focus tm_at "rd"); (focus tm_at "auto")) | (apply tv_truthI; (focus tm_at "e"); (focus tm_at "auto"))))
local macro_rules | `(tactic| tm_at "t") => `(tactic| ((with_reducible show TV _ _ _ (Expr.BoolOp _ _ _) _ _); first | (apply tv_w; (focus tm_at "w"))))
local macro_rules | `(tactic| tm_at "t") => `(tactic| ((with_reducible show TV _ _ _ (Expr.UnaryOp UnaryOp.Not _ _) _ _); first | (apply tv_not; (focus tm_at "t"))))
local macro_rules | `(tactic| tm_at "t") => `(tactic| ((with_reducible show TV _ _ _ (Expr.Compare _ [_, _] [_, _] _) _ _); first | (apply tv_chain2; (focus tm_at "e"); (focus tm_at "e"); (focus tm_at "cmp"); (focus tm_at "e"); (focus tm_at "cmp"); (focus tm_at "auto"))))
local macro_rules | `(tactic| tm_at "t") => `(tactic| ((with_reducible show TV _ _ _ (Expr.Compare _ [_] [_] _) _ _); first | (apply tv_cmp; (focus tm_at "e"); (focus tm_at "e"); (focus tm_at "cmp"); (focus tm_at "auto"))))
local macro_rules | `(tactic| tm_at "w") => `(tactic| ((with_reducible show WV _ _ _ (Expr.BoolOp BoolOp.Or _ _) _ _); first | (apply wv_or; (focus tm_at "t"); (focus tm_at "introw"))))
local macro_rules | `(tactic| tm_at "w") => `(tactic| ((with_reducible show WV _ _ _ (Expr.BoolOp BoolOp.And _ _) _ _); first | (apply wv_and; (focus tm_at "t"); (focus tm_at "introw"))))
local macro_rules | `(tactic| tm_at "w") => `(tactic| ((with_reducible show WV _ _ _ (Expr.BoolOp BoolOp.Or [_] _) _ _); first | (apply wv_or1; (focus tm_at "t"))))
local macro_rules | `(tactic| tm_at "w") => `(tactic| ((with_reducible show WV _ _ _ (Expr.BoolOp BoolOp.And [_] _) _ _); first | (apply wv_and1; (focus tm_at "t"))))
local macro_rules | `(tactic| tm_at "ee") => `(tactic| first
  | (apply EE.of; (focus tm_at "e"); try (tm_at "ee"))
  | (refine ee_call' (by assumption) ?_; apply AE.of; (focus tm_at "a"))
  | (with_reducible refine ee_mod ?_; tm_at "ee")
  | (with_reducible refine ee_add ?_; tm_at "ee")
  | (with_reducible refine ee_sub ?_; tm_at "ee")
  | (with_reducible refine ee_mul ?_; tm_at "ee")
  | (with_reducible refine ee_div ?_; tm_at "ee")
  | (with_reducible refine ee_ixL ?_; tm_at "ee")
  | (refine ⟨_, rfl, ?_⟩; tm_at "ee"))

/-! ### names, whole numbers, rows: of any thing -/
def isNm : PyData → Bool
  | .str z => decide (1 ≤ z.length ∧ z.length ≤ 8) && z.cps.toList.all fun c => decide (97 ≤ c) && decide (c ≤ 122)
  | _ => false
theorem nm_is {z : Str} (h : NmOk z) : isNm (.str z) = true := by
  obtain ⟨h1, h2, h3⟩ := h
  simp only [isNm, Bool.and_eq_true, decide_eq_true_eq, List.all_eq_true]
  exact ⟨⟨h1, h2⟩, fun c hc => h3 c hc⟩
theorem is_nm {z : Str} (h : isNm (.str z) = true) : NmOk z := by
  simp only [isNm, Bool.and_eq_true, decide_eq_true_eq, List.all_eq_true] at h
  exact ⟨h.1.1, h.1.2, fun c hc => h.2 c hc⟩
def S_is_name : PSpec := fun args γ P => ∃ d : PyData, args = [.fz d] ∧ (∀ z, d = .str z → z.length ≤ sizeLine) ∧ P (.fz (.bool (isNm d))) γ
theorem len_is_name {args γ P} (h : S_is_name args γ P) : args.length = 1 := by obtain ⟨d, rfl, _⟩ := h; rfl
theorem range_get {α β : Type} {f : α → β} (d : α) {L : List α} : ((List.range L.length).map fun i => f (L.getD i d)) = L.map f := by
  apply List.ext_getElem
  · simp
  · intro i h1 h2
    simp only [List.length_map, List.length_range] at h1
    simp [List.getD, List.getElem?_eq_getElem h1]
theorem len_as {z : Str} : (z.length : Int) = (z.cps.size : Int) := rfl
theorem sign_a : ("a" : Str).cps.toList = [97] := by decide +kernel
theorem sign_z : ("z" : Str).cps.toList = [122] := by decide +kernel
theorem lt1 (a b : Nat) : decide (([a] : List Nat) < [b]) = decide (a < b) := by
  by_cases h : a < b
  · simp [h, List.cons_lt_cons_iff]
  · simp [h, List.cons_lt_cons_iff]
set_option maxHeartbeats 8000000 in
theorem body_is_name {P : Program} {w : World} {K : PySem.W.Frag} {mg : Str → Option Value} {base : Heap} (g0 : G0 mg)
    {X : Cx} (c : Ctx X P w K mg base N_is_name (defScope s_is_name) 0) {args : List Itm} {γ : Cells} {Po : EPost} (hγ : Clo γ) (hS : S_is_name args γ Po) :
    SVs X (slots0 N_is_name args) γ (defBody s_is_name) { nx := fun _ g => PL.Fin γ.length Po (.fz .none) g, rt := PL.Fin γ.length Po } := by
  have hX := c.ok
  have hp := c.po
  have v0 : Nm X "thing" 0 .local := c.nm 0 .local rfl (by decide +kernel) (.inl rfl) (by decide +kernel) (by decide +kernel)
  have b_isinstance : Bt X "isinstance" := c.bt (by decide +kernel) g0.b_isinstance
  have b_str : Bt X "str" := c.bt (by decide +kernel) g0.b_str
  have b_len : Bt X "len" := c.bt (by decide +kernel) g0.b_len
  have m_MOST_LETTERS : Ci X "MOST_LETTERS" 8 := c.ci (by decide +kernel) g0.c_MOST_LETTERS (by decide +kernel)
  have b_all : Bt X "all" := c.bt (by decide +kernel) g0.b_all
  obtain ⟨d, rfl, hz, hP⟩ := hS
  by_cases hs : isS d = true
  · obtain ⟨z, rfl⟩ : ∃ z, d = .str z := by cases d <;> simp [isS] at hs; exact ⟨_, rfl⟩
    have hz := hz z rfl
    refine svs_if (k := !decide (1 ≤ z.length ∧ z.length ≤ 8)) (TV.is (tv_w (wv_or (tv_not (tv_val (ev_isi b_isinstance b_str (by decide +kernel) (ev_name v0.r rfl) (Rdb.fz _) (kit_str _)))) fun _ => wv_or1 (tv_not (tv_chain2 ev_int (ev_lenS b_len (ev_name v0.r rfl) hz) cmp_le (ev_const m_MOST_LETTERS) cmp_le)))) ?_) (fun h => ?_) (fun h => ?_)
    · simp only [isS, Bool.not_true, Bool.false_or]
      congr 1
      by_cases q : 1 ≤ z.length ∧ z.length ≤ 8
      · simp [q]; omega
      · simp [q]; omega
    · apply svs_retE
      refine EE.of ev_bl ?_
      have : isNm (.str z) = false := by
        simp only [isNm]
        rw [show decide (1 ≤ z.length ∧ z.length ≤ 8) = false by rw [Bool.not_eq_true'] at h; exact h]
        rfl
      rw [this] at hP
      exact fin_same hγ hP
    · refine svs_nil ?_
      apply svs_retE
      refine EE.of (ev_allB (ns := z.cps.toList.map fun c => decide (97 ≤ c) && decide (c ≤ 122)) hX b_all (ev_lcN (w := 1) (fun _ => true) (fun i => .bool ((z.cps.toList.map fun c => decide (97 ≤ c) && decide (c ≤ 122)).getD i false)) hX (by rw [c.N, c.sc]; exact ⟨rfl, by decide +kernel, by decide +kernel, by decide +kernel, by decide +kernel⟩) (fun X' hB => ⟨hB.cok hX rfl, hB.own (by rw [c.N]; rfl) (by decide +kernel) (by decide +kernel) (by decide +kernel)⟩) (itv_str (ev_name v0.r rfl)) (fun _ => trivial) (by simp [sgnL]; have := h; simp at this; show z.length ≤ _; omega) (fun i x acc hx X' hB => ?_)) ?_) ?_
      ·
        have hX_X' := hB.cok hX rfl
        have w1_X' : Nm X' "sign" 1 .local := hB.own (by rw [c.N]; rfl) (by decide +kernel) (by decide +kernel) (by decide +kernel)
        unfold sgnL at hx
        rw [List.getElem?_map] at hx
        cases hc : z.cps.toList[i]? with
        | none => rw [hc] at hx; cases hx
        | some cc =>
          rw [hc] at hx
          cases hx
          refine ⟨tvs_nil, fun _ => EV.is (ev_chain2 ev_str (ev_name w1_X'.r rfl) cmp_leS ev_str cmp_leS) ?_⟩
          rw [sign_a, sign_z, lt1, lt1]
          have : (z.cps.toList.map fun c => decide (97 ≤ c) && decide (c ≤ 122)).getD i false = (decide (97 ≤ cc) && decide (cc ≤ 122)) := by simp [List.getD, hc]
          rw [this]
          congr 1
          by_cases a : 97 ≤ cc <;> by_cases b : cc ≤ 122 <;> simp [a, b] <;> omega
      · rw [picked_all, show (sgnL z).length = (z.cps.toList.map fun c => decide (97 ≤ c) && decide (c ≤ 122)).length by simp [sgnL], range_get (f := PyData.bool) false]
        exact Rdb.fz _
      · have : isNm (.str z) = (z.cps.toList.map fun c => decide (97 ≤ c) && decide (c ≤ 122)).all id := by
          simp only [isNm]
          rw [show decide (1 ≤ z.length ∧ z.length ≤ 8) = true by rw [Bool.not_eq_false'] at h; exact h]
          simp
        rw [this] at hP
        exact fin_same hγ hP
  · refine svs_if (k := true) (TV.is (tv_w (wv_or (tv_not (tv_val (ev_isi b_isinstance b_str (by decide +kernel) (ev_name v0.r rfl) (Rdb.fz _) (kit_str _)))) (k' := false) fun h => absurd (by simpa using h) hs)) (by simpa using hs)) (fun _ => ?_) (fun h => by cases h)
    apply svs_retE
    refine EE.of ev_bl ?_
    have : isNm d = false := by cases d <;> simp [isS] at hs <;> rfl
    rw [this] at hP
    exact fin_same hγ hP
theorem ok_is_name {P : Program} {w : World} {K : PySem.W.Frag} {mg : Str → Option Value} {base : Heap} (g0 : G0 mg)
    {f : Addr} {fd : FuncData} (F : Fun K "is_name" "is_name" s_is_name f fd) (hm : mg "is_name" = some (.ref f)) : FnD P w K mg base "is_name" 1 S_is_name :=
  def_ok F sc_is_name hm (F.binds (ps := ["thing"]) fun _ _ _ _ _ _ us hl => match us, hl with | [_], _ => rfl) (fun args γ P h => len_is_name h)
    fun X c args γ Po hγ hS => body_is_name g0  c hγ hS
/-- a whole number in bounds -/
def isW (d : PyData) (a b : Int) : Bool := match d with
  | .int n => decide (a ≤ n) && decide (n ≤ b)
  | _ => false
def S_is_whole : PSpec := fun args γ P => ∃ (d : PyData) (a b : Int), args = [.fz d, .fz (.int a), .fz (.int b)] ∧ P (.fz (.bool (isW d a b))) γ
theorem len_is_whole {args γ P} (h : S_is_whole args γ P) : args.length = 3 := by obtain ⟨d, a, b, rfl, _⟩ := h; rfl
set_option maxHeartbeats 4000000 in
theorem body_is_whole {P : Program} {w : World} {K : PySem.W.Frag} {mg : Str → Option Value} {base : Heap} (g0 : G0 mg)
    {X : Cx} (c : Ctx X P w K mg base N_is_whole (defScope s_is_whole) 0) {args : List Itm} {γ : Cells} {Po : EPost} (hγ : Clo γ) (hS : S_is_whole args γ Po) :
    SVs X (slots0 N_is_whole args) γ (defBody s_is_whole) { nx := fun _ g => PL.Fin γ.length Po (.fz .none) g, rt := PL.Fin γ.length Po } := by
  have hX := c.ok
  have hp := c.po
  have v0 : Nm X "thing" 0 .local := c.nm 0 .local rfl (by decide +kernel) (.inl rfl) (by decide +kernel) (by decide +kernel)
  have v1 : Nm X "least" 1 .local := c.nm 1 .local rfl (by decide +kernel) (.inl rfl) (by decide +kernel) (by decide +kernel)
  have v2 : Nm X "most" 2 .local := c.nm 2 .local rfl (by decide +kernel) (.inl rfl) (by decide +kernel) (by decide +kernel)
  have b_isinstance : Bt X "isinstance" := c.bt (by decide +kernel) g0.b_isinstance
  have b_int : Bt X "int" := c.bt (by decide +kernel) g0.b_int
  have b_bool : Bt X "bool" := c.bt (by decide +kernel) g0.b_bool
  obtain ⟨d, a, b, rfl, hP⟩ := hS
  by_cases hi : isI d = true ∧ isB d = false
  · obtain ⟨n, rfl⟩ : ∃ n, d = .int n := by cases d <;> simp [isI, isB] at hi; exact ⟨_, rfl⟩
    refine svs_if (k := false) (TV.is (tv_w (wv_or (tv_not (tv_val (ev_isi b_isinstance b_int (by decide +kernel) (ev_name v0.r rfl) (Rdb.fz _) (kit_int _)))) fun _ => wv_or1 (tv_val (ev_isi b_isinstance b_bool (by decide +kernel) (ev_name v0.r rfl) (Rdb.fz _) (kit_bool _))))) (by simp [isI, isB])) (fun h => by cases h) (fun _ => svs_nil ?_)
    apply svs_retE
    refine EE.of (ev_chain2 (ev_name v1.r rfl) (ev_name v0.r rfl) cmp_le (ev_name v2.r rfl) cmp_le) ?_
    exact fin_same hγ hP
  · refine svs_if (k := true) (TV.is (tv_w (wv_or (tv_not (tv_val (ev_isi b_isinstance b_int (by decide +kernel) (ev_name v0.r rfl) (Rdb.fz _) (kit_int _)))) fun _ => wv_or1 (tv_val (ev_isi b_isinstance b_bool (by decide +kernel) (ev_name v0.r rfl) (Rdb.fz _) (kit_bool _))))) (by revert hi; cases isI d <;> cases isB d <;> simp)) (fun _ => ?_) (fun h => by cases h)
    apply svs_retE
    refine EE.of ev_bl ?_
    have : isW d a b = false := by cases d <;> simp [isI, isB] at hi <;> rfl
    rw [this] at hP
    exact fin_same hγ hP
theorem ok_is_whole {P : Program} {w : World} {K : PySem.W.Frag} {mg : Str → Option Value} {base : Heap} (g0 : G0 mg)
    {f : Addr} {fd : FuncData} (F : Fun K "is_whole" "is_whole" s_is_whole f fd) (hm : mg "is_whole" = some (.ref f)) : FnD P w K mg base "is_whole" 1 S_is_whole :=
  def_ok F sc_is_whole hm (F.binds (ps := ["thing", "least", "most"]) fun _ _ _ _ _ _ us hl => match us, hl with | [_, _, _], _ => rfl) (fun args γ P h => len_is_whole h)
    fun X c args γ Po hγ hS => body_is_whole g0  c hγ hS
def isRow (d : PyData) (n : Int) : Bool := match d with
  | .tuple ds => decide ((ds.length : Int) = n)
  | _ => false
def S__is_row : PSpec := fun args γ P => ∃ (d : PyData) (n : Int), args = [.fz d, .fz (.int n)] ∧ P (.fz (.bool (isRow d n))) γ
theorem len__is_row {args γ P} (h : S__is_row args γ P) : args.length = 2 := by obtain ⟨d, n, rfl, _⟩ := h; rfl
set_option maxHeartbeats 4000000 in
theorem body__is_row {P : Program} {w : World} {K : PySem.W.Frag} {mg : Str → Option Value} {base : Heap} (g0 : G0 mg)
    {X : Cx} (c : Ctx X P w K mg base N__is_row (defScope s__is_row) 0) {args : List Itm} {γ : Cells} {Po : EPost} (hγ : Clo γ) (hS : S__is_row args γ Po) :
    SVs X (slots0 N__is_row args) γ (defBody s__is_row) { nx := fun _ g => PL.Fin γ.length Po (.fz .none) g, rt := PL.Fin γ.length Po } := by
  have hX := c.ok
  have hp := c.po
  have v0 : Nm X "thing" 0 .local := c.nm 0 .local rfl (by decide +kernel) (.inl rfl) (by decide +kernel) (by decide +kernel)
  have v1 : Nm X "length" 1 .local := c.nm 1 .local rfl (by decide +kernel) (.inl rfl) (by decide +kernel) (by decide +kernel)
  have b_isinstance : Bt X "isinstance" := c.bt (by decide +kernel) g0.b_isinstance
  have b_tuple : Bt X "tuple" := c.bt (by decide +kernel) g0.b_tuple
  have b_len : Bt X "len" := c.bt (by decide +kernel) g0.b_len
  obtain ⟨d, n, rfl, hP⟩ := hS
  apply svs_retE
  by_cases hs : isT d = true
  · obtain ⟨ds, rfl⟩ : ∃ ds, d = .tuple ds := by cases d <;> simp [isT] at hs; exact ⟨_, rfl⟩
    refine EE.of (ev_and (ev_isi b_isinstance b_tuple (by decide +kernel) (ev_name v0.r rfl) (Rdb.fz _) (kit_tuple _)) fun _ => ev_one (ev_cmp (ev_lenT b_len (ev_name v0.r rfl)) (ev_name v1.r rfl) cmp_eqI)) ?_
    exact fin_same hγ hP
  · have e : isT d = false := by simpa using hs
    have e2 : isRow d n = false := by cases d <;> simp [isT] at hs <;> rfl
    rw [e2] at hP
    refine EE.of (EV.is (ev_and (d := .none) (ev_isi b_isinstance b_tuple (by decide +kernel) (ev_name v0.r rfl) (Rdb.fz _) (kit_tuple _)) fun h => absurd h hs) (by rw [e])) ?_
    exact fin_same hγ hP
theorem ok__is_row {P : Program} {w : World} {K : PySem.W.Frag} {mg : Str → Option Value} {base : Heap} (g0 : G0 mg)
    {f : Addr} {fd : FuncData} (F : Fun K "_is_row" "_is_row" s__is_row f fd) (hm : mg "_is_row" = some (.ref f)) : FnD P w K mg base "_is_row" 1 S__is_row :=
  def_ok F sc__is_row hm (F.binds (ps := ["thing", "length"]) fun _ _ _ _ _ _ us hl => match us, hl with | [_, _], _ => rfl) (fun args γ P h => len__is_row h)
    fun X c args γ Po hγ hS => body__is_row g0  c hγ hS
end KK

namespace KK
open PySem PySem.Spec PyProof.Rows L2 PL
local macro_rules | `(tactic| tm_at "nm") => `(tactic| with_reducible first | assumption | exact Nm.r (by assumption))
local macro_rules | `(tactic| tm_at "bt") => `(tactic| with_reducible assumption)
local macro_rules | `(tactic| tm_at "asm") => `(tactic| assumption)
local macro_rules | `(tactic| tm_at "auto") => `(tactic| first | rfl | exact fun _ _ => rfl | (intro _; rfl) | decide | exact nomark _ | (with_unfolding_all rfl))
local macro_rules | `(tactic| tm_at "boot") => `(tactic| decide +kernel)
local macro_rules | `(tactic| tm_at "kit") => `(tactic| first | exact kit_int _ | exact kit_bool _ | exact kit_str _ | exact kit_list _ | exact kit_tuple _ | exact kit_dict _)
local macro_rules | `(tactic| tm_at "side") => `(tactic| first | assumption | decide | omega | (simp only [List.length_map, List.length_cons, List.length_nil, List.length_append]; omega) | (simp; done))
local macro_rules | `(tactic| tm_at "pos") => `(tactic| first | decide | assumption | exact Int.pow_pos (by decide) | omega)
local macro_rules | `(tactic| tm_at "mul") => `(tactic| first | assumption | (exact small_mul 200 200 (by omega) (by omega)))
local macro_rules | `(tactic| tm_at "div") => `(tactic| first | assumption | (exact wide_div (b := 200) (by omega) (by omega) (by decide) (by decide)))
local macro_rules | `(tactic| tm_at "pow") => `(tactic| (refine ⟨?_, ?_, ?_⟩ <;> decide))
local macro_rules | `(tactic| tm_at "rd") => `(tactic| first | exact Rdb.fz _ | exact Rdb.cl (by assumption) | exact Rdb.cl rfl)
local macro_rules | `(tactic| tm_at "rdl") => `(tactic| first | exact .inr rfl | exact .inl (by tm_at "rd"))
local macro_rules | `(tactic| tm_at "ix") => `(tactic| first | assumption | exact ix_0 | exact ix_1 | exact ix_2 | exact ix_3 | exact ix_4 | rfl)
local macro_rules | `(tactic| tm_at "cmp") => `(tactic| first | exact cmp_lt | exact cmp_le | exact cmp_gt | exact cmp_ge | exact cmp_eqI | exact cmp_neI | exact cmp_eqS | exact cmp_neS | exact cmp_leS | exact cmp_ltS | exact cmp_inSign | exact cmp_notInSign | exact cmp_isB | exact cmp_notB | exact cmp_isN | exact cmp_notN | exact cmp_eqB | exact cmp_neB)
local macro_rules | `(tactic| tm_at "intro") => `(tactic| (intro _; tm_at "e"))
local macro_rules | `(tactic| tm_at "introe") => `(tactic| (intro _; tm_at "e"))
local macro_rules | `(tactic| tm_at "introw") => `(tactic| (intro _; tm_at "w"))
local macro_rules | `(tactic| tm_at "a") => `(tactic| first
  | exact av_nil
  | (apply av_cons; (focus tm_at "e"); (focus tm_at "a"); (focus tm_at "auto")))
local macro_rules | `(tactic| tm_at "alli") => `(tactic| (repeat (first | exact all_nil | (refine all_cons ⟨_, rfl, ?_, ?_⟩ ?_; (focus omega); (focus omega)))))
local macro_rules | `(tactic| tm_at "afz") => `(tactic| first
  | exact av_nilF
  | (apply av_consF; (focus tm_at "e"); (focus tm_at "afz"); (focus tm_at "auto")))
local macro_rules | `(tactic| tm_at "o") => `(tactic| first
  | exact ov_none
  | (apply ov_some; (focus tm_at "e")))
local macro_rules | `(tactic| tm_at "e") => `(tactic| ((with_reducible show EV _ _ _ (Expr.Tuple _ _ _) _ _); first | (apply ev_tup; (focus tm_at "afz"); (focus tm_at "side"))))
local macro_rules | `(tactic| tm_at "e") => `(tactic| ((with_reducible show EV _ _ _ (Expr.List _ _) _ _); first | (apply ev_lst; (focus tm_at "afz"); (focus tm_at "side"))))
local macro_rules | `(tactic| tm_at "e") => `(tactic| ((with_reducible show EV _ _ _ (Expr.Call (Expr.Attribute _ _ _) _ _ _) _ _); first | (apply ev_join; (focus tm_at "e"); (focus tm_at "e"); (focus tm_at "rd"); (focus tm_at "side"); (focus tm_at "auto"); (focus tm_at "auto"); (focus tm_at "auto"))))
local macro_rules | `(tactic| tm_at "e") => `(tactic| ((with_reducible show EV _ _ _ (Expr.Call (Expr.Name _ _) _ _ _) _ _); first | (apply ev_lenL; (focus tm_at "bt"); (focus tm_at "e"); (focus tm_at "rd"); (focus tm_at "auto")) | (apply ev_lenC; (focus tm_at "bt"); (focus tm_at "e"); (focus tm_at "ix"); (focus tm_at "auto")) | (apply ev_lenT; (focus tm_at "bt"); (focus tm_at "e"); (focus tm_at "auto")) | (apply ev_lenS; (focus tm_at "bt"); (focus tm_at "e"); (focus tm_at "side"); (focus tm_at "auto")) | (apply ev_max2; (focus tm_at "asm"); (focus tm_at "bt"); (focus tm_at "e"); (focus tm_at "e"); (focus tm_at "auto"); (focus tm_at "auto"); (focus tm_at "auto")) | (apply ev_min2; (focus tm_at "asm"); (focus tm_at "bt"); (focus tm_at "e"); (focus tm_at "e"); (focus tm_at "auto"); (focus tm_at "auto"); (focus tm_at "auto")) | (apply ev_intB; (focus tm_at "bt"); (focus tm_at "e"); (focus tm_at "auto")) | (apply ev_intI; (focus tm_at "bt"); (focus tm_at "e"); (focus tm_at "auto")) | (apply ev_abs; (focus tm_at "bt"); (focus tm_at "e"); (focus tm_at "auto")) | (apply ev_sum; (focus tm_at "asm"); (focus tm_at "bt"); (focus tm_at "e"); (focus tm_at "rd"); (focus tm_at "auto")) | (apply ev_listF; (focus tm_at "bt"); (focus tm_at "e"); (focus tm_at "rdl"); (focus tm_at "auto")) | (apply ev_sorted; (focus tm_at "bt"); (focus tm_at "e"); (focus tm_at "rd"); (focus tm_at "auto")) | (apply ev_isi; (focus tm_at "bt"); (focus tm_at "bt"); (focus tm_at "boot"); (focus tm_at "e"); (focus tm_at "rd"); (focus tm_at "kit"); (focus tm_at "auto"); (focus tm_at "auto"); (focus tm_at "auto"); (focus tm_at "auto"); (focus tm_at "auto"))))
local macro_rules | `(tactic| tm_at "e") => `(tactic| ((with_reducible show EV _ _ _ (Expr.BoolOp BoolOp.Or _ _) _ _); first | (apply ev_or; (focus tm_at "e"); (focus tm_at "introe"))))
local macro_rules | `(tactic| tm_at "e") => `(tactic| ((with_reducible show EV _ _ _ (Expr.BoolOp BoolOp.And _ _) _ _); first | (apply ev_and; (focus tm_at "e"); (focus tm_at "introe"))))
local macro_rules | `(tactic| tm_at "e") => `(tactic| ((with_reducible show EV _ _ _ (Expr.BoolOp _ [_] _) _ _); first | (apply ev_one; (focus tm_at "e"))))
local macro_rules | `(tactic| tm_at "e") => `(tactic| ((with_reducible show EV _ _ _ (Expr.IfExp _ _ _ _) _ _); first | (apply ev_ifx; (focus tm_at "t"); (focus tm_at "intro"); (focus tm_at "intro"))))
local macro_rules | `(tactic| tm_at "e") => `(tactic| ((with_reducible show EV _ _ _ (Expr.Compare _ [_, _] [_, _] _) _ _); first | (apply ev_chain2; (focus tm_at "e"); (focus tm_at "e"); (focus tm_at "cmp"); (focus tm_at "e"); (focus tm_at "cmp"); (focus tm_at "auto"))))
local macro_rules | `(tactic| tm_at "e") => `(tactic| ((with_reducible show EV _ _ _ (Expr.Compare _ [_] [_] _) _ _); first | (apply ev_cmp; (focus tm_at "e"); (focus tm_at "e"); (focus tm_at "cmp"); (focus tm_at "auto"))))
local macro_rules | `(tactic| tm_at "e") => `(tactic| ((with_reducible show EV _ _ _ (Expr.UnaryOp UnaryOp.Not _ _) _ _); first | (apply ev_not; (focus tm_at "e"))))
local macro_rules | `(tactic| tm_at "e") => `(tactic| ((with_reducible show EV _ _ _ (Expr.UnaryOp UnaryOp.USub _ _) _ _); first | (apply ev_neg; (focus tm_at "e"))))
local macro_rules | `(tactic| tm_at "e") => `(tactic| ((with_reducible show EV _ _ _ (Expr.Subscript _ _ _) _ _); first | (apply ev_ixL; (focus tm_at "e"); (focus tm_at "e"); (focus tm_at "rd"); (focus tm_at "ix"); (focus tm_at "auto")) | (apply ev_ixT; (focus tm_at "e"); (focus tm_at "e"); (focus tm_at "ix"); (focus tm_at "auto")) | (apply ev_ixC; (focus tm_at "e"); (focus tm_at "e"); (focus tm_at "ix"); (focus tm_at "ix"); (focus tm_at "auto")) | (apply ev_ixP; (focus tm_at "e"); (focus tm_at "e"); (focus tm_at "ix"); (focus tm_at "auto")) | (apply ev_ixS; (focus tm_at "e"); (focus tm_at "e"); (focus tm_at "side"); (focus tm_at "asm"); (focus tm_at "auto"))))
local macro_rules | `(tactic| tm_at "e") => `(tactic| ((with_reducible show EV _ _ _ (Expr.Subscript _ (Expr.Slice _ _ _ _) _) _ _); first | (apply ev_slL; (focus tm_at "e"); (focus tm_at "o"); (focus tm_at "o"); (focus tm_at "rd")) | (apply ev_slT; (focus tm_at "e"); (focus tm_at "o"); (focus tm_at "o"); (focus tm_at "side")) | (apply ev_slS; (focus tm_at "e"); (focus tm_at "o"); (focus tm_at "o"); (focus tm_at "side"))))
local macro_rules | `(tactic| tm_at "e") => `(tactic| ((with_reducible show EV _ _ _ (Expr.BinOp _ Operator.Pow _ _) _ _); first | (apply ev_pow; (focus tm_at "e"); (focus tm_at "e"); (focus tm_at "pow"))))
local macro_rules | `(tactic| tm_at "e") => `(tactic| ((with_reducible show EV _ _ _ (Expr.BinOp _ Operator.FloorDiv _ _) _ _); first | (apply ev_div; (focus tm_at "e"); (focus tm_at "e"); (focus tm_at "div"))))
local macro_rules | `(tactic| tm_at "e") => `(tactic| ((with_reducible show EV _ _ _ (Expr.BinOp _ Operator.Mod _ _) _ _); first | (apply ev_mod; (focus tm_at "e"); (focus tm_at "e"); (focus tm_at "pos"))))
local macro_rules | `(tactic| tm_at "e") => `(tactic| ((with_reducible show EV _ _ _ (Expr.BinOp _ Operator.Mult _ _) _ _); first | (apply ev_mul; (focus tm_at "e"); (focus tm_at "e"); (focus tm_at "mul")) | (apply ev_repF; (focus tm_at "afz"); (focus tm_at "e"); (focus tm_at "side"); (focus tm_at "side"); (focus tm_at "side"))))
local macro_rules | `(tactic| tm_at "e") => `(tactic| ((with_reducible show EV _ _ _ (Expr.BinOp _ Operator.Sub _ _) _ _); first | (apply ev_sub; (focus tm_at "e"); (focus tm_at "e"))))
local macro_rules | `(tactic| tm_at "e") => `(tactic| ((with_reducible show EV _ _ _ (Expr.BinOp _ Operator.Add _ _) _ _); first | (apply ev_add; (focus tm_at "e"); (focus tm_at "e")) | (apply ev_catF; (focus tm_at "e"); (focus tm_at "e"); (focus tm_at "rd"); (focus tm_at "rd"); (focus tm_at "side")) | (apply ev_addS; (focus tm_at "e"); (focus tm_at "e"); (focus tm_at "side")) | (apply ev_catT; (focus tm_at "e"); (focus tm_at "e"); (focus tm_at "side"))))
local macro_rules | `(tactic| tm_at "e") => `(tactic| ((with_reducible show EV _ _ _ (Expr.Name _ _) _ _); first | (apply ev_name; (focus tm_at "nm"); (focus rfl))))
local macro_rules | `(tactic| tm_at "e") => `(tactic| ((with_reducible show EV _ _ _ (Expr.Constant _ _ _) _ _); first | exact ev_int | exact ev_bl | exact ev_str | exact ev_non))
local macro_rules | `(tactic| tm_at "t") => `(tactic| ((with_reducible show TV _ _ _ _ _ _); first | (apply tv_val; (focus tm_at "e"); (focus tm_at "auto")) | (apply tv_truthL; (focus tm_at "e"); (focus tm_at "rd"); (focus tm_at "auto")) | (apply tv_truthI; (focus tm_at "e"); (focus tm_at "auto"))))
local macro_rules | `(tactic| tm_at "t") => `(tactic| ((with_reducible show TV _ _ _ (Expr.BoolOp _ _ _) _ _); first | (apply tv_w; (focus tm_at "w"))))
local macro_rules | `(tactic| tm_at "t") => `(tactic| ((with_reducible show TV _ _ _ (Expr.UnaryOp UnaryOp.Not _ _) _ _); first | (apply tv_not; (focus tm_at "t"))))
local macro_rules | `(tactic| tm_at "t") => `(tactic| ((with_reducible show TV _ _ _ (Expr.Compare _ [_, _] [_, _] _) _ _); first | (apply tv_chain2; (focus tm_at "e"); (focus tm_at "e"); (focus tm_at "cmp"); (focus tm_at "e"); (focus tm_at "cmp"); (focus tm_at "auto"))))
local macro_rules | `(tactic| tm_at "t") => `(tactic| ((with_reducible show TV _ _ _ (Expr.Compare _ [_] [_] _) _ _); first | (apply tv_cmp; (focus tm_at "e"); (focus tm_at "e"); (focus tm_at "cmp"); (focus tm_at "auto"))))
local macro_rules | `(tactic| tm_at "w") => `(tactic| ((with_reducible show WV _ _ _ (Expr.BoolOp BoolOp.Or _ _) _ _); first | (apply wv_or; (focus tm_at "t"); (focus tm_at "introw"))))
local macro_rules | `(tactic| tm_at "w") => `(tactic| ((with_reducible show WV _ _ _ (Expr.BoolOp BoolOp.And _ _) _ _); first | (apply wv_and; (focus tm_at "t"); (focus tm_at "introw"))))
local macro_rules | `(tactic| tm_at "w") => `(tactic| ((with_reducible show WV _ _ _ (Expr.BoolOp BoolOp.Or [_] _) _ _); first | (apply wv_or1; (focus tm_at "t"))))
local macro_rules | `(tactic| tm_at "w") => `(tactic| ((with_reducible show WV _ _ _ (Expr.BoolOp BoolOp.And [_] _) _ _); first | (apply wv_and1; (focus tm_at "t"))))
local macro_rules | `(tactic| tm_at "ee") => `(tactic| first
  | (apply EE.of; (focus tm_at "e"); try (tm_at "ee"))
  | (refine ee_call' (by assumption) ?_; apply AE.of; (focus tm_at "a"))
  | (with_reducible refine ee_mod ?_; tm_at "ee")
  | (with_reducible refine ee_add ?_; tm_at "ee")
  | (with_reducible refine ee_sub ?_; tm_at "ee")
  | (with_reducible refine ee_mul ?_; tm_at "ee")
  | (with_reducible refine ee_div ?_; tm_at "ee")
  | (with_reducible refine ee_ixL ?_; tm_at "ee")
  | (refine ⟨_, rfl, ?_⟩; tm_at "ee"))

/-! ### towns -/
theorem short {z : Str} (h : NmOk z) : z.length ≤ sizeLine := by have := h.2.1; rw [sizeLine_eq]; omega
theorem isW_ok {n a b : Int} (h1 : a ≤ n) (h2 : n ≤ b) : isW (.int n) a b = true := by simp [isW, h1, h2]
def S__is_neighbour : PSpec := fun args γ P => ∃ a : Nb, args = [.fz (dNb a)] ∧ NbOk a ∧ P (.fz (.bool true)) γ
theorem len__is_neighbour {args γ P} (h : S__is_neighbour args γ P) : args.length = 1 := by obtain ⟨d, rfl, _⟩ := h; rfl
set_option maxHeartbeats 8000000 in
theorem body__is_neighbour {P : Program} {w : World} {K : PySem.W.Frag} {mg : Str → Option Value} {base : Heap} (g0 : G0 mg)
    (D_is_name : FnD P w K mg base "is_name" 1 S_is_name)
    (D_is_whole : FnD P w K mg base "is_whole" 1 S_is_whole)
    (D__is_row : FnD P w K mg base "_is_row" 1 S__is_row)
    {X : Cx} (c : Ctx X P w K mg base N__is_neighbour (defScope s__is_neighbour) 1) {args : List Itm} {γ : Cells} {Po : EPost} (hγ : Clo γ) (hS : S__is_neighbour args γ Po) :
    SVs X (slots0 N__is_neighbour args) γ (defBody s__is_neighbour) { nx := fun _ g => PL.Fin γ.length Po (.fz .none) g, rt := PL.Fin γ.length Po } := by
  have hX := c.ok
  have hp := c.po
  have v0 : Nm X "thing" 0 .local := c.nm 0 .local rfl (by decide +kernel) (.inl rfl) (by decide +kernel) (by decide +kernel)
  have v1 : Nm X "_" 1 .local := c.nm 1 .local rfl (by decide +kernel) (.inl rfl) (by decide +kernel) (by decide +kernel)
  have v2 : Nm X "purse" 2 .local := c.nm 2 .local rfl (by decide +kernel) (.inl rfl) (by decide +kernel) (by decide +kernel)
  have v3 : Nm X "floor" 3 .local := c.nm 3 .local rfl (by decide +kernel) (.inl rfl) (by decide +kernel) (by decide +kernel)
  have v4 : Nm X "ceiling" 4 .local := c.nm 4 .local rfl (by decide +kernel) (.inl rfl) (by decide +kernel) (by decide +kernel)
  have k__is_row : Cal X "_is_row" S__is_row := c.cal D__is_row (by decide) (by decide +kernel) (by decide +kernel)
  have k_is_name : Cal X "is_name" S_is_name := c.cal D_is_name (by decide) (by decide +kernel) (by decide +kernel)
  have b_all : Bt X "all" := c.bt (by decide +kernel) g0.b_all
  obtain ⟨a, rfl, hN, hP⟩ := hS
  have q1 := hN.lo
  have q2 := hN.le
  have q3 := hN.ge
  have q4 := hN.hi
  refine svs_if (k := false) (TV.is (tv_w (wv_or (tv_not (tv_val (ev_call k__is_row (by tm_at "a") ⟨dNb a, 4, rfl, rfl, rfl⟩))) fun _ => wv_or1 (tv_not (tv_val (ev_call k_is_name (av_cons (ev_ixT (ds := [.str a.1, .int a.2.1, .int a.2.2.1, .int a.2.2.2]) (ev_name v0.r rfl) ev_int ix_0) av_nil) ⟨.str a.1, rfl, (fun z e => by cases e; exact short hN.nm), rfl, rfl⟩))))) (by rw [nm_is hN.nm]; rfl)) (fun h => by cases h) (fun _ => svs_nil ?_)
  refine svs_if (k := false) (TV.is (tv_not (tv_val (ev_allB (ns := [PyData.int a.2.1, .int a.2.2.1, .int a.2.2.2].map fun d => isW d (-1000000000000000000000000000000) 1000000000000000000000000000000) hX b_all (ev_lcTM (w := 5) [PyData.int a.2.1, .int a.2.2.1, .int a.2.2.2] (fun d => .bool (isW d (-1000000000000000000000000000000) 1000000000000000000000000000000)) hX (by rw [c.N, c.sc]; exact ⟨rfl, by decide +kernel, by decide +kernel, by decide +kernel, by decide +kernel⟩) (fun X' hB => ⟨hB.cok hX rfl, hB.own (by rw [c.N]; rfl) (by decide +kernel) (by decide +kernel) (by decide +kernel)⟩) (ev_slT (ds := [.str a.1, .int a.2.1, .int a.2.2.1, .int a.2.2.2]) (ev_name v0.r rfl) (ov_some ev_int) ov_none (by simp; decide)) (by simp) (fun d hd acc X' hB => ?_)) (Rdb.fz _)))) ?_) (fun h => by cases h) (fun _ => svs_nil ?_)
  ·
    have hX_X' := hB.cok hX rfl
    have w5_X' : Nm X' "hours" 5 .local := hB.own (by rw [c.N]; rfl) (by decide +kernel) (by decide +kernel) (by decide +kernel)
    have k_is_whole_X' : Cal X' "is_whole" S_is_whole := hB.calC c D_is_whole (by decide) (by decide +kernel) (by decide +kernel)
    have m_MOST_HOURS_X' : Ci X' "MOST_HOURS" 1000000000000000000000000000000 := hB.ci (c.mg ▸ g0.c_MOST_HOURS) (by decide +kernel) (by decide +kernel)
    exact ev_call k_is_whole_X' (av_cons (ev_name w5_X'.r rfl) (av_cons (ev_neg (ev_const m_MOST_HOURS_X')) (av_cons (ev_const m_MOST_HOURS_X') av_nil))) ⟨d, _, _, rfl, rfl, rfl⟩
  · simp [isW_ok (show -1000000000000000000000000000000 ≤ a.2.1 by omega) (show a.2.1 ≤ 1000000000000000000000000000000 by omega), isW_ok q1 (show a.2.2.1 ≤ 1000000000000000000000000000000 by omega), isW_ok (show -1000000000000000000000000000000 ≤ a.2.2.2 by omega) q4]
  refine svs_asg (r := .fz (dNb a)) (γ1 := γ) (ev_name v0.r rfl) (gv_tup (ds := [.str a.1, .int a.2.1, .int a.2.2.1, .int a.2.2.2]) hX (gvs_cons (gv_name hX v1) (gvs_cons (gv_name hX v2) (gvs_cons (gv_name hX v3) (gvs_cons (gv_name hX v4) gvs_nil)))) rfl) ?_
  apply svs_retE
  refine EE.of (EV.is (ev_chain2 (ev_name v3.r rfl) (ev_name v2.r rfl) cmp_le (ev_name v4.r rfl) cmp_le) (d' := .bool true) ?_) (fin_same hγ hP)
  simp [q2, q3]
theorem ok__is_neighbour {P : Program} {w : World} {K : PySem.W.Frag} {mg : Str → Option Value} {base : Heap} (g0 : G0 mg)
    (D_is_name : FnD P w K mg base "is_name" 1 S_is_name)
    (D_is_whole : FnD P w K mg base "is_whole" 1 S_is_whole)
    (D__is_row : FnD P w K mg base "_is_row" 1 S__is_row)
    {f : Addr} {fd : FuncData} (F : Fun K "_is_neighbour" "_is_neighbour" s__is_neighbour f fd) (hm : mg "_is_neighbour" = some (.ref f)) : FnD P w K mg base "_is_neighbour" 2 S__is_neighbour :=
  def_ok F sc__is_neighbour hm (F.binds (ps := ["thing"]) fun _ _ _ _ _ _ us hl => match us, hl with | [_], _ => rfl) (fun args γ P h => len__is_neighbour h)
    fun X c args γ Po hγ hS => body__is_neighbour g0 D_is_name D_is_whole D__is_row c hγ hS
def S__is_town : PSpec := fun args γ P => ∃ t : List Nb, args = [.fz (.list (t.map dNb))] ∧ Town t ∧ P (.fz (.bool true)) γ
theorem len__is_town {args γ P} (h : S__is_town args γ P) : args.length = 1 := by obtain ⟨d, rfl, _⟩ := h; rfl
set_option maxHeartbeats 8000000 in
theorem body__is_town {P : Program} {w : World} {K : PySem.W.Frag} {mg : Str → Option Value} {base : Heap} (g0 : G0 mg)
    (D__is_neighbour : FnD P w K mg base "_is_neighbour" 2 S__is_neighbour)
    {X : Cx} (c : Ctx X P w K mg base N__is_town (defScope s__is_town) 2) {args : List Itm} {γ : Cells} {Po : EPost} (hγ : Clo γ) (hS : S__is_town args γ Po) :
    SVs X (slots0 N__is_town args) γ (defBody s__is_town) { nx := fun _ g => PL.Fin γ.length Po (.fz .none) g, rt := PL.Fin γ.length Po } := by
  have hX := c.ok
  have hp := c.po
  have v0 : Nm X "thing" 0 .local := c.nm 0 .local rfl (by decide +kernel) (.inl rfl) (by decide +kernel) (by decide +kernel)
  have b_isinstance : Bt X "isinstance" := c.bt (by decide +kernel) g0.b_isinstance
  have b_list : Bt X "list" := c.bt (by decide +kernel) g0.b_list
  have b_len : Bt X "len" := c.bt (by decide +kernel) g0.b_len
  have m_MOST_NEIGHBOURS : Ci X "MOST_NEIGHBOURS" 12 := c.ci (by decide +kernel) g0.c_MOST_NEIGHBOURS (by decide +kernel)
  have b_all : Bt X "all" := c.bt (by decide +kernel) g0.b_all
  obtain ⟨t, rfl, hT, hP⟩ := hS
  have hl := hT.len
  refine svs_if (k := false) (TV.is (tv_w (wv_or (tv_not (tv_val (ev_isi b_isinstance b_list (by decide +kernel) (ev_name v0.r rfl) (Rdb.fz _) (kit_list _)))) fun _ => wv_or1 (tv_cmp (ev_lenL (ds := t.map dNb) b_len (ev_name v0.r rfl) (Rdb.fz _)) (ev_const m_MOST_NEIGHBOURS) cmp_gt))) (by simp [isL]; omega)) (fun h => by cases h) (fun _ => svs_nil ?_)
  refine svs_if (k := false) (TV.is (tv_not (tv_val (ev_allB (ns := t.map fun _ => true) hX b_all (ev_lcM (w := 1) dNb t (fun _ => .bool true) hX (by rw [c.N, c.sc]; exact ⟨rfl, by decide +kernel, by decide +kernel, by decide +kernel, by decide +kernel⟩) (fun X' hB => ⟨hB.cok hX rfl, hB.own (by rw [c.N]; rfl) (by decide +kernel) (by decide +kernel) (by decide +kernel)⟩) (ev_name v0.r rfl) (Rdb.fz _) (by omega) (fun a ha acc X' hB => ?_)) (by rw [List.map_map]; exact Rdb.fz _)))) (by simp)) (fun h => by cases h) (fun _ => svs_nil ?_)
  ·
    have hX_X' := hB.cok hX rfl
    have w1_X' : Nm X' "row" 1 .local := hB.own (by rw [c.N]; rfl) (by decide +kernel) (by decide +kernel) (by decide +kernel)
    have k__is_neighbour_X' : Cal X' "_is_neighbour" S__is_neighbour := hB.calC c D__is_neighbour (by decide) (by decide +kernel) (by decide +kernel)
    exact ev_call k__is_neighbour_X' (av_cons (ev_name w1_X'.r rfl) av_nil) ⟨a, rfl, hT.ok a ha, rfl, rfl⟩
  apply svs_retE
  let ky : Nat → Key := fun i => .inr ((t.map (·.1)).getD i "")
  have all : (keysL ky ((t.map dNb).map Itm.fz).length).length = t.length := by
    rw [List.length_map, List.length_map]
    exact keysL_all ky _ fun i j a b e => nodup_get hT.nd "" a (by simpa using b) (Sum.inr.inj e)
  refine EE.of (EV.is (ev_cmp (ev_lenK (L := keysL ky ((t.map dNb).map Itm.fz).length) (cc := γ.length) b_len (ev_scK ky hX (own := [("row", 1)]) (by rw [c.N, c.sc]; exact ⟨rfl, by decide +kernel, by decide +kernel, by decide +kernel, by decide +kernel⟩) (itv_list (ds := t.map dNb) (ev_name v0.r rfl) (Rdb.fz _)) (fun _ => Rdb.fz _) (by simp; omega) (fun i x hx => ?_)) ?_) (ev_lenL (ds := t.map dNb) b_len (ev_name v0.r rfl) (Rdb.fz _)) cmp_eqI) (d' := .bool true) (by rw [all]; simp)) (fin_junk hγ hP)
  · rw [List.getElem?_map, List.getElem?_map] at hx
    cases ha : t[i]? with
    | none => rw [ha] at hx; cases hx
    | some a =>
      rw [ha] at hx
      cases hx
      refine ⟨[some (.fz (.list (t.map dNb))), some (.fz (dNb a))], [1], by simp, fun X' hB G hG => ?_⟩
      have hX_X' := hB.cok hX rfl
      have w1_X' : Nm X' "row" 1 .local := hB.own (by rw [c.N]; rfl) (by decide +kernel) (by decide +kernel) (by decide +kernel)
      refine ⟨tgt1 hX_X' w1_X', .str a.1, ?_, ev_ixT (ds := [.str a.1, .int a.2.1, .int a.2.2.1, .int a.2.2.2]) (ev_name w1_X'.r rfl) ev_int ix_0⟩
      simp [ky, keyD, ha]
  · rw [List.getElem?_append_right (Nat.le_refl _)]
    simp
theorem ok__is_town {P : Program} {w : World} {K : PySem.W.Frag} {mg : Str → Option Value} {base : Heap} (g0 : G0 mg)
    (D__is_neighbour : FnD P w K mg base "_is_neighbour" 2 S__is_neighbour)
    {f : Addr} {fd : FuncData} (F : Fun K "_is_town" "_is_town" s__is_town f fd) (hm : mg "_is_town" = some (.ref f)) : FnD P w K mg base "_is_town" 3 S__is_town :=
  def_ok F sc__is_town hm (F.binds (ps := ["thing"]) fun _ _ _ _ _ _ us hl => match us, hl with | [_], _ => rfl) (fun args γ P h => len__is_town h)
    fun X c args γ Po hγ hS => body__is_town g0 D__is_neighbour c hγ hS
/-! ### days -/
def S__is_offer_or_wish : PSpec := fun args γ P => ∃ (a : Rw) (ns : List Str), args = [.fz (dRw a), .fz (.list (ns.map .str))] ∧ RwOk a ∧ a.1 ∈ ns ∧ (∀ z ∈ ns, NmOk z) ∧ P (.fz (.bool true)) γ
theorem len__is_offer_or_wish {args γ P} (h : S__is_offer_or_wish args γ P) : args.length = 2 := by obtain ⟨d, ns, rfl, _⟩ := h; rfl
theorem any_str {ns : List Str} {z : Str} : ((ns.map PyData.str).any fun d => PyData.eqv d (.str z)) = decide (z ∈ ns) := by
  induction ns with
  | nil => simp
  | cons x ns ih =>
    rw [List.map_cons, List.any_cons, ih, eqv_str]
    by_cases h : x = z
    · simp [h]
    · simp [h, show ¬ z = x from fun e => h e.symm]
theorem shp_strs {ns : List Str} (h : ∀ z ∈ ns, NmOk z) : Shp 1 (.list (ns.map .str)) := shp_list (n := 0) fun d hd => by
  obtain ⟨z, hz, rfl⟩ := List.mem_map.mp hd
  exact shp_low (h z hz).2.2
set_option maxHeartbeats 8000000 in
theorem body__is_offer_or_wish {P : Program} {w : World} {K : PySem.W.Frag} {mg : Str → Option Value} {base : Heap} (g0 : G0 mg)
    (D_is_name : FnD P w K mg base "is_name" 1 S_is_name)
    (D_is_whole : FnD P w K mg base "is_whole" 1 S_is_whole)
    (D__is_row : FnD P w K mg base "_is_row" 1 S__is_row)
    {X : Cx} (c : Ctx X P w K mg base N__is_offer_or_wish (defScope s__is_offer_or_wish) 1) {args : List Itm} {γ : Cells} {Po : EPost} (hγ : Clo γ) (hS : S__is_offer_or_wish args γ Po) :
    SVs X (slots0 N__is_offer_or_wish args) γ (defBody s__is_offer_or_wish) { nx := fun _ g => PL.Fin γ.length Po (.fz .none) g, rt := PL.Fin γ.length Po } := by
  have hX := c.ok
  have hp := c.po
  have v0 : Nm X "thing" 0 .local := c.nm 0 .local rfl (by decide +kernel) (.inl rfl) (by decide +kernel) (by decide +kernel)
  have v1 : Nm X "names" 1 .local := c.nm 1 .local rfl (by decide +kernel) (.inl rfl) (by decide +kernel) (by decide +kernel)
  have v2 : Nm X "name" 2 .local := c.nm 2 .local rfl (by decide +kernel) (.inl rfl) (by decide +kernel) (by decide +kernel)
  have v3 : Nm X "skill" 3 .local := c.nm 3 .local rfl (by decide +kernel) (.inl rfl) (by decide +kernel) (by decide +kernel)
  have v4 : Nm X "hours" 4 .local := c.nm 4 .local rfl (by decide +kernel) (.inl rfl) (by decide +kernel) (by decide +kernel)
  have k__is_row : Cal X "_is_row" S__is_row := c.cal D__is_row (by decide) (by decide +kernel) (by decide +kernel)
  have k_is_name : Cal X "is_name" S_is_name := c.cal D_is_name (by decide) (by decide +kernel) (by decide +kernel)
  have k_is_whole : Cal X "is_whole" S_is_whole := c.cal D_is_whole (by decide) (by decide +kernel) (by decide +kernel)
  have m_MOST_HOURS : Ci X "MOST_HOURS" 1000000000000000000000000000000 := c.ci (by decide +kernel) g0.c_MOST_HOURS (by decide +kernel)
  obtain ⟨a, ns, rfl, hR, hm, hn, hP⟩ := hS
  refine svs_if (k := false) (TV.is (tv_not (tv_val (ev_call k__is_row (by tm_at "a") ⟨dRw a, 3, rfl, rfl, rfl⟩))) rfl) (fun h => by cases h) (fun _ => svs_nil ?_)
  refine svs_asg (r := .fz (dRw a)) (γ1 := γ) (ev_name v0.r rfl) (gv_tup (ds := [.str a.1, .str a.2.1, .int a.2.2]) hX (gvs_cons (gv_name hX v2) (gvs_cons (gv_name hX v3) (gvs_cons (gv_name hX v4) gvs_nil))) rfl) ?_
  refine svs_if (k := false) (TV.is (tv_w (wv_or (tv_not (tv_val (ev_call k_is_name (av_cons (ev_name v2.r rfl) av_nil) ⟨.str a.1, rfl, (fun z e => by cases e; exact short hR.nm), rfl, rfl⟩))) fun _ => wv_or1 (tv_not (tv_val (ev_call k_is_name (av_cons (ev_name v3.r rfl) av_nil) ⟨.str a.2.1, rfl, (fun z e => by cases e; exact short hR.sk), rfl, rfl⟩))))) (by rw [nm_is hR.nm, nm_is hR.sk]; rfl)) (fun h => by cases h) (fun _ => svs_nil ?_)
  apply svs_retE
  refine EE.of (EV.is (ev_and (ev_cmp (ev_name v2.r rfl) (ev_name v1.r rfl) (cmp_inD hX (Rdb.fz _) (Rdb.fz _) (shp_low hR.nm.2.2).shaped (shp_strs hn).shaped)) fun _ => ev_one (ev_call k_is_whole (av_cons (ev_name v4.r rfl) (av_cons ev_int (av_cons (ev_const m_MOST_HOURS) av_nil))) ⟨.int a.2.2, _, _, rfl, rfl, rfl⟩)) (d' := .bool true) ?_) (fin_same hγ hP)
  rw [any_str, decide_eq_true hm, isW_ok hR.h0 hR.h1]
  rfl
theorem ok__is_offer_or_wish {P : Program} {w : World} {K : PySem.W.Frag} {mg : Str → Option Value} {base : Heap} (g0 : G0 mg)
    (D_is_name : FnD P w K mg base "is_name" 1 S_is_name)
    (D_is_whole : FnD P w K mg base "is_whole" 1 S_is_whole)
    (D__is_row : FnD P w K mg base "_is_row" 1 S__is_row)
    {f : Addr} {fd : FuncData} (F : Fun K "_is_offer_or_wish" "_is_offer_or_wish" s__is_offer_or_wish f fd) (hm : mg "_is_offer_or_wish" = some (.ref f)) : FnD P w K mg base "_is_offer_or_wish" 2 S__is_offer_or_wish :=
  def_ok F sc__is_offer_or_wish hm (F.binds (ps := ["thing", "names"]) fun _ _ _ _ _ _ us hl => match us, hl with | [_, _], _ => rfl) (fun args γ P h => len__is_offer_or_wish h)
    fun X c args γ Po hγ hS => body__is_offer_or_wish g0 D_is_name D_is_whole D__is_row c hγ hS
end KK

namespace KK
open PySem PySem.Spec PyProof.Rows L2 PL
local macro_rules | `(tactic| tm_at "nm") => `(tactic| with_reducible first | assumption | exact Nm.r (by assumption))
local macro_rules | `(tactic| tm_at "bt") => `(tactic| with_reducible assumption)
local macro_rules | `(tactic| tm_at "asm") => `(tactic| assumption)
local macro_rules | `(tactic| tm_at "auto") => `(tactic| first | rfl | exact fun _ _ => rfl | (intro _; rfl) | decide | exact nomark _ | (with_unfolding_all rfl))
local macro_rules | `(tactic| tm_at "boot") => `(tactic| decide +kernel)
local macro_rules | `(tactic| tm_at "kit") => `(tactic| first | exact kit_int _ | exact kit_bool _ | exact kit_str _ | exact kit_list _ | exact kit_tuple _ | exact kit_dict _)
local macro_rules | `(tactic| tm_at "side") => `(tactic| first | assumption | decide | omega | (simp only [List.length_map, List.length_cons, List.length_nil, List.length_append]; omega) | (simp; done))
local macro_rules | `(tactic| tm_at "pos") => `(tactic| first | decide | assumption | exact Int.pow_pos (by decide) | omega)
local macro_rules | `(tactic| tm_at "mul") => `(tactic| first | assumption | (exact small_mul 200 200 (by omega) (by omega)))
local macro_rules | `(tactic| tm_at "div") => `(tactic| first | assumption | (exact wide_div (b := 200) (by omega) (by omega) (by decide) (by decide)))
local macro_rules | `(tactic| tm_at "pow") => `(tactic| (refine ⟨?_, ?_, ?_⟩ <;> decide))
local macro_rules | `(tactic| tm_at "rd") => `(tactic| first | exact Rdb.fz _ | exact Rdb.cl (by assumption) | exact Rdb.cl rfl)
local macro_rules | `(tactic| tm_at "rdl") => `(tactic| first | exact .inr rfl | exact .inl (by tm_at "rd"))
local macro_rules | `(tactic| tm_at "ix") => `(tactic| first | assumption | exact ix_0 | exact ix_1 | exact ix_2 | exact ix_3 | exact ix_4 | rfl)
local macro_rules | `(tactic| tm_at "cmp") => `(tactic| first | exact cmp_lt | exact cmp_le | exact cmp_gt | exact cmp_ge | exact cmp_eqI | exact cmp_neI | exact cmp_eqS | exact cmp_neS | exact cmp_leS | exact cmp_ltS | exact cmp_inSign | exact cmp_notInSign | exact cmp_isB | exact cmp_notB | exact cmp_isN | exact cmp_notN | exact cmp_eqB | exact cmp_neB)
local macro_rules | `(tactic| tm_at "intro") => `(tactic| (intro _; tm_at "e"))
local macro_rules | `(tactic| tm_at "introe") => `(tactic| (intro _; tm_at "e"))
local macro_rules | `(tactic| tm_at "introw") => `(tactic| (intro _; tm_at "w"))
local macro_rules | `(tactic| tm_at "a") => `(tactic| first
  | exact av_nil
  | (apply av_cons; (focus tm_at "e"); (focus tm_at "a"); (focus tm_at "auto")))
local macro_rules | `(tactic| tm_at "alli") => `(tactic| (repeat (first | exact all_nil | (refine all_cons ⟨_, rfl, ?_, ?_⟩ ?_; (focus omega); (focus omega)))))
local macro_rules | `(tactic| tm_at "afz") => `(tactic| first
  | exact av_nilF
  | (apply av_consF; (focus tm_at "e"); (focus tm_at "afz"); (focus tm_at "auto")))
local macro_rules | `(tactic| tm_at "o") => `(tactic| first
  | exact ov_none
  | (apply ov_some; (focus tm_at "e")))
local macro_rules | `(tactic| tm_at "e") => `(tactic| ((with_reducible show EV _ _ _ (Expr.Tuple _ _ _) _ _); first | (apply ev_tup; (focus tm_at "afz"); (focus tm_at "side"))))
local macro_rules | `(tactic| tm_at "e") => `(tactic| ((with_reducible show EV _ _ _ (Expr.List _ _) _ _); first | (apply ev_lst; (focus tm_at "afz"); (focus tm_at "side"))))
local macro_rules | `(tactic| tm_at "e") => `(tactic| ((with_reducible show EV _ _ _ (Expr.Call (Expr.Attribute _ _ _) _ _ _) _ _); first | (apply ev_join; (focus tm_at "e"); (focus tm_at "e"); (focus tm_at "rd"); (focus tm_at "side"); (focus tm_at "auto"); (focus tm_at "auto"); (focus tm_at "auto"))))
local macro_rules | `(tactic| tm_at "e") => `(tactic| ((with_reducible show EV _ _ _ (Expr.Call (Expr.Name _ _) _ _ _) _ _); first | (apply ev_lenL; (focus tm_at "bt"); (focus tm_at "e"); (focus tm_at "rd"); (focus tm_at "auto")) | (apply ev_lenC; (focus tm_at "bt"); (focus tm_at "e"); (focus tm_at "ix"); (focus tm_at "auto")) | (apply ev_lenT; (focus tm_at "bt"); (focus tm_at "e"); (focus tm_at "auto")) | (apply ev_lenS; (focus tm_at "bt"); (focus tm_at "e"); (focus tm_at "side"); (focus tm_at "auto")) | (apply ev_max2; (focus tm_at "asm"); (focus tm_at "bt"); (focus tm_at "e"); (focus tm_at "e"); (focus tm_at "auto"); (focus tm_at "auto"); (focus tm_at "auto")) | (apply ev_min2; (focus tm_at "asm"); (focus tm_at "bt"); (focus tm_at "e"); (focus tm_at "e"); (focus tm_at "auto"); (focus tm_at "auto"); (focus tm_at "auto")) | (apply ev_intB; (focus tm_at "bt"); (focus tm_at "e"); (focus tm_at "auto")) | (apply ev_intI; (focus tm_at "bt"); (focus tm_at "e"); (focus tm_at "auto")) | (apply ev_abs; (focus tm_at "bt"); (focus tm_at "e"); (focus tm_at "auto")) | (apply ev_sum; (focus tm_at "asm"); (focus tm_at "bt"); (focus tm_at "e"); (focus tm_at "rd"); (focus tm_at "auto")) | (apply ev_listF; (focus tm_at "bt"); (focus tm_at "e"); (focus tm_at "rdl"); (focus tm_at "auto")) | (apply ev_sorted; (focus tm_at "bt"); (focus tm_at "e"); (focus tm_at "rd"); (focus tm_at "auto")) | (apply ev_isi; (focus tm_at "bt"); (focus tm_at "bt"); (focus tm_at "boot"); (focus tm_at "e"); (focus tm_at "rd"); (focus tm_at "kit"); (focus tm_at "auto"); (focus tm_at "auto"); (focus tm_at "auto"); (focus tm_at "auto"); (focus tm_at "auto"))))
local macro_rules | `(tactic| tm_at "e") => `(tactic| ((with_reducible show EV _ _ _ (Expr.BoolOp BoolOp.Or _ _) _ _); first | (apply ev_or; (focus tm_at "e"); (focus tm_at "introe"))))
local macro_rules | `(tactic| tm_at "e") => `(tactic| ((with_reducible show EV _ _ _ (Expr.BoolOp BoolOp.And _ _) _ _); first | (apply ev_and; (focus tm_at "e"); (focus tm_at "introe"))))
local macro_rules | `(tactic| tm_at "e") => `(tactic| ((with_reducible show EV _ _ _ (Expr.BoolOp _ [_] _) _ _); first | (apply ev_one; (focus tm_at "e"))))
local macro_rules | `(tactic| tm_at "e") => `(tactic| ((with_reducible show EV _ _ _ (Expr.IfExp _ _ _ _) _ _); first | (apply ev_ifx; (focus tm_at "t"); (focus tm_at "intro"); (focus tm_at "intro"))))
local macro_rules | `(tactic| tm_at "e") => `(tactic| ((with_reducible show EV _ _ _ (Expr.Compare _ [_, _] [_, _] _) _ _); first | (apply ev_chain2; (focus tm_at "e"); (focus tm_at "e"); (focus tm_at "cmp"); (focus tm_at "e"); (focus tm_at "cmp"); (focus tm_at "auto"))))
local macro_rules | `(tactic| tm_at "e") => `(tactic| ((with_reducible show EV _ _ _ (Expr.Compare _ [_] [_] _) _ _); first | (apply ev_cmp; (focus tm_at "e"); (focus tm_at "e"); (focus tm_at "cmp"); (focus tm_at "auto"))))
local macro_rules | `(tactic| tm_at "e") => `(tactic| ((with_reducible show EV _ _ _ (Expr.UnaryOp UnaryOp.Not _ _) _ _); first | (apply ev_not; (focus tm_at "e"))))
local macro_rules | `(tactic| tm_at "e") => `(tactic| ((with_reducible show EV _ _ _ (Expr.UnaryOp UnaryOp.USub _ _) _ _); first | (apply ev_neg; (focus tm_at "e"))))
local macro_rules | `(tactic| tm_at "e") => `(tactic| ((with_reducible show EV _ _ _ (Expr.Subscript _ _ _) _ _); first | (apply ev_ixL; (focus tm_at "e"); (focus tm_at "e"); (focus tm_at "rd"); (focus tm_at "ix"); (focus tm_at "auto")) | (apply ev_ixT; (focus tm_at "e"); (focus tm_at "e"); (focus tm_at "ix"); (focus tm_at "auto")) | (apply ev_ixC; (focus tm_at "e"); (focus tm_at "e"); (focus tm_at "ix"); (focus tm_at "ix"); (focus tm_at "auto")) | (apply ev_ixP; (focus tm_at "e"); (focus tm_at "e"); (focus tm_at "ix"); (focus tm_at "auto")) | (apply ev_ixS; (focus tm_at "e"); (focus tm_at "e"); (focus tm_at "side"); (focus tm_at "asm"); (focus tm_at "auto"))))
local macro_rules | `(tactic| tm_at "e") => `(tactic| ((with_reducible show EV _ _ _ (Expr.Subscript _ (Expr.Slice _ _ _ _) _) _ _); first | (apply ev_slL; (focus tm_at "e"); (focus tm_at "o"); (focus tm_at "o"); (focus tm_at "rd")) | (apply ev_slT; (focus tm_at "e"); (focus tm_at "o"); (focus tm_at "o"); (focus tm_at "side")) | (apply ev_slS; (focus tm_at "e"); (focus tm_at "o"); (focus tm_at "o"); (focus tm_at "side"))))
local macro_rules | `(tactic| tm_at "e") => `(tactic| ((with_reducible show EV _ _ _ (Expr.BinOp _ Operator.Pow _ _) _ _); first | (apply ev_pow; (focus tm_at "e"); (focus tm_at "e"); (focus tm_at "pow"))))
local macro_rules | `(tactic| tm_at "e") => `(tactic| ((with_reducible show EV _ _ _ (Expr.BinOp _ Operator.FloorDiv _ _) _ _); first | (apply ev_div; (focus tm_at "e"); (focus tm_at "e"); (focus tm_at "div"))))
local macro_rules | `(tactic| tm_at "e") => `(tactic| ((with_reducible show EV _ _ _ (Expr.BinOp _ Operator.Mod _ _) _ _); first | (apply ev_mod; (focus tm_at "e"); (focus tm_at "e"); (focus tm_at "pos"))))
local macro_rules | `(tactic| tm_at "e") => `(tactic| ((with_reducible show EV _ _ _ (Expr.BinOp _ Operator.Mult _ _) _ _); first | (apply ev_mul; (focus tm_at "e"); (focus tm_at "e"); (focus tm_at "mul")) | (apply ev_repF; (focus tm_at "afz"); (focus tm_at "e"); (focus tm_at "side"); (focus tm_at "side"); (focus tm_at "side"))))
local macro_rules | `(tactic| tm_at "e") => `(tactic| ((with_reducible show EV _ _ _ (Expr.BinOp _ Operator.Sub _ _) _ _); first | (apply ev_sub; (focus tm_at "e"); (focus tm_at "e"))))
local macro_rules | `(tactic| tm_at "e") => `(tactic| ((with_reducible show EV _ _ _ (Expr.BinOp _ Operator.Add _ _) _ _); first | (apply ev_add; (focus tm_at "e"); (focus tm_at "e")) | (apply ev_catF; (focus tm_at "e"); (focus tm_at "e"); (focus tm_at "rd"); (focus tm_at "rd"); (focus tm_at "side")) | (apply ev_addS; (focus tm_at "e"); (focus tm_at "e"); (focus tm_at "side")) | (apply ev_catT; (focus tm_at "e"); (focus tm_at "e"); (focus tm_at "side"))))
local macro_rules | `(tactic| tm_at "e") => `(tactic| ((with_reducible show EV _ _ _ (Expr.Name _ _) _ _); first | (apply ev_name; (focus tm_at "nm"); (focus rfl))))
local macro_rules | `(tactic| tm_at "e") => `(tactic| ((with_reducible show EV _ _ _ (Expr.Constant _ _ _) _ _); first | exact ev_int | exact ev_bl | exact ev_str | exact ev_non))
local macro_rules | `(tactic| tm_at "t") => `(tactic| ((with_reducible show TV _ _ _ _ _ _); first | (apply tv_val; (focus tm_at "e"); (focus tm_at "auto")) | (apply tv_truthL; (focus tm_at "e"); (focus tm_at "rd"); (focus tm_at "auto")) | (apply tv_truthI; (focus tm_at "e"); (focus tm_at "auto"))))
local macro_rules | `(tactic| tm_at "t") => `(tactic| ((with_reducible show TV _ _ _ (Expr.BoolOp _ _ _) _ _); first | (apply tv_w; (focus tm_at "w"))))
local macro_rules | `(tactic| tm_at "t") => `(tactic| ((with_reducible show TV _ _ _ (Expr.UnaryOp UnaryOp.Not _ _) _ _); first | (apply tv_not; (focus tm_at "t"))))
local macro_rules | `(tactic| tm_at "t") => `(tactic| ((with_reducible show TV _ _ _ (Expr.Compare _ [_, _] [_, _] _) _ _); first | (apply tv_chain2; (focus tm_at "e"); (focus tm_at "e"); (focus tm_at "cmp"); (focus tm_at "e"); (focus tm_at "cmp"); (focus tm_at "auto"))))
local macro_rules | `(tactic| tm_at "t") => `(tactic| ((with_reducible show TV _ _ _ (Expr.Compare _ [_] [_] _) _ _); first | (apply tv_cmp; (focus tm_at "e"); (focus tm_at "e"); (focus tm_at "cmp"); (focus tm_at "auto"))))
local macro_rules | `(tactic| tm_at "w") => `(tactic| ((with_reducible show WV _ _ _ (Expr.BoolOp BoolOp.Or _ _) _ _); first | (apply wv_or; (focus tm_at "t"); (focus tm_at "introw"))))
local macro_rules | `(tactic| tm_at "w") => `(tactic| ((with_reducible show WV _ _ _ (Expr.BoolOp BoolOp.And _ _) _ _); first | (apply wv_and; (focus tm_at "t"); (focus tm_at "introw"))))
local macro_rules | `(tactic| tm_at "w") => `(tactic| ((with_reducible show WV _ _ _ (Expr.BoolOp BoolOp.Or [_] _) _ _); first | (apply wv_or1; (focus tm_at "t"))))
local macro_rules | `(tactic| tm_at "w") => `(tactic| ((with_reducible show WV _ _ _ (Expr.BoolOp BoolOp.And [_] _) _ _); first | (apply wv_and1; (focus tm_at "t"))))
local macro_rules | `(tactic| tm_at "ee") => `(tactic| first
  | (apply EE.of; (focus tm_at "e"); try (tm_at "ee"))
  | (refine ee_call' (by assumption) ?_; apply AE.of; (focus tm_at "a"))
  | (with_reducible refine ee_mod ?_; tm_at "ee")
  | (with_reducible refine ee_add ?_; tm_at "ee")
  | (with_reducible refine ee_sub ?_; tm_at "ee")
  | (with_reducible refine ee_mul ?_; tm_at "ee")
  | (with_reducible refine ee_div ?_; tm_at "ee")
  | (with_reducible refine ee_ixL ?_; tm_at "ee")
  | (refine ⟨_, rfl, ?_⟩; tm_at "ee"))

/-! ### skills in order -/
def S_skills_of : PSpec := fun args γ P => ∃ d : Day, args = [.fz (dDay d)] ∧ (rows d).length ≤ 40 ∧ (∀ a ∈ rows d, RwOk a) ∧ P (.fz (.list ((skl d).map .str))) γ
theorem len_skills_of {args γ P} (h : S_skills_of args γ P) : args.length = 1 := by obtain ⟨d, rfl, _⟩ := h; rfl
set_option maxHeartbeats 8000000 in
theorem body_skills_of {P : Program} {w : World} {K : PySem.W.Frag} {mg : Str → Option Value} {base : Heap} (g0 : G0 mg)
    {X : Cx} (c : Ctx X P w K mg base N_skills_of (defScope s_skills_of) 0) {args : List Itm} {γ : Cells} {Po : EPost} (hγ : Clo γ) (hS : S_skills_of args γ Po) :
    SVs X (slots0 N_skills_of args) γ (defBody s_skills_of) { nx := fun _ g => PL.Fin γ.length Po (.fz .none) g, rt := PL.Fin γ.length Po } := by
  have hX := c.ok
  have hp := c.po
  have v0 : Nm X "day" 0 .local := c.nm 0 .local rfl (by decide +kernel) (.inl rfl) (by decide +kernel) (by decide +kernel)
  have v1 : Nm X "offers" 1 .local := c.nm 1 .local rfl (by decide +kernel) (.inl rfl) (by decide +kernel) (by decide +kernel)
  have v2 : Nm X "wishes" 2 .local := c.nm 2 .local rfl (by decide +kernel) (.inl rfl) (by decide +kernel) (by decide +kernel)
  have v3 : Nm X "skills" 3 .local := c.nm 3 .local rfl (by decide +kernel) (.inl rfl) (by decide +kernel) (by decide +kernel)
  have v4 : Nm X "row" 4 .local := c.nm 4 .local rfl (by decide +kernel) (.inl rfl) (by decide +kernel) (by decide +kernel)
  obtain ⟨d, rfl, hl, hok, hP⟩ := hS
  have hl' : d.1.length + d.2.length ≤ 40 := by have := hl; unfold rows at this; rw [List.length_append] at this; exact this
  have er : d.1.map dRw ++ d.2.map dRw = (rows d).map dRw := by simp [rows]
  refine svs_asg (r := .fz (dDay d)) (γ1 := γ) (ev_name v0.r rfl) (gv_tup (ds := [.list (d.1.map dRw), .list (d.2.map dRw)]) hX (gvs_cons (gv_name hX v1) (gvs_cons (gv_name hX v2) gvs_nil)) rfl) ?_
  apply svs_setE hX v3
  refine EE.of (ev_lstC av_nil) ?_
  refine svs_forL dRw (rows d) hX hp (ev_catF (ds := d.1.map dRw) (es' := d.2.map dRw) (ev_name v1.r rfl) (ev_name v2.r rfl) (Rdb.fz _) (Rdb.fz _) (by simp; omega)) (by rw [er]; exact Rdb.fz _)
    (fun i Γ' g => ∃ s4 : Option Itm, Γ' = [some (.fz (dDay d)), some (.fz (.list (d.1.map dRw))), some (.fz (.list (d.2.map dRw))), some (.cl γ.length), s4] ∧ g = γ ++ [.lst (((dd [] (((rows d).take i).map (·.2.1))).map PyData.str).map Itm.fz)])
    ⟨none, rfl, rfl⟩ (fun _ _ _ _ _ => by rw [er]; exact Rdb.fz _) ?_ ?_
  · rintro i a Γ' g hi ha ⟨s4, rfl, rfl⟩
    have hR := hok a ha
    have cell : (γ ++ [Cell.lst (((dd [] (((rows d).take i).map (·.2.1))).map PyData.str).map Itm.fz)])[γ.length]? = some (.lst (((dd [] (((rows d).take i).map (·.2.1))).map PyData.str).map Itm.fz)) := by rw [List.getElem?_append_right (Nat.le_refl _)]; simp
    have some_ : ∀ z ∈ dd [] (((rows d).take i).map (·.2.1)), NmOk z := fun z hz => by
      rcases (dd_mem _ _ _).mp hz with q | q
      · cases q
      · obtain ⟨b, hb, rfl⟩ := List.mem_map.mp q
        exact (hok b (List.mem_of_mem_take hb)).sk
    have next : dd [] (((rows d).take (i + 1)).map (·.2.1)) = if a.2.1 ∈ dd [] (((rows d).take i).map (·.2.1)) then dd [] (((rows d).take i).map (·.2.1)) else dd [] (((rows d).take i).map (·.2.1)) ++ [a.2.1] := by
      rw [List.take_add_one, hi]
      simp only [List.map_append, Option.toList, List.map_cons, List.map_nil]
      exact dd_app _ _ _
    have few : (dd [] (((rows d).take i).map (·.2.1))).length ≤ 40 := by
      have := dd_len (((rows d).take i).map (·.2.1)) []
      simp only [List.length_map, List.length_take, List.length_nil] at this
      omega
    refine ⟨_, _, gv_name hX v4, ?_⟩
    refine svs_if (k := !decide (a.2.1 ∈ dd [] (((rows d).take i).map (·.2.1)))) (TV.is (tv_cmp (ev_ixT (ds := [.str a.1, .str a.2.1, .int a.2.2]) (ev_name v4.r rfl) ev_int ix_1) (ev_name v3.r rfl) (cmp_notInD hX (Rdb.fz _) (Rdb.cl cell) (shp_low hR.sk.2.2).shaped (shp_strs some_).shaped)) (by rw [any_str])) (fun h => ?_) (fun h => ?_)
    · refine svs_expr (ev_append (cc := γ.length) (ev_name v3.r rfl) (ev_ixT (ds := [.str a.1, .str a.2.1, .int a.2.2]) (ev_name v4.r rfl) ev_int ix_1) ⟨_, cell⟩ cell (by simp only [List.length_map]; omega)) fun r g' e => ?_
      obtain ⟨_, rfl⟩ := e
      refine svs_nil (svs_nil ⟨_, rfl, ?_⟩)
      rw [next, if_neg (by simpa using h), List.set_append_right _ _ (Nat.le_refl _), Nat.sub_self]
      simp
    · refine svs_nil (svs_nil ⟨_, rfl, ?_⟩)
      rw [next, if_pos (by simpa using h)]
  · rintro Γ' g ⟨s4, rfl, rfl⟩
    rw [List.take_length]
    refine SVs.freeze (i := 3) (c := γ.length) (ds := (skl d).map PyData.str) rfl (by rw [List.getElem?_append_right (Nat.le_refl _)]; simp [skl]) ?_
    apply svs_retE
    refine EE.of (ev_name v3.r rfl) ?_
    rw [List.set_append_right _ _ (Nat.le_refl _)]
    exact fin_junk hγ hP
theorem ok_skills_of {P : Program} {w : World} {K : PySem.W.Frag} {mg : Str → Option Value} {base : Heap} (g0 : G0 mg)
    {f : Addr} {fd : FuncData} (F : Fun K "skills_of" "skills_of" s_skills_of f fd) (hm : mg "skills_of" = some (.ref f)) : FnD P w K mg base "skills_of" 1 S_skills_of :=
  def_ok F sc_skills_of hm (F.binds (ps := ["day"]) fun _ _ _ _ _ _ us hl => match us, hl with | [_], _ => rfl) (fun args γ P h => len_skills_of h)
    fun X c args γ Po hγ hS => body_skills_of g0  c hγ hS
/-! ### days -/
/-- a good day of a town -/
structure GoodD (t : List Nb) (d : Day) : Prop where
  len : (rows d).length ≤ 40
  ok : ∀ a ∈ rows d, RwOk a
  nm : ∀ a ∈ rows d, a.1 ∈ t.map (·.1)
  nd : (prs (rows d)).Nodup
  sk : (skl d).length ≤ 12
theorem Rows.good {t zs d} (h : Rows t zs (rows d)) (l : (rows d).length ≤ 40) (z : zs.length ≤ 12) : GoodD t d := by
  refine ⟨l, h.ok, h.nm, h.nd, Nat.le_trans (sub_len (dd_nodup _ [] List.nodup_nil) fun x hx => ?_) z⟩
  rcases (dd_mem _ _ _).mp hx with q | q
  · cases q
  · obtain ⟨a, ha, rfl⟩ := List.mem_map.mp q
    exact h.sk a ha
def S__is_day : PSpec := fun args γ P => ∃ (t : List Nb) (d : Day), args = [.fz (.list (t.map dNb)), .fz (dDay d)] ∧ Town t ∧ GoodD t d ∧ P (.fz (.bool true)) γ
theorem len__is_day {args γ P} (h : S__is_day args γ P) : args.length = 2 := by obtain ⟨t, d, rfl, _⟩ := h; rfl
set_option maxHeartbeats 16000000 in
theorem body__is_day {P : Program} {w : World} {K : PySem.W.Frag} {mg : Str → Option Value} {base : Heap} (g0 : G0 mg)
    (D_skills_of : FnD P w K mg base "skills_of" 1 S_skills_of)
    (D__is_row : FnD P w K mg base "_is_row" 1 S__is_row)
    (D__is_town : FnD P w K mg base "_is_town" 3 S__is_town)
    (D__is_offer_or_wish : FnD P w K mg base "_is_offer_or_wish" 2 S__is_offer_or_wish)
    {X : Cx} (c : Ctx X P w K mg base N__is_day (defScope s__is_day) 3) {args : List Itm} {γ : Cells} {Po : EPost} (hγ : Clo γ) (hS : S__is_day args γ Po) :
    SVs X (slots0 N__is_day args) γ (defBody s__is_day) { nx := fun _ g => PL.Fin γ.length Po (.fz .none) g, rt := PL.Fin γ.length Po } := by
  have hX := c.ok
  have hp := c.po
  have v0 : Nm X "town" 0 .local := c.nm 0 .local rfl (by decide +kernel) (.inl rfl) (by decide +kernel) (by decide +kernel)
  have v1 : Nm X "thing" 1 .local := c.nm 1 .local rfl (by decide +kernel) (.inl rfl) (by decide +kernel) (by decide +kernel)
  have v2 : Nm X "offers" 2 .local := c.nm 2 .local rfl (by decide +kernel) (.inl rfl) (by decide +kernel) (by decide +kernel)
  have v3 : Nm X "wishes" 3 .local := c.nm 3 .local rfl (by decide +kernel) (.inl rfl) (by decide +kernel) (by decide +kernel)
  have v4 : Nm X "rows" 4 .local := c.nm 4 .local rfl (by decide +kernel) (.inl rfl) (by decide +kernel) (by decide +kernel)
  have v5 : Nm X "names" 5 .cell := c.nm 5 .cell rfl (by decide +kernel) (.inr rfl) (by decide +kernel) (by decide +kernel)
  have k__is_town : Cal X "_is_town" S__is_town := c.cal D__is_town (by decide) (by decide +kernel) (by decide +kernel)
  have k__is_row : Cal X "_is_row" S__is_row := c.cal D__is_row (by decide) (by decide +kernel) (by decide +kernel)
  have b_isinstance : Bt X "isinstance" := c.bt (by decide +kernel) g0.b_isinstance
  have b_list : Bt X "list" := c.bt (by decide +kernel) g0.b_list
  have b_len : Bt X "len" := c.bt (by decide +kernel) g0.b_len
  have m_MOST_ROWS : Ci X "MOST_ROWS" 40 := c.ci (by decide +kernel) g0.c_MOST_ROWS (by decide +kernel)
  have b_all : Bt X "all" := c.bt (by decide +kernel) g0.b_all
  have k_skills_of : Cal X "skills_of" S_skills_of := c.cal D_skills_of (by decide) (by decide +kernel) (by decide +kernel)
  have m_MOST_SKILLS : Ci X "MOST_SKILLS" 12 := c.ci (by decide +kernel) g0.c_MOST_SKILLS (by decide +kernel)
  obtain ⟨t, d, rfl, hT, hD, hP⟩ := hS
  have hl := hD.len
  have hl' : d.1.length + d.2.length ≤ 40 := by have := hl; unfold rows at this; rw [List.length_append] at this; exact this
  have er : d.1.map dRw ++ d.2.map dRw = (rows d).map dRw := by simp [rows]
  have ht := hT.len
  refine svs_if (k := false) (TV.is (tv_w (wv_or (tv_not (tv_val (ev_call k__is_town (av_cons (ev_name v0.r rfl) av_nil) ⟨t, rfl, hT, rfl, rfl⟩))) fun _ => wv_or1 (tv_not (tv_val (ev_call k__is_row (by tm_at "a") ⟨dDay d, 2, rfl, rfl, rfl⟩))))) rfl) (fun h => by cases h) (fun _ => svs_nil ?_)
  refine svs_asg (r := .fz (dDay d)) (γ1 := γ) (ev_name v1.r rfl) (gv_tup (ds := [.list (d.1.map dRw), .list (d.2.map dRw)]) hX (gvs_cons (gv_name hX v2) (gvs_cons (gv_name hX v3) gvs_nil)) rfl) ?_
  refine svs_if (k := false) (TV.is (tv_w (wv_or (tv_not (tv_val (ev_isi b_isinstance b_list (by decide +kernel) (ev_name v2.r rfl) (Rdb.fz _) (kit_list _)))) fun _ => wv_or1 (tv_not (tv_val (ev_isi b_isinstance b_list (by decide +kernel) (ev_name v3.r rfl) (Rdb.fz _) (kit_list _)))))) rfl) (fun h => by cases h) (fun _ => svs_nil ?_)
  apply svs_setE hX v4
  refine EE.of (EV.is (ev_catF (ds := d.1.map dRw) (es' := d.2.map dRw) (ev_name v2.r rfl) (ev_name v3.r rfl) (Rdb.fz _) (Rdb.fz _) (by simp; omega)) (d' := .list ((rows d).map dRw)) (by rw [er])) ?_
  refine svs_setE hX v5 (EE.of (ev_lcM (w := 6) dNb t (fun a => .str a.1) hX (by rw [c.N, c.sc]; exact ⟨rfl, by decide +kernel, by decide +kernel, by decide +kernel, by decide +kernel⟩) (fun X' hB => ⟨hB.cok hX rfl, hB.own (by rw [c.N]; rfl) (by decide +kernel) (by decide +kernel) (by decide +kernel)⟩) (ev_name v0.r rfl) (Rdb.fz _) (by omega) (fun a ha acc X' hB => ?_)) ?_) (hs := swf v5.r.kd)
  ·
    have hX_X' := hB.cok hX rfl
    have w6_X' : Nm X' "row" 6 .local := hB.own (by rw [c.N]; rfl) (by decide +kernel) (by decide +kernel) (by decide +kernel)
    exact ev_ixT (ds := [.str a.1, .int a.2.1, .int a.2.2.1, .int a.2.2.2]) (ev_name w6_X'.r rfl) ev_int ix_0
  have en : (t.map fun a => PyData.str a.1) = (t.map (·.1)).map .str := by rw [List.map_map]; rfl
  refine svs_if (k := false) (TV.is (tv_w (wv_or (tv_cmp (ev_lenL (ds := (rows d).map dRw) b_len (ev_name v4.r rfl) (Rdb.fz _)) (ev_const m_MOST_ROWS) cmp_gt) fun _ => wv_or1 (tv_not (tv_val (ev_allB (ns := (rows d).map fun _ => true) hX b_all (ev_lcM (w := 6) dRw (rows d) (fun _ => .bool true) hX (by rw [c.N, c.sc]; exact ⟨rfl, by decide +kernel, by decide +kernel, by decide +kernel, by decide +kernel⟩) (fun X' hB => ⟨hB.cok hX rfl, hB.own (by rw [c.N]; rfl) (by decide +kernel) (by decide +kernel) (by decide +kernel)⟩) (ev_name v4.r rfl) (Rdb.fz _) (by omega) (fun a ha acc X' hB => ?_)) (by rw [List.map_map]; exact Rdb.fz _)))))) (by simp; omega)) (fun h => by cases h) (fun _ => svs_nil ?_)
  ·
    have hX_X' := hB.cok hX rfl
    have w6_X' : Nm X' "row" 6 .local := hB.own (by rw [c.N]; rfl) (by decide +kernel) (by decide +kernel) (by decide +kernel)
    have k__is_offer_or_wish_X' : Cal X' "_is_offer_or_wish" S__is_offer_or_wish := hB.calC c D__is_offer_or_wish (by decide) (by decide +kernel) (by decide +kernel)
    have w5_X' : Nr X' "names" 5 .cell := hB.cap hX v5.r (by decide +kernel)
    refine ev_call k__is_offer_or_wish_X' (av_cons (ev_name w6_X'.r rfl) (av_cons (ev_name w5_X' rfl) av_nil)) ⟨a, t.map (·.1), by rw [en], hD.ok a ha, hD.nm a ha, fun z hz => ?_, rfl, rfl⟩
    obtain ⟨b, hb, rfl⟩ := List.mem_map.mp hz
    exact (hT.ok b hb).nm
  let ky : Nat → List Key := fun i => k2 ((prs (rows d)).getD i ("", ""))
  have all : (keysM ky (((rows d).map dRw).map Itm.fz).length).length = (rows d).length := by
    rw [List.length_map, List.length_map]
    exact (keysM_all ky _).mpr fun i j a b e => nodup_get hD.nd ("", "") a (by simpa [prs] using b) (k2_inj e)
  refine svs_if (k := false) (TV.is (tv_cmp (ev_lenST ky b_len hX (own := [("name", 7), ("skill", 8), ("_", 9)]) (by rw [c.N, c.sc]; exact ⟨rfl, by decide +kernel, by decide +kernel, by decide +kernel, by decide +kernel⟩) (itv_list (ds := (rows d).map dRw) (ev_name v4.r rfl) (Rdb.fz _)) (fun _ => Rdb.fz _) (by simp; omega) (fun i x hx => ?_)) (ev_lenL (ds := (rows d).map dRw) b_len (ev_name v4.r rfl) (Rdb.fz _)) cmp_neI) (by rw [all]; simp)) (fun h => by cases h) (fun _ => svs_nil ?_)
  · rw [List.getElem?_map, List.getElem?_map] at hx
    cases ha : (rows d)[i]? with
    | none => rw [ha] at hx; cases hx
    | some a =>
      rw [ha] at hx
      cases hx
      refine ⟨[some (.fz (.list (t.map dNb))), some (.fz (dDay d)), some (.fz (.list (d.1.map dRw))), some (.fz (.list (d.2.map dRw))), some (.fz (.list ((rows d).map dRw))), some (.fz (.list (t.map fun a => PyData.str a.1))), none, some (.fz (.str a.1)), some (.fz (.str a.2.1)), some (.fz (.int a.2.2))], [7, 8, 9], by simp, fun X' hB G o hG => ?_⟩
      have hX_X' := hB.cok hX rfl
      have w7_X' : Nm X' "name" 7 .local := hB.own (by rw [c.N]; rfl) (by decide +kernel) (by decide +kernel) (by decide +kernel)
      have w8_X' : Nm X' "skill" 8 .local := hB.own (by rw [c.N]; rfl) (by decide +kernel) (by decide +kernel) (by decide +kernel)
      have w9_X' : Nm X' "_" 9 .local := hB.own (by rw [c.N]; rfl) (by decide +kernel) (by decide +kernel) (by decide +kernel)
      refine ⟨gv_tup (ds := [.str a.1, .str a.2.1, .int a.2.2]) hX_X' (gvs_cons (gv_name hX_X' w7_X') (gvs_cons (gv_name hX_X' w8_X') (gvs_cons (gv_name hX_X' w9_X') gvs_nil))) rfl, .tuple [.str a.1, .str a.2.1], ?_, ev_tup (ds := [.str a.1, .str a.2.1]) (av_consF (ev_name w7_X'.r rfl) (av_consF (ev_name w8_X'.r rfl) av_nilF))⟩
      simp [ky, keyT, keysD, keyD, prs, ha, k2]
  apply svs_retE
  refine EE.of (EV.is (ev_cmp (ev_lenL (ds := (skl d).map .str) b_len (ev_call k_skills_of (av_cons (ev_name v1.r rfl) av_nil) ⟨d, rfl, hl, hD.ok, rfl, rfl⟩) (Rdb.fz _)) (ev_const m_MOST_SKILLS) cmp_le) (d' := .bool true) ?_) (fin_junk hγ hP)
  have := hD.sk
  simp
  omega
theorem ok__is_day {P : Program} {w : World} {K : PySem.W.Frag} {mg : Str → Option Value} {base : Heap} (g0 : G0 mg)
    (D_skills_of : FnD P w K mg base "skills_of" 1 S_skills_of)
    (D__is_row : FnD P w K mg base "_is_row" 1 S__is_row)
    (D__is_town : FnD P w K mg base "_is_town" 3 S__is_town)
    (D__is_offer_or_wish : FnD P w K mg base "_is_offer_or_wish" 2 S__is_offer_or_wish)
    {f : Addr} {fd : FuncData} (F : Fun K "_is_day" "_is_day" s__is_day f fd) (hm : mg "_is_day" = some (.ref f)) : FnD P w K mg base "_is_day" 4 S__is_day :=
  def_ok F sc__is_day hm (F.binds (ps := ["town", "thing"]) fun _ _ _ _ _ _ us hl => match us, hl with | [_, _], _ => rfl) (fun args γ P h => len__is_day h)
    fun X c args γ Po hγ hS => body__is_day g0 D_skills_of D__is_row D__is_town D__is_offer_or_wish c hγ hS
end KK

namespace KK
open PySem PySem.Spec PyProof.Rows L2 PL
local macro_rules | `(tactic| tm_at "nm") => `(tactic| with_reducible first | assumption | exact Nm.r (by assumption))
local macro_rules | `(tactic| tm_at "bt") => `(tactic| with_reducible assumption)
local macro_rules | `(tactic| tm_at "asm") => `(tactic| assumption)
local macro_rules | `(tactic| tm_at "auto") => `(tactic| first | rfl | exact fun _ _ => rfl | (intro _; rfl) | decide | exact nomark _ | (with_unfolding_all rfl))
local macro_rules | `(tactic| tm_at "boot") => `(tactic| decide +kernel)
local macro_rules | `(tactic| tm_at "kit") => `(tactic| first | exact kit_int _ | exact kit_bool _ | exact kit_str _ | exact kit_list _ | exact kit_tuple _ | exact kit_dict _)
local macro_rules | `(tactic| tm_at "side") => `(tactic| first | assumption | decide | omega | (simp only [List.length_map, List.length_cons, List.length_nil, List.length_append]; omega) | (simp; done))
local macro_rules | `(tactic| tm_at "pos") => `(tactic| first | decide | assumption | exact Int.pow_pos (by decide) | omega)
local macro_rules | `(tactic| tm_at "mul") => `(tactic| first | assumption | (exact small_mul 200 200 (by omega) (by omega)))
local macro_rules | `(tactic| tm_at "div") => `(tactic| first | assumption | (exact wide_div (b := 200) (by omega) (by omega) (by decide) (by decide)))
local macro_rules | `(tactic| tm_at "pow") => `(tactic| (refine ⟨?_, ?_, ?_⟩ <;> decide))
local macro_rules | `(tactic| tm_at "rd") => `(tactic| first | exact Rdb.fz _ | exact Rdb.cl (by assumption) | exact Rdb.cl rfl)
local macro_rules | `(tactic| tm_at "rdl") => `(tactic| first | exact .inr rfl | exact .inl (by tm_at "rd"))
local macro_rules | `(tactic| tm_at "ix") => `(tactic| first | assumption | exact ix_0 | exact ix_1 | exact ix_2 | exact ix_3 | exact ix_4 | rfl)
local macro_rules | `(tactic| tm_at "cmp") => `(tactic| first | exact cmp_lt | exact cmp_le | exact cmp_gt | exact cmp_ge | exact cmp_eqI | exact cmp_neI | exact cmp_eqS | exact cmp_neS | exact cmp_leS | exact cmp_ltS | exact cmp_inSign | exact cmp_notInSign | exact cmp_isB | exact cmp_notB | exact cmp_isN | exact cmp_notN | exact cmp_eqB | exact cmp_neB)
local macro_rules | `(tactic| tm_at "intro") => `(tactic| (intro _; tm_at "e"))
local macro_rules | `(tactic| tm_at "introe") => `(tactic| (intro _; tm_at "e"))
local macro_rules | `(tactic| tm_at "introw") => `(tactic| (intro _; tm_at "w"))
local macro_rules | `(tactic| tm_at "a") => `(tactic| first
  | exact av_nil
  | (apply av_cons; (focus tm_at "e"); (focus tm_at "a"); (focus tm_at "auto")))
local macro_rules | `(tactic| tm_at "alli") => `(tactic| (repeat (first | exact all_nil | (refine all_cons ⟨_, rfl, ?_, ?_⟩ ?_; (focus omega); (focus omega)))))
local macro_rules | `(tactic| tm_at "afz") => `(tactic| first
  | exact av_nilF
  | (apply av_consF; (focus tm_at "e"); (focus tm_at "afz"); (focus tm_at "auto")))
local macro_rules | `(tactic| tm_at "o") => `(tactic| first
  | exact ov_none
  | (apply ov_some; (focus tm_at "e")))
local macro_rules | `(tactic| tm_at "e") => `(tactic| ((with_reducible show EV _ _ _ (Expr.Tuple _ _ _) _ _); first | (apply ev_tup; (focus tm_at "afz"); (focus tm_at "side"))))
local macro_rules | `(tactic| tm_at "e") => `(tactic| ((with_reducible show EV _ _ _ (Expr.List _ _) _ _); first | (apply ev_lst; (focus tm_at "afz"); (focus tm_at "side"))))
local macro_rules | `(tactic| tm_at "e") => `(tactic| ((with_reducible show EV _ _ _ (Expr.Call (Expr.Attribute _ _ _) _ _ _) _ _); first | (apply ev_join; (focus tm_at "e"); (focus tm_at "e"); (focus tm_at "rd"); (focus tm_at "side"); (focus tm_at "auto"); (focus tm_at "auto"); (focus tm_at "auto"))))
local macro_rules | `(tactic| tm_at "e") => `(tactic| ((with_reducible show EV _ _ _ (Expr.Call (Expr.Name _ _) _ _ _) _ _); first | (apply ev_lenL; (focus tm_at "bt"); (focus tm_at "e"); (focus tm_at "rd"); (focus tm_at "auto")) | (apply ev_lenC; (focus tm_at "bt"); (focus tm_at "e"); (focus tm_at "ix"); (focus tm_at "auto")) | (apply ev_lenT; (focus tm_at "bt"); (focus tm_at "e"); (focus tm_at "auto")) | (apply ev_lenS; (focus tm_at "bt"); (focus tm_at "e"); (focus tm_at "side"); (focus tm_at "auto")) | (apply ev_max2; (focus tm_at "asm"); (focus tm_at "bt"); (focus tm_at "e"); (focus tm_at "e"); (focus tm_at "auto"); (focus tm_at "auto"); (focus tm_at "auto")) | (apply ev_min2; (focus tm_at "asm"); (focus tm_at "bt"); (focus tm_at "e"); (focus tm_at "e"); (focus tm_at "auto"); (focus tm_at "auto"); (focus tm_at "auto")) | (apply ev_intB; (focus tm_at "bt"); (focus tm_at "e"); (focus tm_at "auto")) | (apply ev_intI; (focus tm_at "bt"); (focus tm_at "e"); (focus tm_at "auto")) | (apply ev_abs; (focus tm_at "bt"); (focus tm_at "e"); (focus tm_at "auto")) | (apply ev_sum; (focus tm_at "asm"); (focus tm_at "bt"); (focus tm_at "e"); (focus tm_at "rd"); (focus tm_at "auto")) | (apply ev_listF; (focus tm_at "bt"); (focus tm_at "e"); (focus tm_at "rdl"); (focus tm_at "auto")) | (apply ev_sorted; (focus tm_at "bt"); (focus tm_at "e"); (focus tm_at "rd"); (focus tm_at "auto")) | (apply ev_isi; (focus tm_at "bt"); (focus tm_at "bt"); (focus tm_at "boot"); (focus tm_at "e"); (focus tm_at "rd"); (focus tm_at "kit"); (focus tm_at "auto"); (focus tm_at "auto"); (focus tm_at "auto"); (focus tm_at "auto"); (focus tm_at "auto"))))
local macro_rules | `(tactic| tm_at "e") => `(tactic| ((with_reducible show EV _ _ _ (Expr.BoolOp BoolOp.Or _ _) _ _); first | (apply ev_or; (focus tm_at "e"); (focus tm_at "introe"))))
local macro_rules | `(tactic| tm_at "e") => `(tactic| ((with_reducible show EV _ _ _ (Expr.BoolOp BoolOp.And _ _) _ _); first | (apply ev_and; (focus tm_at "e"); (focus tm_at "introe"))))
local macro_rules | `(tactic| tm_at "e") => `(tactic| ((with_reducible show EV _ _ _ (Expr.BoolOp _ [_] _) _ _); first | (apply ev_one; (focus tm_at "e"))))
local macro_rules | `(tactic| tm_at "e") => `(tactic| ((with_reducible show EV _ _ _ (Expr.IfExp _ _ _ _) _ _); first | (apply ev_ifx; (focus tm_at "t"); (focus tm_at "intro"); (focus tm_at "intro"))))
local macro_rules | `(tactic| tm_at "e") => `(tactic| ((with_reducible show EV _ _ _ (Expr.Compare _ [_, _] [_, _] _) _ _); first | (apply ev_chain2; (focus tm_at "e"); (focus tm_at "e"); (focus tm_at "cmp"); (focus tm_at "e"); (focus tm_at "cmp"); (focus tm_at "auto"))))
local macro_rules | `(tactic| tm_at "e") => `(tactic| ((with_reducible show EV _ _ _ (Expr.Compare _ [_] [_] _) _ _); first | (apply ev_cmp; (focus tm_at "e"); (focus tm_at "e"); (focus tm_at "cmp"); (focus tm_at "auto"))))
local macro_rules | `(tactic| tm_at "e") => `(tactic| ((with_reducible show EV _ _ _ (Expr.UnaryOp UnaryOp.Not _ _) _ _); first | (apply ev_not; (focus tm_at "e"))))
local macro_rules | `(tactic| tm_at "e") => `(tactic| ((with_reducible show EV _ _ _ (Expr.UnaryOp UnaryOp.USub _ _) _ _); first | (apply ev_neg; (focus tm_at "e"))))
local macro_rules | `(tactic| tm_at "e") => `(tactic| ((with_reducible show EV _ _ _ (Expr.Subscript _ _ _) _ _); first | (apply ev_ixL; (focus tm_at "e"); (focus tm_at "e"); (focus tm_at "rd"); (focus tm_at "ix"); (focus tm_at "auto")) | (apply ev_ixT; (focus tm_at "e"); (focus tm_at "e"); (focus tm_at "ix"); (focus tm_at "auto")) | (apply ev_ixC; (focus tm_at "e"); (focus tm_at "e"); (focus tm_at "ix"); (focus tm_at "ix"); (focus tm_at "auto")) | (apply ev_ixP; (focus tm_at "e"); (focus tm_at "e"); (focus tm_at "ix"); (focus tm_at "auto")) | (apply ev_ixS; (focus tm_at "e"); (focus tm_at "e"); (focus tm_at "side"); (focus tm_at "asm"); (focus tm_at "auto"))))
local macro_rules | `(tactic| tm_at "e") => `(tactic| ((with_reducible show EV _ _ _ (Expr.Subscript _ (Expr.Slice _ _ _ _) _) _ _); first | (apply ev_slL; (focus tm_at "e"); (focus tm_at "o"); (focus tm_at "o"); (focus tm_at "rd")) | (apply ev_slT; (focus tm_at "e"); (focus tm_at "o"); (focus tm_at "o"); (focus tm_at "side")) | (apply ev_slS; (focus tm_at "e"); (focus tm_at "o"); (focus tm_at "o"); (focus tm_at "side"))))
local macro_rules | `(tactic| tm_at "e") => `(tactic| ((with_reducible show EV _ _ _ (Expr.BinOp _ Operator.Pow _ _) _ _); first | (apply ev_pow; (focus tm_at "e"); (focus tm_at "e"); (focus tm_at "pow"))))
local macro_rules | `(tactic| tm_at "e") => `(tactic| ((with_reducible show EV _ _ _ (Expr.BinOp _ Operator.FloorDiv _ _) _ _); first | (apply ev_div; (focus tm_at "e"); (focus tm_at "e"); (focus tm_at "div"))))
local macro_rules | `(tactic| tm_at "e") => `(tactic| ((with_reducible show EV _ _ _ (Expr.BinOp _ Operator.Mod _ _) _ _); first | (apply ev_mod; (focus tm_at "e"); (focus tm_at "e"); (focus tm_at "pos"))))
local macro_rules | `(tactic| tm_at "e") => `(tactic| ((with_reducible show EV _ _ _ (Expr.BinOp _ Operator.Mult _ _) _ _); first | (apply ev_mul; (focus tm_at "e"); (focus tm_at "e"); (focus tm_at "mul")) | (apply ev_repF; (focus tm_at "afz"); (focus tm_at "e"); (focus tm_at "side"); (focus tm_at "side"); (focus tm_at "side"))))
local macro_rules | `(tactic| tm_at "e") => `(tactic| ((with_reducible show EV _ _ _ (Expr.BinOp _ Operator.Sub _ _) _ _); first | (apply ev_sub; (focus tm_at "e"); (focus tm_at "e"))))
local macro_rules | `(tactic| tm_at "e") => `(tactic| ((with_reducible show EV _ _ _ (Expr.BinOp _ Operator.Add _ _) _ _); first | (apply ev_add; (focus tm_at "e"); (focus tm_at "e")) | (apply ev_catF; (focus tm_at "e"); (focus tm_at "e"); (focus tm_at "rd"); (focus tm_at "rd"); (focus tm_at "side")) | (apply ev_addS; (focus tm_at "e"); (focus tm_at "e"); (focus tm_at "side")) | (apply ev_catT; (focus tm_at "e"); (focus tm_at "e"); (focus tm_at "side"))))
local macro_rules | `(tactic| tm_at "e") => `(tactic| ((with_reducible show EV _ _ _ (Expr.Name _ _) _ _); first | (apply ev_name; (focus tm_at "nm"); (focus rfl))))
local macro_rules | `(tactic| tm_at "e") => `(tactic| ((with_reducible show EV _ _ _ (Expr.Constant _ _ _) _ _); first | exact ev_int | exact ev_bl | exact ev_str | exact ev_non))
local macro_rules | `(tactic| tm_at "t") => `(tactic| ((with_reducible show TV _ _ _ _ _ _); first | (apply tv_val; (focus tm_at "e"); (focus tm_at "auto")) | (apply tv_truthL; (focus tm_at "e"); (focus tm_at "rd"); (focus tm_at "auto")) | (apply tv_truthI; (focus tm_at "e"); (focus tm_at "auto"))))
local macro_rules | `(tactic| tm_at "t") => `(tactic| ((with_reducible show TV _ _ _ (Expr.BoolOp _ _ _) _ _); first | (apply tv_w; (focus tm_at "w"))))
local macro_rules | `(tactic| tm_at "t") => `(tactic| ((with_reducible show TV _ _ _ (Expr.UnaryOp UnaryOp.Not _ _) _ _); first | (apply tv_not; (focus tm_at "t"))))
local macro_rules | `(tactic| tm_at "t") => `(tactic| ((with_reducible show TV _ _ _ (Expr.Compare _ [_, _] [_, _] _) _ _); first | (apply tv_chain2; (focus tm_at "e"); (focus tm_at "e"); (focus tm_at "cmp"); (focus tm_at "e"); (focus tm_at "cmp"); (focus tm_at "auto"))))
local macro_rules | `(tactic| tm_at "t") => `(tactic| ((with_reducible show TV _ _ _ (Expr.Compare _ [_] [_] _) _ _); first | (apply tv_cmp; (focus tm_at "e"); (focus tm_at "e"); (focus tm_at "cmp"); (focus tm_at "auto"))))
local macro_rules | `(tactic| tm_at "w") => `(tactic| ((with_reducible show WV _ _ _ (Expr.BoolOp BoolOp.Or _ _) _ _); first | (apply wv_or; (focus tm_at "t"); (focus tm_at "introw"))))
local macro_rules | `(tactic| tm_at "w") => `(tactic| ((with_reducible show WV _ _ _ (Expr.BoolOp BoolOp.And _ _) _ _); first | (apply wv_and; (focus tm_at "t"); (focus tm_at "introw"))))
local macro_rules | `(tactic| tm_at "w") => `(tactic| ((with_reducible show WV _ _ _ (Expr.BoolOp BoolOp.Or [_] _) _ _); first | (apply wv_or1; (focus tm_at "t"))))
local macro_rules | `(tactic| tm_at "w") => `(tactic| ((with_reducible show WV _ _ _ (Expr.BoolOp BoolOp.And [_] _) _ _); first | (apply wv_and1; (focus tm_at "t"))))
local macro_rules | `(tactic| tm_at "ee") => `(tactic| first
  | (apply EE.of; (focus tm_at "e"); try (tm_at "ee"))
  | (refine ee_call' (by assumption) ?_; apply AE.of; (focus tm_at "a"))
  | (with_reducible refine ee_mod ?_; tm_at "ee")
  | (with_reducible refine ee_add ?_; tm_at "ee")
  | (with_reducible refine ee_sub ?_; tm_at "ee")
  | (with_reducible refine ee_mul ?_; tm_at "ee")
  | (with_reducible refine ee_div ?_; tm_at "ee")
  | (with_reducible refine ee_ixL ?_; tm_at "ee")
  | (refine ⟨_, rfl, ?_⟩; tm_at "ee"))

/-! ### jobs, of any thing -/
abbrev Jb := Str × Str × Str × Int
def dJb (j : Jb) : PyData := .tuple [.str j.1, .str j.2.1, .str j.2.2.1, .int j.2.2.2]
structure JbOk (j : Jb) : Prop where
  g : NmOk j.1
  t : NmOk j.2.1
  s : NmOk j.2.2.1
  h0 : 1 ≤ j.2.2.2
  h1 : j.2.2.2 ≤ 1000000000000000000000000000000
def isJob (d : PyData) : Bool := match d with
  | .tuple [a, b, c, h] => isNm a && isNm b && isNm c && isW h 1 1000000000000000000000000000000
  | _ => false
theorem isNm_str {d : PyData} (h : isNm d = true) : ∃ z, d = .str z ∧ NmOk z := by
  cases d with
  | str z => exact ⟨z, rfl, is_nm h⟩
  | _ => simp [isNm] at h
theorem isJob_of {d : PyData} (h : isJob d = true) : ∃ j, d = dJb j ∧ JbOk j := by
  unfold isJob at h
  split at h
  · rename_i a b c e
    simp only [Bool.and_eq_true] at h
    obtain ⟨x, rfl, hx⟩ := isNm_str h.1.1.1
    obtain ⟨y, rfl, hy⟩ := isNm_str h.1.1.2
    obtain ⟨z, rfl, hz⟩ := isNm_str h.1.2
    cases e with
    | int n =>
      have := h.2
      simp only [isW, Bool.and_eq_true, decide_eq_true_eq] at this
      exact ⟨(x, y, z, n), rfl, hx, hy, hz, this.1, this.2⟩
    | _ => simp [isW] at h
  · cases h
theorem job_is {j : Jb} (h : JbOk j) : isJob (dJb j) = true := by
  simp only [isJob, dJb, nm_is h.g, nm_is h.t, nm_is h.s, isW_ok h.h0 h.h1, Bool.and_self]
def TxS (d : PyData) : Prop := ∀ ds, d = .tuple ds → ∀ z, PyData.str z ∈ ds → z.length ≤ sizeLine
theorem JbOk.tx {j : Jb} (h : JbOk j) : TxS (dJb j) := fun ds e z hz => by
  cases e
  simp at hz
  rcases hz with rfl | rfl | rfl
  · exact short h.g
  · exact short h.t
  · exact short h.s
def S__is_job : PSpec := fun args γ P => ∃ d : PyData, args = [.fz d] ∧ TxS d ∧ P (.fz (.bool (isJob d))) γ
theorem len__is_job {args γ P} (h : S__is_job args γ P) : args.length = 1 := by obtain ⟨d, rfl, _⟩ := h; rfl
set_option maxHeartbeats 8000000 in
theorem body__is_job {P : Program} {w : World} {K : PySem.W.Frag} {mg : Str → Option Value} {base : Heap} (g0 : G0 mg)
    (D_is_name : FnD P w K mg base "is_name" 1 S_is_name)
    (D_is_whole : FnD P w K mg base "is_whole" 1 S_is_whole)
    (D__is_row : FnD P w K mg base "_is_row" 1 S__is_row)
    {X : Cx} (c : Ctx X P w K mg base N__is_job (defScope s__is_job) 1) {args : List Itm} {γ : Cells} {Po : EPost} (hγ : Clo γ) (hS : S__is_job args γ Po) :
    SVs X (slots0 N__is_job args) γ (defBody s__is_job) { nx := fun _ g => PL.Fin γ.length Po (.fz .none) g, rt := PL.Fin γ.length Po } := by
  have hX := c.ok
  have hp := c.po
  have v0 : Nm X "thing" 0 .local := c.nm 0 .local rfl (by decide +kernel) (.inl rfl) (by decide +kernel) (by decide +kernel)
  have k__is_row : Cal X "_is_row" S__is_row := c.cal D__is_row (by decide) (by decide +kernel) (by decide +kernel)
  have b_all : Bt X "all" := c.bt (by decide +kernel) g0.b_all
  have k_is_whole : Cal X "is_whole" S_is_whole := c.cal D_is_whole (by decide) (by decide +kernel) (by decide +kernel)
  have m_MOST_HOURS : Ci X "MOST_HOURS" 1000000000000000000000000000000 := c.ci (by decide +kernel) g0.c_MOST_HOURS (by decide +kernel)
  obtain ⟨d, rfl, hz, hP⟩ := hS
  by_cases hr : isRow d 4 = true
  · obtain ⟨x, y, z, h, rfl⟩ : ∃ x y z h, d = .tuple [x, y, z, h] := by
      cases d with
      | tuple ds =>
        simp only [isRow, decide_eq_true_eq] at hr
        match ds, hr with
        | [x, y, z, h], _ => exact ⟨x, y, z, h, rfl⟩
      | _ => simp [isRow] at hr
    have hz := hz _ rfl
    refine svs_if (k := !(isNm x && isNm y && isNm z)) (TV.is (tv_w (wv_or (tv_not (tv_val (ev_call k__is_row (av_cons (ev_name v0.r rfl) (av_cons ev_int av_nil)) ⟨.tuple [x, y, z, h], 4, rfl, rfl, rfl⟩))) fun _ => wv_or1 (tv_not (tv_val (ev_allB (ns := [x, y, z].map isNm) hX b_all (ev_lcTM (w := 1) [x, y, z] (fun d => .bool (isNm d)) hX (by rw [c.N, c.sc]; exact ⟨rfl, by decide +kernel, by decide +kernel, by decide +kernel, by decide +kernel⟩) (fun X' hB => ⟨hB.cok hX rfl, hB.own (by rw [c.N]; rfl) (by decide +kernel) (by decide +kernel) (by decide +kernel)⟩) (ev_slT (ds := [x, y, z, h]) (ev_name v0.r rfl) ov_none (ov_some ev_int) (by simp; decide)) (by simp) (fun d hd acc X' hB => ?_)) (Rdb.fz _)))))) (by rw [hr]; simp [Bool.and_assoc])) (fun q => ?_) (fun q => ?_)
    ·
      have hX_X' := hB.cok hX rfl
      have w1_X' : Nm X' "word" 1 .local := hB.own (by rw [c.N]; rfl) (by decide +kernel) (by decide +kernel) (by decide +kernel)
      have k_is_name_X' : Cal X' "is_name" S_is_name := hB.calC c D_is_name (by decide) (by decide +kernel) (by decide +kernel)
      refine ev_call k_is_name_X' (av_cons (ev_name w1_X'.r rfl) av_nil) ⟨d, rfl, fun s e => hz s ?_, rfl, rfl⟩
      subst e
      simp at hd ⊢
      rcases hd with e | e | e
      · exact .inl e
      · exact .inr (.inl e)
      · exact .inr (.inr (.inl e))
    · apply svs_retE
      refine EE.of ev_bl ?_
      have : isJob (.tuple [x, y, z, h]) = false := by
        simp only [isJob]
        rw [Bool.not_eq_true'] at q
        rw [q]
        rfl
      rw [this] at hP
      exact fin_same hγ hP
    · refine svs_nil ?_
      apply svs_retE
      refine EE.of (ev_call k_is_whole (av_cons (ev_ixT (ds := [x, y, z, h]) (ev_name v0.r rfl) ev_int ix_3) (av_cons ev_int (av_cons (ev_const m_MOST_HOURS) av_nil))) ⟨h, _, _, rfl, rfl, rfl⟩) ?_
      have : isJob (.tuple [x, y, z, h]) = isW h 1 1000000000000000000000000000000 := by
        simp only [isJob]
        rw [Bool.not_eq_false'] at q
        rw [q]
        rfl
      rw [this] at hP
      exact fin_same hγ hP
  · refine svs_if (k := true) (TV.is (tv_w (wv_or (tv_not (tv_val (ev_call k__is_row (av_cons (ev_name v0.r rfl) (av_cons ev_int av_nil)) ⟨d, 4, rfl, rfl, rfl⟩))) (k' := false) fun q => absurd (by simpa using q) hr)) (by simpa using hr)) (fun _ => ?_) (fun q => by cases q)
    apply svs_retE
    refine EE.of ev_bl ?_
    have : isJob d = false := by
      cases e : isJob d with
      | false => rfl
      | true =>
        obtain ⟨j, rfl, _⟩ := isJob_of e
        exact absurd rfl hr
    rw [this] at hP
    exact fin_same hγ hP
theorem ok__is_job {P : Program} {w : World} {K : PySem.W.Frag} {mg : Str → Option Value} {base : Heap} (g0 : G0 mg)
    (D_is_name : FnD P w K mg base "is_name" 1 S_is_name)
    (D_is_whole : FnD P w K mg base "is_whole" 1 S_is_whole)
    (D__is_row : FnD P w K mg base "_is_row" 1 S__is_row)
    {f : Addr} {fd : FuncData} (F : Fun K "_is_job" "_is_job" s__is_job f fd) (hm : mg "_is_job" = some (.ref f)) : FnD P w K mg base "_is_job" 2 S__is_job :=
  def_ok F sc__is_job hm (F.binds (ps := ["thing"]) fun _ _ _ _ _ _ us hl => match us, hl with | [_], _ => rfl) (fun args γ P h => len__is_job h)
    fun X c args γ Po hγ hS => body__is_job g0 D_is_name D_is_whole D__is_row c hγ hS
def k3 (j : Jb) : List Key := [.inr j.1, .inr j.2.1, .inr j.2.2.1]
/-- whether a thing is a list of jobs, no giver, taker, skill twice -/
def areJ (d : PyData) : Prop := ∃ js : List Jb, d = .list (js.map dJb) ∧ (∀ j ∈ js, JbOk j) ∧ (js.map k3).Nodup
def S__are_jobs : PSpec := fun args γ P => ∃ d : PyData, args = [.fz d] ∧ (∀ ds, d = .list ds → ds.length < 305 ∧ ∀ e ∈ ds, TxS e) ∧ ∃ b : Bool, (b = true ↔ areJ d) ∧ P (.fz (.bool b)) γ
theorem len__are_jobs {args γ P} (h : S__are_jobs args γ P) : args.length = 1 := by obtain ⟨d, rfl, _⟩ := h; rfl
set_option maxHeartbeats 8000000 in
theorem body__are_jobs {P : Program} {w : World} {K : PySem.W.Frag} {mg : Str → Option Value} {base : Heap} (g0 : G0 mg)
    (D__is_job : FnD P w K mg base "_is_job" 2 S__is_job)
    {X : Cx} (c : Ctx X P w K mg base N__are_jobs (defScope s__are_jobs) 2) {args : List Itm} {γ : Cells} {Po : EPost} (hγ : Clo γ) (hS : S__are_jobs args γ Po) :
    SVs X (slots0 N__are_jobs args) γ (defBody s__are_jobs) { nx := fun _ g => PL.Fin γ.length Po (.fz .none) g, rt := PL.Fin γ.length Po } := by
  have hX := c.ok
  have hp := c.po
  have v0 : Nm X "thing" 0 .local := c.nm 0 .local rfl (by decide +kernel) (.inl rfl) (by decide +kernel) (by decide +kernel)
  have b_isinstance : Bt X "isinstance" := c.bt (by decide +kernel) g0.b_isinstance
  have b_list : Bt X "list" := c.bt (by decide +kernel) g0.b_list
  have b_all : Bt X "all" := c.bt (by decide +kernel) g0.b_all
  have b_len : Bt X "len" := c.bt (by decide +kernel) g0.b_len
  obtain ⟨d, rfl, hz, b, hb, hP⟩ := hS
  have no : ¬ areJ d → Po (.fz (.bool false)) γ := fun n => by
    cases b with
    | false => exact hP
    | true => exact absurd (hb.mp rfl) n
  by_cases hl : isL d = true
  · obtain ⟨ds, rfl⟩ : ∃ ds, d = .list ds := by cases d <;> simp [isL] at hl; exact ⟨_, rfl⟩
    obtain ⟨few, tx⟩ := hz ds rfl
    refine svs_if (k := !(ds.map isJob).all id) (TV.is (tv_w (wv_or (tv_not (tv_val (ev_isi b_isinstance b_list (by decide +kernel) (ev_name v0.r rfl) (Rdb.fz _) (kit_list _)))) fun _ => wv_or1 (tv_not (tv_val (ev_allB (ns := ds.map isJob) hX b_all (ev_lcM (w := 1) id ds (fun e => .bool (isJob e)) hX (by rw [c.N, c.sc]; exact ⟨rfl, by decide +kernel, by decide +kernel, by decide +kernel, by decide +kernel⟩) (fun X' hB => ⟨hB.cok hX rfl, hB.own (by rw [c.N]; rfl) (by decide +kernel) (by decide +kernel) (by decide +kernel)⟩) (ev_name v0.r rfl) (by rw [List.map_id]; exact Rdb.fz _) (by omega) (fun e he acc X' hB => ?_)) (by rw [List.map_map]; exact Rdb.fz _)))))) (by simp [isL])) (fun q => ?_) (fun q => ?_)
    ·
      have hX_X' := hB.cok hX rfl
      have w1_X' : Nm X' "job" 1 .local := hB.own (by rw [c.N]; rfl) (by decide +kernel) (by decide +kernel) (by decide +kernel)
      have k__is_job_X' : Cal X' "_is_job" S__is_job := hB.calC c D__is_job (by decide) (by decide +kernel) (by decide +kernel)
      exact ev_call k__is_job_X' (av_cons (ev_name w1_X'.r rfl) av_nil) ⟨e, rfl, tx e he, rfl, rfl⟩
    · apply svs_retE
      refine EE.of ev_bl (fin_same hγ (no fun ⟨js, e, ok, _⟩ => ?_))
      cases e
      rw [Bool.not_eq_true', List.all_eq_false] at q
      obtain ⟨x, hx, hx2⟩ := q
      obtain ⟨y, hy, rfl⟩ := List.mem_map.mp hx
      obtain ⟨j, hj, rfl⟩ := List.mem_map.mp hy
      exact hx2 (job_is (ok j hj))
    · refine svs_nil ?_
      rw [Bool.not_eq_false', List.all_eq_true] at q
      obtain ⟨js, rfl, ok⟩ : ∃ js : List Jb, ds = js.map dJb ∧ ∀ j ∈ js, JbOk j := by
        clear hb hP no hz few tx hl
        induction ds with
        | nil => exact ⟨[], rfl, by simp⟩
        | cons e ds ih =>
          obtain ⟨js, e1, e2⟩ := ih fun x hx => q x (by simp at hx ⊢; exact .inr hx)
          obtain ⟨j, r1, r2⟩ := isJob_of (q (isJob e) (by simp))
          refine ⟨j :: js, by rw [e1, r1]; rfl, fun x hx => ?_⟩
          rcases List.mem_cons.mp hx with rfl | hx
          · exact r2
          · exact e2 x hx
      apply svs_retE
      let ky : Nat → List Key := fun i => (js.map k3).getD i []
      have all : (keysM ky js.length).length = js.length ↔ (js.map k3).Nodup := by
        rw [keysM_all]
        constructor
        · intro h
          refine List.pairwise_iff_getElem.mpr fun i j il jl ij e => ?_
          refine h i j ij (by simpa using jl) ?_
          simp only [ky, List.getD, List.getElem?_eq_getElem il, List.getElem?_eq_getElem jl, Option.getD_some]
          exact e
        · intro h i j ij jl
          exact nodup_get h [] ij (by simpa using jl)
      refine EE.of (ev_cmp (ev_lenST ky b_len hX (own := [("giver", 2), ("taker", 3), ("skill", 4), ("_", 5)]) (by rw [c.N, c.sc]; exact ⟨rfl, by decide +kernel, by decide +kernel, by decide +kernel, by decide +kernel⟩) (itv_list (ds := js.map dJb) (ev_name v0.r rfl) (Rdb.fz _)) (fun _ => Rdb.fz _) (by simpa using few) (fun i x hx => ?_)) (ev_lenL (ds := js.map dJb) b_len (ev_name v0.r rfl) (Rdb.fz _)) cmp_eqI) ?_
      · rw [List.getElem?_map, List.getElem?_map] at hx
        cases ha : js[i]? with
        | none => rw [ha] at hx; cases hx
        | some j =>
          rw [ha] at hx
          cases hx
          refine ⟨[some (.fz (.list (js.map dJb))), none, some (.fz (.str j.1)), some (.fz (.str j.2.1)), some (.fz (.str j.2.2.1)), some (.fz (.int j.2.2.2))], [2, 3, 4, 5], by simp, fun X' hB G o hG => ?_⟩
          have hX_X' := hB.cok hX rfl
          have w2_X' : Nm X' "giver" 2 .local := hB.own (by rw [c.N]; rfl) (by decide +kernel) (by decide +kernel) (by decide +kernel)
          have w3_X' : Nm X' "taker" 3 .local := hB.own (by rw [c.N]; rfl) (by decide +kernel) (by decide +kernel) (by decide +kernel)
          have w4_X' : Nm X' "skill" 4 .local := hB.own (by rw [c.N]; rfl) (by decide +kernel) (by decide +kernel) (by decide +kernel)
          have w5_X' : Nm X' "_" 5 .local := hB.own (by rw [c.N]; rfl) (by decide +kernel) (by decide +kernel) (by decide +kernel)
          refine ⟨gv_tup (ds := [.str j.1, .str j.2.1, .str j.2.2.1, .int j.2.2.2]) hX_X' (gvs_cons (gv_name hX_X' w2_X') (gvs_cons (gv_name hX_X' w3_X') (gvs_cons (gv_name hX_X' w4_X') (gvs_cons (gv_name hX_X' w5_X') gvs_nil)))) rfl, .tuple [.str j.1, .str j.2.1, .str j.2.2.1], ?_, ev_tup (ds := [.str j.1, .str j.2.1, .str j.2.2.1]) (av_consF (ev_name w2_X'.r rfl) (av_consF (ev_name w3_X'.r rfl) (av_consF (ev_name w4_X'.r rfl) av_nilF)))⟩
          simp [ky, keyT, keysD, keyD, ha, k3]
      · have eb : (decide (((keysM ky ((js.map dJb).map Itm.fz).length).length : Int) = ((js.map dJb).length : Int))) = b := by
          rw [Bool.eq_iff_iff, decide_eq_true_eq, hb, List.length_map, List.length_map, Int.natCast_inj, all]
          constructor
          · exact fun n => ⟨js, rfl, ok, n⟩
          · rintro ⟨ks, e, _, n⟩
            have e := PyData.list.inj e
            have : js = ks := by
              have inj : ∀ {xs ys : List Jb}, xs.map dJb = ys.map dJb → xs = ys := fun {xs} => by
                induction xs with
                | nil => intro ys e; cases ys with
                  | nil => rfl
                  | cons _ _ => cases e
                | cons x xs ih => intro ys e; cases ys with
                  | nil => cases e
                  | cons y ys =>
                    rw [List.map_cons, List.map_cons] at e
                    injection e with e1 e2
                    rw [ih e2]
                    obtain ⟨x1, x2, x3, x4⟩ := x
                    obtain ⟨y1, y2, y3, y4⟩ := y
                    simp [dJb] at e1
                    obtain ⟨rfl, rfl, rfl, rfl⟩ := e1
                    rfl
              exact inj e
            rw [this]
            exact n
        rw [eb]
        exact fin_junk hγ hP
  · refine svs_if (k := true) (TV.is (tv_w (wv_or (tv_not (tv_val (ev_isi b_isinstance b_list (by decide +kernel) (ev_name v0.r rfl) (Rdb.fz _) (kit_list _)))) (k' := false) fun h => absurd (by simpa using h) hl)) (by simpa using hl)) (fun _ => ?_) (fun h => by cases h)
    apply svs_retE
    refine EE.of ev_bl (fin_same hγ (no ?_))
    rintro ⟨js, rfl, _⟩
    exact hl rfl
theorem ok__are_jobs {P : Program} {w : World} {K : PySem.W.Frag} {mg : Str → Option Value} {base : Heap} (g0 : G0 mg)
    (D__is_job : FnD P w K mg base "_is_job" 2 S__is_job)
    {f : Addr} {fd : FuncData} (F : Fun K "_are_jobs" "_are_jobs" s__are_jobs f fd) (hm : mg "_are_jobs" = some (.ref f)) : FnD P w K mg base "_are_jobs" 3 S__are_jobs :=
  def_ok F sc__are_jobs hm (F.binds (ps := ["thing"]) fun _ _ _ _ _ _ us hl => match us, hl with | [_], _ => rfl) (fun args γ P h => len__are_jobs h)
    fun X c args γ Po hγ hS => body__are_jobs g0 D__is_job c hγ hS
end KK

namespace KK
open PySem PySem.Spec PyProof.Rows L2 PL
local macro_rules | `(tactic| tm_at "nm") => `(tactic| with_reducible first | assumption | exact Nm.r (by assumption))
local macro_rules | `(tactic| tm_at "bt") => `(tactic| with_reducible assumption)
local macro_rules | `(tactic| tm_at "asm") => `(tactic| assumption)
local macro_rules | `(tactic| tm_at "auto") => `(tactic| first | rfl | exact fun _ _ => rfl | (intro _; rfl) | decide | exact nomark _ | (with_unfolding_all rfl))
local macro_rules | `(tactic| tm_at "boot") => `(tactic| decide +kernel)
local macro_rules | `(tactic| tm_at "kit") => `(tactic| first | exact kit_int _ | exact kit_bool _ | exact kit_str _ | exact kit_list _ | exact kit_tuple _ | exact kit_dict _)
local macro_rules | `(tactic| tm_at "side") => `(tactic| first | assumption | decide | omega | (simp only [List.length_map, List.length_cons, List.length_nil, List.length_append]; omega) | (simp; done))
local macro_rules | `(tactic| tm_at "pos") => `(tactic| first | decide | assumption | exact Int.pow_pos (by decide) | omega)
local macro_rules | `(tactic| tm_at "mul") => `(tactic| first | assumption | (exact small_mul 200 200 (by omega) (by omega)))
local macro_rules | `(tactic| tm_at "div") => `(tactic| first | assumption | (exact wide_div (b := 200) (by omega) (by omega) (by decide) (by decide)))
local macro_rules | `(tactic| tm_at "pow") => `(tactic| (refine ⟨?_, ?_, ?_⟩ <;> decide))
local macro_rules | `(tactic| tm_at "rd") => `(tactic| first | exact Rdb.fz _ | exact Rdb.cl (by assumption) | exact Rdb.cl rfl)
local macro_rules | `(tactic| tm_at "rdl") => `(tactic| first | exact .inr rfl | exact .inl (by tm_at "rd"))
local macro_rules | `(tactic| tm_at "ix") => `(tactic| first | assumption | exact ix_0 | exact ix_1 | exact ix_2 | exact ix_3 | exact ix_4 | rfl)
local macro_rules | `(tactic| tm_at "cmp") => `(tactic| first | exact cmp_lt | exact cmp_le | exact cmp_gt | exact cmp_ge | exact cmp_eqI | exact cmp_neI | exact cmp_eqS | exact cmp_neS | exact cmp_leS | exact cmp_ltS | exact cmp_inSign | exact cmp_notInSign | exact cmp_isB | exact cmp_notB | exact cmp_isN | exact cmp_notN | exact cmp_eqB | exact cmp_neB)
local macro_rules | `(tactic| tm_at "intro") => `(tactic| (intro _; tm_at "e"))
local macro_rules | `(tactic| tm_at "introe") => `(tactic| (intro _; tm_at "e"))
local macro_rules | `(tactic| tm_at "introw") => `(tactic| (intro _; tm_at "w"))
local macro_rules | `(tactic| tm_at "a") => `(tactic| first
  | exact av_nil
  | (apply av_cons; (focus tm_at "e"); (focus tm_at "a"); (focus tm_at "auto")))
local macro_rules | `(tactic| tm_at "alli") => `(tactic| (repeat (first | exact all_nil | (refine all_cons ⟨_, rfl, ?_, ?_⟩ ?_; (focus omega); (focus omega)))))
local macro_rules | `(tactic| tm_at "afz") => `(tactic| first
  | exact av_nilF
  | (apply av_consF; (focus tm_at "e"); (focus tm_at "afz"); (focus tm_at "auto")))
local macro_rules | `(tactic| tm_at "o") => `(tactic| first
  | exact ov_none
  | (apply ov_some; (focus tm_at "e")))
local macro_rules | `(tactic| tm_at "e") => `(tactic| ((with_reducible show EV _ _ _ (Expr.Tuple _ _ _) _ _); first | (apply ev_tup; (focus tm_at "afz"); (focus tm_at "side"))))
local macro_rules | `(tactic| tm_at "e") => `(tactic| ((with_reducible show EV _ _ _ (Expr.List _ _) _ _); first | (apply ev_lst; (focus tm_at "afz"); (focus tm_at "side"))))
local macro_rules | `(tactic| tm_at "e") => `(tactic| ((with_reducible show EV _ _ _ (Expr.Call (Expr.Attribute _ _ _) _ _ _) _ _); first | (apply ev_join; (focus tm_at "e"); (focus tm_at "e"); (focus tm_at "rd"); (focus tm_at "side"); (focus tm_at "auto"); (focus tm_at "auto"); (focus tm_at "auto"))))
local macro_rules | `(tactic| tm_at "e") => `(tactic| ((with_reducible show EV _ _ _ (Expr.Call (Expr.Name _ _) _ _ _) _ _); first | (apply ev_lenL; (focus tm_at "bt"); (focus tm_at "e"); (focus tm_at "rd"); (focus tm_at "auto")) | (apply ev_lenC; (focus tm_at "bt"); (focus tm_at "e"); (focus tm_at "ix"); (focus tm_at "auto")) | (apply ev_lenT; (focus tm_at "bt"); (focus tm_at "e"); (focus tm_at "auto")) | (apply ev_lenS; (focus tm_at "bt"); (focus tm_at "e"); (focus tm_at "side"); (focus tm_at "auto")) | (apply ev_max2; (focus tm_at "asm"); (focus tm_at "bt"); (focus tm_at "e"); (focus tm_at "e"); (focus tm_at "auto"); (focus tm_at "auto"); (focus tm_at "auto")) | (apply ev_min2; (focus tm_at "asm"); (focus tm_at "bt"); (focus tm_at "e"); (focus tm_at "e"); (focus tm_at "auto"); (focus tm_at "auto"); (focus tm_at "auto")) | (apply ev_intB; (focus tm_at "bt"); (focus tm_at "e"); (focus tm_at "auto")) | (apply ev_intI; (focus tm_at "bt"); (focus tm_at "e"); (focus tm_at "auto")) | (apply ev_abs; (focus tm_at "bt"); (focus tm_at "e"); (focus tm_at "auto")) | (apply ev_sum; (focus tm_at "asm"); (focus tm_at "bt"); (focus tm_at "e"); (focus tm_at "rd"); (focus tm_at "auto")) | (apply ev_listF; (focus tm_at "bt"); (focus tm_at "e"); (focus tm_at "rdl"); (focus tm_at "auto")) | (apply ev_sorted; (focus tm_at "bt"); (focus tm_at "e"); (focus tm_at "rd"); (focus tm_at "auto")) | (apply ev_isi; (focus tm_at "bt"); (focus tm_at "bt"); (focus tm_at "boot"); (focus tm_at "e"); (focus tm_at "rd"); (focus tm_at "kit"); (focus tm_at "auto"); (focus tm_at "auto"); (focus tm_at "auto"); (focus tm_at "auto"); (focus tm_at "auto"))))
local macro_rules | `(tactic| tm_at "e") => `(tactic| ((with_reducible show EV _ _ _ (Expr.BoolOp BoolOp.Or _ _) _ _); first | (apply ev_or; (focus tm_at "e"); (focus tm_at "introe"))))
local macro_rules | `(tactic| tm_at "e") => `(tactic| ((with_reducible show EV _ _ _ (Expr.BoolOp BoolOp.And _ _) _ _); first | (apply ev_and; (focus tm_at "e"); (focus tm_at "introe"))))
local macro_rules | `(tactic| tm_at "e") => `(tactic| ((with_reducible show EV _ _ _ (Expr.BoolOp _ [_] _) _ _); first | (apply ev_one; (focus tm_at "e"))))
local macro_rules | `(tactic| tm_at "e") => `(tactic| ((with_reducible show EV _ _ _ (Expr.IfExp _ _ _ _) _ _); first | (apply ev_ifx; (focus tm_at "t"); (focus tm_at "intro"); (focus tm_at "intro"))))
local macro_rules | `(tactic| tm_at "e") => `(tactic| ((with_reducible show EV _ _ _ (Expr.Compare _ [_, _] [_, _] _) _ _); first | (apply ev_chain2; (focus tm_at "e"); (focus tm_at "e"); (focus tm_at "cmp"); (focus tm_at "e"); (focus tm_at "cmp"); (focus tm_at "auto"))))
local macro_rules | `(tactic| tm_at "e") => `(tactic| ((with_reducible show EV _ _ _ (Expr.Compare _ [_] [_] _) _ _); first | (apply ev_cmp; (focus tm_at "e"); (focus tm_at "e"); (focus tm_at "cmp"); (focus tm_at "auto"))))
local macro_rules | `(tactic| tm_at "e") => `(tactic| ((with_reducible show EV _ _ _ (Expr.UnaryOp UnaryOp.Not _ _) _ _); first | (apply ev_not; (focus tm_at "e"))))
local macro_rules | `(tactic| tm_at "e") => `(tactic| ((with_reducible show EV _ _ _ (Expr.UnaryOp UnaryOp.USub _ _) _ _); first | (apply ev_neg; (focus tm_at "e"))))
local macro_rules | `(tactic| tm_at "e") => `(tactic| ((with_reducible show EV _ _ _ (Expr.Subscript _ _ _) _ _); first | (apply ev_ixL; (focus tm_at "e"); (focus tm_at "e"); (focus tm_at "rd"); (focus tm_at "ix"); (focus tm_at "auto")) | (apply ev_ixT; (focus tm_at "e"); (focus tm_at "e"); (focus tm_at "ix"); (focus tm_at "auto")) | (apply ev_ixC; (focus tm_at "e"); (focus tm_at "e"); (focus tm_at "ix"); (focus tm_at "ix"); (focus tm_at "auto")) | (apply ev_ixP; (focus tm_at "e"); (focus tm_at "e"); (focus tm_at "ix"); (focus tm_at "auto")) | (apply ev_ixS; (focus tm_at "e"); (focus tm_at "e"); (focus tm_at "side"); (focus tm_at "asm"); (focus tm_at "auto"))))
local macro_rules | `(tactic| tm_at "e") => `(tactic| ((with_reducible show EV _ _ _ (Expr.Subscript _ (Expr.Slice _ _ _ _) _) _ _); first | (apply ev_slL; (focus tm_at "e"); (focus tm_at "o"); (focus tm_at "o"); (focus tm_at "rd")) | (apply ev_slT; (focus tm_at "e"); (focus tm_at "o"); (focus tm_at "o"); (focus tm_at "side")) | (apply ev_slS; (focus tm_at "e"); (focus tm_at "o"); (focus tm_at "o"); (focus tm_at "side"))))
local macro_rules | `(tactic| tm_at "e") => `(tactic| ((with_reducible show EV _ _ _ (Expr.BinOp _ Operator.Pow _ _) _ _); first | (apply ev_pow; (focus tm_at "e"); (focus tm_at "e"); (focus tm_at "pow"))))
local macro_rules | `(tactic| tm_at "e") => `(tactic| ((with_reducible show EV _ _ _ (Expr.BinOp _ Operator.FloorDiv _ _) _ _); first | (apply ev_div; (focus tm_at "e"); (focus tm_at "e"); (focus tm_at "div"))))
local macro_rules | `(tactic| tm_at "e") => `(tactic| ((with_reducible show EV _ _ _ (Expr.BinOp _ Operator.Mod _ _) _ _); first | (apply ev_mod; (focus tm_at "e"); (focus tm_at "e"); (focus tm_at "pos"))))
local macro_rules | `(tactic| tm_at "e") => `(tactic| ((with_reducible show EV _ _ _ (Expr.BinOp _ Operator.Mult _ _) _ _); first | (apply ev_mul; (focus tm_at "e"); (focus tm_at "e"); (focus tm_at "mul")) | (apply ev_repF; (focus tm_at "afz"); (focus tm_at "e"); (focus tm_at "side"); (focus tm_at "side"); (focus tm_at "side"))))
local macro_rules | `(tactic| tm_at "e") => `(tactic| ((with_reducible show EV _ _ _ (Expr.BinOp _ Operator.Sub _ _) _ _); first | (apply ev_sub; (focus tm_at "e"); (focus tm_at "e"))))
local macro_rules | `(tactic| tm_at "e") => `(tactic| ((with_reducible show EV _ _ _ (Expr.BinOp _ Operator.Add _ _) _ _); first | (apply ev_add; (focus tm_at "e"); (focus tm_at "e")) | (apply ev_catF; (focus tm_at "e"); (focus tm_at "e"); (focus tm_at "rd"); (focus tm_at "rd"); (focus tm_at "side")) | (apply ev_addS; (focus tm_at "e"); (focus tm_at "e"); (focus tm_at "side")) | (apply ev_catT; (focus tm_at "e"); (focus tm_at "e"); (focus tm_at "side"))))
local macro_rules | `(tactic| tm_at "e") => `(tactic| ((with_reducible show EV _ _ _ (Expr.Name _ _) _ _); first | (apply ev_name; (focus tm_at "nm"); (focus rfl))))
local macro_rules | `(tactic| tm_at "e") => `(tactic| ((with_reducible show EV _ _ _ (Expr.Constant _ _ _) _ _); first | exact ev_int | exact ev_bl | exact ev_str | exact ev_non))
local macro_rules | `(tactic| tm_at "t") => `(tactic| ((with_reducible show TV _ _ _ _ _ _); first | (apply tv_val; (focus tm_at "e"); (focus tm_at "auto")) | (apply tv_truthL; (focus tm_at "e"); (focus tm_at "rd"); (focus tm_at "auto")) | (apply tv_truthI; (focus tm_at "e"); (focus tm_at "auto"))))
local macro_rules | `(tactic| tm_at "t") => `(tactic| ((with_reducible show TV _ _ _ (Expr.BoolOp _ _ _) _ _); first | (apply tv_w; (focus tm_at "w"))))
local macro_rules | `(tactic| tm_at "t") => `(tactic| ((with_reducible show TV _ _ _ (Expr.UnaryOp UnaryOp.Not _ _) _ _); first | (apply tv_not; (focus tm_at "t"))))
local macro_rules | `(tactic| tm_at "t") => `(tactic| ((with_reducible show TV _ _ _ (Expr.Compare _ [_, _] [_, _] _) _ _); first | (apply tv_chain2; (focus tm_at "e"); (focus tm_at "e"); (focus tm_at "cmp"); (focus tm_at "e"); (focus tm_at "cmp"); (focus tm_at "auto"))))
local macro_rules | `(tactic| tm_at "t") => `(tactic| ((with_reducible show TV _ _ _ (Expr.Compare _ [_] [_] _) _ _); first | (apply tv_cmp; (focus tm_at "e"); (focus tm_at "e"); (focus tm_at "cmp"); (focus tm_at "auto"))))
local macro_rules | `(tactic| tm_at "w") => `(tactic| ((with_reducible show WV _ _ _ (Expr.BoolOp BoolOp.Or _ _) _ _); first | (apply wv_or; (focus tm_at "t"); (focus tm_at "introw"))))
local macro_rules | `(tactic| tm_at "w") => `(tactic| ((with_reducible show WV _ _ _ (Expr.BoolOp BoolOp.And _ _) _ _); first | (apply wv_and; (focus tm_at "t"); (focus tm_at "introw"))))
local macro_rules | `(tactic| tm_at "w") => `(tactic| ((with_reducible show WV _ _ _ (Expr.BoolOp BoolOp.Or [_] _) _ _); first | (apply wv_or1; (focus tm_at "t"))))
local macro_rules | `(tactic| tm_at "w") => `(tactic| ((with_reducible show WV _ _ _ (Expr.BoolOp BoolOp.And [_] _) _ _); first | (apply wv_and1; (focus tm_at "t"))))
local macro_rules | `(tactic| tm_at "ee") => `(tactic| first
  | (apply EE.of; (focus tm_at "e"); try (tm_at "ee"))
  | (refine ee_call' (by assumption) ?_; apply AE.of; (focus tm_at "a"))
  | (with_reducible refine ee_mod ?_; tm_at "ee")
  | (with_reducible refine ee_add ?_; tm_at "ee")
  | (with_reducible refine ee_sub ?_; tm_at "ee")
  | (with_reducible refine ee_mul ?_; tm_at "ee")
  | (with_reducible refine ee_div ?_; tm_at "ee")
  | (with_reducible refine ee_ixL ?_; tm_at "ee")
  | (refine ⟨_, rfl, ?_⟩; tm_at "ee"))

/-! ### shares that are covered -/
def ke (a : Rw) : List Key := k2 (a.1, a.2.1)
theorem ke_nodup {R : List Rw} (h : (prs R).Nodup) : (R.map ke).Nodup := by
  have : R.map ke = (prs R).map k2 := by simp [prs, ke, Function.comp_def]
  rw [this]
  exact List.pairwise_map.mpr (h.imp fun ne e => ne (k2_inj e))
def tot (L : List Rw) (q : Str × Str) : Int := (L.map fun a => if (a.1, a.2.1) = q then a.2.2 else 0).sum
theorem tot_take {L : List Rw} {i : Nat} {a : Rw} (h : L[i]? = some a) (q : Str × Str) : tot (L.take (i + 1)) q = tot (L.take i) q + if (a.1, a.2.1) = q then a.2.2 else 0 := sum_take _ h
def Covers (R S : List Rw) : Prop := (∀ s ∈ S, (s.1, s.2.1) ∈ prs R) ∧ ∀ a ∈ R, tot S (a.1, a.2.1) ≤ a.2.2
def S__covers : PSpec := fun args γ P => ∃ (R S : List Rw), args = [.fz (.list (R.map dRw)), .fz (.list (S.map dRw))] ∧ (prs R).Nodup ∧ R.length ≤ 1000 ∧ S.length ≤ 1000 ∧ ∃ b : Bool, (b = true ↔ Covers R S) ∧ P (.fz (.bool b)) γ
theorem len__covers {args γ P} (h : S__covers args γ P) : args.length = 2 := by obtain ⟨R, S, rfl, _⟩ := h; rfl
theorem take_in {α : Type} {L : List α} {i : Nat} {a : α} (h : L[i]? = some a) {p : α → Prop} (h1 : ∀ x ∈ L.take i, p x) (h2 : p a) : ∀ x ∈ L.take (i + 1), p x := fun x hx => by
  rw [List.take_add_one, h] at hx
  rcases List.mem_append.mp hx with q | q
  · exact h1 x q
  · simp at q; rw [q]; exact h2
set_option maxHeartbeats 16000000 in
theorem body__covers {P : Program} {w : World} {K : PySem.W.Frag} {mg : Str → Option Value} {base : Heap} (g0 : G0 mg)
    {X : Cx} (c : Ctx X P w K mg base N__covers (defScope s__covers) 0) {args : List Itm} {γ : Cells} {Po : EPost} (hγ : Clo γ) (hS : S__covers args γ Po) :
    SVs X (slots0 N__covers args) γ (defBody s__covers) { nx := fun _ g => PL.Fin γ.length Po (.fz .none) g, rt := PL.Fin γ.length Po } := by
  have hX := c.ok
  have hp := c.po
  have v0 : Nm X "rows" 0 .local := c.nm 0 .local rfl (by decide +kernel) (.inl rfl) (by decide +kernel) (by decide +kernel)
  have v1 : Nm X "shares" 1 .local := c.nm 1 .local rfl (by decide +kernel) (.inl rfl) (by decide +kernel) (by decide +kernel)
  have v2 : Nm X "name" 2 .local := c.nm 2 .local rfl (by decide +kernel) (.inl rfl) (by decide +kernel) (by decide +kernel)
  have v3 : Nm X "skill" 3 .local := c.nm 3 .local rfl (by decide +kernel) (.inl rfl) (by decide +kernel) (by decide +kernel)
  have v4 : Nm X "hours" 4 .local := c.nm 4 .local rfl (by decide +kernel) (.inl rfl) (by decide +kernel) (by decide +kernel)
  have v5 : Nm X "left" 5 .local := c.nm 5 .local rfl (by decide +kernel) (.inl rfl) (by decide +kernel) (by decide +kernel)
  have b_all : Bt X "all" := c.bt (by decide +kernel) g0.b_all
  obtain ⟨R, S, rfl, nd, hR, hSl, b, hb, hP⟩ := hS
  have no : ¬ Covers R S → Po (.fz (.bool false)) γ := fun n => by
    cases b with
    | false => exact hP
    | true => exact absurd (hb.mp rfl) n
  have kn := ke_nodup nd
  have in_ke : ∀ {q : Str × Str}, k2 q ∈ R.map ke ↔ q ∈ prs R := fun {q} => by
    have : R.map ke = (prs R).map k2 := by simp [prs, ke, Function.comp_def]
    rw [this]
    constructor
    · intro h
      obtain ⟨x, hx, e⟩ := List.mem_map.mp h
      rw [← k2_inj e]
      exact hx
    · exact fun h => List.mem_map.mpr ⟨q, h, rfl⟩
  refine svs_setDcT (own := [("name", 2), ("skill", 3), ("hours", 4)]) (fun _ => true) (fun i => (R.map ke).getD i []) (fun i => (R.map fun a => Itm.fz (.int a.2.2)).getD i (.fz .none)) hX v5 (by decide) (by decide +kernel) (by rw [c.N, c.sc]; exact ⟨rfl, by decide +kernel, by decide +kernel, by decide +kernel, by decide +kernel⟩) (itv_list (ds := R.map dRw) (ev_name v0.r rfl) (Rdb.fz _)) (fun _ => Rdb.fz _) (by simp; omega) (fun i x hx => ?_) ?_
  · rw [List.getElem?_map, List.getElem?_map] at hx
    cases ha : R[i]? with
    | none => rw [ha] at hx; cases hx
    | some a =>
      rw [ha] at hx
      cases hx
      refine ⟨[some (.fz (.list (R.map dRw))), some (.fz (.list (S.map dRw))), some (.fz (.str a.1)), some (.fz (.str a.2.1)), some (.fz (.int a.2.2)), none], [2, 3, 4], by simp, fun X' hB G hG => ?_⟩
      have hX_X' := hB.cok hX rfl
      have w2_X' : Nm X' "name" 2 .local := hB.own (by rw [c.N]; rfl) (by decide +kernel) (by decide +kernel) (by decide +kernel)
      have w3_X' : Nm X' "skill" 3 .local := hB.own (by rw [c.N]; rfl) (by decide +kernel) (by decide +kernel) (by decide +kernel)
      have w4_X' : Nm X' "hours" 4 .local := hB.own (by rw [c.N]; rfl) (by decide +kernel) (by decide +kernel) (by decide +kernel)
      refine ⟨gv_tup (ds := [.str a.1, .str a.2.1, .int a.2.2]) hX_X' (gvs_cons (gv_name hX_X' w2_X') (gvs_cons (gv_name hX_X' w3_X') (gvs_cons (gv_name hX_X' w4_X') gvs_nil))) rfl, tvs_nil, fun _ => ⟨.tuple [.str a.1, .str a.2.1], ?_, ev_tup (ds := [.str a.1, .str a.2.1]) (av_consF (ev_name w2_X'.r rfl) (av_consF (ev_name w3_X'.r rfl) av_nilF)), ?_⟩⟩
      · simp [keyT, keysD, keyD, ha, ke, k2]
      · have : (R.map fun a => Itm.fz (.int a.2.2)).getD i (.fz .none) = .fz (.int a.2.2) := by simp [List.getD, ha]
        rw [this]
        exact ev_name w4_X'.r rfl
  rw [List.length_map, List.length_map, accI_tab ke (fun a => a.2.2) [] (.fz .none) R kn]
  refine svs_forL dRw S hX hp (ev_name v1.r rfl) (Rdb.fz _)
    (fun i Γ' g => ∃ (s2 s3 s4 : Option Itm), Γ' = [some (.fz (.list (R.map dRw))), some (.fz (.list (S.map dRw))), s2, s3, s4, some (.cl γ.length)] ∧ g = γ ++ [.dit (tabI ke R fun a => a.2.2 - tot (S.take i) (a.1, a.2.1))] ∧ ∀ s ∈ S.take i, (s.1, s.2.1) ∈ prs R)
    ⟨_, _, _, rfl, by rw [tab_congr (g := fun a => a.2.2 - tot (S.take 0) (a.1, a.2.1)) fun a _ => by simp [tot]], by simp⟩ (fun _ _ _ _ _ => Rdb.fz _) ?_ ?_
  · rintro i a Γ' g hi ha ⟨s2, s3, s4, rfl, rfl, hin⟩
    have cell : (γ ++ [Cell.dit (tabI ke R fun a => a.2.2 - tot (S.take i) (a.1, a.2.1))])[γ.length]? = some (.dit (tabI ke R fun a => a.2.2 - tot (S.take i) (a.1, a.2.1))) := by rw [List.getElem?_append_right (Nat.le_refl _)]; simp
    refine ⟨_, _, gv_tup (ds := [.str a.1, .str a.2.1, .int a.2.2]) hX (gvs_cons (gv_name hX v2) (gvs_cons (gv_name hX v3) (gvs_cons (gv_name hX v4) gvs_nil))) rfl, ?_⟩
    refine svs_if (k := !decide ((a.1, a.2.1) ∈ prs R)) (TV.is (tv_tnotin (k := k2 (a.1, a.2.1)) hX (ev_tup (ds := [.str a.1, .str a.2.1]) (av_consF (ev_name v2.r rfl) (av_consF (ev_name v3.r rfl) av_nilF))) (ev_name v5.r rfl) cell rfl) ?_) (fun h => ?_) (fun h => ?_)
    · congr 1
      rw [Bool.eq_iff_iff, tab_is, decide_eq_true_eq]
      exact in_ke
    · apply svs_retE
      refine EE.of ev_bl (fin_junk hγ (no fun hc => ?_))
      exact absurd (hc.1 a ha) (by simpa using h)
    · have hin2 : (a.1, a.2.1) ∈ prs R := by simpa using h
      obtain ⟨r, hr, er⟩ := List.mem_map.mp hin2
      have er' : ke r = k2 (a.1, a.2.1) := by unfold ke; rw [er]
      refine svs_nil ?_
      refine svs_taug (k := k2 (a.1, a.2.1)) (n := r.2.2 - tot (S.take i) (r.1, r.2.1)) (m := a.2.2) hX (ev_name v5.r rfl) (ev_tup (ds := [.str a.1, .str a.2.1]) (av_consF (ev_name v2.r rfl) (av_consF (ev_name v3.r rfl) av_nilF))) rfl cell (by rw [← er']; exact tab_at kn hr) (ev_name v4.r rfl) (by rw [tab_len]; omega) PL.in_sub ?_
      refine svs_nil ⟨_, _, _, rfl, ?_, take_in hi hin hin2⟩
      rw [List.set_append_right _ _ (Nat.le_refl _), Nat.sub_self]
      show γ ++ [Cell.dit _] = _
      rw [← er', tab_put (g := fun x => x.2.2 - tot (S.take (i + 1)) (x.1, x.2.1)) hr]
      · intro x hx e
        have e1 : (x.1, x.2.1) = (r.1, r.2.1) := k2_inj e
        have e2 : x = r := by
          obtain ⟨j, hj, ej⟩ := List.getElem_of_mem hx
          obtain ⟨l, hl, el⟩ := List.getElem_of_mem hr
          have : j = l := by
            refine (List.getElem_inj kn (h₀ := by simpa using hj) (h₁ := by simpa using hl)).mp ?_
            simp only [List.getElem_map, ej, el]
            exact e
          subst this
          rw [← ej, ← el]
        rw [e2, tot_take hi, if_pos (by rw [er])]
        omega
      · intro x hx ne
        rw [tot_take hi, if_neg (fun e => ne (by unfold ke; rw [← e, er]))]
        omega
  · rintro Γ' g ⟨s2, s3, s4, rfl, rfl, hin⟩
    rw [List.take_length] at hin ⊢
    apply svs_retE
    have cell : (γ ++ [Cell.dit (tabI ke R fun a => a.2.2 - tot S (a.1, a.2.1))])[γ.length]? = some (ditI (R.map fun a => (ke a, a.2.2 - tot S (a.1, a.2.1)))) := by rw [List.getElem?_append_right (Nat.le_refl _), ← ditI_tab]; simp
    refine EE.of (ev_allB (ns := R.map fun a => decide (0 ≤ a.2.2 - tot S (a.1, a.2.1))) hX b_all (ev_lcVals (w := 4) (fun n => .bool (decide (0 ≤ n))) cell hX (by rw [c.N, c.sc]; exact ⟨rfl, by decide +kernel, by decide +kernel, by decide +kernel, by decide +kernel⟩) (fun X' hB => ⟨hB.cok hX rfl, hB.own (by rw [c.N]; rfl) (by decide +kernel) (by decide +kernel) (by decide +kernel)⟩) (fun g => ev_name v5.r rfl) (by simp; omega) (fun x hx g X' hB => ?_)) ?_) ?_
    ·
      have hX_X' := hB.cok hX rfl
      have w4_X' : Nm X' "hours" 4 .local := hB.own (by rw [c.N]; rfl) (by decide +kernel) (by decide +kernel) (by decide +kernel)
      exact ev_cmp (ev_name w4_X'.r rfl) ev_int cmp_ge
    · rw [List.map_map, List.map_map]
      exact Rdb.fz _
    · have eb : (R.map fun a => decide (0 ≤ a.2.2 - tot S (a.1, a.2.1))).all id = b := by
        rw [Bool.eq_iff_iff, hb, List.all_eq_true]
        constructor
        · intro h
          refine ⟨hin, fun a ha => ?_⟩
          have := h _ (List.mem_map.mpr ⟨a, ha, rfl⟩)
          simp at this
          omega
        · rintro ⟨_, h⟩ x hx
          obtain ⟨a, ha, rfl⟩ := List.mem_map.mp hx
          have := h a ha
          simp
          omega
      rw [eb]
      exact fin_junk hγ hP
theorem ok__covers {P : Program} {w : World} {K : PySem.W.Frag} {mg : Str → Option Value} {base : Heap} (g0 : G0 mg)
    {f : Addr} {fd : FuncData} (F : Fun K "_covers" "_covers" s__covers f fd) (hm : mg "_covers" = some (.ref f)) : FnD P w K mg base "_covers" 1 S__covers :=
  def_ok F sc__covers hm (F.binds (ps := ["rows", "shares"]) fun _ _ _ _ _ _ us hl => match us, hl with | [_, _], _ => rfl) (fun args γ P h => len__covers h)
    fun X c args γ Po hγ hS => body__covers g0  c hγ hS
end KK

namespace KK
open PySem PySem.Spec PyProof.Rows L2 PL
local macro_rules | `(tactic| tm_at "nm") => `(tactic| with_reducible first | assumption | exact Nm.r (by assumption))
local macro_rules | `(tactic| tm_at "bt") => `(tactic| with_reducible assumption)
local macro_rules | `(tactic| tm_at "asm") => `(tactic| assumption)
local macro_rules | `(tactic| tm_at "auto") => `(tactic| first | rfl | exact fun _ _ => rfl | (intro _; rfl) | decide | exact nomark _ | (with_unfolding_all rfl))
local macro_rules | `(tactic| tm_at "boot") => `(tactic| decide +kernel)
local macro_rules | `(tactic| tm_at "kit") => `(tactic| first | exact kit_int _ | exact kit_bool _ | exact kit_str _ | exact kit_list _ | exact kit_tuple _ | exact kit_dict _)
local macro_rules | `(tactic| tm_at "side") => `(tactic| first | assumption | decide | omega | (simp only [List.length_map, List.length_cons, List.length_nil, List.length_append]; omega) | (simp; done))
local macro_rules | `(tactic| tm_at "pos") => `(tactic| first | decide | assumption | exact Int.pow_pos (by decide) | omega)
local macro_rules | `(tactic| tm_at "mul") => `(tactic| first | assumption | (exact small_mul 200 200 (by omega) (by omega)))
local macro_rules | `(tactic| tm_at "div") => `(tactic| first | assumption | (exact wide_div (b := 200) (by omega) (by omega) (by decide) (by decide)))
local macro_rules | `(tactic| tm_at "pow") => `(tactic| (refine ⟨?_, ?_, ?_⟩ <;> decide))
local macro_rules | `(tactic| tm_at "rd") => `(tactic| first | exact Rdb.fz _ | exact Rdb.cl (by assumption) | exact Rdb.cl rfl)
local macro_rules | `(tactic| tm_at "rdl") => `(tactic| first | exact .inr rfl | exact .inl (by tm_at "rd"))
local macro_rules | `(tactic| tm_at "ix") => `(tactic| first | assumption | exact ix_0 | exact ix_1 | exact ix_2 | exact ix_3 | exact ix_4 | rfl)
local macro_rules | `(tactic| tm_at "cmp") => `(tactic| first | exact cmp_lt | exact cmp_le | exact cmp_gt | exact cmp_ge | exact cmp_eqI | exact cmp_neI | exact cmp_eqS | exact cmp_neS | exact cmp_leS | exact cmp_ltS | exact cmp_inSign | exact cmp_notInSign | exact cmp_isB | exact cmp_notB | exact cmp_isN | exact cmp_notN | exact cmp_eqB | exact cmp_neB)
local macro_rules | `(tactic| tm_at "intro") => `(tactic| (intro _; tm_at "e"))
local macro_rules | `(tactic| tm_at "introe") => `(tactic| (intro _; tm_at "e"))
local macro_rules | `(tactic| tm_at "introw") => `(tactic| (intro _; tm_at "w"))
local macro_rules | `(tactic| tm_at "a") => `(tactic| first
  | exact av_nil
  | (apply av_cons; (focus tm_at "e"); (focus tm_at "a"); (focus tm_at "auto")))
local macro_rules | `(tactic| tm_at "alli") => `(tactic| (repeat (first | exact all_nil | (refine all_cons ⟨_, rfl, ?_, ?_⟩ ?_; (focus omega); (focus omega)))))
local macro_rules | `(tactic| tm_at "afz") => `(tactic| first
  | exact av_nilF
  | (apply av_consF; (focus tm_at "e"); (focus tm_at "afz"); (focus tm_at "auto")))
local macro_rules | `(tactic| tm_at "o") => `(tactic| first
  | exact ov_none
  | (apply ov_some; (focus tm_at "e")))
local macro_rules | `(tactic| tm_at "e") => `(tactic| ((with_reducible show EV _ _ _ (Expr.Tuple _ _ _) _ _); first | (apply ev_tup; (focus tm_at "afz"); (focus tm_at "side"))))
local macro_rules | `(tactic| tm_at "e") => `(tactic| ((with_reducible show EV _ _ _ (Expr.List _ _) _ _); first | (apply ev_lst; (focus tm_at "afz"); (focus tm_at "side"))))
local macro_rules | `(tactic| tm_at "e") => `(tactic| ((with_reducible show EV _ _ _ (Expr.Call (Expr.Attribute _ _ _) _ _ _) _ _); first | (apply ev_join; (focus tm_at "e"); (focus tm_at "e"); (focus tm_at "rd"); (focus tm_at "side"); (focus tm_at "auto"); (focus tm_at "auto"); (focus tm_at "auto"))))
local macro_rules | `(tactic| tm_at "e") => `(tactic| ((with_reducible show EV _ _ _ (Expr.Call (Expr.Name _ _) _ _ _) _ _); first | (apply ev_lenL; (focus tm_at "bt"); (focus tm_at "e"); (focus tm_at "rd"); (focus tm_at "auto")) | (apply ev_lenC; (focus tm_at "bt"); (focus tm_at "e"); (focus tm_at "ix"); (focus tm_at "auto")) | (apply ev_lenT; (focus tm_at "bt"); (focus tm_at "e"); (focus tm_at "auto")) | (apply ev_lenS; (focus tm_at "bt"); (focus tm_at "e"); (focus tm_at "side"); (focus tm_at "auto")) | (apply ev_max2; (focus tm_at "asm"); (focus tm_at "bt"); (focus tm_at "e"); (focus tm_at "e"); (focus tm_at "auto"); (focus tm_at "auto"); (focus tm_at "auto")) | (apply ev_min2; (focus tm_at "asm"); (focus tm_at "bt"); (focus tm_at "e"); (focus tm_at "e"); (focus tm_at "auto"); (focus tm_at "auto"); (focus tm_at "auto")) | (apply ev_intB; (focus tm_at "bt"); (focus tm_at "e"); (focus tm_at "auto")) | (apply ev_intI; (focus tm_at "bt"); (focus tm_at "e"); (focus tm_at "auto")) | (apply ev_abs; (focus tm_at "bt"); (focus tm_at "e"); (focus tm_at "auto")) | (apply ev_sum; (focus tm_at "asm"); (focus tm_at "bt"); (focus tm_at "e"); (focus tm_at "rd"); (focus tm_at "auto")) | (apply ev_listF; (focus tm_at "bt"); (focus tm_at "e"); (focus tm_at "rdl"); (focus tm_at "auto")) | (apply ev_sorted; (focus tm_at "bt"); (focus tm_at "e"); (focus tm_at "rd"); (focus tm_at "auto")) | (apply ev_isi; (focus tm_at "bt"); (focus tm_at "bt"); (focus tm_at "boot"); (focus tm_at "e"); (focus tm_at "rd"); (focus tm_at "kit"); (focus tm_at "auto"); (focus tm_at "auto"); (focus tm_at "auto"); (focus tm_at "auto"); (focus tm_at "auto"))))
local macro_rules | `(tactic| tm_at "e") => `(tactic| ((with_reducible show EV _ _ _ (Expr.BoolOp BoolOp.Or _ _) _ _); first | (apply ev_or; (focus tm_at "e"); (focus tm_at "introe"))))
local macro_rules | `(tactic| tm_at "e") => `(tactic| ((with_reducible show EV _ _ _ (Expr.BoolOp BoolOp.And _ _) _ _); first | (apply ev_and; (focus tm_at "e"); (focus tm_at "introe"))))
local macro_rules | `(tactic| tm_at "e") => `(tactic| ((with_reducible show EV _ _ _ (Expr.BoolOp _ [_] _) _ _); first | (apply ev_one; (focus tm_at "e"))))
local macro_rules | `(tactic| tm_at "e") => `(tactic| ((with_reducible show EV _ _ _ (Expr.IfExp _ _ _ _) _ _); first | (apply ev_ifx; (focus tm_at "t"); (focus tm_at "intro"); (focus tm_at "intro"))))
local macro_rules | `(tactic| tm_at "e") => `(tactic| ((with_reducible show EV _ _ _ (Expr.Compare _ [_, _] [_, _] _) _ _); first | (apply ev_chain2; (focus tm_at "e"); (focus tm_at "e"); (focus tm_at "cmp"); (focus tm_at "e"); (focus tm_at "cmp"); (focus tm_at "auto"))))
local macro_rules | `(tactic| tm_at "e") => `(tactic| ((with_reducible show EV _ _ _ (Expr.Compare _ [_] [_] _) _ _); first | (apply ev_cmp; (focus tm_at "e"); (focus tm_at "e"); (focus tm_at "cmp"); (focus tm_at "auto"))))
local macro_rules | `(tactic| tm_at "e") => `(tactic| ((with_reducible show EV _ _ _ (Expr.UnaryOp UnaryOp.Not _ _) _ _); first | (apply ev_not; (focus tm_at "e"))))
local macro_rules | `(tactic| tm_at "e") => `(tactic| ((with_reducible show EV _ _ _ (Expr.UnaryOp UnaryOp.USub _ _) _ _); first | (apply ev_neg; (focus tm_at "e"))))
local macro_rules | `(tactic| tm_at "e") => `(tactic| ((with_reducible show EV _ _ _ (Expr.Subscript _ _ _) _ _); first | (apply ev_ixL; (focus tm_at "e"); (focus tm_at "e"); (focus tm_at "rd"); (focus tm_at "ix"); (focus tm_at "auto")) | (apply ev_ixT; (focus tm_at "e"); (focus tm_at "e"); (focus tm_at "ix"); (focus tm_at "auto")) | (apply ev_ixC; (focus tm_at "e"); (focus tm_at "e"); (focus tm_at "ix"); (focus tm_at "ix"); (focus tm_at "auto")) | (apply ev_ixP; (focus tm_at "e"); (focus tm_at "e"); (focus tm_at "ix"); (focus tm_at "auto")) | (apply ev_ixS; (focus tm_at "e"); (focus tm_at "e"); (focus tm_at "side"); (focus tm_at "asm"); (focus tm_at "auto"))))
local macro_rules | `(tactic| tm_at "e") => `(tactic| ((with_reducible show EV _ _ _ (Expr.Subscript _ (Expr.Slice _ _ _ _) _) _ _); first | (apply ev_slL; (focus tm_at "e"); (focus tm_at "o"); (focus tm_at "o"); (focus tm_at "rd")) | (apply ev_slT; (focus tm_at "e"); (focus tm_at "o"); (focus tm_at "o"); (focus tm_at "side")) | (apply ev_slS; (focus tm_at "e"); (focus tm_at "o"); (focus tm_at "o"); (focus tm_at "side"))))
local macro_rules | `(tactic| tm_at "e") => `(tactic| ((with_reducible show EV _ _ _ (Expr.BinOp _ Operator.Pow _ _) _ _); first | (apply ev_pow; (focus tm_at "e"); (focus tm_at "e"); (focus tm_at "pow"))))
local macro_rules | `(tactic| tm_at "e") => `(tactic| ((with_reducible show EV _ _ _ (Expr.BinOp _ Operator.FloorDiv _ _) _ _); first | (apply ev_div; (focus tm_at "e"); (focus tm_at "e"); (focus tm_at "div"))))
local macro_rules | `(tactic| tm_at "e") => `(tactic| ((with_reducible show EV _ _ _ (Expr.BinOp _ Operator.Mod _ _) _ _); first | (apply ev_mod; (focus tm_at "e"); (focus tm_at "e"); (focus tm_at "pos"))))
local macro_rules | `(tactic| tm_at "e") => `(tactic| ((with_reducible show EV _ _ _ (Expr.BinOp _ Operator.Mult _ _) _ _); first | (apply ev_mul; (focus tm_at "e"); (focus tm_at "e"); (focus tm_at "mul")) | (apply ev_repF; (focus tm_at "afz"); (focus tm_at "e"); (focus tm_at "side"); (focus tm_at "side"); (focus tm_at "side"))))
local macro_rules | `(tactic| tm_at "e") => `(tactic| ((with_reducible show EV _ _ _ (Expr.BinOp _ Operator.Sub _ _) _ _); first | (apply ev_sub; (focus tm_at "e"); (focus tm_at "e"))))
local macro_rules | `(tactic| tm_at "e") => `(tactic| ((with_reducible show EV _ _ _ (Expr.BinOp _ Operator.Add _ _) _ _); first | (apply ev_add; (focus tm_at "e"); (focus tm_at "e")) | (apply ev_catF; (focus tm_at "e"); (focus tm_at "e"); (focus tm_at "rd"); (focus tm_at "rd"); (focus tm_at "side")) | (apply ev_addS; (focus tm_at "e"); (focus tm_at "e"); (focus tm_at "side")) | (apply ev_catT; (focus tm_at "e"); (focus tm_at "e"); (focus tm_at "side"))))
local macro_rules | `(tactic| tm_at "e") => `(tactic| ((with_reducible show EV _ _ _ (Expr.Name _ _) _ _); first | (apply ev_name; (focus tm_at "nm"); (focus rfl))))
local macro_rules | `(tactic| tm_at "e") => `(tactic| ((with_reducible show EV _ _ _ (Expr.Constant _ _ _) _ _); first | exact ev_int | exact ev_bl | exact ev_str | exact ev_non))
local macro_rules | `(tactic| tm_at "t") => `(tactic| ((with_reducible show TV _ _ _ _ _ _); first | (apply tv_val; (focus tm_at "e"); (focus tm_at "auto")) | (apply tv_truthL; (focus tm_at "e"); (focus tm_at "rd"); (focus tm_at "auto")) | (apply tv_truthI; (focus tm_at "e"); (focus tm_at "auto"))))
local macro_rules | `(tactic| tm_at "t") => `(tactic| ((with_reducible show TV _ _ _ (Expr.BoolOp _ _ _) _ _); first | (apply tv_w; (focus tm_at "w"))))
local macro_rules | `(tactic| tm_at "t") => `(tactic| ((with_reducible show TV _ _ _ (Expr.UnaryOp UnaryOp.Not _ _) _ _); first | (apply tv_not; (focus tm_at "t"))))
local macro_rules | `(tactic| tm_at "t") => `(tactic| ((with_reducible show TV _ _ _ (Expr.Compare _ [_, _] [_, _] _) _ _); first | (apply tv_chain2; (focus tm_at "e"); (focus tm_at "e"); (focus tm_at "cmp"); (focus tm_at "e"); (focus tm_at "cmp"); (focus tm_at "auto"))))
local macro_rules | `(tactic| tm_at "t") => `(tactic| ((with_reducible show TV _ _ _ (Expr.Compare _ [_] [_] _) _ _); first | (apply tv_cmp; (focus tm_at "e"); (focus tm_at "e"); (focus tm_at "cmp"); (focus tm_at "auto"))))
local macro_rules | `(tactic| tm_at "w") => `(tactic| ((with_reducible show WV _ _ _ (Expr.BoolOp BoolOp.Or _ _) _ _); first | (apply wv_or; (focus tm_at "t"); (focus tm_at "introw"))))
local macro_rules | `(tactic| tm_at "w") => `(tactic| ((with_reducible show WV _ _ _ (Expr.BoolOp BoolOp.And _ _) _ _); first | (apply wv_and; (focus tm_at "t"); (focus tm_at "introw"))))
local macro_rules | `(tactic| tm_at "w") => `(tactic| ((with_reducible show WV _ _ _ (Expr.BoolOp BoolOp.Or [_] _) _ _); first | (apply wv_or1; (focus tm_at "t"))))
local macro_rules | `(tactic| tm_at "w") => `(tactic| ((with_reducible show WV _ _ _ (Expr.BoolOp BoolOp.And [_] _) _ _); first | (apply wv_and1; (focus tm_at "t"))))
local macro_rules | `(tactic| tm_at "ee") => `(tactic| first
  | (apply EE.of; (focus tm_at "e"); try (tm_at "ee"))
  | (refine ee_call' (by assumption) ?_; apply AE.of; (focus tm_at "a"))
  | (with_reducible refine ee_mod ?_; tm_at "ee")
  | (with_reducible refine ee_add ?_; tm_at "ee")
  | (with_reducible refine ee_sub ?_; tm_at "ee")
  | (with_reducible refine ee_mul ?_; tm_at "ee")
  | (with_reducible refine ee_div ?_; tm_at "ee")
  | (with_reducible refine ee_ixL ?_; tm_at "ee")
  | (refine ⟨_, rfl, ?_⟩; tm_at "ee"))

/-! ### purses -/
def jg (j : Jb) (n : Str) : Int := if j.1 = n then j.2.2.2 else 0
def jt (j : Jb) (n : Str) : Int := if j.2.1 = n then j.2.2.2 else 0
def chg (js : List Jb) (n : Str) : Int := (js.map fun j => jg j n - jt j n).sum
theorem chg_take {L : List Jb} {i : Nat} {a : Jb} (h : L[i]? = some a) (n : Str) : chg (L.take (i + 1)) n = chg (L.take i) n + (jg a n - jt a n) := sum_take (fun j => jg j n - jt j n) h
def PurOk (t : List Nb) (js : List Jb) : Prop := ∀ a ∈ t, a.2.2.1 ≤ a.2.1 + chg js a.1 ∧ a.2.1 + chg js a.1 ≤ a.2.2.2
def kn (a : Nb) : Key := .inr a.1
theorem kn_nodup {t : List Nb} (h : (t.map (·.1)).Nodup) : (t.map kn).Nodup := by
  have : t.map kn = (t.map (·.1)).map Sum.inr := by simp [kn, Function.comp_def]
  rw [this]
  exact List.pairwise_map.mpr (h.imp fun ne e => ne (Sum.inr.inj e))
theorem name_one {t : List Nb} (h : (t.map (·.1)).Nodup) {a b : Nb} (ha : a ∈ t) (hb : b ∈ t) (e : a.1 = b.1) : a = b := by
  obtain ⟨j, hj, ej⟩ := List.getElem_of_mem ha
  obtain ⟨l, hl, el⟩ := List.getElem_of_mem hb
  have : j = l := by
    refine (List.getElem_inj h (h₀ := by simpa using hj) (h₁ := by simpa using hl)).mp ?_
    simp only [List.getElem_map, ej, el]
    exact e
  subst this
  rw [← ej, ← el]
def S__purses_hold : PSpec := fun args γ P => ∃ (t : List Nb) (js : List Jb), args = [.fz (.list (t.map dNb)), .fz (.list (js.map dJb))] ∧ Town t ∧ js.length ≤ 1000 ∧ (∀ j ∈ js, j.1 ∈ t.map (·.1) ∧ j.2.1 ∈ t.map (·.1)) ∧ ∃ b : Bool, (b = true ↔ PurOk t js) ∧ P (.fz (.bool b)) γ
theorem len__purses_hold {args γ P} (h : S__purses_hold args γ P) : args.length = 2 := by obtain ⟨t, js, rfl, _⟩ := h; rfl
set_option maxHeartbeats 16000000 in
theorem body__purses_hold {P : Program} {w : World} {K : PySem.W.Frag} {mg : Str → Option Value} {base : Heap} (g0 : G0 mg)
    {X : Cx} (c : Ctx X P w K mg base N__purses_hold (defScope s__purses_hold) 0) {args : List Itm} {γ : Cells} {Po : EPost} (hγ : Clo γ) (hS : S__purses_hold args γ Po) :
    SVs X (slots0 N__purses_hold args) γ (defBody s__purses_hold) { nx := fun _ g => PL.Fin γ.length Po (.fz .none) g, rt := PL.Fin γ.length Po } := by
  have hX := c.ok
  have hp := c.po
  have v0 : Nm X "town" 0 .local := c.nm 0 .local rfl (by decide +kernel) (.inl rfl) (by decide +kernel) (by decide +kernel)
  have v1 : Nm X "jobs" 1 .local := c.nm 1 .local rfl (by decide +kernel) (.inl rfl) (by decide +kernel) (by decide +kernel)
  have v2 : Nm X "change" 2 .cell := c.nm 2 .cell rfl (by decide +kernel) (.inr rfl) (by decide +kernel) (by decide +kernel)
  have v3 : Nm X "giver" 3 .local := c.nm 3 .local rfl (by decide +kernel) (.inl rfl) (by decide +kernel) (by decide +kernel)
  have v4 : Nm X "taker" 4 .local := c.nm 4 .local rfl (by decide +kernel) (.inl rfl) (by decide +kernel) (by decide +kernel)
  have v5 : Nm X "_" 5 .local := c.nm 5 .local rfl (by decide +kernel) (.inl rfl) (by decide +kernel) (by decide +kernel)
  have v6 : Nm X "hours" 6 .local := c.nm 6 .local rfl (by decide +kernel) (.inl rfl) (by decide +kernel) (by decide +kernel)
  have b_all : Bt X "all" := c.bt (by decide +kernel) g0.b_all
  obtain ⟨t, js, rfl, hT, hl, hin, b, hb, hP⟩ := hS
  have ht := hT.len
  have kd := kn_nodup hT.nd
  have e0 : ((t.map dNb).map Itm.fz).length = t.length := by simp
  refine svs_setE hX v2 (EE.of (ev_dcK (own := [("row", 7)]) (fun _ => true) (fun i => (t.map kn).getD i (.inl 0)) (fun i => (t.map fun a => Itm.fz (.int 0)).getD i (.fz .none)) hX (by rw [c.N, c.sc]; exact ⟨rfl, by decide +kernel, by decide +kernel, by decide +kernel, by decide +kernel⟩) (itv_list (ds := t.map dNb) (ev_name v0.r rfl) (Rdb.fz _)) (fun _ => Rdb.fz _) (by simp; omega) (fun i x hx => ?_)) ?_) (hs := swd_cell v2.r.kd)
  · rw [List.getElem?_map, List.getElem?_map] at hx
    cases ha : t[i]? with
    | none => rw [ha] at hx; cases hx
    | some a =>
      rw [ha] at hx
      cases hx
      refine ⟨[some (.fz (.list (t.map dNb))), some (.fz (.list (js.map dJb))), none, none, none, none, none, some (.fz (dNb a)), none, none, none, none], [7], by simp, fun X' hB G hG => ?_⟩
      have hX_X' := hB.cok hX rfl
      have w7_X' : Nm X' "row" 7 .local := hB.own (by rw [c.N]; rfl) (by decide +kernel) (by decide +kernel) (by decide +kernel)
      refine ⟨tgt1 hX_X' w7_X', tvs_nil, fun _ => ⟨.str a.1, ?_, ev_ixT (ds := [.str a.1, .int a.2.1, .int a.2.2.1, .int a.2.2.2]) (ev_name w7_X'.r rfl) ev_int ix_0, ?_⟩⟩
      · simp [keyD, ha, kn]
      · have : (t.map fun a => Itm.fz (.int 0)).getD i (.fz .none) = .fz (.int 0) := by simp [List.getD, ha]
        rw [this]
        exact ev_int
  rw [e0, accI_tab kn (fun a => 0) (.inl 0) (.fz .none) t kd]
  refine svs_forL dJb js hX hp (ev_name v1.r rfl) (Rdb.fz _)
    (fun i Γ' g => ∃ (s3 s4 s5 s6 : Option Itm), Γ' = [some (.fz (.list (t.map dNb))), some (.fz (.list (js.map dJb))), some (.cl γ.length), s3, s4, s5, s6, none, none, none, none, none] ∧ g = γ ++ [.dic (tabI kn t fun a => chg (js.take i) a.1)])
    ⟨_, _, _, _, rfl, by rw [tab_congr (g := fun a => chg (js.take 0) a.1) fun a _ => by simp [chg]]⟩ (fun _ _ _ _ _ => Rdb.fz _) ?_ ?_
  · rintro i j Γ' g hi hj ⟨s3, s4, s5, s6, rfl, rfl⟩
    obtain ⟨h1, h2⟩ := hin j hj
    obtain ⟨a1, m1, e1⟩ := List.mem_map.mp h1
    obtain ⟨a2, m2, e2⟩ := List.mem_map.mp h2
    have k1 : kn a1 = .inr j.1 := by unfold kn; rw [e1]
    have k2' : kn a2 = .inr j.2.1 := by unfold kn; rw [e2]
    refine ⟨_, _, gv_tup (ds := [.str j.1, .str j.2.1, .str j.2.2.1, .int j.2.2.2]) hX (gvs_cons (gv_name hX v3) (gvs_cons (gv_name hX v4) (gvs_cons (gv_name hX v5) (gvs_cons (gv_name hX v6) gvs_nil)))) rfl, ?_⟩
    have cell : ∀ o : Cell, (γ ++ [o])[γ.length]? = some o := fun o => by rw [List.getElem?_append_right (Nat.le_refl _)]; simp
    refine svs_daug (k := .inr j.1) (n := chg (js.take i) a1.1) (m := j.2.2.2) hX (ev_name v2.r rfl) (ev_name v3.r rfl) rfl (cell _) (by rw [← k1]; exact tab_at kd m1) (ev_name v6.r rfl) (by rw [tab_len]; omega) PL.in_add ?_
    rw [List.set_append_right _ _ (Nat.le_refl _), Nat.sub_self]
    rw [← k1, tab_put (g := fun x => chg (js.take i) x.1 + jg j x.1) m1 (fun x hx e => by
      have : x.1 = a1.1 := Sum.inr.inj e
      simp only [this, jg, e1, if_true]) (fun x hx ne => by
      have : ¬ j.1 = x.1 := fun e => ne (by unfold kn; rw [← e, ← e1])
      simp [jg, this])]
    refine svs_daug (k := .inr j.2.1) (n := chg (js.take i) a2.1 + jg j a2.1) (m := j.2.2.2) hX (ev_name v2.r rfl) (ev_name v4.r rfl) rfl (cell _) (by rw [← k2']; exact tab_at kd m2) (ev_name v6.r rfl) (by rw [tab_len]; omega) PL.in_sub ?_
    refine svs_nil ⟨_, _, _, _, rfl, ?_⟩
    show (γ ++ [Cell.dic _]).set _ _ = _
    rw [List.set_append_right _ _ (Nat.le_refl _), Nat.sub_self]
    show γ ++ [Cell.dic _] = _
    rw [← k2', tab_put (g := fun x => chg (js.take (i + 1)) x.1) m2 (fun x hx e => by
      have : x.1 = a2.1 := Sum.inr.inj e
      simp only [chg_take hi, this, jt, e2, if_true]
      omega) (fun x hx ne => by
      have : ¬ j.2.1 = x.1 := fun e => ne (by unfold kn; rw [← e, ← e2])
      simp only [chg_take hi, jt, if_neg this]
      omega)]
  · rintro Γ' g ⟨s3, s4, s5, s6, rfl, rfl⟩
    rw [List.take_length]
    apply svs_retE
    refine EE.of (ev_allB (ns := t.map fun a => decide (a.2.2.1 ≤ a.2.1 + chg js a.1) && decide (a.2.1 + chg js a.1 ≤ a.2.2.2)) hX b_all (ev_lcAM (own := [("name", 8), ("purse", 9), ("floor", 10), ("ceiling", 11)]) dNb t (fun a => .bool (decide (a.2.2.1 ≤ a.2.1 + chg js a.1) && decide (a.2.1 + chg js a.1 ≤ a.2.2.2))) hX (by rw [c.N, c.sc]; exact ⟨rfl, by decide +kernel, by decide +kernel, by decide +kernel, by decide +kernel⟩) (ev_name v0.r rfl) (Rdb.fz _) (by omega) (fun a ha => ?_)) (by rw [List.map_map]; exact Rdb.fz _)) ?_
    · refine ⟨[some (.fz (.list (t.map dNb))), some (.fz (.list (js.map dJb))), some (.cl γ.length), s3, s4, s5, s6, none, some (.fz (.str a.1)), some (.fz (.int a.2.1)), some (.fz (.int a.2.2.1)), some (.fz (.int a.2.2.2))], [8, 9, 10, 11], by simp, fun acc X' hB => ?_⟩
      have hX_X' := hB.cok hX rfl
      have w8_X' : Nm X' "name" 8 .local := hB.own (by rw [c.N]; rfl) (by decide +kernel) (by decide +kernel) (by decide +kernel)
      have w9_X' : Nm X' "purse" 9 .local := hB.own (by rw [c.N]; rfl) (by decide +kernel) (by decide +kernel) (by decide +kernel)
      have w10_X' : Nm X' "floor" 10 .local := hB.own (by rw [c.N]; rfl) (by decide +kernel) (by decide +kernel) (by decide +kernel)
      have w11_X' : Nm X' "ceiling" 11 .local := hB.own (by rw [c.N]; rfl) (by decide +kernel) (by decide +kernel) (by decide +kernel)
      have w2_X' : Nr X' "change" 2 .cell := hB.cap hX v2.r (by decide +kernel)
      refine ⟨gv_tup (ds := [.str a.1, .int a.2.1, .int a.2.2.1, .int a.2.2.2]) hX_X' (gvs_cons (gv_name hX_X' w8_X') (gvs_cons (gv_name hX_X' w9_X') (gvs_cons (gv_name hX_X' w10_X') (gvs_cons (gv_name hX_X' w11_X') gvs_nil)))) rfl, ?_⟩
      have cell : (γ ++ [Cell.dic (tabI kn t fun a => chg js a.1)] ++ [.lst acc])[γ.length]? = some (.dic (tabI kn t fun a => chg js a.1)) := by
        rw [List.append_assoc, List.getElem?_append_right (Nat.le_refl _)]
        simp
      exact ev_chain2 (ev_name w10_X'.r rfl) (ev_add (ev_name w9_X'.r rfl) (ev_dget (k := kn a) hX_X' (ev_name w2_X' rfl) (ev_name w8_X'.r rfl) cell rfl (tab_at (f := fun a => chg js a.1) kd ha))) cmp_le (ev_name w11_X'.r rfl) cmp_le
    · have eb : (t.map fun a => decide (a.2.2.1 ≤ a.2.1 + chg js a.1) && decide (a.2.1 + chg js a.1 ≤ a.2.2.2)).all id = b := by
        rw [Bool.eq_iff_iff, hb, List.all_eq_true]
        constructor
        · intro h a ha
          have := h _ (List.mem_map.mpr ⟨a, ha, rfl⟩)
          simpa using this
        · intro h x hx
          obtain ⟨a, ha, rfl⟩ := List.mem_map.mp hx
          simpa using h a ha
      rw [eb]
      exact fin_junk hγ hP
theorem ok__purses_hold {P : Program} {w : World} {K : PySem.W.Frag} {mg : Str → Option Value} {base : Heap} (g0 : G0 mg)
    {f : Addr} {fd : FuncData} (F : Fun K "_purses_hold" "_purses_hold" s__purses_hold f fd) (hm : mg "_purses_hold" = some (.ref f)) : FnD P w K mg base "_purses_hold" 1 S__purses_hold :=
  def_ok F sc__purses_hold hm (F.binds (ps := ["town", "jobs"]) fun _ _ _ _ _ _ us hl => match us, hl with | [_, _], _ => rfl) (fun args γ P h => len__purses_hold h)
    fun X c args γ Po hγ hS => body__purses_hold g0  c hγ hS
/-! ### exchanges -/
def givR (js : List Jb) : List Rw := js.map fun j => (j.1, j.2.2.1, j.2.2.2)
def takR (js : List Jb) : List Rw := js.map fun j => (j.2.1, j.2.2.1, j.2.2.2)
structure Exch (t : List Nb) (d : Day) (js : List Jb) : Prop where
  ok : ∀ j ∈ js, JbOk j
  nd : (js.map k3).Nodup
  giv : Covers d.1 (givR js)
  tak : Covers d.2 (takR js)
  pur : PurOk t js
def ExP (t : List Nb) (d : Day) (x : PyData) : Prop := ∃ js, x = .list (js.map dJb) ∧ Exch t d js
theorem dJb_inj {js ks : List Jb} (e : js.map dJb = ks.map dJb) : js = ks := by
  induction js generalizing ks with
  | nil => cases ks with
    | nil => rfl
    | cons _ _ => cases e
  | cons x js ih => cases ks with
    | nil => cases e
    | cons y ks =>
      rw [List.map_cons, List.map_cons] at e
      injection e with e1 e2
      rw [ih e2]
      obtain ⟨x1, x2, x3, x4⟩ := x
      obtain ⟨y1, y2, y3, y4⟩ := y
      simp [dJb] at e1
      obtain ⟨rfl, rfl, rfl, rfl⟩ := e1
      rfl
def S_is_exchange : PSpec := fun args γ P => ∃ (t : List Nb) (d : Day) (x : PyData), args = [.fz (.list (t.map dNb)), .fz (dDay d), .fz x] ∧ Town t ∧ GoodD t d ∧ (∀ ds, x = .list ds → ds.length < 305 ∧ ∀ e ∈ ds, TxS e) ∧ ∃ b : Bool, (b = true ↔ ExP t d x) ∧ P (.fz (.bool b)) γ
theorem len_is_exchange {args γ P} (h : S_is_exchange args γ P) : args.length = 3 := by obtain ⟨t, d, x, rfl, _⟩ := h; rfl
open Classical in
set_option maxHeartbeats 16000000 in
theorem body_is_exchange {P : Program} {w : World} {K : PySem.W.Frag} {mg : Str → Option Value} {base : Heap} (g0 : G0 mg)
    (D__is_day : FnD P w K mg base "_is_day" 4 S__is_day)
    (D__are_jobs : FnD P w K mg base "_are_jobs" 3 S__are_jobs)
    (D__covers : FnD P w K mg base "_covers" 1 S__covers)
    (D__purses_hold : FnD P w K mg base "_purses_hold" 1 S__purses_hold)
    {X : Cx} (c : Ctx X P w K mg base N_is_exchange (defScope s_is_exchange) 4) {args : List Itm} {γ : Cells} {Po : EPost} (hγ : Clo γ) (hS : S_is_exchange args γ Po) :
    SVs X (slots0 N_is_exchange args) γ (defBody s_is_exchange) { nx := fun _ g => PL.Fin γ.length Po (.fz .none) g, rt := PL.Fin γ.length Po } := by
  have hX := c.ok
  have hp := c.po
  have v0 : Nm X "town" 0 .local := c.nm 0 .local rfl (by decide +kernel) (.inl rfl) (by decide +kernel) (by decide +kernel)
  have v1 : Nm X "day" 1 .local := c.nm 1 .local rfl (by decide +kernel) (.inl rfl) (by decide +kernel) (by decide +kernel)
  have v2 : Nm X "jobs" 2 .local := c.nm 2 .local rfl (by decide +kernel) (.inl rfl) (by decide +kernel) (by decide +kernel)
  have v3 : Nm X "offers" 3 .local := c.nm 3 .local rfl (by decide +kernel) (.inl rfl) (by decide +kernel) (by decide +kernel)
  have v4 : Nm X "wishes" 4 .local := c.nm 4 .local rfl (by decide +kernel) (.inl rfl) (by decide +kernel) (by decide +kernel)
  have v5 : Nm X "given" 5 .local := c.nm 5 .local rfl (by decide +kernel) (.inl rfl) (by decide +kernel) (by decide +kernel)
  have v6 : Nm X "taken" 6 .local := c.nm 6 .local rfl (by decide +kernel) (.inl rfl) (by decide +kernel) (by decide +kernel)
  have k__is_day : Cal X "_is_day" S__is_day := c.cal D__is_day (by decide) (by decide +kernel) (by decide +kernel)
  have k__are_jobs : Cal X "_are_jobs" S__are_jobs := c.cal D__are_jobs (by decide) (by decide +kernel) (by decide +kernel)
  have k__covers : Cal X "_covers" S__covers := c.cal D__covers (by decide) (by decide +kernel) (by decide +kernel)
  have k__purses_hold : Cal X "_purses_hold" S__purses_hold := c.cal D__purses_hold (by decide) (by decide +kernel) (by decide +kernel)
  obtain ⟨t, d, x, rfl, hT, hD, hx, b, hb, hP⟩ := hS
  have no : ¬ ExP t d x → Po (.fz (.bool false)) γ := fun n => by
    cases b with
    | false => exact hP
    | true => exact absurd (hb.mp rfl) n
  have hlen : d.1.length + d.2.length ≤ 40 := by have := hD.len; unfold rows at this; rw [List.length_append] at this; exact this
  have nd2 : (prs d.1).Nodup ∧ (prs d.2).Nodup := by
    have := hD.nd
    unfold prs rows at this
    rw [List.map_append, List.nodup_append] at this
    exact ⟨this.1, this.2.1⟩
  refine svs_if (k := !decide (areJ x)) (TV.is (tv_w (wv_or (tv_not (tv_val (ev_call k__is_day (av_cons (ev_name v0.r rfl) (av_cons (ev_name v1.r rfl) av_nil)) ⟨t, d, rfl, hT, hD, rfl, rfl⟩))) fun _ => wv_or1 (tv_not (tv_val (ev_call k__are_jobs (av_cons (ev_name v2.r rfl) av_nil) ⟨x, rfl, hx, decide (areJ x), decide_eq_true_iff, rfl, rfl⟩))))) rfl) (fun h => ?_) (fun h => ?_)
  · apply svs_retE
    refine EE.of ev_bl (fin_same hγ (no ?_))
    rintro ⟨js, rfl, hE⟩
    rw [decide_eq_true (show areJ (.list (js.map dJb)) from ⟨js, rfl, hE.ok, hE.nd⟩)] at h
    cases h
  · obtain ⟨js, rfl, ok, nd⟩ : areJ x := by
      rw [Bool.not_eq_false'] at h
      exact of_decide_eq_true h
    have few : js.length < 305 := by simpa using (hx _ rfl).1
    refine svs_nil ?_
    refine svs_asg (r := .fz (dDay d)) (γ1 := γ) (ev_name v1.r rfl) (gv_tup (ds := [.list (d.1.map dRw), .list (d.2.map dRw)]) hX (gvs_cons (gv_name hX v3) (gvs_cons (gv_name hX v4) gvs_nil)) rfl) ?_
    refine svs_setLcA (own := [("giver", 7), ("_", 8), ("skill", 9), ("hours", 10)]) dJb js (fun _ => true) (fun j => dRw (j.1, j.2.2.1, j.2.2.2)) hX v5 (by decide) (by decide +kernel) (by rw [c.N, c.sc]; exact ⟨rfl, by decide +kernel, by decide +kernel, by decide +kernel, by decide +kernel⟩) (ev_name v2.r rfl) (Rdb.fz _) (by omega) (fun j hj => ?_) ?_
    · refine ⟨[some (.fz (.list (t.map dNb))), some (.fz (dDay d)), some (.fz (.list (js.map dJb))), some (.fz (.list (d.1.map dRw))), some (.fz (.list (d.2.map dRw))), none, none, some (.fz (.str j.1)), some (.fz (.str j.2.1)), some (.fz (.str j.2.2.1)), some (.fz (.int j.2.2.2)), none], [7, 8, 9, 10], by simp, fun acc X' hB => ?_⟩
      have hX_X' := hB.cok hX rfl
      have w7_X' : Nm X' "giver" 7 .local := hB.own (by rw [c.N]; rfl) (by decide +kernel) (by decide +kernel) (by decide +kernel)
      have w8_X' : Nm X' "_" 8 .local := hB.own (by rw [c.N]; rfl) (by decide +kernel) (by decide +kernel) (by decide +kernel)
      have w9_X' : Nm X' "skill" 9 .local := hB.own (by rw [c.N]; rfl) (by decide +kernel) (by decide +kernel) (by decide +kernel)
      have w10_X' : Nm X' "hours" 10 .local := hB.own (by rw [c.N]; rfl) (by decide +kernel) (by decide +kernel) (by decide +kernel)
      exact ⟨gv_tup (ds := [.str j.1, .str j.2.1, .str j.2.2.1, .int j.2.2.2]) hX_X' (gvs_cons (gv_name hX_X' w7_X') (gvs_cons (gv_name hX_X' w8_X') (gvs_cons (gv_name hX_X' w9_X') (gvs_cons (gv_name hX_X' w10_X') gvs_nil)))) rfl, tvs_nil, fun _ => ev_tup (ds := [.str j.1, .str j.2.2.1, .int j.2.2.2]) (av_consF (ev_name w7_X'.r rfl) (av_consF (ev_name w9_X'.r rfl) (av_consF (ev_name w10_X'.r rfl) av_nilF)))⟩
    rw [PL.filter_all]
    refine svs_setLcA (own := [("_", 8), ("taker", 11), ("skill", 9), ("hours", 10)]) dJb js (fun _ => true) (fun j => dRw (j.2.1, j.2.2.1, j.2.2.2)) hX v6 (by decide) (by decide +kernel) (by rw [c.N, c.sc]; exact ⟨rfl, by decide +kernel, by decide +kernel, by decide +kernel, by decide +kernel⟩) (ev_name v2.r rfl) (Rdb.fz _) (by omega) (fun j hj => ?_) ?_
    · refine ⟨[some (.fz (.list (t.map dNb))), some (.fz (dDay d)), some (.fz (.list (js.map dJb))), some (.fz (.list (d.1.map dRw))), some (.fz (.list (d.2.map dRw))), some (.fz (.list (js.map fun j => dRw (j.1, j.2.2.1, j.2.2.2)))), none, none, some (.fz (.str j.1)), some (.fz (.str j.2.2.1)), some (.fz (.int j.2.2.2)), some (.fz (.str j.2.1))], [8, 11, 9, 10], by simp, fun acc X' hB => ?_⟩
      have hX_X' := hB.cok hX rfl
      have w8_X' : Nm X' "_" 8 .local := hB.own (by rw [c.N]; rfl) (by decide +kernel) (by decide +kernel) (by decide +kernel)
      have w11_X' : Nm X' "taker" 11 .local := hB.own (by rw [c.N]; rfl) (by decide +kernel) (by decide +kernel) (by decide +kernel)
      have w9_X' : Nm X' "skill" 9 .local := hB.own (by rw [c.N]; rfl) (by decide +kernel) (by decide +kernel) (by decide +kernel)
      have w10_X' : Nm X' "hours" 10 .local := hB.own (by rw [c.N]; rfl) (by decide +kernel) (by decide +kernel) (by decide +kernel)
      exact ⟨gv_tup (ds := [.str j.1, .str j.2.1, .str j.2.2.1, .int j.2.2.2]) hX_X' (gvs_cons (gv_name hX_X' w8_X') (gvs_cons (gv_name hX_X' w11_X') (gvs_cons (gv_name hX_X' w9_X') (gvs_cons (gv_name hX_X' w10_X') gvs_nil)))) rfl, tvs_nil, fun _ => ev_tup (ds := [.str j.2.1, .str j.2.2.1, .int j.2.2.2]) (av_consF (ev_name w11_X'.r rfl) (av_consF (ev_name w9_X'.r rfl) (av_consF (ev_name w10_X'.r rfl) av_nilF)))⟩
    rw [PL.filter_all]
    have eg : (js.map fun j => dRw (j.1, j.2.2.1, j.2.2.2)) = (givR js).map dRw := by simp [givR, Function.comp_def]
    have et : (js.map fun j => dRw (j.2.1, j.2.2.1, j.2.2.2)) = (takR js).map dRw := by simp [takR, Function.comp_def]
    rw [eg, et]
    apply svs_retE
    have lg : (givR js).length ≤ 1000 := by simp [givR]; omega
    have lt : (takR js).length ≤ 1000 := by simp [takR]; omega
    refine EE.of (EV.is (ev_and (ev_call k__covers (av_cons (ev_name v3.r rfl) (av_cons (ev_name v5.r rfl) av_nil)) ⟨d.1, givR js, rfl, nd2.1, by omega, lg, decide (Covers d.1 (givR js)), decide_eq_true_iff, rfl, rfl⟩) fun q1 => ev_and (ev_call k__covers (av_cons (ev_name v4.r rfl) (av_cons (ev_name v6.r rfl) av_nil)) ⟨d.2, takR js, rfl, nd2.2, by omega, lt, decide (Covers d.2 (takR js)), decide_eq_true_iff, rfl, rfl⟩) fun q2 => ev_one (ev_call k__purses_hold (av_cons (ev_name v0.r rfl) (av_cons (ev_name v2.r rfl) av_nil)) ⟨t, js, rfl, hT, by omega, fun j hj => ?_, decide (PurOk t js), decide_eq_true_iff, rfl, rfl⟩)) (d' := .bool b) ?_) (fin_same hγ hP)
    · have c1 := (of_decide_eq_true q1).1 (j.1, j.2.2.1, j.2.2.2) (List.mem_map.mpr ⟨j, hj, rfl⟩)
      have c2 := (of_decide_eq_true q2).1 (j.2.1, j.2.2.1, j.2.2.2) (List.mem_map.mpr ⟨j, hj, rfl⟩)
      obtain ⟨r1, m1, e1⟩ := List.mem_map.mp c1
      obtain ⟨r2, m2, e2⟩ := List.mem_map.mp c2
      have f1 := hD.nm r1 (List.mem_append_left _ m1)
      have f2 := hD.nm r2 (List.mem_append_right _ m2)
      have g1 : r1.1 = j.1 := (Prod.mk.inj e1).1
      have g2 : r2.1 = j.2.1 := (Prod.mk.inj e2).1
      exact ⟨g1 ▸ f1, g2 ▸ f2⟩
    · have iff : b = true ↔ (Covers d.1 (givR js) ∧ Covers d.2 (takR js) ∧ PurOk t js) := by
        rw [hb]
        constructor
        · rintro ⟨ks, e, hE⟩
          rw [dJb_inj (PyData.list.inj e)]
          exact ⟨hE.giv, hE.tak, hE.pur⟩
        · rintro ⟨h1, h2, h3⟩
          exact ⟨js, rfl, ok, nd, h1, h2, h3⟩
      by_cases h1 : Covers d.1 (givR js)
      · by_cases h2 : Covers d.2 (takR js)
        · by_cases h3 : PurOk t js
          · rw [iff.mpr ⟨h1, h2, h3⟩]; simp [h1, h2, h3]
          · have : b = false := by cases b with
              | false => rfl
              | true => exact absurd (iff.mp rfl).2.2 h3
            rw [this]; simp [h1, h2, h3]
        · have : b = false := by cases b with
            | false => rfl
            | true => exact absurd (iff.mp rfl).2.1 h2
          rw [this]; simp [h1, h2]
      · have : b = false := by cases b with
          | false => rfl
          | true => exact absurd (iff.mp rfl).1 h1
        rw [this]; simp [h1]
theorem ok_is_exchange {P : Program} {w : World} {K : PySem.W.Frag} {mg : Str → Option Value} {base : Heap} (g0 : G0 mg)
    (D__is_day : FnD P w K mg base "_is_day" 4 S__is_day)
    (D__are_jobs : FnD P w K mg base "_are_jobs" 3 S__are_jobs)
    (D__covers : FnD P w K mg base "_covers" 1 S__covers)
    (D__purses_hold : FnD P w K mg base "_purses_hold" 1 S__purses_hold)
    {f : Addr} {fd : FuncData} (F : Fun K "is_exchange" "is_exchange" s_is_exchange f fd) (hm : mg "is_exchange" = some (.ref f)) : FnD P w K mg base "is_exchange" 5 S_is_exchange :=
  def_ok F sc_is_exchange hm (F.binds (ps := ["town", "day", "jobs"]) fun _ _ _ _ _ _ us hl => match us, hl with | [_, _, _], _ => rfl) (fun args γ P h => len_is_exchange h)
    fun X c args γ Po hγ hS => body_is_exchange g0 D__is_day D__are_jobs D__covers D__purses_hold c hγ hS
def S_moved : PSpec := fun args γ P => ∃ js : List Jb, args = [.fz (.list (js.map dJb))] ∧ js.length ≤ 1000 ∧ P (.fz (.int (js.map (·.2.2.2)).sum)) γ
theorem len_moved {args γ P} (h : S_moved args γ P) : args.length = 1 := by obtain ⟨t, rfl, _⟩ := h; rfl
set_option maxHeartbeats 4000000 in
theorem body_moved {P : Program} {w : World} {K : PySem.W.Frag} {mg : Str → Option Value} {base : Heap} (g0 : G0 mg)
    {X : Cx} (c : Ctx X P w K mg base N_moved (defScope s_moved) 0) {args : List Itm} {γ : Cells} {Po : EPost} (hγ : Clo γ) (hS : S_moved args γ Po) :
    SVs X (slots0 N_moved args) γ (defBody s_moved) { nx := fun _ g => PL.Fin γ.length Po (.fz .none) g, rt := PL.Fin γ.length Po } := by
  have hX := c.ok
  have hp := c.po
  have v0 : Nm X "jobs" 0 .local := c.nm 0 .local rfl (by decide +kernel) (.inl rfl) (by decide +kernel) (by decide +kernel)
  have b_sum : Bt X "sum" := c.bt (by decide +kernel) g0.b_sum
  obtain ⟨js, rfl, hl, hP⟩ := hS
  apply svs_retE
  refine EE.of (ev_sum (ns := js.map (·.2.2.2)) hX b_sum (ev_lcM (w := 1) dJb js (fun j => .int j.2.2.2) hX (by rw [c.N, c.sc]; exact ⟨rfl, by decide +kernel, by decide +kernel, by decide +kernel, by decide +kernel⟩) (fun X' hB => ⟨hB.cok hX rfl, hB.own (by rw [c.N]; rfl) (by decide +kernel) (by decide +kernel) (by decide +kernel)⟩) (ev_name v0.r rfl) (Rdb.fz _) (by omega) (fun j hj acc X' hB => ?_)) (by rw [List.map_map]; exact Rdb.fz _)) (fin_same hγ hP)
  have hX_X' := hB.cok hX rfl
  have w1_X' : Nm X' "job" 1 .local := hB.own (by rw [c.N]; rfl) (by decide +kernel) (by decide +kernel) (by decide +kernel)
  exact ev_ixT (ds := [.str j.1, .str j.2.1, .str j.2.2.1, .int j.2.2.2]) (ev_name w1_X'.r rfl) ev_int ix_3
theorem ok_moved {P : Program} {w : World} {K : PySem.W.Frag} {mg : Str → Option Value} {base : Heap} (g0 : G0 mg)
    {f : Addr} {fd : FuncData} (F : Fun K "moved" "moved" s_moved f fd) (hm : mg "moved" = some (.ref f)) : FnD P w K mg base "moved" 1 S_moved :=
  def_ok F sc_moved hm (F.binds (ps := ["jobs"]) fun _ _ _ _ _ _ us hl => match us, hl with | [_], _ => rfl) (fun args γ P h => len_moved h)
    fun X c args γ Po hγ hS => body_moved g0  c hγ hS
end KK

namespace KK
open PySem PySem.Spec PyProof.Rows L2 PL
structure ExL (t : List Nb) (d : Day) (js : List Jb) : Prop where
  h0 : ∀ j ∈ js, 1 ≤ j.2.2.2
  nd : (js.map k3).Nodup
  giv : Covers d.1 (givR js)
  tak : Covers d.2 (takR js)
  pur : PurOk t js
theorem k3_inj {a b : Jb} (h : k3 a = k3 b) : a.1 = b.1 ∧ a.2.1 = b.2.1 ∧ a.2.2.1 = b.2.2.1 := by
  unfold k3 at h
  simp at h
  exact h
theorem take_split {α : Type} {L : List α} {i : Nat} {a : α} (h : L[i]? = some a) : L = L.take i ++ a :: L.drop (i + 1) := by
  obtain ⟨l, e⟩ := List.getElem?_eq_some_iff.mp h
  have := List.drop_eq_getElem_cons l
  rw [e] at this
  rw [← this, List.take_append_drop]
/-! ### no exchange moves more than a paper bounds -/
theorem sum_le {α : Type} {f g : α → Int} : ∀ {L : List α}, (∀ a ∈ L, f a ≤ g a) → (L.map f).sum ≤ (L.map g).sum
  | [], _ => Int.le_refl _
  | a :: L, h => by
    have h1 := h a (.head _)
    have h2 := sum_le (L := L) fun b hb => h b (.tail _ hb)
    simp only [List.map_cons, List.sum_cons]
    omega
theorem sum_add {α : Type} (f g : α → Int) : ∀ L : List α, (L.map fun a => f a + g a).sum = (L.map f).sum + (L.map g).sum
  | [] => rfl
  | a :: L => by
    have := sum_add f g L
    simp only [List.map_cons, List.sum_cons]
    omega
theorem sum_zero {α : Type} {f : α → Int} : ∀ {L : List α}, (∀ a ∈ L, f a = 0) → (L.map f).sum = 0
  | [], _ => rfl
  | a :: L, h => by
    have h1 := h a (.head _)
    have h2 := sum_zero (L := L) fun b hb => h b (.tail _ hb)
    simp only [List.map_cons, List.sum_cons]
    omega
/-- of unlike keys just one counts -/
theorem sum_one {α κ : Type} [DecidableEq κ] (k : α → κ) (f : α → Int) : ∀ {L : List α} {r : α}, (L.map k).Nodup → r ∈ L → (L.map fun a => if k r = k a then f a else 0).sum = f r
  | [], r, _, h => by cases h
  | a :: L, r, nd, h => by
    rw [List.map_cons, List.nodup_cons] at nd
    simp only [List.map_cons, List.sum_cons]
    rcases List.mem_cons.mp h with e | h
    · subst e
      rw [if_pos rfl, sum_zero (L := L) (fun b hb => if_neg fun e : k r = k b => nd.1 (List.mem_map.mpr ⟨b, hb, e.symm⟩))]
      omega
    · rw [if_neg (fun e : k r = k a => nd.1 (List.mem_map.mpr ⟨r, h, e⟩)), sum_one k f nd.2 h]
      omega
theorem regroup (f : Str × Str → Int) {R : List Rw} (nd : (prs R).Nodup) : ∀ {S : List Rw}, (∀ s ∈ S, (s.1, s.2.1) ∈ prs R) → (S.map fun s => s.2.2 * f (s.1, s.2.1)).sum = (R.map fun a => tot S (a.1, a.2.1) * f (a.1, a.2.1)).sum
  | [], _ => by
    rw [sum_zero (L := R) (fun a _ => by simp [tot])]
    rfl
  | s :: S, h => by
    have ih := regroup f nd (S := S) fun x hx => h x (.tail _ hx)
    obtain ⟨r, hr, er⟩ := List.mem_map.mp (h s (.head _))
    have one := sum_one (fun a : Rw => (a.1, a.2.1)) (fun a => s.2.2 * f (a.1, a.2.1)) (L := R) (r := r) nd hr
    have two : (R.map fun a => tot (s :: S) (a.1, a.2.1) * f (a.1, a.2.1)) = R.map fun a => (if (r.1, r.2.1) = (a.1, a.2.1) then s.2.2 * f (a.1, a.2.1) else 0) + tot S (a.1, a.2.1) * f (a.1, a.2.1) := by
      refine List.map_congr_left fun a _ => ?_
      have : tot (s :: S) (a.1, a.2.1) = (if (s.1, s.2.1) = (a.1, a.2.1) then s.2.2 else 0) + tot S (a.1, a.2.1) := by simp only [tot, List.map_cons, List.sum_cons]
      rw [this, Int.add_mul, er]
      split <;> simp
    rw [two, sum_add, List.map_cons, List.sum_cons, ih, one, er]
theorem tot_nonneg {S : List Rw} (h : ∀ s ∈ S, 0 ≤ s.2.2) (q : Str × Str) : 0 ≤ tot S q := by
  unfold tot
  have := sum_le (f := fun _ => 0) (g := fun a : Rw => if (a.1, a.2.1) = q then a.2.2 else 0) (L := S) fun a ha => by
    have := h a ha
    split <;> omega
  rw [sum_zero (fun _ _ => rfl)] at this
  exact this
theorem share_le {x H f : Int} (h0 : 0 ≤ x) (h1 : x ≤ H) : x * f ≤ max 0 (H * f) := by
  by_cases q : 0 ≤ f
  · have := Int.mul_le_mul_of_nonneg_right h1 q
    omega
  · have := Int.mul_nonneg h0 (show 0 ≤ -f by omega)
    rw [Int.mul_neg] at this
    omega
theorem names_sum (p : Str → Int) {t : List Nb} (nd : (t.map (·.1)).Nodup) : ∀ {js : List Jb}, (∀ j ∈ js, j.1 ∈ t.map (·.1) ∧ j.2.1 ∈ t.map (·.1)) → (js.map fun j => j.2.2.2 * (p j.2.1 - p j.1)).sum = (t.map fun a => p a.1 * -(chg js a.1)).sum
  | [], _ => by
    rw [sum_zero (L := t) (fun a _ => by simp [chg])]
    rfl
  | j :: js, h => by
    have ih := names_sum p nd (js := js) fun x hx => h x (.tail _ hx)
    obtain ⟨h1, h2⟩ := h j (.head _)
    obtain ⟨a1, m1, e1⟩ := List.mem_map.mp h1
    obtain ⟨a2, m2, e2⟩ := List.mem_map.mp h2
    have one := sum_one (fun a : Nb => a.1) (fun a => -(p a.1 * j.2.2.2)) (L := t) (r := a1) nd m1
    have two := sum_one (fun a : Nb => a.1) (fun a => p a.1 * j.2.2.2) (L := t) (r := a2) nd m2
    have all : (t.map fun a => p a.1 * -(chg (j :: js) a.1)) = t.map fun a => ((if a1.1 = a.1 then -(p a.1 * j.2.2.2) else 0) + (if a2.1 = a.1 then p a.1 * j.2.2.2 else 0)) + p a.1 * -(chg js a.1) := by
      refine List.map_congr_left fun a _ => ?_
      have : chg (j :: js) a.1 = (jg j a.1 - jt j a.1) + chg js a.1 := by simp only [chg, List.map_cons, List.sum_cons]
      rw [this, e1, e2]
      unfold jg jt
      rw [Int.neg_add, Int.mul_add, Int.neg_sub, Int.mul_sub]
      split <;> split <;> simp <;> omega
    rw [all, sum_add (f := fun a : Nb => (if a1.1 = a.1 then -(p a.1 * j.2.2.2) else 0) + (if a2.1 = a.1 then p a.1 * j.2.2.2 else 0)), sum_add, one, two, List.map_cons, List.sum_cons, ih, e1, e2, Int.mul_sub, Int.mul_comm (p j.2.1), Int.mul_comm (p j.1)]
    omega
theorem weak {t : List Nb} {d : Day} {js : List Jb} (L : Pp) (hT : Town t) (hD : GoodD t d) (h0 : ∀ j ∈ js, 0 ≤ j.2.2.2) (hg : Covers d.1 (givR js)) (ht : Covers d.2 (takR js)) (hp : PurOk t js) : (js.map (·.2.2.2)).sum ≤ bnd t d L := by
  have nd2 : (prs d.1).Nodup ∧ (prs d.2).Nodup := by
    have := hD.nd
    unfold prs rows at this
    rw [List.map_append, List.nodup_append] at this
    exact ⟨this.1, this.2.1⟩
  have a1 := regroup (fun q => 1 - (prI L (kS, q.2) - prI L (kN, q.1))) nd2.1 hg.1
  have a2 := regroup (fun q => prI L (kS, q.2) - prI L (kN, q.1)) nd2.2 ht.1
  have nm : ∀ j ∈ js, j.1 ∈ t.map (·.1) ∧ j.2.1 ∈ t.map (·.1) := fun j hj => by
    obtain ⟨r1, m1, e1⟩ := List.mem_map.mp (hg.1 (j.1, j.2.2.1, j.2.2.2) (List.mem_map.mpr ⟨j, hj, rfl⟩))
    obtain ⟨r2, m2, e2⟩ := List.mem_map.mp (ht.1 (j.2.1, j.2.2.1, j.2.2.2) (List.mem_map.mpr ⟨j, hj, rfl⟩))
    have f1 := hD.nm r1 (List.mem_append_left _ m1)
    have f2 := hD.nm r2 (List.mem_append_right _ m2)
    rw [show r1.1 = j.1 from (Prod.mk.inj e1).1] at f1
    rw [show r2.1 = j.2.1 from (Prod.mk.inj e2).1] at f2
    exact ⟨f1, f2⟩
  have a3 := names_sum (fun n => prI L (kN, n)) hT.nd nm
  have b1 : (d.1.map fun a => tot (givR js) (a.1, a.2.1) * (1 - (prI L (kS, a.2.1) - prI L (kN, a.1)))).sum ≤ (d.1.map (fo L)).sum := sum_le fun a ha => share_le (tot_nonneg (fun s hs => by obtain ⟨j, hj, rfl⟩ := List.mem_map.mp hs; exact h0 j hj) _) (hg.2 a ha)
  have b2 : (d.2.map fun a => tot (takR js) (a.1, a.2.1) * (prI L (kS, a.2.1) - prI L (kN, a.1))).sum ≤ (d.2.map (fw L)).sum := sum_le fun a ha => share_le (tot_nonneg (fun s hs => by obtain ⟨j, hj, rfl⟩ := List.mem_map.mp hs; exact h0 j hj) _) (ht.2 a ha)
  have b3 : (t.map fun a => prI L (kN, a.1) * -(chg js a.1)).sum ≤ (t.map (ft L)).sum := sum_le fun a ha => by
    obtain ⟨p1, p2⟩ := hp a ha
    unfold ft
    generalize prI L (kN, a.1) = p
    by_cases q : 0 < p
    · rw [if_pos q, show (p.natAbs : Int) = p by omega]
      exact Int.mul_le_mul_of_nonneg_left (by omega) (by omega)
    · rw [if_neg q, show (p.natAbs : Int) = -p by omega, Int.mul_neg, ← Int.neg_mul]
      exact Int.mul_le_mul_of_nonneg_left (by omega) (by omega)
  have split : (js.map (·.2.2.2)).sum = ((givR js).map fun s => s.2.2 * (1 - (prI L (kS, s.2.1) - prI L (kN, s.1)))).sum + ((takR js).map fun s => s.2.2 * (prI L (kS, s.2.1) - prI L (kN, s.1))).sum + (js.map fun j => j.2.2.2 * (prI L (kN, j.2.1) - prI L (kN, j.1))).sum := by
    unfold givR takR
    rw [List.map_map, List.map_map, ← sum_add, ← sum_add]
    congr 1
    refine List.map_congr_left fun j _ => ?_
    simp only [Function.comp]
    rw [← Int.mul_add, ← Int.mul_add]
    rw [show (1 - (prI L (kS, j.2.2.1) - prI L (kN, j.1)) + (prI L (kS, j.2.2.1) - prI L (kN, j.2.1)) + (prI L (kN, j.2.1) - prI L (kN, j.1))) = 1 by omega, Int.mul_one]
  unfold bnd
  rw [split, a1, a2, a3]
  simp only at *
  omega

theorem ExL.exch {t : List Nb} {d : Day} {js : List Jb} (h : ExL t d js) (hD : GoodD t d) : Exch t d js := by
  refine ⟨fun j hj => ?_, h.nd, h.giv, h.tak, h.pur⟩
  obtain ⟨r1, m1, e1⟩ := List.mem_map.mp (h.giv.1 (j.1, j.2.2.1, j.2.2.2) (List.mem_map.mpr ⟨j, hj, rfl⟩))
  obtain ⟨r2, m2, e2⟩ := List.mem_map.mp (h.tak.1 (j.2.1, j.2.2.1, j.2.2.2) (List.mem_map.mpr ⟨j, hj, rfl⟩))
  have f1 := hD.ok r1 (List.mem_append_left _ m1)
  have f2 := hD.ok r2 (List.mem_append_right _ m2)
  obtain ⟨a1, a2⟩ := Prod.mk.inj e1
  obtain ⟨b1, b2⟩ := Prod.mk.inj e2
  simp only at a1 a2 b1 b2
  have top := h.giv.2 r1 m1
  have part : j.2.2.2 ≤ tot (givR js) (r1.1, r1.2.1) := by
    have nn : ∀ s ∈ givR js, 0 ≤ s.2.2 := fun s hs => by
      obtain ⟨x, hx, rfl⟩ := List.mem_map.mp hs
      have := h.h0 x hx
      show 0 ≤ x.2.2.2
      omega
    obtain ⟨i, hi, ei⟩ := List.getElem_of_mem hj
    have gi : (givR js)[i]? = some (j.1, j.2.2.1, j.2.2.2) := by
      have : js[i]? = some j := by rw [List.getElem?_eq_getElem hi, ei]
      simp [givR, this]
    have cut := take_split gi
    rw [cut]
    have q : tot (List.take i (givR js) ++ (j.1, j.2.2.1, j.2.2.2) :: List.drop (i + 1) (givR js)) (r1.1, r1.2.1) = tot (List.take i (givR js)) (r1.1, r1.2.1) + ((if (j.1, j.2.2.1) = (r1.1, r1.2.1) then j.2.2.2 else 0) + tot (List.drop (i + 1) (givR js)) (r1.1, r1.2.1)) := by
      unfold tot
      rw [List.map_append, List.sum_append, List.map_cons, List.sum_cons]
    rw [q, if_pos e1.symm]
    have t1 := tot_nonneg (S := List.take i (givR js)) (fun s hs => nn s (List.mem_of_mem_take hs)) (r1.1, r1.2.1)
    have t2 := tot_nonneg (S := List.drop (i + 1) (givR js)) (fun s hs => nn s (List.mem_of_mem_drop hs)) (r1.1, r1.2.1)
    omega
  have := f1.h1
  exact ⟨a1 ▸ f1.nm, b1 ▸ f2.nm, a2 ▸ f1.sk, h.h0 j hj, by omega⟩
end KK

namespace KK
open PySem PySem.Spec PyProof.Rows L2 PL
local macro_rules | `(tactic| tm_at "nm") => `(tactic| with_reducible first | assumption | exact Nm.r (by assumption))
local macro_rules | `(tactic| tm_at "bt") => `(tactic| with_reducible assumption)
local macro_rules | `(tactic| tm_at "asm") => `(tactic| assumption)
local macro_rules | `(tactic| tm_at "auto") => `(tactic| first | rfl | exact fun _ _ => rfl | (intro _; rfl) | decide | exact nomark _ | (with_unfolding_all rfl))
local macro_rules | `(tactic| tm_at "boot") => `(tactic| decide +kernel)
local macro_rules | `(tactic| tm_at "kit") => `(tactic| first | exact kit_int _ | exact kit_bool _ | exact kit_str _ | exact kit_list _ | exact kit_tuple _ | exact kit_dict _)
local macro_rules | `(tactic| tm_at "side") => `(tactic| first | assumption | decide | omega | (simp only [List.length_map, List.length_cons, List.length_nil, List.length_append]; omega) | (simp; done))
local macro_rules | `(tactic| tm_at "pos") => `(tactic| first | decide | assumption | exact Int.pow_pos (by decide) | omega)
local macro_rules | `(tactic| tm_at "mul") => `(tactic| first | assumption | (exact small_mul 200 200 (by omega) (by omega)))
local macro_rules | `(tactic| tm_at "div") => `(tactic| first | assumption | (exact wide_div (b := 200) (by omega) (by omega) (by decide) (by decide)))
local macro_rules | `(tactic| tm_at "pow") => `(tactic| (refine ⟨?_, ?_, ?_⟩ <;> decide))
local macro_rules | `(tactic| tm_at "rd") => `(tactic| first | exact Rdb.fz _ | exact Rdb.cl (by assumption) | exact Rdb.cl rfl)
local macro_rules | `(tactic| tm_at "rdl") => `(tactic| first | exact .inr rfl | exact .inl (by tm_at "rd"))
local macro_rules | `(tactic| tm_at "ix") => `(tactic| first | assumption | exact ix_0 | exact ix_1 | exact ix_2 | exact ix_3 | exact ix_4 | rfl)
local macro_rules | `(tactic| tm_at "cmp") => `(tactic| first | exact cmp_lt | exact cmp_le | exact cmp_gt | exact cmp_ge | exact cmp_eqI | exact cmp_neI | exact cmp_eqS | exact cmp_neS | exact cmp_leS | exact cmp_ltS | exact cmp_inSign | exact cmp_notInSign | exact cmp_isB | exact cmp_notB | exact cmp_isN | exact cmp_notN | exact cmp_eqB | exact cmp_neB)
local macro_rules | `(tactic| tm_at "intro") => `(tactic| (intro _; tm_at "e"))
local macro_rules | `(tactic| tm_at "introe") => `(tactic| (intro _; tm_at "e"))
local macro_rules | `(tactic| tm_at "introw") => `(tactic| (intro _; tm_at "w"))
local macro_rules | `(tactic| tm_at "a") => `(tactic| first
  | exact av_nil
  | (apply av_cons; (focus tm_at "e"); (focus tm_at "a"); (focus tm_at "auto")))
local macro_rules | `(tactic| tm_at "alli") => `(tactic| (repeat (first | exact all_nil | (refine all_cons ⟨_, rfl, ?_, ?_⟩ ?_; (focus omega); (focus omega)))))
local macro_rules | `(tactic| tm_at "afz") => `(tactic| first
  | exact av_nilF
  | (apply av_consF; (focus tm_at "e"); (focus tm_at "afz"); (focus tm_at "auto")))
local macro_rules | `(tactic| tm_at "o") => `(tactic| first
  | exact ov_none
  | (apply ov_some; (focus tm_at "e")))
local macro_rules | `(tactic| tm_at "e") => `(tactic| ((with_reducible show EV _ _ _ (Expr.Tuple _ _ _) _ _); first | (apply ev_tup; (focus tm_at "afz"); (focus tm_at "side"))))
local macro_rules | `(tactic| tm_at "e") => `(tactic| ((with_reducible show EV _ _ _ (Expr.List _ _) _ _); first | (apply ev_lst; (focus tm_at "afz"); (focus tm_at "side"))))
local macro_rules | `(tactic| tm_at "e") => `(tactic| ((with_reducible show EV _ _ _ (Expr.Call (Expr.Attribute _ _ _) _ _ _) _ _); first | (apply ev_join; (focus tm_at "e"); (focus tm_at "e"); (focus tm_at "rd"); (focus tm_at "side"); (focus tm_at "auto"); (focus tm_at "auto"); (focus tm_at "auto"))))
local macro_rules | `(tactic| tm_at "e") => `(tactic| ((with_reducible show EV _ _ _ (Expr.Call (Expr.Name _ _) _ _ _) _ _); first | (apply ev_lenL; (focus tm_at "bt"); (focus tm_at "e"); (focus tm_at "rd"); (focus tm_at "auto")) | (apply ev_lenC; (focus tm_at "bt"); (focus tm_at "e"); (focus tm_at "ix"); (focus tm_at "auto")) | (apply ev_lenT; (focus tm_at "bt"); (focus tm_at "e"); (focus tm_at "auto")) | (apply ev_lenS; (focus tm_at "bt"); (focus tm_at "e"); (focus tm_at "side"); (focus tm_at "auto")) | (apply ev_max2; (focus tm_at "asm"); (focus tm_at "bt"); (focus tm_at "e"); (focus tm_at "e"); (focus tm_at "auto"); (focus tm_at "auto"); (focus tm_at "auto")) | (apply ev_min2; (focus tm_at "asm"); (focus tm_at "bt"); (focus tm_at "e"); (focus tm_at "e"); (focus tm_at "auto"); (focus tm_at "auto"); (focus tm_at "auto")) | (apply ev_intB; (focus tm_at "bt"); (focus tm_at "e"); (focus tm_at "auto")) | (apply ev_intI; (focus tm_at "bt"); (focus tm_at "e"); (focus tm_at "auto")) | (apply ev_abs; (focus tm_at "bt"); (focus tm_at "e"); (focus tm_at "auto")) | (apply ev_sum; (focus tm_at "asm"); (focus tm_at "bt"); (focus tm_at "e"); (focus tm_at "rd"); (focus tm_at "auto")) | (apply ev_listF; (focus tm_at "bt"); (focus tm_at "e"); (focus tm_at "rdl"); (focus tm_at "auto")) | (apply ev_sorted; (focus tm_at "bt"); (focus tm_at "e"); (focus tm_at "rd"); (focus tm_at "auto")) | (apply ev_isi; (focus tm_at "bt"); (focus tm_at "bt"); (focus tm_at "boot"); (focus tm_at "e"); (focus tm_at "rd"); (focus tm_at "kit"); (focus tm_at "auto"); (focus tm_at "auto"); (focus tm_at "auto"); (focus tm_at "auto"); (focus tm_at "auto"))))
local macro_rules | `(tactic| tm_at "e") => `(tactic| ((with_reducible show EV _ _ _ (Expr.BoolOp BoolOp.Or _ _) _ _); first | (apply ev_or; (focus tm_at "e"); (focus tm_at "introe"))))
local macro_rules | `(tactic| tm_at "e") => `(tactic| ((with_reducible show EV _ _ _ (Expr.BoolOp BoolOp.And _ _) _ _); first | (apply ev_and; (focus tm_at "e"); (focus tm_at "introe"))))
local macro_rules | `(tactic| tm_at "e") => `(tactic| ((with_reducible show EV _ _ _ (Expr.BoolOp _ [_] _) _ _); first | (apply ev_one; (focus tm_at "e"))))
local macro_rules | `(tactic| tm_at "e") => `(tactic| ((with_reducible show EV _ _ _ (Expr.IfExp _ _ _ _) _ _); first | (apply ev_ifx; (focus tm_at "t"); (focus tm_at "intro"); (focus tm_at "intro"))))
local macro_rules | `(tactic| tm_at "e") => `(tactic| ((with_reducible show EV _ _ _ (Expr.Compare _ [_, _] [_, _] _) _ _); first | (apply ev_chain2; (focus tm_at "e"); (focus tm_at "e"); (focus tm_at "cmp"); (focus tm_at "e"); (focus tm_at "cmp"); (focus tm_at "auto"))))
local macro_rules | `(tactic| tm_at "e") => `(tactic| ((with_reducible show EV _ _ _ (Expr.Compare _ [_] [_] _) _ _); first | (apply ev_cmp; (focus tm_at "e"); (focus tm_at "e"); (focus tm_at "cmp"); (focus tm_at "auto"))))
local macro_rules | `(tactic| tm_at "e") => `(tactic| ((with_reducible show EV _ _ _ (Expr.UnaryOp UnaryOp.Not _ _) _ _); first | (apply ev_not; (focus tm_at "e"))))
local macro_rules | `(tactic| tm_at "e") => `(tactic| ((with_reducible show EV _ _ _ (Expr.UnaryOp UnaryOp.USub _ _) _ _); first | (apply ev_neg; (focus tm_at "e"))))
local macro_rules | `(tactic| tm_at "e") => `(tactic| ((with_reducible show EV _ _ _ (Expr.Subscript _ _ _) _ _); first | (apply ev_ixL; (focus tm_at "e"); (focus tm_at "e"); (focus tm_at "rd"); (focus tm_at "ix"); (focus tm_at "auto")) | (apply ev_ixT; (focus tm_at "e"); (focus tm_at "e"); (focus tm_at "ix"); (focus tm_at "auto")) | (apply ev_ixC; (focus tm_at "e"); (focus tm_at "e"); (focus tm_at "ix"); (focus tm_at "ix"); (focus tm_at "auto")) | (apply ev_ixP; (focus tm_at "e"); (focus tm_at "e"); (focus tm_at "ix"); (focus tm_at "auto")) | (apply ev_ixS; (focus tm_at "e"); (focus tm_at "e"); (focus tm_at "side"); (focus tm_at "asm"); (focus tm_at "auto"))))
local macro_rules | `(tactic| tm_at "e") => `(tactic| ((with_reducible show EV _ _ _ (Expr.Subscript _ (Expr.Slice _ _ _ _) _) _ _); first | (apply ev_slL; (focus tm_at "e"); (focus tm_at "o"); (focus tm_at "o"); (focus tm_at "rd")) | (apply ev_slT; (focus tm_at "e"); (focus tm_at "o"); (focus tm_at "o"); (focus tm_at "side")) | (apply ev_slS; (focus tm_at "e"); (focus tm_at "o"); (focus tm_at "o"); (focus tm_at "side"))))
local macro_rules | `(tactic| tm_at "e") => `(tactic| ((with_reducible show EV _ _ _ (Expr.BinOp _ Operator.Pow _ _) _ _); first | (apply ev_pow; (focus tm_at "e"); (focus tm_at "e"); (focus tm_at "pow"))))
local macro_rules | `(tactic| tm_at "e") => `(tactic| ((with_reducible show EV _ _ _ (Expr.BinOp _ Operator.FloorDiv _ _) _ _); first | (apply ev_div; (focus tm_at "e"); (focus tm_at "e"); (focus tm_at "div"))))
local macro_rules | `(tactic| tm_at "e") => `(tactic| ((with_reducible show EV _ _ _ (Expr.BinOp _ Operator.Mod _ _) _ _); first | (apply ev_mod; (focus tm_at "e"); (focus tm_at "e"); (focus tm_at "pos"))))
local macro_rules | `(tactic| tm_at "e") => `(tactic| ((with_reducible show EV _ _ _ (Expr.BinOp _ Operator.Mult _ _) _ _); first | (apply ev_mul; (focus tm_at "e"); (focus tm_at "e"); (focus tm_at "mul")) | (apply ev_repF; (focus tm_at "afz"); (focus tm_at "e"); (focus tm_at "side"); (focus tm_at "side"); (focus tm_at "side"))))
local macro_rules | `(tactic| tm_at "e") => `(tactic| ((with_reducible show EV _ _ _ (Expr.BinOp _ Operator.Sub _ _) _ _); first | (apply ev_sub; (focus tm_at "e"); (focus tm_at "e"))))
local macro_rules | `(tactic| tm_at "e") => `(tactic| ((with_reducible show EV _ _ _ (Expr.BinOp _ Operator.Add _ _) _ _); first | (apply ev_add; (focus tm_at "e"); (focus tm_at "e")) | (apply ev_catF; (focus tm_at "e"); (focus tm_at "e"); (focus tm_at "rd"); (focus tm_at "rd"); (focus tm_at "side")) | (apply ev_addS; (focus tm_at "e"); (focus tm_at "e"); (focus tm_at "side")) | (apply ev_catT; (focus tm_at "e"); (focus tm_at "e"); (focus tm_at "side"))))
local macro_rules | `(tactic| tm_at "e") => `(tactic| ((with_reducible show EV _ _ _ (Expr.Name _ _) _ _); first | (apply ev_name; (focus tm_at "nm"); (focus rfl))))
local macro_rules | `(tactic| tm_at "e") => `(tactic| ((with_reducible show EV _ _ _ (Expr.Constant _ _ _) _ _); first | exact ev_int | exact ev_bl | exact ev_str | exact ev_non))
local macro_rules | `(tactic| tm_at "t") => `(tactic| ((with_reducible show TV _ _ _ _ _ _); first | (apply tv_val; (focus tm_at "e"); (focus tm_at "auto")) | (apply tv_truthL; (focus tm_at "e"); (focus tm_at "rd"); (focus tm_at "auto")) | (apply tv_truthI; (focus tm_at "e"); (focus tm_at "auto"))))
local macro_rules | `(tactic| tm_at "t") => `(tactic| ((with_reducible show TV _ _ _ (Expr.BoolOp _ _ _) _ _); first | (apply tv_w; (focus tm_at "w"))))
local macro_rules | `(tactic| tm_at "t") => `(tactic| ((with_reducible show TV _ _ _ (Expr.UnaryOp UnaryOp.Not _ _) _ _); first | (apply tv_not; (focus tm_at "t"))))
local macro_rules | `(tactic| tm_at "t") => `(tactic| ((with_reducible show TV _ _ _ (Expr.Compare _ [_, _] [_, _] _) _ _); first | (apply tv_chain2; (focus tm_at "e"); (focus tm_at "e"); (focus tm_at "cmp"); (focus tm_at "e"); (focus tm_at "cmp"); (focus tm_at "auto"))))
local macro_rules | `(tactic| tm_at "t") => `(tactic| ((with_reducible show TV _ _ _ (Expr.Compare _ [_] [_] _) _ _); first | (apply tv_cmp; (focus tm_at "e"); (focus tm_at "e"); (focus tm_at "cmp"); (focus tm_at "auto"))))
local macro_rules | `(tactic| tm_at "w") => `(tactic| ((with_reducible show WV _ _ _ (Expr.BoolOp BoolOp.Or _ _) _ _); first | (apply wv_or; (focus tm_at "t"); (focus tm_at "introw"))))
local macro_rules | `(tactic| tm_at "w") => `(tactic| ((with_reducible show WV _ _ _ (Expr.BoolOp BoolOp.And _ _) _ _); first | (apply wv_and; (focus tm_at "t"); (focus tm_at "introw"))))
local macro_rules | `(tactic| tm_at "w") => `(tactic| ((with_reducible show WV _ _ _ (Expr.BoolOp BoolOp.Or [_] _) _ _); first | (apply wv_or1; (focus tm_at "t"))))
local macro_rules | `(tactic| tm_at "w") => `(tactic| ((with_reducible show WV _ _ _ (Expr.BoolOp BoolOp.And [_] _) _ _); first | (apply wv_and1; (focus tm_at "t"))))
local macro_rules | `(tactic| tm_at "ee") => `(tactic| first
  | (apply EE.of; (focus tm_at "e"); try (tm_at "ee"))
  | (refine ee_call' (by assumption) ?_; apply AE.of; (focus tm_at "a"))
  | (with_reducible refine ee_mod ?_; tm_at "ee")
  | (with_reducible refine ee_add ?_; tm_at "ee")
  | (with_reducible refine ee_sub ?_; tm_at "ee")
  | (with_reducible refine ee_mul ?_; tm_at "ee")
  | (with_reducible refine ee_div ?_; tm_at "ee")
  | (with_reducible refine ee_ixL ?_; tm_at "ee")
  | (refine ⟨_, rfl, ?_⟩; tm_at "ee"))

/-! ### numbers and names of a cell: each told by its arguments alone -/
def mulF (k : Int) : Int := ([48271, 16807, 69621, 39373] : List Int).getD (k % 4).toNat 0
def turnF (n k : Int) : Int := (n + 1 + 5081 * k * k) * mulF k % 2147483647
theorem turn0 (n k : Int) : 0 ≤ turnF n k := Int.emod_nonneg _ (by decide)
theorem turn1 (n k : Int) : turnF n k < 2147483647 := Int.emod_lt_of_pos _ (by decide)
theorem mul_at (k : Int) : atI [PyData.int 48271, .int 16807, .int 69621, .int 39373] (k % 4) = some (.int (mulF k)) ∧ 1 ≤ mulF k ∧ mulF k ≤ 100000 := by
  have h0 := Int.emod_nonneg k (show (4 : Int) ≠ 0 by decide)
  have h1 := Int.emod_lt_of_pos k (show (0 : Int) < 4 by decide)
  unfold mulF
  rcases (show k % 4 = 0 ∨ k % 4 = 1 ∨ k % 4 = 2 ∨ k % 4 = 3 by omega) with e | e | e | e <;> rw [e]
  · exact ⟨ix_0, by decide, by decide⟩
  · exact ⟨ix_1, by decide, by decide⟩
  · exact ⟨ix_2, by decide, by decide⟩
  · exact ⟨ix_3, by decide, by decide⟩
def S_turned : PSpec := fun args γ P => ∃ n k : Int, args = [.fz (.int n), .fz (.int k)] ∧ 0 ≤ n ∧ n ≤ 10000000000 ∧ 0 ≤ k ∧ k ≤ 10000 ∧ P (.fz (.int (turnF n k))) γ
theorem len_turned {args γ P} (h : S_turned args γ P) : args.length = 2 := by obtain ⟨a, b, rfl, _⟩ := h; rfl
set_option maxHeartbeats 4000000 in
theorem body_turned {P : Program} {w : World} {K : PySem.W.Frag} {mg : Str → Option Value} {base : Heap} (g0 : G0 mg)
    {X : Cx} (c : Ctx X P w K mg base N_turned (defScope s_turned) 0) {args : List Itm} {γ : Cells} {Po : EPost} (hγ : Clo γ) (hS : S_turned args γ Po) :
    SVs X (slots0 N_turned args) γ (defBody s_turned) { nx := fun _ g => PL.Fin γ.length Po (.fz .none) g, rt := PL.Fin γ.length Po } := by
  have hX := c.ok
  have hp := c.po
  have v0 : Nm X "_law_number" 0 .local := c.nm 0 .local rfl (by decide +kernel) (.inl rfl) (by decide +kernel) (by decide +kernel)
  have v1 : Nm X "_law_k" 1 .local := c.nm 1 .local rfl (by decide +kernel) (.inl rfl) (by decide +kernel) (by decide +kernel)
  obtain ⟨n, k, rfl, hn0, hn1, hk0, hk1, hP⟩ := hS
  apply svs_retE
  have h1 : 0 ≤ 5081 * k * k := Int.mul_nonneg (by omega) hk0
  have h2 : 5081 * k * k ≤ 5081 * 10000 * 10000 := Int.mul_le_mul (by omega) hk1 hk0 (by omega)
  have c1 : CMulW 5081 k := small_mul 200 200 (by decide) (by omega)
  have c2 : CMulW (5081 * k) k := small_mul 200 200 (by omega) (by omega)
  obtain ⟨ha, hb0, hb1⟩ := mul_at k
  refine EE.of (ev_mod (ev_mul (i := n + 1 + 5081 * k * k) (j := mulF k) (by tm_at "e") (ev_ixL (ds := [.int 48271, .int 16807, .int 69621, .int 39373]) (by tm_at "e") (by tm_at "e") (Rdb.fz _) ha) (small_mul 200 200 (by omega) (by omega))) ev_int (by decide)) ?_
  exact fin_same hγ hP
theorem ok_turned {P : Program} {w : World} {K : PySem.W.Frag} {mg : Str → Option Value} {base : Heap} (g0 : G0 mg)
    {f : Addr} {fd : FuncData} (F : Fun K "_law_turned" "_law_turned" s_turned f fd) (hm : mg "_law_turned" = some (.ref f)) : FnD P w K mg base "_law_turned" 1 S_turned :=
  def_ok F sc_turned hm (F.binds (ps := ["_law_number", "_law_k"]) fun _ _ _ _ _ _ us hl => match us, hl with | [_, _], _ => rfl) (fun args γ P h => len_turned h)
    fun X c args γ Po hγ hS => body_turned g0  c hγ hS
def S_size : PSpec := fun args γ P => ∃ n : Int, args = [.fz (.int n)] ∧ 0 ≤ n ∧ n < 2147483647 ∧ ∀ d : Int, -1000000000000000000000000000000 ≤ d → d ≤ 1000000000000000000000000000000 → P (.fz (.int d)) γ
theorem len_size {args γ P} (h : S_size args γ P) : args.length = 1 := by obtain ⟨a, rfl, _⟩ := h; rfl
set_option maxHeartbeats 4000000 in
theorem body_size {P : Program} {w : World} {K : PySem.W.Frag} {mg : Str → Option Value} {base : Heap} (g0 : G0 mg)
    {X : Cx} (c : Ctx X P w K mg base N_size (defScope s_size) 0) {args : List Itm} {γ : Cells} {Po : EPost} (hγ : Clo γ) (hS : S_size args γ Po) :
    SVs X (slots0 N_size args) γ (defBody s_size) { nx := fun _ g => PL.Fin γ.length Po (.fz .none) g, rt := PL.Fin γ.length Po } := by
  have hX := c.ok
  have hp := c.po
  have v0 : Nm X "_law_number" 0 .local := c.nm 0 .local rfl (by decide +kernel) (.inl rfl) (by decide +kernel) (by decide +kernel)
  have v1 : Nm X "_law_some" 1 .local := c.nm 1 .local rfl (by decide +kernel) (.inl rfl) (by decide +kernel) (by decide +kernel)
  obtain ⟨n, rfl, hn0, hn1, hP⟩ := hS
  apply svs_setE hX v1
  apply EE.of
  · tm_at "e"
  apply svs_retE
  refine ee_ixL (EE.of (ev_name v1.r rfl) ?_)
  refine EE.of (γ1 := γ) (r := .fz (.int (n % 12))) (by tm_at "e") ?_
  have e30 : (10 : Int) ^ (30 : Int).toNat = 1000000000000000000000000000000 := by decide +kernel
  rw [e30]
  refine pick_go (iB (-1000000000000000000000000000000) 1000000000000000000000000000000) (by omega) (by simp only [List.length_cons, List.length_nil]; omega) (by tm_at "alli") ?_
  rintro _ ⟨y, rfl, hy0, hy1⟩
  exact fin_same hγ (hP _ hy0 hy1)
theorem ok_size {P : Program} {w : World} {K : PySem.W.Frag} {mg : Str → Option Value} {base : Heap} (g0 : G0 mg)
    {f : Addr} {fd : FuncData} (F : Fun K "_law_size" "_law_size" s_size f fd) (hm : mg "_law_size" = some (.ref f)) : FnD P w K mg base "_law_size" 1 S_size :=
  def_ok F sc_size hm (F.binds (ps := ["_law_number"]) fun _ _ _ _ _ _ us hl => match us, hl with | [_], _ => rfl) (fun args γ P h => len_size h)
    fun X c args γ Po hγ hS => body_size g0  c hγ hS
/-! ### names -/
theorem lenA : (Str.length "abcdefghijklm") = 13 := by decide +kernel
theorem lenN : (Str.length "nopqrstuvwxyz") = 13 := by decide +kernel
theorem atA : ∀ j : _root_.Fin 13, ("abcdefghijklm" : Str).cps.toList[j.val]? = some (97 + j.val) := by decide +kernel
theorem atN : ∀ j : _root_.Fin 13, ("nopqrstuvwxyz" : Str).cps.toList[j.val]? = some (110 + j.val) := by decide +kernel
theorem atAI {i : Int} (h0 : 0 ≤ i) (h1 : i < 13) : atI ("abcdefghijklm" : Str).cps.toList i = some (97 + i.toNat) := by
  have h := atI_nat (atA ⟨i.toNat, by omega⟩)
  rw [show ((i.toNat : Nat) : Int) = i by omega] at h
  exact h
theorem atNI {i : Int} (h0 : 0 ≤ i) (h1 : i < 13) : atI ("nopqrstuvwxyz" : Str).cps.toList i = some (110 + i.toNat) := by
  have h := atI_nat (atN ⟨i.toNat, by omega⟩)
  rw [show ((i.toNat : Nat) : Int) = i by omega] at h
  exact h
def sgA (n j : Int) : Str := ⟨#[97 + (turnF n j % 13).toNat]⟩
def tailL (n : Int) (m : Nat) : List Str := (List.range m).map fun (j : Nat) => sgA n (j : Int)
def tailF (n : Int) : Str := Txt.join ⟨#[]⟩ (tailL n (n % 7).toNat)
def spotF (n : Int) : Nat := (n / 7 % (n % 7 + 1)).toNat
def nameF (n k : Int) : Str := mkN (tailF n) (spotF n) (110 + k.toNat)
theorem tail_ok (n : Int) (m : Nat) : ∀ y ∈ tailL n m, ∃ c, y = ⟨#[c]⟩ ∧ Low c := fun y hy => by
  obtain ⟨j, hj, rfl⟩ := List.mem_map.mp hy
  have h0 := Int.emod_nonneg (turnF n (j : Int)) (show (13 : Int) ≠ 0 by decide)
  have h1 := Int.emod_lt_of_pos (turnF n (j : Int)) (show (0 : Int) < 13 by decide)
  exact ⟨_, rfl, ⟨by omega, by omega⟩⟩
theorem tailL_len (n : Int) (m : Nat) : (tailL n m).length = m := by simp [tailL]
theorem tailL_succ (n : Int) (m : Nat) : tailL n (m + 1) = tailL n m ++ [sgA n (m : Int)] := by
  unfold tailL
  rw [List.range_succ, List.map_append]
  rfl
theorem tail_len (n : Int) : (tailF n).length = (n % 7).toNat := by
  unfold tailF
  rw [(ones_join (tail_ok n _)).2, tailL_len]
theorem tail_low (n : Int) : Lows (tailF n) := (ones_join (tail_ok n _)).1
theorem spot_le (n : Int) (h : 0 ≤ n) : spotF n ≤ (tailF n).length := by
  rw [tail_len]
  unfold spotF
  have h0 : 0 ≤ n % 7 := by omega
  have h1 := Int.emod_lt_of_pos (n / 7) (show 0 < n % 7 + 1 by omega)
  have h2 := Int.emod_nonneg (n / 7) (show n % 7 + 1 ≠ 0 by omega)
  omega
theorem nameF_ok {n k : Int} (h : 0 ≤ n) (h0 : 0 ≤ k) (h1 : k < 13) : NmOk (nameF n k) := by
  have l := mkN_len' (tailF n) (spotF n) (110 + k.toNat)
  have t := tail_len n
  refine ⟨by unfold nameF; omega, by unfold nameF; omega, mkN_lows (tail_low n) ⟨by omega, by omega⟩⟩
theorem nameF_inj {n k l : Int} (hk : 0 ≤ k) (hl : 0 ≤ l) (e : nameF n k = nameF n l) : k = l := by
  have := mkN_inj e
  omega
def S_name : PSpec := fun args γ P => ∃ n k : Int, args = [.fz (.int n), .fz (.int k)] ∧ 0 ≤ n ∧ n < 2147483647 ∧ 0 ≤ k ∧ k < 13 ∧ P (.fz (.str (nameF n k))) γ
theorem len_name {args γ P} (h : S_name args γ P) : args.length = 2 := by obtain ⟨a, b, rfl, _⟩ := h; rfl
set_option maxHeartbeats 8000000 in
theorem body_name {P : Program} {w : World} {K : PySem.W.Frag} {mg : Str → Option Value} {base : Heap} (g0 : G0 mg)
    (D_turned : FnD P w K mg base "_law_turned" 1 S_turned)
    {X : Cx} (c : Ctx X P w K mg base N_name (defScope s_name) 1) {args : List Itm} {γ : Cells} {Po : EPost} (hγ : Clo γ) (hS : S_name args γ Po) :
    SVs X (slots0 N_name args) γ (defBody s_name) { nx := fun _ g => PL.Fin γ.length Po (.fz .none) g, rt := PL.Fin γ.length Po } := by
  have hX := c.ok
  have hp := c.po
  have v0 : Nm X "_law_seed" 0 .cell := c.nm 0 .cell rfl (by decide +kernel) (.inr rfl) (by decide +kernel) (by decide +kernel)
  have v1 : Nm X "_law_k" 1 .local := c.nm 1 .local rfl (by decide +kernel) (.inl rfl) (by decide +kernel) (by decide +kernel)
  have v2 : Nm X "_law_size_here" 2 .local := c.nm 2 .local rfl (by decide +kernel) (.inl rfl) (by decide +kernel) (by decide +kernel)
  have v3 : Nm X "_law_tail" 3 .local := c.nm 3 .local rfl (by decide +kernel) (.inl rfl) (by decide +kernel) (by decide +kernel)
  have v4 : Nm X "_law_at" 4 .local := c.nm 4 .local rfl (by decide +kernel) (.inl rfl) (by decide +kernel) (by decide +kernel)
  have b_range : Bt X "range" := c.bt (by decide +kernel) g0.b_range
  obtain ⟨n, k, rfl, hn0, hn1, hk0, hk1, hP⟩ := hS
  apply svs_setE hX v2
  refine EE.of (γ1 := γ) (r := .fz (.int (n % 7))) (by tm_at "e") ?_
  have hs0 : 0 ≤ n % 7 := by omega
  have hs1 : n % 7 < 7 := by omega
  apply svs_setE hX v3
  refine ee_join (EE.of (γ1 := γ) ev_str ⟨_, rfl, ?_⟩)
  refine EE.imp (ee_lcFN (w := 5) hX (by rw [c.N, c.sc]; exact ⟨rfl, by decide +kernel, by decide +kernel, by decide +kernel, by decide +kernel⟩) (fun X' hB => ⟨hB.cok hX rfl, hB.own (by rw [c.N]; rfl) (by decide +kernel) (by decide +kernel) (by decide +kernel)⟩) (itv_range1 b_range (ev_name v2.r rfl) (by omega) (by omega))
    (fun i acc g => g = γ ∧ acc = ((tailL n i).map PyData.str).map Itm.fz)
    ⟨rfl, rfl⟩ (fun _ _ _ _ _ => trivial) ?_ (by rw [rngL_length]; omega) ?_ ?_) ?_
  · rintro i acc g ⟨rfl, rfl⟩
    exact ⟨rfl, by simp [tailL_len]⟩
  · rintro acc g ⟨rfl, rfl⟩
    exact ⟨⟨_, rfl⟩, fun q => q⟩
  · rintro i x acc g hx ⟨rfl, rfl⟩ X' hB
    obtain ⟨hi, rfl⟩ := rngL_get hx
    have hi : i < 7 := by omega
    rw [Int.zero_add]
    have hX_X' := hB.cok hX rfl
    have w5_X' : Nm X' "_law_j" 5 .local := hB.own (by rw [c.N]; rfl) (by decide +kernel) (by decide +kernel) (by decide +kernel)
    have k_turned_X' : Cal X' "_law_turned" S_turned := hB.calC c D_turned (by decide) (by decide +kernel) (by decide +kernel)
    have w0_X' : Nr X' "_law_seed" 0 .cell := hB.cap hX v0.r (by decide +kernel)
    have t0 := Int.emod_nonneg (turnF n (i : Int)) (show (13 : Int) ≠ 0 by decide)
    have t1 := Int.emod_lt_of_pos (turnF n (i : Int)) (show (0 : Int) < 13 by decide)
    refine EE.of (ev_ixS (z := "abcdefghijklm") (i := turnF n (i : Int) % 13) ev_str (ev_mod (ev_call k_turned_X' (by tm_at "a") ⟨n, (i : Int), rfl, hn0, by omega, by omega, by omega, rfl, rfl⟩) ev_int (by decide)) (by decide +kernel) (atAI t0 t1)) ⟨g, rfl, rfl, ?_⟩
    rw [tailL_succ]
    simp [sgA]
  rintro r g ⟨ds, rfl, rfl, hds⟩
  obtain rfl := fz_inj hds
  rw [rngL_length]
  have hlt : ∀ y ∈ tailL n (n % 7).toNat, y.length = 1 := fun y hy => by
    obtain ⟨c', rfl, _⟩ := tail_ok n _ y hy
    rfl
  have hsum : ((tailL n (n % 7).toNat).map (·.length)).sum = (n % 7).toNat := by
    have : ∀ L : List Str, (∀ y ∈ L, y.length = 1) → (L.map (·.length)).sum = L.length := fun L h => by
      induction L with
      | nil => rfl
      | cons y r ih =>
        rw [List.map_cons, List.sum_cons, ih fun z hz => h z (by simp [hz]), h y (by simp)]
        simp; omega
    rw [this _ hlt, tailL_len]
  refine ⟨tailL n (n % 7).toNat, Rdb.fz _, by rw [hsum, tailL_len, len0]; omega, ?_⟩
  rw [emp0, show Txt.join ⟨#[]⟩ (tailL n (n % 7).toNat) = tailF n from rfl]
  have hl := tail_len n
  have hlow := tail_low n
  apply svs_setE hX v4
  have hpos : 0 < n % 7 + 1 := by omega
  apply EE.of
  · tm_at "e"
  have hq := spot_le n hn0
  have ht : n / 7 % (n % 7 + 1) = ((spotF n : Nat) : Int) := by
    unfold spotF
    have := Int.emod_nonneg (n / 7) (show n % 7 + 1 ≠ 0 by omega)
    omega
  rw [ht]
  apply svs_retE
  have l1 := length_cutS (tailF n) none (some ((spotF n : Nat) : Int))
  have l2 := length_cutS (tailF n) (some ((spotF n : Nat) : Int)) none
  have l3 : (⟨#[110 + k.toNat]⟩ : Str).length = 1 := rfl
  refine EE.of (r := .fz (.str (nameF n k))) (ev_addS (ev_addS (ev_slS (ev_name v3.r rfl) ov_none (ov_some (ev_name v4.r rfl)) (by omega)) (ev_ixS ev_str (ev_name v1.r rfl) (by decide +kernel) (atNI hk0 hk1)) (by omega)) (ev_slS (ev_name v3.r rfl) (ov_some (ev_name v4.r rfl)) ov_none (by omega)) (by rw [length_addS]; omega)) ?_
  exact fin_same hγ hP
theorem ok_name {P : Program} {w : World} {K : PySem.W.Frag} {mg : Str → Option Value} {base : Heap} (g0 : G0 mg)
    (D_turned : FnD P w K mg base "_law_turned" 1 S_turned)
    {f : Addr} {fd : FuncData} (F : Fun K "_law_name" "_law_name" s_name f fd) (hm : mg "_law_name" = some (.ref f)) : FnD P w K mg base "_law_name" 2 S_name :=
  def_ok F sc_name hm (F.binds (ps := ["_law_seed", "_law_k"]) fun _ _ _ _ _ _ us hl => match us, hl with | [_, _], _ => rfl) (fun args γ P h => len_name h)
    fun X c args γ Po hγ hS => body_name g0 D_turned c hγ hS
end KK

namespace KK
open PySem PySem.Spec PyProof.Rows L2 PL
local macro_rules | `(tactic| tm_at "nm") => `(tactic| with_reducible first | assumption | exact Nm.r (by assumption))
local macro_rules | `(tactic| tm_at "bt") => `(tactic| with_reducible assumption)
local macro_rules | `(tactic| tm_at "asm") => `(tactic| assumption)
local macro_rules | `(tactic| tm_at "auto") => `(tactic| first | rfl | exact fun _ _ => rfl | (intro _; rfl) | decide | exact nomark _ | (with_unfolding_all rfl))
local macro_rules | `(tactic| tm_at "boot") => `(tactic| decide +kernel)
local macro_rules | `(tactic| tm_at "kit") => `(tactic| first | exact kit_int _ | exact kit_bool _ | exact kit_str _ | exact kit_list _ | exact kit_tuple _ | exact kit_dict _)
local macro_rules | `(tactic| tm_at "side") => `(tactic| first | assumption | decide | omega | (simp only [List.length_map, List.length_cons, List.length_nil, List.length_append]; omega) | (simp; done))
local macro_rules | `(tactic| tm_at "pos") => `(tactic| first | decide | assumption | exact Int.pow_pos (by decide) | omega)
local macro_rules | `(tactic| tm_at "mul") => `(tactic| first | assumption | (exact small_mul 200 200 (by omega) (by omega)))
local macro_rules | `(tactic| tm_at "div") => `(tactic| first | assumption | (exact wide_div (b := 200) (by omega) (by omega) (by decide) (by decide)))
local macro_rules | `(tactic| tm_at "pow") => `(tactic| (refine ⟨?_, ?_, ?_⟩ <;> decide))
local macro_rules | `(tactic| tm_at "rd") => `(tactic| first | exact Rdb.fz _ | exact Rdb.cl (by assumption) | exact Rdb.cl rfl)
local macro_rules | `(tactic| tm_at "rdl") => `(tactic| first | exact .inr rfl | exact .inl (by tm_at "rd"))
local macro_rules | `(tactic| tm_at "ix") => `(tactic| first | assumption | exact ix_0 | exact ix_1 | exact ix_2 | exact ix_3 | exact ix_4 | rfl)
local macro_rules | `(tactic| tm_at "cmp") => `(tactic| first | exact cmp_lt | exact cmp_le | exact cmp_gt | exact cmp_ge | exact cmp_eqI | exact cmp_neI | exact cmp_eqS | exact cmp_neS | exact cmp_leS | exact cmp_ltS | exact cmp_inSign | exact cmp_notInSign | exact cmp_isB | exact cmp_notB | exact cmp_isN | exact cmp_notN | exact cmp_eqB | exact cmp_neB)
local macro_rules | `(tactic| tm_at "intro") => `(tactic| (intro _; tm_at "e"))
local macro_rules | `(tactic| tm_at "introe") => `(tactic| (intro _; tm_at "e"))
local macro_rules | `(tactic| tm_at "introw") => `(tactic| (intro _; tm_at "w"))
local macro_rules | `(tactic| tm_at "a") => `(tactic| first
  | exact av_nil
  | (apply av_cons; (focus tm_at "e"); (focus tm_at "a"); (focus tm_at "auto")))
local macro_rules | `(tactic| tm_at "alli") => `(tactic| (repeat (first | exact all_nil | (refine all_cons ⟨_, rfl, ?_, ?_⟩ ?_; (focus omega); (focus omega)))))
local macro_rules | `(tactic| tm_at "afz") => `(tactic| first
  | exact av_nilF
  | (apply av_consF; (focus tm_at "e"); (focus tm_at "afz"); (focus tm_at "auto")))
local macro_rules | `(tactic| tm_at "o") => `(tactic| first
  | exact ov_none
  | (apply ov_some; (focus tm_at "e")))
local macro_rules | `(tactic| tm_at "e") => `(tactic| ((with_reducible show EV _ _ _ (Expr.Tuple _ _ _) _ _); first | (apply ev_tup; (focus tm_at "afz"); (focus tm_at "side"))))
local macro_rules | `(tactic| tm_at "e") => `(tactic| ((with_reducible show EV _ _ _ (Expr.List _ _) _ _); first | (apply ev_lst; (focus tm_at "afz"); (focus tm_at "side"))))
local macro_rules | `(tactic| tm_at "e") => `(tactic| ((with_reducible show EV _ _ _ (Expr.Call (Expr.Attribute _ _ _) _ _ _) _ _); first | (apply ev_join; (focus tm_at "e"); (focus tm_at "e"); (focus tm_at "rd"); (focus tm_at "side"); (focus tm_at "auto"); (focus tm_at "auto"); (focus tm_at "auto"))))
local macro_rules | `(tactic| tm_at "e") => `(tactic| ((with_reducible show EV _ _ _ (Expr.Call (Expr.Name _ _) _ _ _) _ _); first | (apply ev_lenL; (focus tm_at "bt"); (focus tm_at "e"); (focus tm_at "rd"); (focus tm_at "auto")) | (apply ev_lenC; (focus tm_at "bt"); (focus tm_at "e"); (focus tm_at "ix"); (focus tm_at "auto")) | (apply ev_lenT; (focus tm_at "bt"); (focus tm_at "e"); (focus tm_at "auto")) | (apply ev_lenS; (focus tm_at "bt"); (focus tm_at "e"); (focus tm_at "side"); (focus tm_at "auto")) | (apply ev_max2; (focus tm_at "asm"); (focus tm_at "bt"); (focus tm_at "e"); (focus tm_at "e"); (focus tm_at "auto"); (focus tm_at "auto"); (focus tm_at "auto")) | (apply ev_min2; (focus tm_at "asm"); (focus tm_at "bt"); (focus tm_at "e"); (focus tm_at "e"); (focus tm_at "auto"); (focus tm_at "auto"); (focus tm_at "auto")) | (apply ev_intB; (focus tm_at "bt"); (focus tm_at "e"); (focus tm_at "auto")) | (apply ev_intI; (focus tm_at "bt"); (focus tm_at "e"); (focus tm_at "auto")) | (apply ev_abs; (focus tm_at "bt"); (focus tm_at "e"); (focus tm_at "auto")) | (apply ev_sum; (focus tm_at "asm"); (focus tm_at "bt"); (focus tm_at "e"); (focus tm_at "rd"); (focus tm_at "auto")) | (apply ev_listF; (focus tm_at "bt"); (focus tm_at "e"); (focus tm_at "rdl"); (focus tm_at "auto")) | (apply ev_sorted; (focus tm_at "bt"); (focus tm_at "e"); (focus tm_at "rd"); (focus tm_at "auto")) | (apply ev_isi; (focus tm_at "bt"); (focus tm_at "bt"); (focus tm_at "boot"); (focus tm_at "e"); (focus tm_at "rd"); (focus tm_at "kit"); (focus tm_at "auto"); (focus tm_at "auto"); (focus tm_at "auto"); (focus tm_at "auto"); (focus tm_at "auto"))))
local macro_rules | `(tactic| tm_at "e") => `(tactic| ((with_reducible show EV _ _ _ (Expr.BoolOp BoolOp.Or _ _) _ _); first | (apply ev_or; (focus tm_at "e"); (focus tm_at "introe"))))
local macro_rules | `(tactic| tm_at "e") => `(tactic| ((with_reducible show EV _ _ _ (Expr.BoolOp BoolOp.And _ _) _ _); first | (apply ev_and; (focus tm_at "e"); (focus tm_at "introe"))))
local macro_rules | `(tactic| tm_at "e") => `(tactic| ((with_reducible show EV _ _ _ (Expr.BoolOp _ [_] _) _ _); first | (apply ev_one; (focus tm_at "e"))))
local macro_rules | `(tactic| tm_at "e") => `(tactic| ((with_reducible show EV _ _ _ (Expr.IfExp _ _ _ _) _ _); first | (apply ev_ifx; (focus tm_at "t"); (focus tm_at "intro"); (focus tm_at "intro"))))
local macro_rules | `(tactic| tm_at "e") => `(tactic| ((with_reducible show EV _ _ _ (Expr.Compare _ [_, _] [_, _] _) _ _); first | (apply ev_chain2; (focus tm_at "e"); (focus tm_at "e"); (focus tm_at "cmp"); (focus tm_at "e"); (focus tm_at "cmp"); (focus tm_at "auto"))))
local macro_rules | `(tactic| tm_at "e") => `(tactic| ((with_reducible show EV _ _ _ (Expr.Compare _ [_] [_] _) _ _); first | (apply ev_cmp; (focus tm_at "e"); (focus tm_at "e"); (focus tm_at "cmp"); (focus tm_at "auto"))))
local macro_rules | `(tactic| tm_at "e") => `(tactic| ((with_reducible show EV _ _ _ (Expr.UnaryOp UnaryOp.Not _ _) _ _); first | (apply ev_not; (focus tm_at "e"))))
local macro_rules | `(tactic| tm_at "e") => `(tactic| ((with_reducible show EV _ _ _ (Expr.UnaryOp UnaryOp.USub _ _) _ _); first | (apply ev_neg; (focus tm_at "e"))))
local macro_rules | `(tactic| tm_at "e") => `(tactic| ((with_reducible show EV _ _ _ (Expr.Subscript _ _ _) _ _); first | (apply ev_ixL; (focus tm_at "e"); (focus tm_at "e"); (focus tm_at "rd"); (focus tm_at "ix"); (focus tm_at "auto")) | (apply ev_ixT; (focus tm_at "e"); (focus tm_at "e"); (focus tm_at "ix"); (focus tm_at "auto")) | (apply ev_ixC; (focus tm_at "e"); (focus tm_at "e"); (focus tm_at "ix"); (focus tm_at "ix"); (focus tm_at "auto")) | (apply ev_ixP; (focus tm_at "e"); (focus tm_at "e"); (focus tm_at "ix"); (focus tm_at "auto")) | (apply ev_ixS; (focus tm_at "e"); (focus tm_at "e"); (focus tm_at "side"); (focus tm_at "asm"); (focus tm_at "auto"))))
local macro_rules | `(tactic| tm_at "e") => `(tactic| ((with_reducible show EV _ _ _ (Expr.Subscript _ (Expr.Slice _ _ _ _) _) _ _); first | (apply ev_slL; (focus tm_at "e"); (focus tm_at "o"); (focus tm_at "o"); (focus tm_at "rd")) | (apply ev_slT; (focus tm_at "e"); (focus tm_at "o"); (focus tm_at "o"); (focus tm_at "side")) | (apply ev_slS; (focus tm_at "e"); (focus tm_at "o"); (focus tm_at "o"); (focus tm_at "side"))))
local macro_rules | `(tactic| tm_at "e") => `(tactic| ((with_reducible show EV _ _ _ (Expr.BinOp _ Operator.Pow _ _) _ _); first | (apply ev_pow; (focus tm_at "e"); (focus tm_at "e"); (focus tm_at "pow"))))
local macro_rules | `(tactic| tm_at "e") => `(tactic| ((with_reducible show EV _ _ _ (Expr.BinOp _ Operator.FloorDiv _ _) _ _); first | (apply ev_div; (focus tm_at "e"); (focus tm_at "e"); (focus tm_at "div"))))
local macro_rules | `(tactic| tm_at "e") => `(tactic| ((with_reducible show EV _ _ _ (Expr.BinOp _ Operator.Mod _ _) _ _); first | (apply ev_mod; (focus tm_at "e"); (focus tm_at "e"); (focus tm_at "pos"))))
local macro_rules | `(tactic| tm_at "e") => `(tactic| ((with_reducible show EV _ _ _ (Expr.BinOp _ Operator.Mult _ _) _ _); first | (apply ev_mul; (focus tm_at "e"); (focus tm_at "e"); (focus tm_at "mul")) | (apply ev_repF; (focus tm_at "afz"); (focus tm_at "e"); (focus tm_at "side"); (focus tm_at "side"); (focus tm_at "side"))))
local macro_rules | `(tactic| tm_at "e") => `(tactic| ((with_reducible show EV _ _ _ (Expr.BinOp _ Operator.Sub _ _) _ _); first | (apply ev_sub; (focus tm_at "e"); (focus tm_at "e"))))
local macro_rules | `(tactic| tm_at "e") => `(tactic| ((with_reducible show EV _ _ _ (Expr.BinOp _ Operator.Add _ _) _ _); first | (apply ev_add; (focus tm_at "e"); (focus tm_at "e")) | (apply ev_catF; (focus tm_at "e"); (focus tm_at "e"); (focus tm_at "rd"); (focus tm_at "rd"); (focus tm_at "side")) | (apply ev_addS; (focus tm_at "e"); (focus tm_at "e"); (focus tm_at "side")) | (apply ev_catT; (focus tm_at "e"); (focus tm_at "e"); (focus tm_at "side"))))
local macro_rules | `(tactic| tm_at "e") => `(tactic| ((with_reducible show EV _ _ _ (Expr.Name _ _) _ _); first | (apply ev_name; (focus tm_at "nm"); (focus rfl))))
local macro_rules | `(tactic| tm_at "e") => `(tactic| ((with_reducible show EV _ _ _ (Expr.Constant _ _ _) _ _); first | exact ev_int | exact ev_bl | exact ev_str | exact ev_non))
local macro_rules | `(tactic| tm_at "t") => `(tactic| ((with_reducible show TV _ _ _ _ _ _); first | (apply tv_val; (focus tm_at "e"); (focus tm_at "auto")) | (apply tv_truthL; (focus tm_at "e"); (focus tm_at "rd"); (focus tm_at "auto")) | (apply tv_truthI; (focus tm_at "e"); (focus tm_at "auto"))))
local macro_rules | `(tactic| tm_at "t") => `(tactic| ((with_reducible show TV _ _ _ (Expr.BoolOp _ _ _) _ _); first | (apply tv_w; (focus tm_at "w"))))
local macro_rules | `(tactic| tm_at "t") => `(tactic| ((with_reducible show TV _ _ _ (Expr.UnaryOp UnaryOp.Not _ _) _ _); first | (apply tv_not; (focus tm_at "t"))))
local macro_rules | `(tactic| tm_at "t") => `(tactic| ((with_reducible show TV _ _ _ (Expr.Compare _ [_, _] [_, _] _) _ _); first | (apply tv_chain2; (focus tm_at "e"); (focus tm_at "e"); (focus tm_at "cmp"); (focus tm_at "e"); (focus tm_at "cmp"); (focus tm_at "auto"))))
local macro_rules | `(tactic| tm_at "t") => `(tactic| ((with_reducible show TV _ _ _ (Expr.Compare _ [_] [_] _) _ _); first | (apply tv_cmp; (focus tm_at "e"); (focus tm_at "e"); (focus tm_at "cmp"); (focus tm_at "auto"))))
local macro_rules | `(tactic| tm_at "w") => `(tactic| ((with_reducible show WV _ _ _ (Expr.BoolOp BoolOp.Or _ _) _ _); first | (apply wv_or; (focus tm_at "t"); (focus tm_at "introw"))))
local macro_rules | `(tactic| tm_at "w") => `(tactic| ((with_reducible show WV _ _ _ (Expr.BoolOp BoolOp.And _ _) _ _); first | (apply wv_and; (focus tm_at "t"); (focus tm_at "introw"))))
local macro_rules | `(tactic| tm_at "w") => `(tactic| ((with_reducible show WV _ _ _ (Expr.BoolOp BoolOp.Or [_] _) _ _); first | (apply wv_or1; (focus tm_at "t"))))
local macro_rules | `(tactic| tm_at "w") => `(tactic| ((with_reducible show WV _ _ _ (Expr.BoolOp BoolOp.And [_] _) _ _); first | (apply wv_and1; (focus tm_at "t"))))
local macro_rules | `(tactic| tm_at "ee") => `(tactic| first
  | (apply EE.of; (focus tm_at "e"); try (tm_at "ee"))
  | (refine ee_call' (by assumption) ?_; apply AE.of; (focus tm_at "a"))
  | (with_reducible refine ee_mod ?_; tm_at "ee")
  | (with_reducible refine ee_add ?_; tm_at "ee")
  | (with_reducible refine ee_sub ?_; tm_at "ee")
  | (with_reducible refine ee_mul ?_; tm_at "ee")
  | (with_reducible refine ee_div ?_; tm_at "ee")
  | (with_reducible refine ee_ixL ?_; tm_at "ee")
  | (refine ⟨_, rfl, ?_⟩; tm_at "ee"))

/-! ### towns -/
def S_town : PSpec := fun args γ P => ∃ n m : Int, args = [.fz (.int n), .fz (.int m)] ∧ 0 ≤ n ∧ n < 2147483647 ∧ 0 ≤ m ∧ m ≤ 12 ∧ ∀ t : List Nb, t.length = m.toNat → Town t → P (.fz (.list (t.map dNb))) γ
theorem len_town {args γ P} (h : S_town args γ P) : args.length = 2 := by obtain ⟨a, b, rfl, _⟩ := h; rfl
theorem cl1 (γ : Cells) (o : Cell) : (γ ++ [o])[γ.length]? = some o := by rw [List.getElem?_append_right (Nat.le_refl _)]; simp
theorem cl1s (γ : Cells) (o o' : Cell) : (γ ++ [o]).set γ.length o' = γ ++ [o'] := by rw [List.set_append_right _ _ (Nat.le_refl _)]; simp
theorem nodup_rng {α : Type} {f : Nat → α} {n : Nat} (h : ∀ i j, i < n → j < n → f i = f j → i = j) : ((List.range n).map f).Nodup := by
  rw [List.Nodup, List.pairwise_map]
  refine List.Pairwise.imp_of_mem (fun {a b} ha hb ne e => ne (h a b (List.mem_range.mp ha) (List.mem_range.mp hb) e)) List.nodup_range
set_option maxHeartbeats 8000000 in
theorem body_town {P : Program} {w : World} {K : PySem.W.Frag} {mg : Str → Option Value} {base : Heap} (g0 : G0 mg)
    (D_turned : FnD P w K mg base "_law_turned" 1 S_turned)
    (D_name : FnD P w K mg base "_law_name" 2 S_name)
    (D_size : FnD P w K mg base "_law_size" 1 S_size)
    {X : Cx} (c : Ctx X P w K mg base N_town (defScope s_town) 2) {args : List Itm} {γ : Cells} {Po : EPost} (hγ : Clo γ) (hS : S_town args γ Po) :
    SVs X (slots0 N_town args) γ (defBody s_town) { nx := fun _ g => PL.Fin γ.length Po (.fz .none) g, rt := PL.Fin γ.length Po } := by
  have hX := c.ok
  have hp := c.po
  have v0 : Nm X "_law_seed" 0 .cell := c.nm 0 .cell rfl (by decide +kernel) (.inr rfl) (by decide +kernel) (by decide +kernel)
  have v1 : Nm X "_law_many" 1 .local := c.nm 1 .local rfl (by decide +kernel) (.inl rfl) (by decide +kernel) (by decide +kernel)
  have v2 : Nm X "_law_found" 2 .local := c.nm 2 .local rfl (by decide +kernel) (.inl rfl) (by decide +kernel) (by decide +kernel)
  have v3 : Nm X "_law_k" 3 .cell := c.nm 3 .cell rfl (by decide +kernel) (.inr rfl) (by decide +kernel) (by decide +kernel)
  have v4 : Nm X "_law_low" 4 .local := c.nm 4 .local rfl (by decide +kernel) (.inl rfl) (by decide +kernel) (by decide +kernel)
  have v5 : Nm X "_law_purse" 5 .local := c.nm 5 .local rfl (by decide +kernel) (.inl rfl) (by decide +kernel) (by decide +kernel)
  have v6 : Nm X "_law_high" 6 .local := c.nm 6 .local rfl (by decide +kernel) (.inl rfl) (by decide +kernel) (by decide +kernel)
  have b_range : Bt X "range" := c.bt (by decide +kernel) g0.b_range
  have b_sorted : Bt X "sorted" := c.bt (by decide +kernel) g0.b_sorted
  have k_name : Cal X "_law_name" S_name := c.cal D_name (by decide) (by decide +kernel) (by decide +kernel)
  obtain ⟨n, m, rfl, hn0, hn1, hm0, hm1, hP⟩ := hS
  apply svs_setE hX v2
  refine EE.of (ev_lstC av_nil) ?_
  refine svs_for hX hp (itv_range1 b_range (ev_name v1.r rfl) (by omega) (by omega))
    (fun i Γ' g => ∃ (t : List Nb) (s3 s4 s5 s6 : Option Itm), Γ' = [some (.fz (.int n)), some (.fz (.int m)), some (.cl γ.length), s3, s4, s5, s6, none] ∧ g = γ ++ [.lst ((t.map dNb).map Itm.fz)] ∧ t.map (·.1) = (List.range i).map (fun (j : Nat) => nameF (n / 5) (j : Int)) ∧ ∀ a ∈ t, NbOk a)
    ⟨[], none, none, none, none, rfl, rfl, by simp, by simp⟩ (fun _ _ _ _ _ => trivial) ?_ ?_
  · rintro i x Γ' g hx ⟨t, s3, s4, s5, s6, rfl, rfl, hnm, hall⟩
    have hl : t.length = i := by have := congrArg List.length hnm; simpa using this
    obtain ⟨hi, rfl⟩ := rngL_get hx
    have hi : i < 12 := by omega
    refine ⟨_, _, gv_name hX v3, ?_⟩
    rw [Int.zero_add]
    refine svs_asgE (ee_sorted b_sorted (EE.imp (ee_lcFN (w := 7) hX (by rw [c.N, c.sc]; exact ⟨rfl, by decide +kernel, by decide +kernel, by decide +kernel, by decide +kernel⟩) (fun X' hB => ⟨hB.cok hX rfl, hB.own (by rw [c.N]; rfl) (by decide +kernel) (by decide +kernel) (by decide +kernel)⟩) (itv_range1 b_range ev_int (by decide) (by decide))
      (fun j acc g => g = γ ++ [.lst ((t.map dNb).map Itm.fz)] ∧ ∃ ns : List Int, acc = (ns.map PyData.int).map Itm.fz ∧ ns.length = j ∧ ∀ z ∈ ns, -1000000000000000000000000000000 ≤ z ∧ z ≤ 1000000000000000000000000000000)
      ⟨rfl, [], rfl, rfl, by simp⟩ (fun _ _ _ _ _ => trivial) ?_ (by decide) ?_ ?_) ?_))
    · rintro j acc g ⟨rfl, ns, rfl, hl, _⟩
      exact ⟨rfl, by simp; omega⟩
    · rintro acc g ⟨rfl, ns, rfl, hl, _⟩
      exact ⟨⟨_, rfl⟩, fun q => q⟩
    · rintro j x acc g hx ⟨rfl, ns, rfl, hnl, hb⟩ X' hB
      obtain ⟨hj, rfl⟩ := rngL_get hx
      have hj : j < 3 := hj
      have hX_X' := hB.cok hX rfl
      have w7_X' : Nm X' "_law_j" 7 .local := hB.own (by rw [c.N]; rfl) (by decide +kernel) (by decide +kernel) (by decide +kernel)
      have k_size_X' : Cal X' "_law_size" S_size := hB.calC c D_size (by decide) (by decide +kernel) (by decide +kernel)
      have k_turned_X' : Cal X' "_law_turned" S_turned := hB.calC c D_turned (by decide) (by decide +kernel) (by decide +kernel)
      have w3_X' : Nr X' "_law_k" 3 .cell := hB.cap hX v3.r (by decide +kernel)
      have w0_X' : Nr X' "_law_seed" 0 .cell := hB.cap hX v0.r (by decide +kernel)
      have cm : CMulW 3 (i : Int) := small_mul 200 200 (by decide) (by omega)
      refine ee_call' k_size_X' (ae_cons (ee_call' k_turned_X' (AE.of (γ1 := _) (rs := [.fz (.int n), .fz (.int (3 * (i : Int) + (0 + (j : Int))))]) (by tm_at "a") ⟨n, _, rfl, hn0, by omega, by omega, by omega, ?_⟩)))
      have hd0 := turn0 n (3 * (i : Int) + (0 + (j : Int)))
      have hd1 := turn1 n (3 * (i : Int) + (0 + (j : Int)))
      generalize turnF n (3 * (i : Int) + (0 + (j : Int))) = d at hd0 hd1 ⊢
      refine ae_nil ⟨d, rfl, hd0, hd1, fun y hy0 hy1 => ⟨_, rfl, rfl, ns ++ [y], by simp, by simp [hnl], fun z hz => ?_⟩⟩
      rcases List.mem_append.mp hz with h | h
      · exact hb z h
      · have : z = y := by simpa using h
        subst this; exact ⟨hy0, hy1⟩
    rintro r g ⟨ds, rfl, rfl, ns, hds, hnl, hb⟩
    obtain rfl := fz_inj hds
    refine ⟨ns, Rdb.fz _, ?_⟩
    obtain ⟨lo, pu, hi', e3, o1, o2, m1, m2, m3⟩ := srt_three (hnl.trans (rngL_length ..))
    rw [e3]
    refine ⟨_, _, gv_lst (ds := [_, _, _]) hX (Rdb.fz _) (gvs_cons (gv_name hX v4) (gvs_cons (gv_name hX v5) (gvs_cons (gv_name hX v6) gvs_nil))) rfl, ?_⟩
    refine svs_exprE (ee_append (EE.of (ev_name v2.r rfl) ⟨γ.length, _, rfl, cl1 _ _, ?_⟩))
    refine ee_tup (ae_cons (ee_call' k_name (AE.of (γ1 := _) (rs := [.fz (.int (n / 5)), .fz (.int (i : Int))]) (by tm_at "a") ⟨_, _, rfl, by omega, by omega, by omega, by omega, ?_⟩)))
    refine AE.of (γ1 := _) (rs := [.fz (.int pu), .fz (.int lo), .fz (.int hi')]) (by tm_at "a") ⟨[.str (nameF (n / 5) (i : Int)), .int pu, .int lo, .int hi'], rfl, by simp, _, cl1 _ _, by simp; omega, ?_⟩
    rw [cl1s]
    refine svs_nil ⟨t ++ [(nameF (n / 5) (i : Int), pu, lo, hi')], _, _, _, _, rfl, by simp [dNb], by rw [List.map_append, hnm, List.range_succ, List.map_append]; rfl, fun a ha => ?_⟩
    rcases List.mem_append.mp ha with h | h
    · exact hall a h
    · have : a = (nameF (n / 5) (i : Int), pu, lo, hi') := by simpa using h
      subst this
      exact ⟨nameF_ok (by omega) (by omega) (by omega), (hb _ m1).1, o1, o2, (hb _ m3).2⟩
  · rintro Γ' g ⟨t, s3, s4, s5, s6, rfl, rfl, hnm, hall⟩
    rw [rngL_length] at hnm
    have hl : t.length = m.toNat := by have := congrArg List.length hnm; simpa using this
    have hT : Town t := ⟨by omega, by rw [hnm]; exact nodup_rng fun i j hi hj e => by have := nameF_inj (by omega) (by omega) e; omega, hall⟩
    refine SVs.freeze (i := 2) (c := γ.length) (ds := t.map dNb) rfl (cl1 _ _) ?_
    rw [cl1s]
    apply svs_retE
    refine EE.of (ev_name v2.r rfl) ?_
    exact fin_junk hγ (hP t hl hT)
theorem ok_town {P : Program} {w : World} {K : PySem.W.Frag} {mg : Str → Option Value} {base : Heap} (g0 : G0 mg)
    (D_turned : FnD P w K mg base "_law_turned" 1 S_turned)
    (D_name : FnD P w K mg base "_law_name" 2 S_name)
    (D_size : FnD P w K mg base "_law_size" 1 S_size)
    {f : Addr} {fd : FuncData} (F : Fun K "_law_town" "_law_town" s_town f fd) (hm : mg "_law_town" = some (.ref f)) : FnD P w K mg base "_law_town" 3 S_town :=
  def_ok F sc_town hm (F.binds (ps := ["_law_seed", "_law_many"]) fun _ _ _ _ _ _ us hl => match us, hl with | [_, _], _ => rfl) (fun args γ P h => len_town h)
    fun X c args γ Po hγ hS => body_town g0 D_turned D_name D_size c hγ hS
/-! ### days -/
theorem shp_pr {a : Str × Str} (h1 : Lows a.1) (h2 : Lows a.2) : Shp 1 (dPr a) := shp_tuple (n := 0) fun d hd => by
  simp at hd
  rcases hd with rfl | rfl
  · exact shp_low h1
  · exact shp_low h2
theorem natM {d : Int} {n : Nat} (h : 0 < n) : ∃ j : Nat, d % (n : Int) = (j : Int) ∧ j < n := ⟨(d % (n : Int)).toNat, by have := Int.emod_nonneg d (show (n : Int) ≠ 0 by omega); omega, by
  have := Int.emod_nonneg d (show (n : Int) ≠ 0 by omega)
  have := Int.emod_lt_of_pos d (show 0 < (n : Int) by omega); omega⟩
theorem eqv_pr (a b : Str × Str) : PyData.eqv (dPr a) (dPr b) = decide (a = b) := by
  obtain ⟨a1, a2⟩ := a
  obtain ⟨b1, b2⟩ := b
  simp only [dPr, PyData.eqv, PyData.eqvAll]
  rw [Bool.eq_iff_iff]
  simp
def c3 (γ : Cells) (o1 o2 o3 : Cell) : Cells := γ ++ [o1, o2, o3]
theorem c3_0 (γ o1 o2 o3) : (c3 γ o1 o2 o3)[γ.length]? = some o1 := by unfold c3; rw [List.getElem?_append_right (Nat.le_refl _)]; simp
theorem c3_1 (γ o1 o2 o3) : (c3 γ o1 o2 o3)[γ.length + 1]? = some o2 := by unfold c3; rw [List.getElem?_append_right (by omega)]; simp
theorem c3_2 (γ o1 o2 o3) : (c3 γ o1 o2 o3)[γ.length + 2]? = some o3 := by unfold c3; rw [List.getElem?_append_right (by omega)]; simp
theorem c3_s0 (γ o1 o2 o3 o) : (c3 γ o1 o2 o3).set γ.length o = c3 γ o o2 o3 := by unfold c3; rw [List.set_append_right _ _ (by omega)]; simp
theorem c3_s1 (γ o1 o2 o3 o) : (c3 γ o1 o2 o3).set (γ.length + 1) o = c3 γ o1 o o3 := by unfold c3; rw [List.set_append_right _ _ (by omega)]; simp
theorem c3_s2 (γ o1 o2 o3 o) : (c3 γ o1 o2 o3).set (γ.length + 2) o = c3 γ o1 o2 o := by unfold c3; rw [List.set_append_right _ _ (by omega)]; simp
abbrev cP (l : List (Str × Str)) : Cell := .lst ((l.map dPr).map Itm.fz)
structure Mid (t : List Nb) (zs : List Str) (x1 x2 : List Rw) (ps : List (Str × Str)) (i : Nat) : Prop where
  all : ∀ a ∈ x1 ++ x2, RwOk a ∧ a.1 ∈ t.map (·.1) ∧ a.2.1 ∈ zs
  nd : (prs (x1 ++ x2)).Nodup
  mem : ∀ p, p ∈ ps ↔ p ∈ prs (x1 ++ x2)
  len : (x1 ++ x2).length ≤ i
  lps : ps.length ≤ i
theorem Mid.low {t zs x1 x2 ps i} (h : Mid t zs x1 x2 ps i) {q : Str × Str} (hq : q ∈ ps) : Lows q.1 ∧ Lows q.2 := by
  obtain ⟨a, ha, rfl⟩ := List.mem_map.mp ((h.mem q).mp hq)
  exact ⟨(h.all a ha).1.nm.2.2, (h.all a ha).1.sk.2.2⟩
theorem Mid.add1 {t zs x1 x2 ps i} (h : Mid t zs x1 x2 ps i) {r : Rw} (hr : RwOk r) (hm : r.1 ∈ t.map (·.1)) (hs : r.2.1 ∈ zs) (hn : (r.1, r.2.1) ∉ ps) : Mid t zs (x1 ++ [r]) x2 (ps ++ [(r.1, r.2.1)]) (i + 1) := by
  have pm : ((x1 ++ [r]) ++ x2).Perm (r :: (x1 ++ x2)) := by
    rw [List.append_assoc]
    exact List.perm_middle
  refine ⟨fun a ha => ?_, ?_, fun q => ?_, by rw [pm.length_eq]; have := h.len; simp at this ⊢; omega, by have := h.lps; simp; omega⟩
  · rcases List.mem_cons.mp (pm.mem_iff.mp ha) with rfl | ha
    · exact ⟨hr, hm, hs⟩
    · exact h.all a ha
  · have : (prs (x1 ++ [r] ++ x2)).Perm (prs (r :: (x1 ++ x2))) := pm.map _
    rw [this.nodup_iff]
    exact List.nodup_cons.mpr ⟨fun z => hn ((h.mem _).mpr z), h.nd⟩
  · have : (prs (x1 ++ [r] ++ x2)).Perm (prs (r :: (x1 ++ x2))) := pm.map _
    rw [this.mem_iff, List.mem_append, h.mem q]
    show _ ↔ q ∈ (r.1, r.2.1) :: prs (x1 ++ x2)
    simp only [List.mem_cons, List.not_mem_nil, or_false]
    exact Or.comm
theorem Mid.add2 {t zs x1 x2 ps i} (h : Mid t zs x1 x2 ps i) {r : Rw} (hr : RwOk r) (hm : r.1 ∈ t.map (·.1)) (hs : r.2.1 ∈ zs) (hn : (r.1, r.2.1) ∉ ps) : Mid t zs x1 (x2 ++ [r]) (ps ++ [(r.1, r.2.1)]) (i + 1) := by
  have pm : (x1 ++ (x2 ++ [r])).Perm (r :: (x1 ++ x2)) := by
    rw [← List.append_assoc]
    exact List.perm_append_singleton _ _
  refine ⟨fun a ha => ?_, ?_, fun q => ?_, by rw [pm.length_eq]; have := h.len; simp at this ⊢; omega, by have := h.lps; simp; omega⟩
  · rcases List.mem_cons.mp (pm.mem_iff.mp ha) with rfl | ha
    · exact ⟨hr, hm, hs⟩
    · exact h.all a ha
  · have : (prs (x1 ++ (x2 ++ [r]))).Perm (prs (r :: (x1 ++ x2))) := pm.map _
    rw [this.nodup_iff]
    exact List.nodup_cons.mpr ⟨fun z => hn ((h.mem _).mpr z), h.nd⟩
  · have : (prs (x1 ++ (x2 ++ [r]))).Perm (prs (r :: (x1 ++ x2))) := pm.map _
    rw [this.mem_iff, List.mem_append, h.mem q]
    show _ ↔ q ∈ (r.1, r.2.1) :: prs (x1 ++ x2)
    simp only [List.mem_cons, List.not_mem_nil, or_false]
    exact Or.comm
theorem Mid.up {t zs x1 x2 ps i} (h : Mid t zs x1 x2 ps i) : Mid t zs x1 x2 ps (i + 1) := ⟨h.all, h.nd, h.mem, Nat.le_succ_of_le h.len, Nat.le_succ_of_le h.lps⟩
def S_day : PSpec := fun args γ P => ∃ (t : List Nb) (n m : Int), args = [.fz (.list (t.map dNb)), .fz (.int n), .fz (.int m)] ∧ Town t ∧ 0 ≤ n ∧ n < 2147483647 ∧ 0 ≤ m ∧ m ≤ 20 ∧ ∀ d : Day, GoodD t d → (rows d).length ≤ 20 → P (.fz (dDay d)) γ
theorem len_day {args γ P} (h : S_day args γ P) : args.length = 3 := by obtain ⟨t, a, b, rfl, _⟩ := h; rfl
def zsF (n : Int) : List Str := (List.range 4).map fun (j : Nat) => nameF (n / 3) (j : Int)
theorem zsF_mem {n d : Int} : nameF (n / 3) (d / 13 % 4) ∈ zsF n := by
  have h0 := Int.emod_nonneg (d / 13) (show (4 : Int) ≠ 0 by decide)
  have h1 := Int.emod_lt_of_pos (d / 13) (show (0 : Int) < 4 by decide)
  exact List.mem_map.mpr ⟨(d / 13 % 4).toNat, List.mem_range.mpr (by omega), by rw [show (((d / 13 % 4).toNat : Nat) : Int) = d / 13 % 4 by omega]⟩
set_option maxHeartbeats 16000000 in
theorem body_day {P : Program} {w : World} {K : PySem.W.Frag} {mg : Str → Option Value} {base : Heap} (g0 : G0 mg)
    (D_turned : FnD P w K mg base "_law_turned" 1 S_turned)
    (D_name : FnD P w K mg base "_law_name" 2 S_name)
    {X : Cx} (c : Ctx X P w K mg base N_day (defScope s_day) 2) {args : List Itm} {γ : Cells} {Po : EPost} (hγ : Clo γ) (hS : S_day args γ Po) :
    SVs X (slots0 N_day args) γ (defBody s_day) { nx := fun _ g => PL.Fin γ.length Po (.fz .none) g, rt := PL.Fin γ.length Po } := by
  have hX := c.ok
  have hp := c.po
  have v0 : Nm X "_law_town_here" 0 .local := c.nm 0 .local rfl (by decide +kernel) (.inl rfl) (by decide +kernel) (by decide +kernel)
  have v1 : Nm X "_law_seed" 1 .local := c.nm 1 .local rfl (by decide +kernel) (.inl rfl) (by decide +kernel) (by decide +kernel)
  have v2 : Nm X "_law_many" 2 .local := c.nm 2 .local rfl (by decide +kernel) (.inl rfl) (by decide +kernel) (by decide +kernel)
  have v3 : Nm X "_law_found" 3 .local := c.nm 3 .local rfl (by decide +kernel) (.inl rfl) (by decide +kernel) (by decide +kernel)
  have v4 : Nm X "_law_pairs" 4 .local := c.nm 4 .local rfl (by decide +kernel) (.inl rfl) (by decide +kernel) (by decide +kernel)
  have v5 : Nm X "_law_k" 5 .local := c.nm 5 .local rfl (by decide +kernel) (.inl rfl) (by decide +kernel) (by decide +kernel)
  have v6 : Nm X "_law_number" 6 .local := c.nm 6 .local rfl (by decide +kernel) (.inl rfl) (by decide +kernel) (by decide +kernel)
  have v7 : Nm X "_law_pair" 7 .local := c.nm 7 .local rfl (by decide +kernel) (.inl rfl) (by decide +kernel) (by decide +kernel)
  have v8 : Nm X "_law_hours" 8 .local := c.nm 8 .local rfl (by decide +kernel) (.inl rfl) (by decide +kernel) (by decide +kernel)
  have b_range : Bt X "range" := c.bt (by decide +kernel) g0.b_range
  have b_int : Bt X "int" := c.bt (by decide +kernel) g0.b_int
  have k_turned : Cal X "_law_turned" S_turned := c.cal D_turned (by decide) (by decide +kernel) (by decide +kernel)
  have b_len : Bt X "len" := c.bt (by decide +kernel) g0.b_len
  have k_name : Cal X "_law_name" S_name := c.cal D_name (by decide) (by decide +kernel) (by decide +kernel)
  obtain ⟨t, n, m, rfl, hT, hn0, hn1, hm0, hm1, hP⟩ := hS
  have htl := hT.len
  apply svs_setE hX v3
  refine ee_tupP (ae_cons (EE.of (ev_lstC av_nil) ?_))
  refine ae_cons (EE.of (ev_lstC av_nil) ?_)
  refine ae_nil ⟨by simp, ?_⟩
  apply svs_setE hX v4
  refine EE.of (ev_lstC av_nil) ?_
  have e0 : γ ++ [Cell.lst []] ++ [Cell.lst []] ++ [Cell.lst []] = c3 γ (cR []) (cR []) (cP []) := by simp [c3, cR, cP]
  have l1 : (γ ++ [Cell.lst []]).length = γ.length + 1 := by simp
  have l2 : (γ ++ [Cell.lst []] ++ [Cell.lst []]).length = γ.length + 2 := by simp
  rw [e0, l1, l2]
  refine svs_for hX hp (itv_range1 (n := m * (if (!PyData.eqv (.list (t.map dNb)) (.list [])) = true then 1 else 0)) b_range (ev_mul (ev_name v2.r rfl) (ev_intB b_int (ev_cmp (ev_name v0.r rfl) (ev_lst (ds := []) av_nil) (cmp_neD hX (Rdb.fz _) (Rdb.fz _) (shp_town hT.ok).shaped (shp_list (n := 0) (by simp)).shaped))) (by split <;> exact small_mul 200 200 (by omega) (by decide))) (by split <;> omega) (by split <;> omega))
    (fun i Γ' g => ∃ (x1 x2 : List Rw) (ps : List (Str × Str)) (s5 s6 s7 s8 : Option Itm), Γ' = [some (.fz (.list (t.map dNb))), some (.fz (.int n)), some (.fz (.int m)), some (.tp [.cl γ.length, .cl (γ.length + 1)]), some (.cl (γ.length + 2)), s5, s6, s7, s8] ∧ g = c3 γ (cR x1) (cR x2) (cP ps) ∧ Mid t (zsF n) x1 x2 ps i)
    ⟨[], [], [], none, none, none, none, rfl, rfl, ⟨by simp, by simp [prs], by simp [prs], by simp, by simp⟩⟩ (fun _ _ _ _ _ => trivial) ?_ ?_
  · rintro i x Γ' g hx ⟨x1, x2, ps, s5, s6, s7, s8, rfl, rfl, hM⟩
    obtain ⟨hi, rfl⟩ := rngL_get hx
    rw [empD] at hi
    have hne : 0 < t.length := by
      cases t with
      | nil => simp at hi
      | cons a r => simp
    have hi20 : i < 20 := by
      have : (m * (if (!t.isEmpty) = true then 1 else 0)).toNat ≤ 20 := by split <;> omega
      omega
    refine ⟨_, _, gv_name hX v5, ?_⟩
    rw [Int.zero_add]
    apply svs_setE hX v6
    refine ee_call' k_turned (AE.of (γ1 := c3 γ (cR x1) (cR x2) (cP ps)) (rs := [.fz (.int n), .fz (.int (40 + (i : Int)))]) (by tm_at "a") ⟨n, _, rfl, hn0, by omega, by omega, by omega, ?_⟩)
    have hd0 := turn0 n (40 + (i : Int))
    have hd1 := turn1 n (40 + (i : Int))
    generalize turnF n (40 + (i : Int)) = d at hd0 hd1 ⊢
    obtain ⟨j, hj, hjl⟩ := natM (d := d) hne
    have hat : atI (t.map dNb) (d % ((t.map dNb).length : Int)) = some (.tuple [.str t[j].1, .int t[j].2.1, .int t[j].2.2.1, .int t[j].2.2.2]) := by
      rw [List.length_map, hj]; exact atMap hjl
    apply svs_setE hX v7
    refine ee_tup (ae_cons (EE.of (γ1 := c3 γ (cR x1) (cR x2) (cP ps)) (r := .fz (.str t[j].1)) (ev_ixT (ev_ixL (ev_name v0.r rfl) (ev_mod (ev_name v6.r rfl) (ev_lenL b_len (ev_name v0.r rfl) (Rdb.fz _)) (by rw [List.length_map]; omega)) (Rdb.fz _) hat) ev_int ix_0) ?_))
    refine ae_cons (ee_call' k_name (AE.of (γ1 := c3 γ (cR x1) (cR x2) (cP ps)) (rs := [.fz (.int (n / 3)), .fz (.int (d / 13 % 4))]) (by tm_at "a") ⟨_, _, rfl, by omega, by omega, by omega, by omega, ?_⟩))
    refine ae_nil ⟨[.str t[j].1, .str (nameF (n / 3) (d / 13 % 4))], rfl, by simp, ?_⟩
    have hmem : t[j] ∈ t := List.getElem_mem hjl
    have hnm := (hT.ok _ hmem).nm
    have hzo : NmOk (nameF (n / 3) (d / 13 % 4)) := nameF_ok (by omega) (by omega) (by omega)
    have hzm : nameF (n / 3) (d / 13 % 4) ∈ zsF n := zsF_mem
    generalize nameF (n / 3) (d / 13 % 4) = z at hzo hzm ⊢
    have hps : SeqAt.shaped (.list (ps.map dPr)) = true := (shp_list (n := 1) fun e he => by
      obtain ⟨q, hq, rfl⟩ := List.mem_map.mp he
      exact shp_pr (hM.low hq).1 (hM.low hq).2).shaped
    refine svs_if (tv_cmp (ev_name v7.r rfl) (ev_name v4.r rfl) (cmp_notInD (d := dPr (t[j].1, z)) (ds := ps.map dPr) hX (Rdb.fz _) (Rdb.cl (c3_2 ..)) (shp_pr hnm.2.2 hzo.2.2).shaped hps)) (fun h => ?_) (fun h => svs_nil (svs_nil ⟨x1, x2, ps, _, _, _, _, rfl, rfl, hM.up⟩))
    have hnew : (t[j].1, z) ∉ ps := fun hq => by
      have : (ps.map dPr).any (fun e => PyData.eqv e (dPr (t[j].1, z))) = true := List.any_eq_true.mpr ⟨dPr (t[j].1, z), List.mem_map.mpr ⟨_, hq, rfl⟩, by rw [eqv_pr]; simp⟩
      rw [this] at h
      cases h
    refine svs_exprE (EE.of (ev_append (ev_name v4.r rfl) (ev_name v7.r rfl) ⟨_, c3_2 ..⟩ (c3_2 ..) (by have := hM.lps; simp; omega)) ?_)
    rw [c3_s2]
    have ep : Cell.lst ((ps.map dPr).map Itm.fz ++ [.fz (.tuple [.str t[j].1, .str z])]) = cP (ps ++ [(t[j].1, z)]) := by simp [cP, dPr]
    rw [ep]
    apply svs_setE hX v8
    have e30 : (10 : Int) ^ (30 : Int).toNat = 1000000000000000000000000000000 := by decide +kernel
    refine ee_ixL (EE.of (γ1 := c3 γ (cR x1) (cR x2) (cP (ps ++ [(t[j].1, z)]))) (r := .fz (.list [.int 1, .int 2, .int 3, .int (10 ^ (30 : Int).toNat), .int (1 + d / 312 % 30), .int (1 + d / 312)])) (by tm_at "e") ?_)
    refine EE.of (γ1 := c3 γ (cR x1) (cR x2) (cP (ps ++ [(t[j].1, z)]))) (r := .fz (.int (d / 52 % 6))) (by tm_at "e") ?_
    rw [e30]
    refine pick_go (iB 1 1000000000000000000000000000000) (by omega) (by simp only [List.length_cons, List.length_nil]; omega) (by tm_at "alli") ?_
    rintro _ ⟨hr, rfl, hr0, hr1⟩
    have hrow : RwOk (t[j].1, z, hr) := ⟨hnm, hzo, hr0, hr1⟩
    have hin : t[j].1 ∈ t.map (·.1) := List.mem_map.mpr ⟨_, hmem, rfl⟩
    have h12 : x1.length + x2.length ≤ i := by have := hM.len; rw [List.length_append] at this; exact this
    rcases (show d / 7 % 2 = 0 ∨ d / 7 % 2 = 1 by omega) with hb | hb
    · refine svs_exprE (EE.of (ev_append (cc := γ.length) (r := .fz (dRw (t[j].1, z, hr))) (ev_ixP (i := d / 7 % 2) (ev_name v3.r rfl) (by tm_at "e") (by rw [hb]; exact ix_0)) (ev_catT (ds := [.str t[j].1, .str z]) (es := [.int hr]) (ev_name v7.r rfl) (by tm_at "e") (by simp) (by simp) (by simp)) ⟨_, c3_0 ..⟩ (c3_0 ..) (by simp; omega)) ?_)
      rw [c3_s0]
      refine svs_nil (svs_nil ⟨x1 ++ [(t[j].1, z, hr)], x2, ps ++ [(t[j].1, z)], _, _, _, _, rfl, by simp [cR], hM.add1 hrow hin hzm hnew⟩)
    · refine svs_exprE (EE.of (ev_append (cc := γ.length + 1) (r := .fz (dRw (t[j].1, z, hr))) (ev_ixP (i := d / 7 % 2) (ev_name v3.r rfl) (by tm_at "e") (by rw [hb]; exact ix_1)) (ev_catT (ds := [.str t[j].1, .str z]) (es := [.int hr]) (ev_name v7.r rfl) (by tm_at "e") (by simp) (by simp) (by simp)) ⟨_, c3_1 ..⟩ (c3_1 ..) (by simp; omega)) ?_)
      rw [c3_s1]
      refine svs_nil (svs_nil ⟨x1, x2 ++ [(t[j].1, z, hr)], ps ++ [(t[j].1, z)], _, _, _, _, rfl, by simp [cR], hM.add2 hrow hin hzm hnew⟩)
  · rintro Γ' g ⟨x1, x2, ps, s5, s6, s7, s8, rfl, rfl, hM⟩
    rw [rngL_length] at hM
    have h20 : (m * (if (!PyData.eqv (.list (t.map dNb)) (.list [])) = true then 1 else 0)).toNat ≤ 20 := by split <;> omega
    refine SVs.freezePair (i := 3) (c := γ.length) (d := γ.length + 1) (ds := x1.map dRw) (es := x2.map dRw) rfl (c3_0 ..) (c3_1 ..) (by omega) ?_
    rw [c3_s0, c3_s1]
    apply svs_retE
    refine EE.of (ev_name v3.r rfl) ?_
    have l20 : (rows (x1, x2)).length ≤ 20 := Nat.le_trans hM.len h20
    refine fin_junk hγ (hP (x1, x2) ⟨by omega, fun a ha => (hM.all a ha).1, fun a ha => (hM.all a ha).2.1, hM.nd, ?_⟩ l20)
    have := sub_len (L := skl (x1, x2)) (M := zsF n) (dd_nodup _ _ (by simp)) fun x hx => by
      rcases (dd_mem _ _ _).mp hx with q | q
      · cases q
      · obtain ⟨a, ha, rfl⟩ := List.mem_map.mp q
        exact (hM.all a ha).2.2
    have : (zsF n).length = 4 := by simp [zsF]
    omega
theorem ok_day {P : Program} {w : World} {K : PySem.W.Frag} {mg : Str → Option Value} {base : Heap} (g0 : G0 mg)
    (D_turned : FnD P w K mg base "_law_turned" 1 S_turned)
    (D_name : FnD P w K mg base "_law_name" 2 S_name)
    {f : Addr} {fd : FuncData} (F : Fun K "_law_day" "_law_day" s_day f fd) (hm : mg "_law_day" = some (.ref f)) : FnD P w K mg base "_law_day" 3 S_day :=
  def_ok F sc_day hm (F.binds (ps := ["_law_town_here", "_law_seed", "_law_many"]) fun _ _ _ _ _ _ us hl => match us, hl with | [_, _, _], _ => rfl) (fun args γ P h => len_day h)
    fun X c args γ Po hγ hS => body_day g0 D_turned D_name c hγ hS
end KK

namespace KK
open PySem PySem.Spec PyProof.Rows L2 PL
local macro_rules | `(tactic| tm_at "nm") => `(tactic| with_reducible first | assumption | exact Nm.r (by assumption))
local macro_rules | `(tactic| tm_at "bt") => `(tactic| with_reducible assumption)
local macro_rules | `(tactic| tm_at "asm") => `(tactic| assumption)
local macro_rules | `(tactic| tm_at "auto") => `(tactic| first | rfl | exact fun _ _ => rfl | (intro _; rfl) | decide | exact nomark _ | (with_unfolding_all rfl))
local macro_rules | `(tactic| tm_at "boot") => `(tactic| decide +kernel)
local macro_rules | `(tactic| tm_at "kit") => `(tactic| first | exact kit_int _ | exact kit_bool _ | exact kit_str _ | exact kit_list _ | exact kit_tuple _ | exact kit_dict _)
local macro_rules | `(tactic| tm_at "side") => `(tactic| first | assumption | decide | omega | (simp only [List.length_map, List.length_cons, List.length_nil, List.length_append]; omega) | (simp; done))
local macro_rules | `(tactic| tm_at "pos") => `(tactic| first | decide | assumption | exact Int.pow_pos (by decide) | omega)
local macro_rules | `(tactic| tm_at "mul") => `(tactic| first | assumption | (exact small_mul 200 200 (by omega) (by omega)))
local macro_rules | `(tactic| tm_at "div") => `(tactic| first | assumption | (exact wide_div (b := 200) (by omega) (by omega) (by decide) (by decide)))
local macro_rules | `(tactic| tm_at "pow") => `(tactic| (refine ⟨?_, ?_, ?_⟩ <;> decide))
local macro_rules | `(tactic| tm_at "rd") => `(tactic| first | exact Rdb.fz _ | exact Rdb.cl (by assumption) | exact Rdb.cl rfl)
local macro_rules | `(tactic| tm_at "rdl") => `(tactic| first | exact .inr rfl | exact .inl (by tm_at "rd"))
local macro_rules | `(tactic| tm_at "ix") => `(tactic| first | assumption | exact ix_0 | exact ix_1 | exact ix_2 | exact ix_3 | exact ix_4 | rfl)
local macro_rules | `(tactic| tm_at "cmp") => `(tactic| first | exact cmp_lt | exact cmp_le | exact cmp_gt | exact cmp_ge | exact cmp_eqI | exact cmp_neI | exact cmp_eqS | exact cmp_neS | exact cmp_leS | exact cmp_ltS | exact cmp_inSign | exact cmp_notInSign | exact cmp_isB | exact cmp_notB | exact cmp_isN | exact cmp_notN | exact cmp_eqB | exact cmp_neB)
local macro_rules | `(tactic| tm_at "intro") => `(tactic| (intro _; tm_at "e"))
local macro_rules | `(tactic| tm_at "introe") => `(tactic| (intro _; tm_at "e"))
local macro_rules | `(tactic| tm_at "introw") => `(tactic| (intro _; tm_at "w"))
local macro_rules | `(tactic| tm_at "a") => `(tactic| first
  | exact av_nil
  | (apply av_cons; (focus tm_at "e"); (focus tm_at "a"); (focus tm_at "auto")))
local macro_rules | `(tactic| tm_at "alli") => `(tactic| (repeat (first | exact all_nil | (refine all_cons ⟨_, rfl, ?_, ?_⟩ ?_; (focus omega); (focus omega)))))
local macro_rules | `(tactic| tm_at "afz") => `(tactic| first
  | exact av_nilF
  | (apply av_consF; (focus tm_at "e"); (focus tm_at "afz"); (focus tm_at "auto")))
local macro_rules | `(tactic| tm_at "o") => `(tactic| first
  | exact ov_none
  | (apply ov_some; (focus tm_at "e")))
local macro_rules | `(tactic| tm_at "e") => `(tactic| ((with_reducible show EV _ _ _ (Expr.Tuple _ _ _) _ _); first | (apply ev_tup; (focus tm_at "afz"); (focus tm_at "side"))))
local macro_rules | `(tactic| tm_at "e") => `(tactic| ((with_reducible show EV _ _ _ (Expr.List _ _) _ _); first | (apply ev_lst; (focus tm_at "afz"); (focus tm_at "side"))))
local macro_rules | `(tactic| tm_at "e") => `(tactic| ((with_reducible show EV _ _ _ (Expr.Call (Expr.Attribute _ _ _) _ _ _) _ _); first | (apply ev_join; (focus tm_at "e"); (focus tm_at "e"); (focus tm_at "rd"); (focus tm_at "side"); (focus tm_at "auto"); (focus tm_at "auto"); (focus tm_at "auto"))))
local macro_rules | `(tactic| tm_at "e") => `(tactic| ((with_reducible show EV _ _ _ (Expr.Call (Expr.Name _ _) _ _ _) _ _); first | (apply ev_lenL; (focus tm_at "bt"); (focus tm_at "e"); (focus tm_at "rd"); (focus tm_at "auto")) | (apply ev_lenC; (focus tm_at "bt"); (focus tm_at "e"); (focus tm_at "ix"); (focus tm_at "auto")) | (apply ev_lenT; (focus tm_at "bt"); (focus tm_at "e"); (focus tm_at "auto")) | (apply ev_lenS; (focus tm_at "bt"); (focus tm_at "e"); (focus tm_at "side"); (focus tm_at "auto")) | (apply ev_max2; (focus tm_at "asm"); (focus tm_at "bt"); (focus tm_at "e"); (focus tm_at "e"); (focus tm_at "auto"); (focus tm_at "auto"); (focus tm_at "auto")) | (apply ev_min2; (focus tm_at "asm"); (focus tm_at "bt"); (focus tm_at "e"); (focus tm_at "e"); (focus tm_at "auto"); (focus tm_at "auto"); (focus tm_at "auto")) | (apply ev_intB; (focus tm_at "bt"); (focus tm_at "e"); (focus tm_at "auto")) | (apply ev_intI; (focus tm_at "bt"); (focus tm_at "e"); (focus tm_at "auto")) | (apply ev_abs; (focus tm_at "bt"); (focus tm_at "e"); (focus tm_at "auto")) | (apply ev_sum; (focus tm_at "asm"); (focus tm_at "bt"); (focus tm_at "e"); (focus tm_at "rd"); (focus tm_at "auto")) | (apply ev_listF; (focus tm_at "bt"); (focus tm_at "e"); (focus tm_at "rdl"); (focus tm_at "auto")) | (apply ev_sorted; (focus tm_at "bt"); (focus tm_at "e"); (focus tm_at "rd"); (focus tm_at "auto")) | (apply ev_isi; (focus tm_at "bt"); (focus tm_at "bt"); (focus tm_at "boot"); (focus tm_at "e"); (focus tm_at "rd"); (focus tm_at "kit"); (focus tm_at "auto"); (focus tm_at "auto"); (focus tm_at "auto"); (focus tm_at "auto"); (focus tm_at "auto"))))
local macro_rules | `(tactic| tm_at "e") => `(tactic| ((with_reducible show EV _ _ _ (Expr.BoolOp BoolOp.Or _ _) _ _); first | (apply ev_or; (focus tm_at "e"); (focus tm_at "introe"))))
local macro_rules | `(tactic| tm_at "e") => `(tactic| ((with_reducible show EV _ _ _ (Expr.BoolOp BoolOp.And _ _) _ _); first | (apply ev_and; (focus tm_at "e"); (focus tm_at "introe"))))
local macro_rules | `(tactic| tm_at "e") => `(tactic| ((with_reducible show EV _ _ _ (Expr.BoolOp _ [_] _) _ _); first | (apply ev_one; (focus tm_at "e"))))
local macro_rules | `(tactic| tm_at "e") => `(tactic| ((with_reducible show EV _ _ _ (Expr.IfExp _ _ _ _) _ _); first | (apply ev_ifx; (focus tm_at "t"); (focus tm_at "intro"); (focus tm_at "intro"))))
local macro_rules | `(tactic| tm_at "e") => `(tactic| ((with_reducible show EV _ _ _ (Expr.Compare _ [_, _] [_, _] _) _ _); first | (apply ev_chain2; (focus tm_at "e"); (focus tm_at "e"); (focus tm_at "cmp"); (focus tm_at "e"); (focus tm_at "cmp"); (focus tm_at "auto"))))
local macro_rules | `(tactic| tm_at "e") => `(tactic| ((with_reducible show EV _ _ _ (Expr.Compare _ [_] [_] _) _ _); first | (apply ev_cmp; (focus tm_at "e"); (focus tm_at "e"); (focus tm_at "cmp"); (focus tm_at "auto"))))
local macro_rules | `(tactic| tm_at "e") => `(tactic| ((with_reducible show EV _ _ _ (Expr.UnaryOp UnaryOp.Not _ _) _ _); first | (apply ev_not; (focus tm_at "e"))))
local macro_rules | `(tactic| tm_at "e") => `(tactic| ((with_reducible show EV _ _ _ (Expr.UnaryOp UnaryOp.USub _ _) _ _); first | (apply ev_neg; (focus tm_at "e"))))
local macro_rules | `(tactic| tm_at "e") => `(tactic| ((with_reducible show EV _ _ _ (Expr.Subscript _ _ _) _ _); first | (apply ev_ixL; (focus tm_at "e"); (focus tm_at "e"); (focus tm_at "rd"); (focus tm_at "ix"); (focus tm_at "auto")) | (apply ev_ixT; (focus tm_at "e"); (focus tm_at "e"); (focus tm_at "ix"); (focus tm_at "auto")) | (apply ev_ixC; (focus tm_at "e"); (focus tm_at "e"); (focus tm_at "ix"); (focus tm_at "ix"); (focus tm_at "auto")) | (apply ev_ixP; (focus tm_at "e"); (focus tm_at "e"); (focus tm_at "ix"); (focus tm_at "auto")) | (apply ev_ixS; (focus tm_at "e"); (focus tm_at "e"); (focus tm_at "side"); (focus tm_at "asm"); (focus tm_at "auto"))))
local macro_rules | `(tactic| tm_at "e") => `(tactic| ((with_reducible show EV _ _ _ (Expr.Subscript _ (Expr.Slice _ _ _ _) _) _ _); first | (apply ev_slL; (focus tm_at "e"); (focus tm_at "o"); (focus tm_at "o"); (focus tm_at "rd")) | (apply ev_slT; (focus tm_at "e"); (focus tm_at "o"); (focus tm_at "o"); (focus tm_at "side")) | (apply ev_slS; (focus tm_at "e"); (focus tm_at "o"); (focus tm_at "o"); (focus tm_at "side"))))
local macro_rules | `(tactic| tm_at "e") => `(tactic| ((with_reducible show EV _ _ _ (Expr.BinOp _ Operator.Pow _ _) _ _); first | (apply ev_pow; (focus tm_at "e"); (focus tm_at "e"); (focus tm_at "pow"))))
local macro_rules | `(tactic| tm_at "e") => `(tactic| ((with_reducible show EV _ _ _ (Expr.BinOp _ Operator.FloorDiv _ _) _ _); first | (apply ev_div; (focus tm_at "e"); (focus tm_at "e"); (focus tm_at "div"))))
local macro_rules | `(tactic| tm_at "e") => `(tactic| ((with_reducible show EV _ _ _ (Expr.BinOp _ Operator.Mod _ _) _ _); first | (apply ev_mod; (focus tm_at "e"); (focus tm_at "e"); (focus tm_at "pos"))))
local macro_rules | `(tactic| tm_at "e") => `(tactic| ((with_reducible show EV _ _ _ (Expr.BinOp _ Operator.Mult _ _) _ _); first | (apply ev_mul; (focus tm_at "e"); (focus tm_at "e"); (focus tm_at "mul")) | (apply ev_repF; (focus tm_at "afz"); (focus tm_at "e"); (focus tm_at "side"); (focus tm_at "side"); (focus tm_at "side"))))
local macro_rules | `(tactic| tm_at "e") => `(tactic| ((with_reducible show EV _ _ _ (Expr.BinOp _ Operator.Sub _ _) _ _); first | (apply ev_sub; (focus tm_at "e"); (focus tm_at "e"))))
local macro_rules | `(tactic| tm_at "e") => `(tactic| ((with_reducible show EV _ _ _ (Expr.BinOp _ Operator.Add _ _) _ _); first | (apply ev_add; (focus tm_at "e"); (focus tm_at "e")) | (apply ev_catF; (focus tm_at "e"); (focus tm_at "e"); (focus tm_at "rd"); (focus tm_at "rd"); (focus tm_at "side")) | (apply ev_addS; (focus tm_at "e"); (focus tm_at "e"); (focus tm_at "side")) | (apply ev_catT; (focus tm_at "e"); (focus tm_at "e"); (focus tm_at "side"))))
local macro_rules | `(tactic| tm_at "e") => `(tactic| ((with_reducible show EV _ _ _ (Expr.Name _ _) _ _); first | (apply ev_name; (focus tm_at "nm"); (focus rfl))))
local macro_rules | `(tactic| tm_at "e") => `(tactic| ((with_reducible show EV _ _ _ (Expr.Constant _ _ _) _ _); first | exact ev_int | exact ev_bl | exact ev_str | exact ev_non))
local macro_rules | `(tactic| tm_at "t") => `(tactic| ((with_reducible show TV _ _ _ _ _ _); first | (apply tv_val; (focus tm_at "e"); (focus tm_at "auto")) | (apply tv_truthL; (focus tm_at "e"); (focus tm_at "rd"); (focus tm_at "auto")) | (apply tv_truthI; (focus tm_at "e"); (focus tm_at "auto"))))
local macro_rules | `(tactic| tm_at "t") => `(tactic| ((with_reducible show TV _ _ _ (Expr.BoolOp _ _ _) _ _); first | (apply tv_w; (focus tm_at "w"))))
local macro_rules | `(tactic| tm_at "t") => `(tactic| ((with_reducible show TV _ _ _ (Expr.UnaryOp UnaryOp.Not _ _) _ _); first | (apply tv_not; (focus tm_at "t"))))
local macro_rules | `(tactic| tm_at "t") => `(tactic| ((with_reducible show TV _ _ _ (Expr.Compare _ [_, _] [_, _] _) _ _); first | (apply tv_chain2; (focus tm_at "e"); (focus tm_at "e"); (focus tm_at "cmp"); (focus tm_at "e"); (focus tm_at "cmp"); (focus tm_at "auto"))))
local macro_rules | `(tactic| tm_at "t") => `(tactic| ((with_reducible show TV _ _ _ (Expr.Compare _ [_] [_] _) _ _); first | (apply tv_cmp; (focus tm_at "e"); (focus tm_at "e"); (focus tm_at "cmp"); (focus tm_at "auto"))))
local macro_rules | `(tactic| tm_at "w") => `(tactic| ((with_reducible show WV _ _ _ (Expr.BoolOp BoolOp.Or _ _) _ _); first | (apply wv_or; (focus tm_at "t"); (focus tm_at "introw"))))
local macro_rules | `(tactic| tm_at "w") => `(tactic| ((with_reducible show WV _ _ _ (Expr.BoolOp BoolOp.And _ _) _ _); first | (apply wv_and; (focus tm_at "t"); (focus tm_at "introw"))))
local macro_rules | `(tactic| tm_at "w") => `(tactic| ((with_reducible show WV _ _ _ (Expr.BoolOp BoolOp.Or [_] _) _ _); first | (apply wv_or1; (focus tm_at "t"))))
local macro_rules | `(tactic| tm_at "w") => `(tactic| ((with_reducible show WV _ _ _ (Expr.BoolOp BoolOp.And [_] _) _ _); first | (apply wv_and1; (focus tm_at "t"))))
local macro_rules | `(tactic| tm_at "ee") => `(tactic| first
  | (apply EE.of; (focus tm_at "e"); try (tm_at "ee"))
  | (refine ee_call' (by assumption) ?_; apply AE.of; (focus tm_at "a"))
  | (with_reducible refine ee_mod ?_; tm_at "ee")
  | (with_reducible refine ee_add ?_; tm_at "ee")
  | (with_reducible refine ee_sub ?_; tm_at "ee")
  | (with_reducible refine ee_mul ?_; tm_at "ee")
  | (with_reducible refine ee_div ?_; tm_at "ee")
  | (with_reducible refine ee_ixL ?_; tm_at "ee")
  | (refine ⟨_, rfl, ?_⟩; tm_at "ee"))

def isScript (a : Itm) : Prop := ∃ ns : List Int, a = .fz (.list (ns.map .int)) ∧ ns.length ≤ 63
def S_mixed : PSpec := fun args γ P => ∃ a k, args = [a, .fz (.int k)] ∧ isScript a ∧ 0 ≤ k ∧ k ≤ 1000 ∧ ∀ d : Int, 0 ≤ d → d < 2147483647 → P (.fz (.int d)) γ
theorem len_mixed {args γ P} (h : S_mixed args γ P) : args.length = 2 := by obtain ⟨a, k, rfl, _⟩ := h; rfl
theorem cell_of (ns : List Int) (k : Int) : ∃ z : Int, atI (ns.map PyData.int ++ [PyData.int 0]) (k % max 1 ((ns.map PyData.int).length : Int)) = some (.int z) := by
  have e : ns.map PyData.int ++ [PyData.int 0] = (ns ++ [0]).map PyData.int := by simp
  have h1 : 0 < max (1 : Int) ((ns.map PyData.int).length : Int) := by omega
  have h2 := Int.emod_nonneg k (show max (1 : Int) ((ns.map PyData.int).length : Int) ≠ 0 by omega)
  have h3 := Int.emod_lt_of_pos k h1
  rw [List.length_map] at h2 h3 ⊢
  have hl : (k % max 1 (ns.length : Int)).toNat < (ns ++ [0]).length := by rw [List.length_append]; simp; omega
  refine ⟨(ns ++ [0])[(k % max 1 (ns.length : Int)).toNat], ?_⟩
  rw [e]
  have h := atI_nat (xs := (ns ++ [0]).map PyData.int) (j := (k % max 1 (ns.length : Int)).toNat) (v := .int (ns ++ [0])[(k % max 1 (ns.length : Int)).toNat]) (by rw [List.getElem?_map, List.getElem?_eq_getElem hl]; rfl)
  rw [show (((k % max 1 (ns.length : Int)).toNat : Nat) : Int) = k % max 1 (ns.length : Int) by omega] at h
  exact h
set_option maxHeartbeats 4000000 in
theorem body_mixed {P : Program} {w : World} {K : PySem.W.Frag} {mg : Str → Option Value} {base : Heap} (g0 : G0 mg)
    {X : Cx} (c : Ctx X P w K mg base N_mixed (defScope s_mixed) 0) {args : List Itm} {γ : Cells} {Po : EPost} (hγ : Clo γ) (hS : S_mixed args γ Po) :
    SVs X (slots0 N_mixed args) γ (defBody s_mixed) { nx := fun _ g => PL.Fin γ.length Po (.fz .none) g, rt := PL.Fin γ.length Po } := by
  have hX := c.ok
  have hp := c.po
  have v0 : Nm X "_law_script" 0 .local := c.nm 0 .local rfl (by decide +kernel) (.inl rfl) (by decide +kernel) (by decide +kernel)
  have v1 : Nm X "_law_k" 1 .local := c.nm 1 .local rfl (by decide +kernel) (.inl rfl) (by decide +kernel) (by decide +kernel)
  have v2 : Nm X "_law_cell" 2 .local := c.nm 2 .local rfl (by decide +kernel) (.inl rfl) (by decide +kernel) (by decide +kernel)
  have b_max : Bt X "max" := c.bt (by decide +kernel) g0.b_max
  have b_len : Bt X "len" := c.bt (by decide +kernel) g0.b_len
  obtain ⟨a, k, rfl, ⟨ns, rfl, hn⟩, hk0, hk1, hP⟩ := hS
  obtain ⟨z, hz⟩ := cell_of ns k
  have hmax : 0 < max (1 : Int) ((ns.map PyData.int).length : Int) := by omega
  have hlen : (ns.map PyData.int).length + [PyData.int 0].length ≤ 1000000 := by simp; omega
  apply svs_setE hX v2
  apply EE.of
  · tm_at "e"
  have e60 : (10 : Int) ^ (60 : Int).toNat = 1000000000000000000000000000000000000000000000000000000000000 := by decide +kernel
  rw [e60]
  generalize hw : z % 1000000000000000000000000000000000000000000000000000000000000 = w
  have hw0 : 0 ≤ w := by omega
  have hw1 : w < 1000000000000000000000000000000000000000000000000000000000000 := by omega
  have h1 : 0 ≤ 1009 * k * k := Int.mul_nonneg (by omega) hk0
  have h2 : 1009 * k * k ≤ 1009 * 1000 * 1000 := Int.mul_le_mul (by omega) hk1 hk0 (by omega)
  have c1 : CMulW 1009 k := small_mul 200 200 (by decide) (by omega)
  have c2 : CMulW (1009 * k) k := small_mul 200 200 (by omega) (by omega)
  have c3 : CMulW 2 k := small_mul 200 200 (by decide) (by omega)
  have c4 : CMulW (w + 1 + 1009 * k * k) (48271 + 2 * k) := small_mul 210 200 (by omega) (by omega)
  apply svs_retE
  apply EE.of
  · tm_at "e"
  exact fin_same hγ (hP _ (Int.emod_nonneg _ (by decide)) (Int.emod_lt_of_pos _ (by decide)))
theorem ok_mixed {P : Program} {w : World} {K : PySem.W.Frag} {mg : Str → Option Value} {base : Heap} (g0 : G0 mg)
    {f : Addr} {fd : FuncData} (F : Fun K "_law_mixed" "_law_mixed" s_mixed f fd) (hm : mg "_law_mixed" = some (.ref f)) : FnD P w K mg base "_law_mixed" 1 S_mixed :=
  def_ok F sc_mixed hm (F.binds (ps := ["_law_script", "_law_k"]) fun _ _ _ _ _ _ us hl => match us, hl with | [_, _], _ => rfl) (fun args γ P h => len_mixed h)
    fun X c args γ Po hγ hS => body_mixed g0  c hγ hS
end KK

namespace KK
open PySem PySem.Spec PyProof.Rows L2 PL
local macro_rules | `(tactic| tm_at "nm") => `(tactic| with_reducible first | assumption | exact Nm.r (by assumption))
local macro_rules | `(tactic| tm_at "bt") => `(tactic| with_reducible assumption)
local macro_rules | `(tactic| tm_at "asm") => `(tactic| assumption)
local macro_rules | `(tactic| tm_at "auto") => `(tactic| first | rfl | exact fun _ _ => rfl | (intro _; rfl) | decide | exact nomark _ | (with_unfolding_all rfl))
local macro_rules | `(tactic| tm_at "boot") => `(tactic| decide +kernel)
local macro_rules | `(tactic| tm_at "kit") => `(tactic| first | exact kit_int _ | exact kit_bool _ | exact kit_str _ | exact kit_list _ | exact kit_tuple _ | exact kit_dict _)
local macro_rules | `(tactic| tm_at "side") => `(tactic| first | assumption | decide | omega | (simp only [List.length_map, List.length_cons, List.length_nil, List.length_append]; omega) | (simp; done))
local macro_rules | `(tactic| tm_at "pos") => `(tactic| first | decide | assumption | exact Int.pow_pos (by decide) | omega)
local macro_rules | `(tactic| tm_at "mul") => `(tactic| first | assumption | (exact small_mul 200 200 (by omega) (by omega)))
local macro_rules | `(tactic| tm_at "div") => `(tactic| first | assumption | (exact wide_div (b := 200) (by omega) (by omega) (by decide) (by decide)))
local macro_rules | `(tactic| tm_at "pow") => `(tactic| (refine ⟨?_, ?_, ?_⟩ <;> decide))
local macro_rules | `(tactic| tm_at "rd") => `(tactic| first | exact Rdb.fz _ | exact Rdb.cl (by assumption) | exact Rdb.cl rfl)
local macro_rules | `(tactic| tm_at "rdl") => `(tactic| first | exact .inr rfl | exact .inl (by tm_at "rd"))
local macro_rules | `(tactic| tm_at "ix") => `(tactic| first | assumption | exact ix_0 | exact ix_1 | exact ix_2 | exact ix_3 | exact ix_4 | rfl)
local macro_rules | `(tactic| tm_at "cmp") => `(tactic| first | exact cmp_lt | exact cmp_le | exact cmp_gt | exact cmp_ge | exact cmp_eqI | exact cmp_neI | exact cmp_eqS | exact cmp_neS | exact cmp_leS | exact cmp_ltS | exact cmp_inSign | exact cmp_notInSign | exact cmp_isB | exact cmp_notB | exact cmp_isN | exact cmp_notN | exact cmp_eqB | exact cmp_neB)
local macro_rules | `(tactic| tm_at "intro") => `(tactic| (intro _; tm_at "e"))
local macro_rules | `(tactic| tm_at "introe") => `(tactic| (intro _; tm_at "e"))
local macro_rules | `(tactic| tm_at "introw") => `(tactic| (intro _; tm_at "w"))
local macro_rules | `(tactic| tm_at "a") => `(tactic| first
  | exact av_nil
  | (apply av_cons; (focus tm_at "e"); (focus tm_at "a"); (focus tm_at "auto")))
local macro_rules | `(tactic| tm_at "alli") => `(tactic| (repeat (first | exact all_nil | (refine all_cons ⟨_, rfl, ?_, ?_⟩ ?_; (focus omega); (focus omega)))))
local macro_rules | `(tactic| tm_at "afz") => `(tactic| first
  | exact av_nilF
  | (apply av_consF; (focus tm_at "e"); (focus tm_at "afz"); (focus tm_at "auto")))
local macro_rules | `(tactic| tm_at "o") => `(tactic| first
  | exact ov_none
  | (apply ov_some; (focus tm_at "e")))
local macro_rules | `(tactic| tm_at "e") => `(tactic| ((with_reducible show EV _ _ _ (Expr.Tuple _ _ _) _ _); first | (apply ev_tup; (focus tm_at "afz"); (focus tm_at "side"))))
local macro_rules | `(tactic| tm_at "e") => `(tactic| ((with_reducible show EV _ _ _ (Expr.List _ _) _ _); first | (apply ev_lst; (focus tm_at "afz"); (focus tm_at "side"))))
local macro_rules | `(tactic| tm_at "e") => `(tactic| ((with_reducible show EV _ _ _ (Expr.Call (Expr.Attribute _ _ _) _ _ _) _ _); first | (apply ev_join; (focus tm_at "e"); (focus tm_at "e"); (focus tm_at "rd"); (focus tm_at "side"); (focus tm_at "auto"); (focus tm_at "auto"); (focus tm_at "auto"))))
local macro_rules | `(tactic| tm_at "e") => `(tactic| ((with_reducible show EV _ _ _ (Expr.Call (Expr.Name _ _) _ _ _) _ _); first | (apply ev_lenL; (focus tm_at "bt"); (focus tm_at "e"); (focus tm_at "rd"); (focus tm_at "auto")) | (apply ev_lenC; (focus tm_at "bt"); (focus tm_at "e"); (focus tm_at "ix"); (focus tm_at "auto")) | (apply ev_lenT; (focus tm_at "bt"); (focus tm_at "e"); (focus tm_at "auto")) | (apply ev_lenS; (focus tm_at "bt"); (focus tm_at "e"); (focus tm_at "side"); (focus tm_at "auto")) | (apply ev_max2; (focus tm_at "asm"); (focus tm_at "bt"); (focus tm_at "e"); (focus tm_at "e"); (focus tm_at "auto"); (focus tm_at "auto"); (focus tm_at "auto")) | (apply ev_min2; (focus tm_at "asm"); (focus tm_at "bt"); (focus tm_at "e"); (focus tm_at "e"); (focus tm_at "auto"); (focus tm_at "auto"); (focus tm_at "auto")) | (apply ev_intB; (focus tm_at "bt"); (focus tm_at "e"); (focus tm_at "auto")) | (apply ev_intI; (focus tm_at "bt"); (focus tm_at "e"); (focus tm_at "auto")) | (apply ev_abs; (focus tm_at "bt"); (focus tm_at "e"); (focus tm_at "auto")) | (apply ev_sum; (focus tm_at "asm"); (focus tm_at "bt"); (focus tm_at "e"); (focus tm_at "rd"); (focus tm_at "auto")) | (apply ev_listF; (focus tm_at "bt"); (focus tm_at "e"); (focus tm_at "rdl"); (focus tm_at "auto")) | (apply ev_sorted; (focus tm_at "bt"); (focus tm_at "e"); (focus tm_at "rd"); (focus tm_at "auto")) | (apply ev_isi; (focus tm_at "bt"); (focus tm_at "bt"); (focus tm_at "boot"); (focus tm_at "e"); (focus tm_at "rd"); (focus tm_at "kit"); (focus tm_at "auto"); (focus tm_at "auto"); (focus tm_at "auto"); (focus tm_at "auto"); (focus tm_at "auto"))))
local macro_rules | `(tactic| tm_at "e") => `(tactic| ((with_reducible show EV _ _ _ (Expr.BoolOp BoolOp.Or _ _) _ _); first | (apply ev_or; (focus tm_at "e"); (focus tm_at "introe"))))
local macro_rules | `(tactic| tm_at "e") => `(tactic| ((with_reducible show EV _ _ _ (Expr.BoolOp BoolOp.And _ _) _ _); first | (apply ev_and; (focus tm_at "e"); (focus tm_at "introe"))))
local macro_rules | `(tactic| tm_at "e") => `(tactic| ((with_reducible show EV _ _ _ (Expr.BoolOp _ [_] _) _ _); first | (apply ev_one; (focus tm_at "e"))))
local macro_rules | `(tactic| tm_at "e") => `(tactic| ((with_reducible show EV _ _ _ (Expr.IfExp _ _ _ _) _ _); first | (apply ev_ifx; (focus tm_at "t"); (focus tm_at "intro"); (focus tm_at "intro"))))
local macro_rules | `(tactic| tm_at "e") => `(tactic| ((with_reducible show EV _ _ _ (Expr.Compare _ [_, _] [_, _] _) _ _); first | (apply ev_chain2; (focus tm_at "e"); (focus tm_at "e"); (focus tm_at "cmp"); (focus tm_at "e"); (focus tm_at "cmp"); (focus tm_at "auto"))))
local macro_rules | `(tactic| tm_at "e") => `(tactic| ((with_reducible show EV _ _ _ (Expr.Compare _ [_] [_] _) _ _); first | (apply ev_cmp; (focus tm_at "e"); (focus tm_at "e"); (focus tm_at "cmp"); (focus tm_at "auto"))))
local macro_rules | `(tactic| tm_at "e") => `(tactic| ((with_reducible show EV _ _ _ (Expr.UnaryOp UnaryOp.Not _ _) _ _); first | (apply ev_not; (focus tm_at "e"))))
local macro_rules | `(tactic| tm_at "e") => `(tactic| ((with_reducible show EV _ _ _ (Expr.UnaryOp UnaryOp.USub _ _) _ _); first | (apply ev_neg; (focus tm_at "e"))))
local macro_rules | `(tactic| tm_at "e") => `(tactic| ((with_reducible show EV _ _ _ (Expr.Subscript _ _ _) _ _); first | (apply ev_ixL; (focus tm_at "e"); (focus tm_at "e"); (focus tm_at "rd"); (focus tm_at "ix"); (focus tm_at "auto")) | (apply ev_ixT; (focus tm_at "e"); (focus tm_at "e"); (focus tm_at "ix"); (focus tm_at "auto")) | (apply ev_ixC; (focus tm_at "e"); (focus tm_at "e"); (focus tm_at "ix"); (focus tm_at "ix"); (focus tm_at "auto")) | (apply ev_ixP; (focus tm_at "e"); (focus tm_at "e"); (focus tm_at "ix"); (focus tm_at "auto")) | (apply ev_ixS; (focus tm_at "e"); (focus tm_at "e"); (focus tm_at "side"); (focus tm_at "asm"); (focus tm_at "auto"))))
local macro_rules | `(tactic| tm_at "e") => `(tactic| ((with_reducible show EV _ _ _ (Expr.Subscript _ (Expr.Slice _ _ _ _) _) _ _); first | (apply ev_slL; (focus tm_at "e"); (focus tm_at "o"); (focus tm_at "o"); (focus tm_at "rd")) | (apply ev_slT; (focus tm_at "e"); (focus tm_at "o"); (focus tm_at "o"); (focus tm_at "side")) | (apply ev_slS; (focus tm_at "e"); (focus tm_at "o"); (focus tm_at "o"); (focus tm_at "side"))))
local macro_rules | `(tactic| tm_at "e") => `(tactic| ((with_reducible show EV _ _ _ (Expr.BinOp _ Operator.Pow _ _) _ _); first | (apply ev_pow; (focus tm_at "e"); (focus tm_at "e"); (focus tm_at "pow"))))
local macro_rules | `(tactic| tm_at "e") => `(tactic| ((with_reducible show EV _ _ _ (Expr.BinOp _ Operator.FloorDiv _ _) _ _); first | (apply ev_div; (focus tm_at "e"); (focus tm_at "e"); (focus tm_at "div"))))
local macro_rules | `(tactic| tm_at "e") => `(tactic| ((with_reducible show EV _ _ _ (Expr.BinOp _ Operator.Mod _ _) _ _); first | (apply ev_mod; (focus tm_at "e"); (focus tm_at "e"); (focus tm_at "pos"))))
local macro_rules | `(tactic| tm_at "e") => `(tactic| ((with_reducible show EV _ _ _ (Expr.BinOp _ Operator.Mult _ _) _ _); first | (apply ev_mul; (focus tm_at "e"); (focus tm_at "e"); (focus tm_at "mul")) | (apply ev_repF; (focus tm_at "afz"); (focus tm_at "e"); (focus tm_at "side"); (focus tm_at "side"); (focus tm_at "side"))))
local macro_rules | `(tactic| tm_at "e") => `(tactic| ((with_reducible show EV _ _ _ (Expr.BinOp _ Operator.Sub _ _) _ _); first | (apply ev_sub; (focus tm_at "e"); (focus tm_at "e"))))
local macro_rules | `(tactic| tm_at "e") => `(tactic| ((with_reducible show EV _ _ _ (Expr.BinOp _ Operator.Add _ _) _ _); first | (apply ev_add; (focus tm_at "e"); (focus tm_at "e")) | (apply ev_catF; (focus tm_at "e"); (focus tm_at "e"); (focus tm_at "rd"); (focus tm_at "rd"); (focus tm_at "side")) | (apply ev_addS; (focus tm_at "e"); (focus tm_at "e"); (focus tm_at "side")) | (apply ev_catT; (focus tm_at "e"); (focus tm_at "e"); (focus tm_at "side"))))
local macro_rules | `(tactic| tm_at "e") => `(tactic| ((with_reducible show EV _ _ _ (Expr.Name _ _) _ _); first | (apply ev_name; (focus tm_at "nm"); (focus rfl))))
local macro_rules | `(tactic| tm_at "e") => `(tactic| ((with_reducible show EV _ _ _ (Expr.Constant _ _ _) _ _); first | exact ev_int | exact ev_bl | exact ev_str | exact ev_non))
local macro_rules | `(tactic| tm_at "t") => `(tactic| ((with_reducible show TV _ _ _ _ _ _); first | (apply tv_val; (focus tm_at "e"); (focus tm_at "auto")) | (apply tv_truthL; (focus tm_at "e"); (focus tm_at "rd"); (focus tm_at "auto")) | (apply tv_truthI; (focus tm_at "e"); (focus tm_at "auto"))))
local macro_rules | `(tactic| tm_at "t") => `(tactic| ((with_reducible show TV _ _ _ (Expr.BoolOp _ _ _) _ _); first | (apply tv_w; (focus tm_at "w"))))
local macro_rules | `(tactic| tm_at "t") => `(tactic| ((with_reducible show TV _ _ _ (Expr.UnaryOp UnaryOp.Not _ _) _ _); first | (apply tv_not; (focus tm_at "t"))))
local macro_rules | `(tactic| tm_at "t") => `(tactic| ((with_reducible show TV _ _ _ (Expr.Compare _ [_, _] [_, _] _) _ _); first | (apply tv_chain2; (focus tm_at "e"); (focus tm_at "e"); (focus tm_at "cmp"); (focus tm_at "e"); (focus tm_at "cmp"); (focus tm_at "auto"))))
local macro_rules | `(tactic| tm_at "t") => `(tactic| ((with_reducible show TV _ _ _ (Expr.Compare _ [_] [_] _) _ _); first | (apply tv_cmp; (focus tm_at "e"); (focus tm_at "e"); (focus tm_at "cmp"); (focus tm_at "auto"))))
local macro_rules | `(tactic| tm_at "w") => `(tactic| ((with_reducible show WV _ _ _ (Expr.BoolOp BoolOp.Or _ _) _ _); first | (apply wv_or; (focus tm_at "t"); (focus tm_at "introw"))))
local macro_rules | `(tactic| tm_at "w") => `(tactic| ((with_reducible show WV _ _ _ (Expr.BoolOp BoolOp.And _ _) _ _); first | (apply wv_and; (focus tm_at "t"); (focus tm_at "introw"))))
local macro_rules | `(tactic| tm_at "w") => `(tactic| ((with_reducible show WV _ _ _ (Expr.BoolOp BoolOp.Or [_] _) _ _); first | (apply wv_or1; (focus tm_at "t"))))
local macro_rules | `(tactic| tm_at "w") => `(tactic| ((with_reducible show WV _ _ _ (Expr.BoolOp BoolOp.And [_] _) _ _); first | (apply wv_and1; (focus tm_at "t"))))
local macro_rules | `(tactic| tm_at "ee") => `(tactic| first
  | (apply EE.of; (focus tm_at "e"); try (tm_at "ee"))
  | (refine ee_call' (by assumption) ?_; apply AE.of; (focus tm_at "a"))
  | (with_reducible refine ee_mod ?_; tm_at "ee")
  | (with_reducible refine ee_add ?_; tm_at "ee")
  | (with_reducible refine ee_sub ?_; tm_at "ee")
  | (with_reducible refine ee_mul ?_; tm_at "ee")
  | (with_reducible refine ee_div ?_; tm_at "ee")
  | (with_reducible refine ee_ixL ?_; tm_at "ee")
  | (refine ⟨_, rfl, ?_⟩; tm_at "ee"))

theorem WV.is' {X : Cx} {Γ : Slots} {γ γ1 : Cells} {e : Expr} {b b' : Bool} (h : WV X Γ γ e b γ1) (e1 : b = b') : WV X Γ γ e b' γ1 := e1 ▸ h
/-! ### things that are handed in as jobs -/
inductive Part : PyData → Prop
  | non : Part .none
  | bl (b : Bool) : Part (.bool b)
  | int (i : Int) : Part (.int i)
  | str {z : Str} (h : Lows z) (l : z.length ≤ 8) : Part (.str z)
inductive Elt : PyData → Prop
  | tup {ds : List PyData} (h : ∀ e ∈ ds, Part e) : Elt (.tuple ds)
  | lst {ds : List PyData} (h : ∀ e ∈ ds, Part e) : Elt (.list ds)
inductive Mild : PyData → Prop
  | non : Mild .none
  | tup {ds : List PyData} (l : ds.length ≤ 60) (h : ∀ e ∈ ds, Elt e) : Mild (.tuple ds)
  | lst {ds : List PyData} (l : ds.length ≤ 60) (h : ∀ e ∈ ds, Elt e) : Mild (.list ds)
theorem Part.shp {d : PyData} (h : Part d) : Shp 0 d := by
  cases h with
  | non => exact shp_none
  | bl b => exact shp_bool b
  | int i => exact shp_int i
  | str h l => exact shp_low h
theorem Elt.shp {d : PyData} (h : Elt d) : Shp 1 d := by
  cases h with
  | tup h => exact shp_tuple fun e he => (h e he).shp
  | lst h => exact shp_list fun e he => (h e he).shp
theorem Mild.shp {d : PyData} (h : Mild d) : Shp 2 d := by
  cases h with
  | non => exact shp_none.mono (by decide)
  | tup l h => exact shp_tuple fun e he => (h e he).shp
  | lst l h => exact shp_list fun e he => (h e he).shp
theorem eqvAll_self : ∀ {ds : List PyData}, (∀ e ∈ ds, PyData.eqv e e = true) → PyData.eqvAll ds ds = true
  | [], _ => by simp [PyData.eqvAll]
  | d :: ds, h => by
    have h1 := h d (by simp)
    have h2 := eqvAll_self (ds := ds) fun e he => h e (by simp [he])
    simp [PyData.eqvAll, h1, h2]
theorem Part.self {d : PyData} (h : Part d) : PyData.eqv d d = true := by cases h <;> simp [PyData.eqv]
theorem Elt.self {d : PyData} (h : Elt d) : PyData.eqv d d = true := by
  cases h with
  | tup h => simp only [PyData.eqv]; exact eqvAll_self fun e he => (h e he).self
  | lst h => simp only [PyData.eqv]; exact eqvAll_self fun e he => (h e he).self
theorem Mild.self {d : PyData} (h : Mild d) : PyData.eqv d d = true := by
  cases h with
  | non => simp [PyData.eqv]
  | tup l h => simp only [PyData.eqv]; exact eqvAll_self fun e he => (h e he).self
  | lst l h => simp only [PyData.eqv]; exact eqvAll_self fun e he => (h e he).self
theorem Mild.tx {d : PyData} (h : Mild d) : ∀ ds, d = .list ds → ds.length < 305 ∧ ∀ e ∈ ds, TxS e := fun ds e => by
  subst e
  cases h with
  | lst l h =>
    refine ⟨by omega, fun e he => ?_⟩
    have := h e he
    rintro fs rfl z hz
    cases this with
    | tup h =>
      have := h _ hz
      cases this with
      | str h l => rw [sizeLine_eq]; omega
structure IsJ (d : Day) (j : Jb) : Prop where
  h0 : 1 ≤ j.2.2.2
  o : (j.1, j.2.2.1) ∈ prs d.1
  w : (j.2.1, j.2.2.1) ∈ prs d.2
def IsJP (d : Day) (x : PyData) : Prop := ∃ j, x = dJb j ∧ IsJ d j
theorem falseIn (bs : List Bool) : ((bs.map PyData.bool).any fun z => PyData.eqv z (.bool false)) = !bs.all id := by
  induction bs with
  | nil => rfl
  | cons b bs ih =>
    rw [List.map_cons, List.any_cons, ih, List.all_cons]
    cases b <;> simp [PyData.eqv]
theorem shp_bools (bs : List Bool) : Shp 1 (.list (bs.map .bool)) := shp_list (n := 0) fun d hd => by
  obtain ⟨b, _, rfl⟩ := List.mem_map.mp hd
  exact shp_bool b
def cut2 : PyData → PyData
  | .tuple [a, b, _] => .tuple [a, b]
  | d => d
def cutRows : PyData → PyData
  | .list rs => .list (rs.map cut2)
  | d => d
theorem cutRows_is (R : List Rw) : cutRows (.list (R.map dRw)) = .list ((prs R).map dPr) := by
  show PyData.list ((R.map dRw).map cut2) = _
  unfold prs
  rw [List.map_map, List.map_map]
  rfl
theorem in_prs (R : List Rw) (p : Str × Str) : (((prs R).map dPr).any fun z => PyData.eqv z (dPr p)) = decide (p ∈ prs R) := by
  rw [Bool.eq_iff_iff, List.any_eq_true, decide_eq_true_iff]
  constructor
  · rintro ⟨z, hz, e⟩
    obtain ⟨q, hq, rfl⟩ := List.mem_map.mp hz
    rw [eqv_pr] at e
    have := of_decide_eq_true e
    exact this ▸ hq
  · intro h
    exact ⟨dPr p, List.mem_map.mpr ⟨p, h, rfl⟩, by rw [eqv_pr]; simp⟩
theorem shp_prs {R : List Rw} (h : ∀ a ∈ R, RwOk a) : Shp 2 (.list ((prs R).map dPr)) := shp_list (n := 1) fun d hd => by
  obtain ⟨q, hq, rfl⟩ := List.mem_map.mp hd
  obtain ⟨a, ha, rfl⟩ := List.mem_map.mp hq
  exact shp_pr (h a ha).nm.2.2 (h a ha).sk.2.2
open Classical in
def S_is_job : PSpec := fun args γ P => ∃ (x : PyData) (d : Day), args = [.fz x, .fz (dDay d)] ∧ Elt x ∧ (rows d).length ≤ 1000 ∧ (∀ a ∈ rows d, RwOk a) ∧ P (.fz (.bool (decide (IsJP d x)))) γ
theorem len_is_job {args γ P} (h : S_is_job args γ P) : args.length = 2 := by obtain ⟨x, d, rfl, _⟩ := h; rfl
set_option maxHeartbeats 16000000 in
theorem body_is_job {P : Program} {w : World} {K : PySem.W.Frag} {mg : Str → Option Value} {base : Heap} (g0 : G0 mg)
    {X : Cx} (c : Ctx X P w K mg base N_is_job (defScope s_is_job) 0) {args : List Itm} {γ : Cells} {Po : EPost} (hγ : Clo γ) (hS : S_is_job args γ Po) :
    SVs X (slots0 N_is_job args) γ (defBody s_is_job) { nx := fun _ g => PL.Fin γ.length Po (.fz .none) g, rt := PL.Fin γ.length Po } := by
  have hX := c.ok
  have hp := c.po
  have v0 : Nm X "_law_job" 0 .local := c.nm 0 .local rfl (by decide +kernel) (.inl rfl) (by decide +kernel) (by decide +kernel)
  have v1 : Nm X "_law_day_here" 1 .local := c.nm 1 .local rfl (by decide +kernel) (.inl rfl) (by decide +kernel) (by decide +kernel)
  have v2 : Nm X "_law_offers" 2 .local := c.nm 2 .local rfl (by decide +kernel) (.inl rfl) (by decide +kernel) (by decide +kernel)
  have v3 : Nm X "_law_wishes" 3 .local := c.nm 3 .local rfl (by decide +kernel) (.inl rfl) (by decide +kernel) (by decide +kernel)
  have b_isinstance : Bt X "isinstance" := c.bt (by decide +kernel) g0.b_isinstance
  have b_tuple : Bt X "tuple" := c.bt (by decide +kernel) g0.b_tuple
  have b_len : Bt X "len" := c.bt (by decide +kernel) g0.b_len
  have b_int : Bt X "int" := c.bt (by decide +kernel) g0.b_int
  have b_bool : Bt X "bool" := c.bt (by decide +kernel) g0.b_bool
  classical
  obtain ⟨x, d, rfl, hx, hl, hr, hP⟩ := hS
  have hlen : d.1.length + d.2.length ≤ 1000 := by have := hl; unfold rows at this; rw [List.length_append] at this; exact this
  have no : ¬ IsJP d x → PL.Fin γ.length Po (.fz (.bool false)) γ := fun n => by
    rw [decide_eq_false n] at hP
    exact fin_same hγ hP
  cases hx with
  | lst h =>
    refine svs_if (k := true) (TV.is (tv_w (wv_or (tv_not (tv_val (ev_isi b_isinstance b_tuple (by decide +kernel) (ev_name v0.r rfl) (Rdb.fz _) (kit_tuple _)))) (k' := false) fun q => by cases q)) rfl) (fun _ => ?_) (fun q => by cases q)
    apply svs_retE
    exact EE.of ev_bl (no fun ⟨j, e, _⟩ => by cases e)
  | @tup ds h =>
    by_cases l4 : ds.length = 4
    · obtain ⟨a, b, s, hh, rfl⟩ : ∃ a b s hh, ds = [a, b, s, hh] := by
        match ds, l4 with
        | [x, y, z, h], _ => exact ⟨x, y, z, h, rfl⟩
      have pa := h a (by simp)
      have pb := h b (by simp)
      have ps := h s (by simp)
      have ph := h hh (by simp)
      refine svs_if (k := !([isS a, isS b, isS s].all id)) (TV.is (tv_w (wv_or (tv_not (tv_val (ev_isi b_isinstance b_tuple (by decide +kernel) (ev_name v0.r rfl) (Rdb.fz _) (kit_tuple _)))) fun _ => wv_or (tv_cmp (ev_lenT (ds := [a, b, s, hh]) b_len (ev_name v0.r rfl)) ev_int cmp_neI) fun _ => wv_or1 (tv_cmp ev_bl (ev_lcTM (w := 4) [a, b, s] (fun d => .bool (isS d)) hX (by rw [c.N, c.sc]; exact ⟨rfl, by decide +kernel, by decide +kernel, by decide +kernel, by decide +kernel⟩) (fun X' hB => ⟨hB.cok hX rfl, hB.own (by rw [c.N]; rfl) (by decide +kernel) (by decide +kernel) (by decide +kernel)⟩) (ev_slT (ds := [a, b, s, hh]) (ev_name v0.r rfl) ov_none (ov_some ev_int) (by simp; decide)) (by simp) (fun d hd acc X' hB => ?_)) (cmp_inD (ds := [isS a, isS b, isS s].map .bool) hX (Rdb.fz _) (Rdb.fz _) (shp_bool _).shaped (shp_bools _).shaped)))) (by rw [falseIn]; rfl)) (fun q => ?_) (fun q => ?_)
      ·
        have hX_X' := hB.cok hX rfl
        have w4_X' : Nm X' "_law_one" 4 .local := hB.own (by rw [c.N]; rfl) (by decide +kernel) (by decide +kernel) (by decide +kernel)
        have b_isinstance_X' : Bt X' "isinstance" := hB.bt (c.mg ▸ g0.b_isinstance) (by decide +kernel)
        have b_str_X' : Bt X' "str" := hB.bt (c.mg ▸ g0.b_str) (by decide +kernel)
        exact ev_isi b_isinstance_X' b_str_X' (by decide +kernel) (ev_name w4_X'.r rfl) (Rdb.fz _) (kit_str _)
      · apply svs_retE
        refine EE.of ev_bl (no ?_)
        rintro ⟨j, e, _⟩
        cases e
        cases q
      · rw [Bool.not_eq_false'] at q
        simp at q
        obtain ⟨q1, q2, q3⟩ := q
        have str_of : ∀ {d : PyData}, Part d → isS d = true → ∃ z, d = .str z ∧ Lows z := fun {d} p e => by
          cases p with
          | str h l => exact ⟨_, rfl, h⟩
          | _ => cases e
        obtain ⟨za, rfl, la⟩ := str_of pa q1
        obtain ⟨zb, rfl, lb⟩ := str_of pb q2
        obtain ⟨zs, rfl, ls⟩ := str_of ps q3
        refine svs_nil ?_
        by_cases hi : ∃ i : Int, hh = .int i ∧ 1 ≤ i
        · obtain ⟨i, rfl, h1⟩ := hi
          refine svs_if (k := false) (TV.is (tv_w (wv_or (tv_not (tv_val (ev_isi b_isinstance b_int (by decide +kernel) (ev_ixT (ds := [.str za, .str zb, .str zs, .int i]) (ev_name v0.r rfl) ev_int ix_3) (Rdb.fz _) (kit_int _)))) fun _ => wv_or (tv_val (ev_isi b_isinstance b_bool (by decide +kernel) (ev_ixT (ds := [.str za, .str zb, .str zs, .int i]) (ev_name v0.r rfl) ev_int ix_3) (Rdb.fz _) (kit_bool _))) fun _ => wv_or1 (tv_cmp (ev_ixT (ds := [.str za, .str zb, .str zs, .int i]) (ev_name v0.r rfl) ev_int ix_3) ev_int cmp_lt))) (by simp [isI, isB]; omega)) (fun q => by cases q) (fun _ => svs_nil ?_)
          refine svs_asg (r := .fz (.list [.list ((prs d.1).map dPr), .list ((prs d.2).map dPr)])) (γ1 := γ) (EV.is (ev_lcTM (w := 5) [.list (d.1.map dRw), .list (d.2.map dRw)] cutRows hX (by rw [c.N, c.sc]; exact ⟨rfl, by decide +kernel, by decide +kernel, by decide +kernel, by decide +kernel⟩) (fun X' hB => ⟨hB.cok hX rfl, hB.own (by rw [c.N]; rfl) (by decide +kernel) (by decide +kernel) (by decide +kernel)⟩) (ev_name v1.r rfl) (by simp) (fun D hD acc X' hB => ?_)) (by rw [← cutRows_is, ← cutRows_is]; rfl)) (gv_lst (ds := [.list ((prs d.1).map dPr), .list ((prs d.2).map dPr)]) hX (Rdb.fz _) (gvs_cons (gv_name hX v2) (gvs_cons (gv_name hX v3) gvs_nil)) rfl) ?_
          · obtain ⟨R, rfl, hR⟩ : ∃ R : List Rw, D = .list (R.map dRw) ∧ R.length ≤ 1000 := by
              simp at hD
              rcases hD with rfl | rfl
              · exact ⟨_, rfl, by omega⟩
              · exact ⟨_, rfl, by omega⟩
            have hX_X' := hB.cok hX rfl
            have w5_X' : Nm X' "_law_rows" 5 .local := hB.own (by rw [c.N]; rfl) (by decide +kernel) (by decide +kernel) (by decide +kernel)
            rw [cutRows_is]
            refine EV.is (ev_lcM (w := 4) dRw R (fun a => dPr (a.1, a.2.1)) hX_X' (by rw [hB.nN, c.N]; exact BlkOk.closed rfl (by decide +kernel) (by decide +kernel) (by decide +kernel) (by decide +kernel)) (fun X2 hB2 => ⟨hB2.cok hX_X' rfl, hB2.own (by rw [hB.nN, c.N]; rfl) (by decide +kernel) (by decide +kernel) (by decide +kernel)⟩) (ev_name w5_X'.r rfl) (Rdb.fz _) (by omega) (fun a ha acc2 X2 hB2 => ?_)) (by unfold prs; rw [List.map_map]; rfl)
            have hX2 := hB2.cok hX_X' rfl
            have w4 : Nm X2 "_law_one" 4 .local := hB2.own (by rw [hB.nN, c.N]; rfl) (by decide +kernel) (by decide +kernel) (by decide +kernel)
            exact ev_slT (ds := [.str a.1, .str a.2.1, .int a.2.2]) (ev_name w4.r rfl) ov_none (ov_some ev_int) (by simp; decide)
          apply svs_retE
          have fin : (decide (IsJP d (.tuple [.str za, .str zb, .str zs, .int i]))) = (decide ((za, zs) ∈ prs d.1) && decide ((zb, zs) ∈ prs d.2)) := by
            rw [Bool.eq_iff_iff, Bool.and_eq_true, decide_eq_true_iff, decide_eq_true_iff, decide_eq_true_iff]
            constructor
            · rintro ⟨j, e, hj⟩
              obtain ⟨j1, j2, j3, j4⟩ := j
              cases e
              exact ⟨hj.o, hj.w⟩
            · rintro ⟨h1', h2'⟩
              exact ⟨(za, zb, zs, i), rfl, ⟨h1, h1', h2'⟩⟩
          rw [fin] at hP
          refine EE.of (EV.is (ev_and (ev_cmp (ev_tup (ds := [.str za, .str zs]) (av_consF (ev_ixT (ds := [.str za, .str zb, .str zs, .int i]) (ev_name v0.r rfl) ev_int ix_0) (av_consF (ev_ixT (ds := [.str za, .str zb, .str zs, .int i]) (ev_name v0.r rfl) ev_int ix_2) av_nilF))) (ev_name v2.r rfl) (cmp_inD (d := dPr (za, zs)) hX (Rdb.fz _) (Rdb.fz _) (shp_pr la ls).shaped (shp_prs fun a ha => hr a (List.mem_append_left _ ha)).shaped)) fun _ => ev_one (ev_cmp (ev_tup (ds := [.str zb, .str zs]) (av_consF (ev_ixT (ds := [.str za, .str zb, .str zs, .int i]) (ev_name v0.r rfl) ev_int ix_1) (av_consF (ev_ixT (ds := [.str za, .str zb, .str zs, .int i]) (ev_name v0.r rfl) ev_int ix_2) av_nilF))) (ev_name v3.r rfl) (cmp_inD (d := dPr (zb, zs)) hX (Rdb.fz _) (Rdb.fz _) (shp_pr lb ls).shaped (shp_prs fun a ha => hr a (List.mem_append_right _ ha)).shaped))) (d' := .bool (decide ((za, zs) ∈ prs d.1) && decide ((zb, zs) ∈ prs d.2))) ?_) (fin_same hγ hP)
          rw [in_prs, in_prs]
          by_cases z : (za, zs) ∈ prs d.1 <;> simp [z]
        · refine svs_if (k := true) (TV.is (tv_w (wv_or (tv_not (tv_val (ev_isi b_isinstance b_int (by decide +kernel) (ev_ixT (ds := [.str za, .str zb, .str zs, hh]) (ev_name v0.r rfl) ev_int ix_3) (Rdb.fz _) (kit_int _)))) (k' := true) fun q1 => ?_)) (by simp)) (fun _ => ?_) (fun q => by cases q)
          · cases ph with
            | int i => exact WV.is' (wv_or (tv_val (ev_isi b_isinstance b_bool (by decide +kernel) (ev_ixT (ds := [.str za, .str zb, .str zs, .int i]) (ev_name v0.r rfl) ev_int ix_3) (Rdb.fz _) (kit_bool _))) fun _ => wv_or1 (tv_cmp (ev_ixT (ds := [.str za, .str zb, .str zs, .int i]) (ev_name v0.r rfl) ev_int ix_3) ev_int cmp_lt)) (by simp [isB]; exact Int.not_le.mp fun z => hi ⟨i, rfl, z⟩)
            | bl b => exact WV.is' (wv_or (tv_val (ev_isi b_isinstance b_bool (by decide +kernel) (ev_ixT (ds := [.str za, .str zb, .str zs, .bool b]) (ev_name v0.r rfl) ev_int ix_3) (Rdb.fz _) (kit_bool _))) (k' := false) fun q => by cases q) rfl
            | non => cases q1
            | str h l => cases q1
          · apply svs_retE
            refine EE.of ev_bl (no ?_)
            rintro ⟨j, e, hj⟩
            obtain ⟨j1, j2, j3, j4⟩ := j
            cases e
            exact hi ⟨j4, rfl, hj.h0⟩
    · refine svs_if (k := true) (TV.is (tv_w (wv_or (tv_not (tv_val (ev_isi b_isinstance b_tuple (by decide +kernel) (ev_name v0.r rfl) (Rdb.fz _) (kit_tuple _)))) fun _ => wv_or (k' := true) (tv_cmp (ev_lenT (ds := ds) b_len (ev_name v0.r rfl)) ev_int cmp_neI) fun q => ?_)) (by simp)) (fun _ => ?_) (fun q => by cases q)
      · simp at q
        exact absurd (by omega) l4
      · apply svs_retE
        refine EE.of ev_bl (no ?_)
        rintro ⟨j, e, hj⟩
        cases e
        exact l4 rfl
theorem ok_is_job {P : Program} {w : World} {K : PySem.W.Frag} {mg : Str → Option Value} {base : Heap} (g0 : G0 mg)
    {f : Addr} {fd : FuncData} (F : Fun K "_law_is_job" "_law_is_job" s_is_job f fd) (hm : mg "_law_is_job" = some (.ref f)) : FnD P w K mg base "_law_is_job" 1 S_is_job :=
  def_ok F sc_is_job hm (F.binds (ps := ["_law_job", "_law_day_here"]) fun _ _ _ _ _ _ us hl => match us, hl with | [_, _], _ => rfl) (fun args γ P h => len_is_job h)
    fun X c args γ Po hγ hS => body_is_job g0  c hγ hS
end KK

namespace KK
open PySem PySem.Spec PyProof.Rows L2 PL
local macro_rules | `(tactic| tm_at "nm") => `(tactic| with_reducible first | assumption | exact Nm.r (by assumption))
local macro_rules | `(tactic| tm_at "bt") => `(tactic| with_reducible assumption)
local macro_rules | `(tactic| tm_at "asm") => `(tactic| assumption)
local macro_rules | `(tactic| tm_at "auto") => `(tactic| first | rfl | exact fun _ _ => rfl | (intro _; rfl) | decide | exact nomark _ | (with_unfolding_all rfl))
local macro_rules | `(tactic| tm_at "boot") => `(tactic| decide +kernel)
local macro_rules | `(tactic| tm_at "kit") => `(tactic| first | exact kit_int _ | exact kit_bool _ | exact kit_str _ | exact kit_list _ | exact kit_tuple _ | exact kit_dict _)
local macro_rules | `(tactic| tm_at "side") => `(tactic| first | assumption | decide | omega | (simp only [List.length_map, List.length_cons, List.length_nil, List.length_append]; omega) | (simp; done))
local macro_rules | `(tactic| tm_at "pos") => `(tactic| first | decide | assumption | exact Int.pow_pos (by decide) | omega)
local macro_rules | `(tactic| tm_at "mul") => `(tactic| first | assumption | (exact small_mul 200 200 (by omega) (by omega)))
local macro_rules | `(tactic| tm_at "div") => `(tactic| first | assumption | (exact wide_div (b := 200) (by omega) (by omega) (by decide) (by decide)))
local macro_rules | `(tactic| tm_at "pow") => `(tactic| (refine ⟨?_, ?_, ?_⟩ <;> decide))
local macro_rules | `(tactic| tm_at "rd") => `(tactic| first | exact Rdb.fz _ | exact Rdb.cl (by assumption) | exact Rdb.cl rfl)
local macro_rules | `(tactic| tm_at "rdl") => `(tactic| first | exact .inr rfl | exact .inl (by tm_at "rd"))
local macro_rules | `(tactic| tm_at "ix") => `(tactic| first | assumption | exact ix_0 | exact ix_1 | exact ix_2 | exact ix_3 | exact ix_4 | rfl)
local macro_rules | `(tactic| tm_at "cmp") => `(tactic| first | exact cmp_lt | exact cmp_le | exact cmp_gt | exact cmp_ge | exact cmp_eqI | exact cmp_neI | exact cmp_eqS | exact cmp_neS | exact cmp_leS | exact cmp_ltS | exact cmp_inSign | exact cmp_notInSign | exact cmp_isB | exact cmp_notB | exact cmp_isN | exact cmp_notN | exact cmp_eqB | exact cmp_neB)
local macro_rules | `(tactic| tm_at "intro") => `(tactic| (intro _; tm_at "e"))
local macro_rules | `(tactic| tm_at "introe") => `(tactic| (intro _; tm_at "e"))
local macro_rules | `(tactic| tm_at "introw") => `(tactic| (intro _; tm_at "w"))
local macro_rules | `(tactic| tm_at "a") => `(tactic| first
  | exact av_nil
  | (apply av_cons; (focus tm_at "e"); (focus tm_at "a"); (focus tm_at "auto")))
local macro_rules | `(tactic| tm_at "alli") => `(tactic| (repeat (first | exact all_nil | (refine all_cons ⟨_, rfl, ?_, ?_⟩ ?_; (focus omega); (focus omega)))))
local macro_rules | `(tactic| tm_at "afz") => `(tactic| first
  | exact av_nilF
  | (apply av_consF; (focus tm_at "e"); (focus tm_at "afz"); (focus tm_at "auto")))
local macro_rules | `(tactic| tm_at "o") => `(tactic| first
  | exact ov_none
  | (apply ov_some; (focus tm_at "e")))
local macro_rules | `(tactic| tm_at "e") => `(tactic| ((with_reducible show EV _ _ _ (Expr.Tuple _ _ _) _ _); first | (apply ev_tup; (focus tm_at "afz"); (focus tm_at "side"))))
local macro_rules | `(tactic| tm_at "e") => `(tactic| ((with_reducible show EV _ _ _ (Expr.List _ _) _ _); first | (apply ev_lst; (focus tm_at "afz"); (focus tm_at "side"))))
local macro_rules | `(tactic| tm_at "e") => `(tactic| ((with_reducible show EV _ _ _ (Expr.Call (Expr.Attribute _ _ _) _ _ _) _ _); first | (apply ev_join; (focus tm_at "e"); (focus tm_at "e"); (focus tm_at "rd"); (focus tm_at "side"); (focus tm_at "auto"); (focus tm_at "auto"); (focus tm_at "auto"))))
local macro_rules | `(tactic| tm_at "e") => `(tactic| ((with_reducible show EV _ _ _ (Expr.Call (Expr.Name _ _) _ _ _) _ _); first | (apply ev_lenL; (focus tm_at "bt"); (focus tm_at "e"); (focus tm_at "rd"); (focus tm_at "auto")) | (apply ev_lenC; (focus tm_at "bt"); (focus tm_at "e"); (focus tm_at "ix"); (focus tm_at "auto")) | (apply ev_lenT; (focus tm_at "bt"); (focus tm_at "e"); (focus tm_at "auto")) | (apply ev_lenS; (focus tm_at "bt"); (focus tm_at "e"); (focus tm_at "side"); (focus tm_at "auto")) | (apply ev_max2; (focus tm_at "asm"); (focus tm_at "bt"); (focus tm_at "e"); (focus tm_at "e"); (focus tm_at "auto"); (focus tm_at "auto"); (focus tm_at "auto")) | (apply ev_min2; (focus tm_at "asm"); (focus tm_at "bt"); (focus tm_at "e"); (focus tm_at "e"); (focus tm_at "auto"); (focus tm_at "auto"); (focus tm_at "auto")) | (apply ev_intB; (focus tm_at "bt"); (focus tm_at "e"); (focus tm_at "auto")) | (apply ev_intI; (focus tm_at "bt"); (focus tm_at "e"); (focus tm_at "auto")) | (apply ev_abs; (focus tm_at "bt"); (focus tm_at "e"); (focus tm_at "auto")) | (apply ev_sum; (focus tm_at "asm"); (focus tm_at "bt"); (focus tm_at "e"); (focus tm_at "rd"); (focus tm_at "auto")) | (apply ev_listF; (focus tm_at "bt"); (focus tm_at "e"); (focus tm_at "rdl"); (focus tm_at "auto")) | (apply ev_sorted; (focus tm_at "bt"); (focus tm_at "e"); (focus tm_at "rd"); (focus tm_at "auto")) | (apply ev_isi; (focus tm_at "bt"); (focus tm_at "bt"); (focus tm_at "boot"); (focus tm_at "e"); (focus tm_at "rd"); (focus tm_at "kit"); (focus tm_at "auto"); (focus tm_at "auto"); (focus tm_at "auto"); (focus tm_at "auto"); (focus tm_at "auto"))))
local macro_rules | `(tactic| tm_at "e") => `(tactic| ((with_reducible show EV _ _ _ (Expr.BoolOp BoolOp.Or _ _) _ _); first | (apply ev_or; (focus tm_at "e"); (focus tm_at "introe"))))
local macro_rules | `(tactic| tm_at "e") => `(tactic| ((with_reducible show EV _ _ _ (Expr.BoolOp BoolOp.And _ _) _ _); first | (apply ev_and; (focus tm_at "e"); (focus tm_at "introe"))))
local macro_rules | `(tactic| tm_at "e") => `(tactic| ((with_reducible show EV _ _ _ (Expr.BoolOp _ [_] _) _ _); first | (apply ev_one; (focus tm_at "e"))))
local macro_rules | `(tactic| tm_at "e") => `(tactic| ((with_reducible show EV _ _ _ (Expr.IfExp _ _ _ _) _ _); first | (apply ev_ifx; (focus tm_at "t"); (focus tm_at "intro"); (focus tm_at "intro"))))
local macro_rules | `(tactic| tm_at "e") => `(tactic| ((with_reducible show EV _ _ _ (Expr.Compare _ [_, _] [_, _] _) _ _); first | (apply ev_chain2; (focus tm_at "e"); (focus tm_at "e"); (focus tm_at "cmp"); (focus tm_at "e"); (focus tm_at "cmp"); (focus tm_at "auto"))))
local macro_rules | `(tactic| tm_at "e") => `(tactic| ((with_reducible show EV _ _ _ (Expr.Compare _ [_] [_] _) _ _); first | (apply ev_cmp; (focus tm_at "e"); (focus tm_at "e"); (focus tm_at "cmp"); (focus tm_at "auto"))))
local macro_rules | `(tactic| tm_at "e") => `(tactic| ((with_reducible show EV _ _ _ (Expr.UnaryOp UnaryOp.Not _ _) _ _); first | (apply ev_not; (focus tm_at "e"))))
local macro_rules | `(tactic| tm_at "e") => `(tactic| ((with_reducible show EV _ _ _ (Expr.UnaryOp UnaryOp.USub _ _) _ _); first | (apply ev_neg; (focus tm_at "e"))))
local macro_rules | `(tactic| tm_at "e") => `(tactic| ((with_reducible show EV _ _ _ (Expr.Subscript _ _ _) _ _); first | (apply ev_ixL; (focus tm_at "e"); (focus tm_at "e"); (focus tm_at "rd"); (focus tm_at "ix"); (focus tm_at "auto")) | (apply ev_ixT; (focus tm_at "e"); (focus tm_at "e"); (focus tm_at "ix"); (focus tm_at "auto")) | (apply ev_ixC; (focus tm_at "e"); (focus tm_at "e"); (focus tm_at "ix"); (focus tm_at "ix"); (focus tm_at "auto")) | (apply ev_ixP; (focus tm_at "e"); (focus tm_at "e"); (focus tm_at "ix"); (focus tm_at "auto")) | (apply ev_ixS; (focus tm_at "e"); (focus tm_at "e"); (focus tm_at "side"); (focus tm_at "asm"); (focus tm_at "auto"))))
local macro_rules | `(tactic| tm_at "e") => `(tactic| ((with_reducible show EV _ _ _ (Expr.Subscript _ (Expr.Slice _ _ _ _) _) _ _); first | (apply ev_slL; (focus tm_at "e"); (focus tm_at "o"); (focus tm_at "o"); (focus tm_at "rd")) | (apply ev_slT; (focus tm_at "e"); (focus tm_at "o"); (focus tm_at "o"); (focus tm_at "side")) | (apply ev_slS; (focus tm_at "e"); (focus tm_at "o"); (focus tm_at "o"); (focus tm_at "side"))))
local macro_rules | `(tactic| tm_at "e") => `(tactic| ((with_reducible show EV _ _ _ (Expr.BinOp _ Operator.Pow _ _) _ _); first | (apply ev_pow; (focus tm_at "e"); (focus tm_at "e"); (focus tm_at "pow"))))
local macro_rules | `(tactic| tm_at "e") => `(tactic| ((with_reducible show EV _ _ _ (Expr.BinOp _ Operator.FloorDiv _ _) _ _); first | (apply ev_div; (focus tm_at "e"); (focus tm_at "e"); (focus tm_at "div"))))
local macro_rules | `(tactic| tm_at "e") => `(tactic| ((with_reducible show EV _ _ _ (Expr.BinOp _ Operator.Mod _ _) _ _); first | (apply ev_mod; (focus tm_at "e"); (focus tm_at "e"); (focus tm_at "pos"))))
local macro_rules | `(tactic| tm_at "e") => `(tactic| ((with_reducible show EV _ _ _ (Expr.BinOp _ Operator.Mult _ _) _ _); first | (apply ev_mul; (focus tm_at "e"); (focus tm_at "e"); (focus tm_at "mul")) | (apply ev_repF; (focus tm_at "afz"); (focus tm_at "e"); (focus tm_at "side"); (focus tm_at "side"); (focus tm_at "side"))))
local macro_rules | `(tactic| tm_at "e") => `(tactic| ((with_reducible show EV _ _ _ (Expr.BinOp _ Operator.Sub _ _) _ _); first | (apply ev_sub; (focus tm_at "e"); (focus tm_at "e"))))
local macro_rules | `(tactic| tm_at "e") => `(tactic| ((with_reducible show EV _ _ _ (Expr.BinOp _ Operator.Add _ _) _ _); first | (apply ev_add; (focus tm_at "e"); (focus tm_at "e")) | (apply ev_catF; (focus tm_at "e"); (focus tm_at "e"); (focus tm_at "rd"); (focus tm_at "rd"); (focus tm_at "side")) | (apply ev_addS; (focus tm_at "e"); (focus tm_at "e"); (focus tm_at "side")) | (apply ev_catT; (focus tm_at "e"); (focus tm_at "e"); (focus tm_at "side"))))
local macro_rules | `(tactic| tm_at "e") => `(tactic| ((with_reducible show EV _ _ _ (Expr.Name _ _) _ _); first | (apply ev_name; (focus tm_at "nm"); (focus rfl))))
local macro_rules | `(tactic| tm_at "e") => `(tactic| ((with_reducible show EV _ _ _ (Expr.Constant _ _ _) _ _); first | exact ev_int | exact ev_bl | exact ev_str | exact ev_non))
local macro_rules | `(tactic| tm_at "t") => `(tactic| ((with_reducible show TV _ _ _ _ _ _); first | (apply tv_val; (focus tm_at "e"); (focus tm_at "auto")) | (apply tv_truthL; (focus tm_at "e"); (focus tm_at "rd"); (focus tm_at "auto")) | (apply tv_truthI; (focus tm_at "e"); (focus tm_at "auto"))))
local macro_rules | `(tactic| tm_at "t") => `(tactic| ((with_reducible show TV _ _ _ (Expr.BoolOp _ _ _) _ _); first | (apply tv_w; (focus tm_at "w"))))
local macro_rules | `(tactic| tm_at "t") => `(tactic| ((with_reducible show TV _ _ _ (Expr.UnaryOp UnaryOp.Not _ _) _ _); first | (apply tv_not; (focus tm_at "t"))))
local macro_rules | `(tactic| tm_at "t") => `(tactic| ((with_reducible show TV _ _ _ (Expr.Compare _ [_, _] [_, _] _) _ _); first | (apply tv_chain2; (focus tm_at "e"); (focus tm_at "e"); (focus tm_at "cmp"); (focus tm_at "e"); (focus tm_at "cmp"); (focus tm_at "auto"))))
local macro_rules | `(tactic| tm_at "t") => `(tactic| ((with_reducible show TV _ _ _ (Expr.Compare _ [_] [_] _) _ _); first | (apply tv_cmp; (focus tm_at "e"); (focus tm_at "e"); (focus tm_at "cmp"); (focus tm_at "auto"))))
local macro_rules | `(tactic| tm_at "w") => `(tactic| ((with_reducible show WV _ _ _ (Expr.BoolOp BoolOp.Or _ _) _ _); first | (apply wv_or; (focus tm_at "t"); (focus tm_at "introw"))))
local macro_rules | `(tactic| tm_at "w") => `(tactic| ((with_reducible show WV _ _ _ (Expr.BoolOp BoolOp.And _ _) _ _); first | (apply wv_and; (focus tm_at "t"); (focus tm_at "introw"))))
local macro_rules | `(tactic| tm_at "w") => `(tactic| ((with_reducible show WV _ _ _ (Expr.BoolOp BoolOp.Or [_] _) _ _); first | (apply wv_or1; (focus tm_at "t"))))
local macro_rules | `(tactic| tm_at "w") => `(tactic| ((with_reducible show WV _ _ _ (Expr.BoolOp BoolOp.And [_] _) _ _); first | (apply wv_and1; (focus tm_at "t"))))
local macro_rules | `(tactic| tm_at "ee") => `(tactic| first
  | (apply EE.of; (focus tm_at "e"); try (tm_at "ee"))
  | (refine ee_call' (by assumption) ?_; apply AE.of; (focus tm_at "a"))
  | (with_reducible refine ee_mod ?_; tm_at "ee")
  | (with_reducible refine ee_add ?_; tm_at "ee")
  | (with_reducible refine ee_sub ?_; tm_at "ee")
  | (with_reducible refine ee_mul ?_; tm_at "ee")
  | (with_reducible refine ee_div ?_; tm_at "ee")
  | (with_reducible refine ee_ixL ?_; tm_at "ee")
  | (refine ⟨_, rfl, ?_⟩; tm_at "ee"))

/-! ### the law's own adding -/
theorem filter_sum {α : Type} (p : α → Bool) (f : α → Int) : ∀ L : List α, ((L.filter p).map f).sum = (L.map fun a => if p a = true then f a else 0).sum
  | [] => rfl
  | a :: L => by
    have ih := filter_sum p f L
    by_cases h : p a = true
    · rw [List.filter_cons_of_pos h, List.map_cons, List.sum_cons, List.map_cons, List.sum_cons, if_pos h, ih]
    · rw [List.filter_cons_of_neg h, List.map_cons, List.sum_cons, if_neg h, ih]
      omega
theorem nodup_keys (js : List Jb) : (keysM (fun i => (js.map k3).getD i []) (js.map k3).length).length = (js.map k3).length ↔ (js.map k3).Nodup := by
  rw [keysM_all]
  constructor
  · intro h
    rw [List.Nodup, List.pairwise_iff_getElem]
    intro i j hi hj ij e
    refine h i j ij hj ?_
    rw [List.getD_eq_getElem?_getD, List.getD_eq_getElem?_getD, List.getElem?_eq_getElem hi, List.getElem?_eq_getElem hj]
    exact e
  · intro h i j ij hj
    exact nodup_get h [] ij hj
def Within (S R : List Rw) : Prop := ∀ a ∈ R, tot S (a.1, a.2.1) ≤ a.2.2
theorem all_jobs {d : Day} {ds : List PyData} (h : ∀ e ∈ ds, IsJP d e) : ∃ js : List Jb, ds = js.map dJb ∧ ∀ j ∈ js, IsJ d j := by
  induction ds with
  | nil => exact ⟨[], rfl, by simp⟩
  | cons e ds ih =>
    obtain ⟨j, rfl, hj⟩ := h e (by simp)
    obtain ⟨js, rfl, hjs⟩ := ih fun x hx => h x (by simp [hx])
    exact ⟨j :: js, rfl, fun x hx => by
      rcases List.mem_cons.mp hx with rfl | hx
      · exact hj
      · exact hjs x hx⟩
theorem exp_iff {t : List Nb} {d : Day} {js : List Jb} (hD : GoodD t d) (hj : ∀ j ∈ js, IsJ d j) : ExP t d (.list (js.map dJb)) ↔ (js.map k3).Nodup ∧ Within (givR js) d.1 ∧ Within (takR js) d.2 ∧ PurOk t js := by
  constructor
  · rintro ⟨ks, e, h⟩
    cases dJb_inj (PyData.list.inj e)
    exact ⟨h.nd, h.giv.2, h.tak.2, h.pur⟩
  · rintro ⟨h1, h2, h3, h4⟩
    have E : ExL t d js := ⟨fun j hj' => (hj j hj').h0, h1, ⟨fun s hs => ?_, h2⟩, ⟨fun s hs => ?_, h3⟩, h4⟩
    · exact ⟨js, rfl, E.exch hD⟩
    · obtain ⟨j, hj', rfl⟩ := List.mem_map.mp hs
      exact (hj j hj').o
    · obtain ⟨j, hj', rfl⟩ := List.mem_map.mp hs
      exact (hj j hj').w
theorem exp_jobs {t : List Nb} {d : Day} {ds : List PyData} (h : ExP t d (.list ds)) : ∀ e ∈ ds, IsJP d e := fun e he => by
  obtain ⟨js, q, h⟩ := h
  cases q
  obtain ⟨j, hj, rfl⟩ := List.mem_map.mp he
  exact ⟨j, rfl, (h.ok j hj).h0, h.giv.1 _ (List.mem_map.mpr ⟨j, hj, rfl⟩), h.tak.1 _ (List.mem_map.mpr ⟨j, hj, rfl⟩)⟩
theorem giv_sum (js : List Jb) (a : Rw) : ((js.filter fun j => decide (j.1 = a.1) && decide (j.2.2.1 = a.2.1)).map fun j => j.2.2.2).sum = tot (givR js) (a.1, a.2.1) := by
  rw [filter_sum]
  unfold tot givR
  rw [List.map_map]
  refine congrArg List.sum (List.map_congr_left fun j _ => ?_)
  show _ = if (j.1, j.2.2.1) = (a.1, a.2.1) then j.2.2.2 else 0
  simp only [Bool.and_eq_true, decide_eq_true_eq, Prod.mk.injEq]
theorem tak_sum (js : List Jb) (a : Rw) : ((js.filter fun j => decide (j.2.1 = a.1) && decide (j.2.2.1 = a.2.1)).map fun j => j.2.2.2).sum = tot (takR js) (a.1, a.2.1) := by
  rw [filter_sum]
  unfold tot takR
  rw [List.map_map]
  refine congrArg List.sum (List.map_congr_left fun j _ => ?_)
  show _ = if (j.2.1, j.2.2.1) = (a.1, a.2.1) then j.2.2.2 else 0
  simp only [Bool.and_eq_true, decide_eq_true_eq, Prod.mk.injEq]
theorem sum_sub {α : Type} (f g : α → Int) : ∀ L : List α, (L.map fun a => f a - g a).sum = (L.map f).sum - (L.map g).sum
  | [] => rfl
  | a :: L => by
    have := sum_sub f g L
    simp only [List.map_cons, List.sum_cons]
    omega
theorem chg_sum (js : List Jb) (n : Str) : chg js n = ((js.filter fun j => decide (j.1 = n)).map fun j => j.2.2.2).sum - ((js.filter fun j => decide (j.2.1 = n)).map fun j => j.2.2.2).sum := by
  rw [filter_sum, filter_sum]
  unfold chg
  rw [sum_sub]
  simp only [decide_eq_true_eq]
  rfl
theorem part_of {α : Type} {L : List α} {i : Nat} {a : α} (h : L[i]? = some a) {p : α → Prop} (h1 : ∀ x ∈ L.take i, p x) (h2 : p a) : ∀ x ∈ L.take (i + 1), p x := fun x hx => by
  rw [List.take_add_one, h] at hx
  rcases List.mem_append.mp hx with q | q
  · exact h1 x q
  · simp at q
    exact q ▸ h2
def S_due : PSpec := fun args γ P => ∃ (t : List Nb) (d : Day) (x : PyData), args = [.fz (.list (t.map dNb)), .fz (dDay d), .fz x] ∧ Town t ∧ GoodD t d ∧ Mild x ∧ ∃ b : Bool, (b = true ↔ ExP t d x) ∧ P (.fz (.bool b)) γ
theorem len_due {args γ P} (h : S_due args γ P) : args.length = 3 := by obtain ⟨t, d, x, rfl, _⟩ := h; rfl
set_option maxHeartbeats 32000000 in
theorem body_due {P : Program} {w : World} {K : PySem.W.Frag} {mg : Str → Option Value} {base : Heap} (g0 : G0 mg)
    (D_is_job : FnD P w K mg base "_law_is_job" 1 S_is_job)
    {X : Cx} (c : Ctx X P w K mg base N_due (defScope s_due) 1) {args : List Itm} {γ : Cells} {Po : EPost} (hγ : Clo γ) (hS : S_due args γ Po) :
    SVs X (slots0 N_due args) γ (defBody s_due) { nx := fun _ g => PL.Fin γ.length Po (.fz .none) g, rt := PL.Fin γ.length Po } := by
  have hX := c.ok
  have hp := c.po
  have v0 : Nm X "_law_town_here" 0 .local := c.nm 0 .local rfl (by decide +kernel) (.inl rfl) (by decide +kernel) (by decide +kernel)
  have v1 : Nm X "_law_day_here" 1 .cell := c.nm 1 .cell rfl (by decide +kernel) (.inr rfl) (by decide +kernel) (by decide +kernel)
  have v2 : Nm X "_law_jobs_here" 2 .local := c.nm 2 .local rfl (by decide +kernel) (.inl rfl) (by decide +kernel) (by decide +kernel)
  have v3 : Nm X "_law_side" 3 .cell := c.nm 3 .cell rfl (by decide +kernel) (.inr rfl) (by decide +kernel) (by decide +kernel)
  have v4 : Nm X "_law_name_here" 4 .cell := c.nm 4 .cell rfl (by decide +kernel) (.inr rfl) (by decide +kernel) (by decide +kernel)
  have v5 : Nm X "_law_skill" 5 .cell := c.nm 5 .cell rfl (by decide +kernel) (.inr rfl) (by decide +kernel) (by decide +kernel)
  have v6 : Nm X "_law_hours" 6 .local := c.nm 6 .local rfl (by decide +kernel) (.inl rfl) (by decide +kernel) (by decide +kernel)
  have v7 : Nm X "_law_purse" 7 .local := c.nm 7 .local rfl (by decide +kernel) (.inl rfl) (by decide +kernel) (by decide +kernel)
  have v8 : Nm X "_law_low" 8 .local := c.nm 8 .local rfl (by decide +kernel) (.inl rfl) (by decide +kernel) (by decide +kernel)
  have v9 : Nm X "_law_high" 9 .local := c.nm 9 .local rfl (by decide +kernel) (.inl rfl) (by decide +kernel) (by decide +kernel)
  have v10 : Nm X "_law_given" 10 .local := c.nm 10 .local rfl (by decide +kernel) (.inl rfl) (by decide +kernel) (by decide +kernel)
  have v11 : Nm X "_law_taken" 11 .local := c.nm 11 .local rfl (by decide +kernel) (.inl rfl) (by decide +kernel) (by decide +kernel)
  have b_isinstance : Bt X "isinstance" := c.bt (by decide +kernel) g0.b_isinstance
  have b_list : Bt X "list" := c.bt (by decide +kernel) g0.b_list
  have b_len : Bt X "len" := c.bt (by decide +kernel) g0.b_len
  have b_set : Bt X "set" := c.bt (by decide +kernel) g0.b_set
  have b_range : Bt X "range" := c.bt (by decide +kernel) g0.b_range
  have b_sum : Bt X "sum" := c.bt (by decide +kernel) g0.b_sum
  classical
  obtain ⟨t, d, x, rfl, hT, hD, hx, b, hb, hP⟩ := hS
  have no : ¬ ExP t d x → PL.Fin γ.length Po (.fz (.bool false)) γ := fun n => by
    cases b with
    | false => exact fin_same hγ hP
    | true => exact absurd (hb.mp rfl) n
  have yes : ExP t d x → PL.Fin γ.length Po (.fz (.bool true)) γ := fun n => by
    cases hb.mpr n
    exact fin_same hγ hP
  have hlen : d.1.length + d.2.length ≤ 40 := by have := hD.len; unfold rows at this; rw [List.length_append] at this; exact this
  have ht := hT.len
  by_cases hl : isL x = true
  rotate_left
  · refine svs_if (k := true) (TV.is (tv_w (wv_or (tv_not (tv_val (ev_isi b_isinstance b_list (by decide +kernel) (ev_name v2.r rfl) (Rdb.fz _) (kit_list _)))) (k' := false) fun q => by rw [Bool.not_eq_false'] at q; exact absurd q hl)) (by simpa using hl)) (fun _ => ?_) (fun q => by cases q)
    apply svs_retE
    refine EE.of ev_bl (no fun ⟨js, e, _⟩ => hl ?_)
    subst e
    rfl
  obtain ⟨ds, rfl, ld, he⟩ : ∃ ds, x = .list ds ∧ ds.length ≤ 60 ∧ ∀ e ∈ ds, Elt e := by
    cases hx with
    | lst l h => exact ⟨_, rfl, l, h⟩
    | _ => cases hl
  refine svs_if (k := !(ds.map fun e => decide (IsJP d e)).all id) (TV.is (tv_w (wv_or (tv_not (tv_val (ev_isi b_isinstance b_list (by decide +kernel) (ev_name v2.r rfl) (Rdb.fz _) (kit_list _)))) fun _ => wv_or1 (tv_cmp ev_bl (ev_lcM (w := 12) id ds (fun e => .bool (decide (IsJP d e))) hX (by rw [c.N, c.sc]; exact ⟨rfl, by decide +kernel, by decide +kernel, by decide +kernel, by decide +kernel⟩) (fun X' hB => ⟨hB.cok hX rfl, hB.own (by rw [c.N]; rfl) (by decide +kernel) (by decide +kernel) (by decide +kernel)⟩) (ev_name v2.r rfl) (by rw [List.map_id]; exact Rdb.fz _) (by omega) (fun e hm acc X' hB => ?_)) (cmp_inD (ds := (ds.map fun e => decide (IsJP d e)).map .bool) hX (Rdb.fz _) (by rw [List.map_map]; exact Rdb.fz _) (shp_bool _).shaped (shp_bools _).shaped)))) (by rw [falseIn]; rfl)) (fun q => ?_) (fun q => ?_)
  ·
    have hX_X' := hB.cok hX rfl
    have w12_X' : Nm X' "_law_job" 12 .local := hB.own (by rw [c.N]; rfl) (by decide +kernel) (by decide +kernel) (by decide +kernel)
    have k_is_job_X' : Cal X' "_law_is_job" S_is_job := hB.calC c D_is_job (by decide) (by decide +kernel) (by decide +kernel)
    have w1_X' : Nr X' "_law_day_here" 1 .cell := hB.cap hX v1.r (by decide +kernel)
    exact ev_call k_is_job_X' (av_cons (ev_name w12_X'.r rfl) (av_cons (ev_name w1_X' rfl) av_nil)) ⟨e, d, rfl, he e hm, by have := hD.len; omega, hD.ok, rfl, rfl⟩
  · apply svs_retE
    refine EE.of ev_bl (no fun z => ?_)
    have := exp_jobs z
    rw [Bool.not_eq_true', List.all_eq_false] at q
    obtain ⟨y, hy, hn⟩ := q
    obtain ⟨e, hm, rfl⟩ := List.mem_map.mp hy
    exact hn (by simpa using this e hm)
  refine svs_nil ?_
  obtain ⟨js, rfl, hj⟩ := all_jobs (d := d) (ds := ds) fun e hm => by
    rw [Bool.not_eq_false', List.all_eq_true] at q
    simpa using q _ (List.mem_map.mpr ⟨e, hm, rfl⟩)
  have lj : js.length ≤ 60 := by simpa using ld
  rw [exp_iff hD hj] at hb no yes
  have ek : (js.map fun j => PyData.tuple [.str j.1, .str j.2.1, .str j.2.2.1]) = (js.map k3).map fun k => PyData.tuple (k.map kD) := by
    rw [List.map_map]
    rfl
  refine svs_if (tv_cmp (ev_lenSetM (ts := js.map k3) hX b_len b_set (ev_lcM (w := 12) dJb js (fun j => .tuple [.str j.1, .str j.2.1, .str j.2.2.1]) hX (by rw [c.N, c.sc]; exact ⟨rfl, by decide +kernel, by decide +kernel, by decide +kernel, by decide +kernel⟩) (fun X' hB => ⟨hB.cok hX rfl, hB.own (by rw [c.N]; rfl) (by decide +kernel) (by decide +kernel) (by decide +kernel)⟩) (ev_name v2.r rfl) (Rdb.fz _) (by omega) (fun j hm acc X' hB => ?_)) (by rw [ek]; exact Rdb.fz _) (by rw [List.length_map]; omega)) (ev_lenL (ds := js.map dJb) b_len (ev_name v2.r rfl) (Rdb.fz _)) cmp_lt) (fun q => ?_) (fun q => svs_nil ?_)
  ·
    have hX_X' := hB.cok hX rfl
    have w12_X' : Nm X' "_law_job" 12 .local := hB.own (by rw [c.N]; rfl) (by decide +kernel) (by decide +kernel) (by decide +kernel)
    exact ev_slT (ds := [.str j.1, .str j.2.1, .str j.2.2.1, .int j.2.2.2]) (ev_name w12_X'.r rfl) ov_none (ov_some ev_int) (by simp; decide)
  · apply svs_retE
    refine EE.of ev_bl (no fun ⟨z, _⟩ => ?_)
    have := (nodup_keys js).mpr z
    have q := of_decide_eq_true q
    simp only [List.length_map] at this q
    omega
  have hnd : (js.map k3).Nodup := (nodup_keys js).mp (by
    have q := of_decide_eq_false q
    have := keysM_len (fun i => (js.map k3).getD i []) (js.map k3).length
    simp only [List.length_map] at this q ⊢
    omega)
  -- both sides
  refine svs_for hX hp (itv_range1 (n := 2) b_range ev_int (by decide) (by decide))
    (fun i Γ' g => ∃ (s3 s4 s5 s6 : Option Itm), Γ' = [some (.fz (.list (t.map dNb))), some (.fz (dDay d)), some (.fz (.list (js.map dJb))), s3, s4, s5, s6, none, none, none, none, none, none] ∧ g = γ ∧ (1 ≤ i → Within (givR js) d.1) ∧ (2 ≤ i → Within (takR js) d.2))
    ⟨_, _, _, _, rfl, rfl, fun h => absurd h (by decide), fun h => absurd h (by decide)⟩ (fun _ _ _ _ _ => trivial) ?_ ?_
  · rintro i x Γ' g hx ⟨s3, s4, s5, s6, rfl, rfl, g1, g2⟩
    obtain ⟨hi, rfl⟩ := rngL_get hx
    have hi2 : i = 0 ∨ i = 1 := by omega
    rw [Int.zero_add]
    refine ⟨_, _, gv_name hX v3, ?_⟩
    obtain ⟨R, S, f, hR, hRS, hRl, hf, hfs⟩ : ∃ (R S : List Rw) (f : Jb → Str), atI [PyData.list (d.1.map dRw), .list (d.2.map dRw)] (i : Int) = some (.list (R.map dRw)) ∧ ((i = 0 ∧ R = d.1 ∧ S = givR js) ∨ (i = 1 ∧ R = d.2 ∧ S = takR js)) ∧ R.length ≤ 40 ∧ (∀ j : Jb, atI [PyData.str j.1, .str j.2.1, .str j.2.2.1, .int j.2.2.2] (i : Int) = some (.str (f j))) ∧ ∀ a : Rw, ((js.filter fun j => decide (f j = a.1) && decide (j.2.2.1 = a.2.1)).map fun j => j.2.2.2).sum = tot S (a.1, a.2.1) := by
      rcases hi2 with rfl | rfl
      · exact ⟨d.1, givR js, fun j => j.1, ix_0, .inl ⟨rfl, rfl, rfl⟩, by omega, fun j => ix_0, giv_sum js⟩
      · exact ⟨d.2, takR js, fun j => j.2.1, ix_1, .inr ⟨rfl, rfl, rfl⟩, by omega, fun j => ix_1, tak_sum js⟩
    refine svs_forL dRw R hX hp (ev_ixT (ds := [.list (d.1.map dRw), .list (d.2.map dRw)]) (ev_name v1.r rfl) (ev_name v3.r rfl) hR) (Rdb.fz _)
      (fun n Γ' g' => ∃ (s4 s5 s6 : Option Itm), Γ' = [some (.fz (.list (t.map dNb))), some (.fz (dDay d)), some (.fz (.list (js.map dJb))), some (.fz (.int (i : Int))), s4, s5, s6, none, none, none, none, none, none] ∧ g' = g ∧ ∀ a ∈ R.take n, tot S (a.1, a.2.1) ≤ a.2.2)
      ⟨_, _, _, rfl, rfl, by simp⟩ (fun _ _ _ _ _ => Rdb.fz _) ?_ ?_
    · rintro n a Γ' g hn ha ⟨s4, s5, s6, rfl, rfl, hw⟩
      refine ⟨_, _, gv_tup (ds := [.str a.1, .str a.2.1, .int a.2.2]) hX (gvs_cons (gv_name hX v4) (gvs_cons (gv_name hX v5) (gvs_cons (gv_name hX v6) gvs_nil))) rfl, ?_⟩
      refine svs_if (tv_cmp (ev_sum (ns := (js.filter fun j => decide (f j = a.1) && decide (j.2.2.1 = a.2.1)).map fun j => j.2.2.2) hX b_sum (ev_lcL (w := 12) dJb js (fun j => decide (f j = a.1) && decide (j.2.2.1 = a.2.1)) (fun j => .int j.2.2.2) hX (by rw [c.N, c.sc]; exact ⟨rfl, by decide +kernel, by decide +kernel, by decide +kernel, by decide +kernel⟩) (fun X' hB => ⟨hB.cok hX rfl, hB.own (by rw [c.N]; rfl) (by decide +kernel) (by decide +kernel) (by decide +kernel)⟩) (ev_name v2.r rfl) (Rdb.fz _) (by omega) (fun j hm acc X' hB => ?_)) (by rw [List.map_map]; exact Rdb.fz _)) (ev_name v6.r rfl) cmp_gt) (fun q => ?_) (fun q => svs_nil (svs_nil ⟨_, _, _, rfl, rfl, ?_⟩))
      ·
        have hX_X' := hB.cok hX rfl
        have w12_X' : Nm X' "_law_job" 12 .local := hB.own (by rw [c.N]; rfl) (by decide +kernel) (by decide +kernel) (by decide +kernel)
        have w4_X' : Nr X' "_law_name_here" 4 .cell := hB.cap hX v4.r (by decide +kernel)
        have w3_X' : Nr X' "_law_side" 3 .cell := hB.cap hX v3.r (by decide +kernel)
        have w5_X' : Nr X' "_law_skill" 5 .cell := hB.cap hX v5.r (by decide +kernel)
        exact ⟨tvs_one (tv_w (wv_and (tv_cmp (ev_ixT (ds := [.str j.1, .str j.2.1, .str j.2.2.1, .int j.2.2.2]) (ev_name w12_X'.r rfl) (ev_name w3_X' rfl) (hf j)) (ev_name w4_X' rfl) cmp_eqS) fun _ => wv_and1 (tv_cmp (ev_ixT (ds := [.str j.1, .str j.2.1, .str j.2.2.1, .int j.2.2.2]) (ev_name w12_X'.r rfl) ev_int ix_2) (ev_name w5_X' rfl) cmp_eqS))), fun _ => ev_ixT (ds := [.str j.1, .str j.2.1, .str j.2.2.1, .int j.2.2.2]) (ev_name w12_X'.r rfl) ev_int ix_3⟩
      · apply svs_retE
        refine EE.of ev_bl (no fun ⟨_, z1, z2, _⟩ => ?_)
        rw [hfs] at q
        have q := of_decide_eq_true q
        rcases hRS with ⟨_, rfl, rfl⟩ | ⟨_, rfl, rfl⟩
        · have := z1 a ha; omega
        · have := z2 a ha; omega
      · rw [hfs] at q
        have q := of_decide_eq_false q
        exact part_of hn hw (by omega)
    · rintro Γ' g ⟨s4, s5, s6, rfl, rfl, hw⟩
      rw [List.take_length] at hw
      refine svs_nil ⟨_, _, _, _, rfl, rfl, fun _ => ?_, fun h2 => ?_⟩
      · rcases hRS with ⟨_, rfl, rfl⟩ | ⟨h1, _, _⟩
        · exact hw
        · exact g1 (by omega)
      · rcases hRS with ⟨h1, _, _⟩ | ⟨_, rfl, rfl⟩
        · omega
        · exact hw
  rintro Γ' g ⟨s3, s4, s5, s6, rfl, rfl, g1, g2⟩
  rw [rngL_length] at g1 g2
  have g1 := g1 (by decide)
  have g2 := g2 (by decide)
  -- purses
  refine svs_forL dNb t hX hp (ev_name v0.r rfl) (Rdb.fz _)
    (fun n Γ' g' => ∃ (s3 s4 s5 s6 s7 s8 s9 s10 s11 : Option Itm), Γ' = [some (.fz (.list (t.map dNb))), some (.fz (dDay d)), some (.fz (.list (js.map dJb))), s3, s4, s5, s6, s7, s8, s9, s10, s11, none] ∧ g' = g ∧ ∀ a ∈ t.take n, a.2.2.1 ≤ a.2.1 + chg js a.1 ∧ a.2.1 + chg js a.1 ≤ a.2.2.2)
    ⟨_, _, _, _, _, _, _, _, _, rfl, rfl, by simp⟩ (fun _ _ _ _ _ => Rdb.fz _) ?_ ?_
  · rintro n a Γ' g hn ha ⟨s3, s4, s5, s6, s7, s8, s9, s10, s11, rfl, rfl, hw⟩
    refine ⟨_, _, gv_tup (ds := [.str a.1, .int a.2.1, .int a.2.2.1, .int a.2.2.2]) hX (gvs_cons (gv_name hX v4) (gvs_cons (gv_name hX v7) (gvs_cons (gv_name hX v8) (gvs_cons (gv_name hX v9) gvs_nil)))) rfl, ?_⟩
    refine svs_setE hX v10 (EE.of (ev_sum (ns := (js.filter fun j => decide (j.1 = a.1)).map fun j => j.2.2.2) hX b_sum (ev_lcL (w := 12) dJb js (fun j => decide (j.1 = a.1)) (fun j => .int j.2.2.2) hX (by rw [c.N, c.sc]; exact ⟨rfl, by decide +kernel, by decide +kernel, by decide +kernel, by decide +kernel⟩) (fun X' hB => ⟨hB.cok hX rfl, hB.own (by rw [c.N]; rfl) (by decide +kernel) (by decide +kernel) (by decide +kernel)⟩) (ev_name v2.r rfl) (Rdb.fz _) (by omega) (fun j hm acc X' hB => ?_)) (by rw [List.map_map]; exact Rdb.fz _)) ?_)
    ·
      have hX_X' := hB.cok hX rfl
      have w12_X' : Nm X' "_law_job" 12 .local := hB.own (by rw [c.N]; rfl) (by decide +kernel) (by decide +kernel) (by decide +kernel)
      have w4_X' : Nr X' "_law_name_here" 4 .cell := hB.cap hX v4.r (by decide +kernel)
      exact ⟨tvs_one (tv_cmp (ev_ixT (ds := [.str j.1, .str j.2.1, .str j.2.2.1, .int j.2.2.2]) (ev_name w12_X'.r rfl) ev_int ix_0) (ev_name w4_X' rfl) cmp_eqS), fun _ => ev_ixT (ds := [.str j.1, .str j.2.1, .str j.2.2.1, .int j.2.2.2]) (ev_name w12_X'.r rfl) ev_int ix_3⟩
    refine svs_setE hX v11 (EE.of (ev_sum (ns := (js.filter fun j => decide (j.2.1 = a.1)).map fun j => j.2.2.2) hX b_sum (ev_lcL (w := 12) dJb js (fun j => decide (j.2.1 = a.1)) (fun j => .int j.2.2.2) hX (by rw [c.N, c.sc]; exact ⟨rfl, by decide +kernel, by decide +kernel, by decide +kernel, by decide +kernel⟩) (fun X' hB => ⟨hB.cok hX rfl, hB.own (by rw [c.N]; rfl) (by decide +kernel) (by decide +kernel) (by decide +kernel)⟩) (ev_name v2.r rfl) (Rdb.fz _) (by omega) (fun j hm acc X' hB => ?_)) (by rw [List.map_map]; exact Rdb.fz _)) ?_)
    ·
      have hX_X' := hB.cok hX rfl
      have w12_X' : Nm X' "_law_job" 12 .local := hB.own (by rw [c.N]; rfl) (by decide +kernel) (by decide +kernel) (by decide +kernel)
      have w4_X' : Nr X' "_law_name_here" 4 .cell := hB.cap hX v4.r (by decide +kernel)
      exact ⟨tvs_one (tv_cmp (ev_ixT (ds := [.str j.1, .str j.2.1, .str j.2.2.1, .int j.2.2.2]) (ev_name w12_X'.r rfl) ev_int ix_1) (ev_name w4_X' rfl) cmp_eqS), fun _ => ev_ixT (ds := [.str j.1, .str j.2.1, .str j.2.2.1, .int j.2.2.2]) (ev_name w12_X'.r rfl) ev_int ix_3⟩
    have ec := chg_sum js a.1
    generalize ((js.filter fun j => decide (j.1 = a.1)).map fun j => j.2.2.2).sum = G at ec
    generalize ((js.filter fun j => decide (j.2.1 = a.1)).map fun j => j.2.2.2).sum = T at ec
    refine svs_if (tv_not (tv_chain2 (ev_name v8.r rfl) (ev_sub (ev_add (ev_name v7.r rfl) (ev_name v10.r rfl)) (ev_name v11.r rfl)) cmp_le (ev_name v9.r rfl) cmp_le)) (fun q => ?_) (fun q => svs_nil (svs_nil ⟨_, _, _, _, _, _, _, _, _, rfl, rfl, ?_⟩))
    · apply svs_retE
      refine EE.of ev_bl (no fun ⟨_, _, _, z⟩ => ?_)
      have := z a ha
      rw [ec] at this
      simp at q
      omega
    · simp at q
      exact part_of hn hw (by rw [ec]; omega)
  · rintro Γ' g ⟨s3, s4, s5, s6, s7, s8, s9, s10, s11, rfl, rfl, hw⟩
    rw [List.take_length] at hw
    apply svs_retE
    exact EE.of ev_bl (yes ⟨hnd, g1, g2, hw⟩)
theorem ok_due {P : Program} {w : World} {K : PySem.W.Frag} {mg : Str → Option Value} {base : Heap} (g0 : G0 mg)
    (D_is_job : FnD P w K mg base "_law_is_job" 1 S_is_job)
    {f : Addr} {fd : FuncData} (F : Fun K "_law_due" "_law_due" s_due f fd) (hm : mg "_law_due" = some (.ref f)) : FnD P w K mg base "_law_due" 2 S_due :=
  def_ok F sc_due hm (F.binds (ps := ["_law_town_here", "_law_day_here", "_law_jobs_here"]) fun _ _ _ _ _ _ us hl => match us, hl with | [_, _, _], _ => rfl) (fun args γ P h => len_due h)
    fun X c args γ Po hγ hS => body_due g0 D_is_job c hγ hS
end KK

namespace KK
open PySem PySem.Spec PyProof.Rows L2 PL
local macro_rules | `(tactic| tm_at "nm") => `(tactic| with_reducible first | assumption | exact Nm.r (by assumption))
local macro_rules | `(tactic| tm_at "bt") => `(tactic| with_reducible assumption)
local macro_rules | `(tactic| tm_at "asm") => `(tactic| assumption)
local macro_rules | `(tactic| tm_at "auto") => `(tactic| first | rfl | exact fun _ _ => rfl | (intro _; rfl) | decide | exact nomark _ | (with_unfolding_all rfl))
local macro_rules | `(tactic| tm_at "boot") => `(tactic| decide +kernel)
local macro_rules | `(tactic| tm_at "kit") => `(tactic| first | exact kit_int _ | exact kit_bool _ | exact kit_str _ | exact kit_list _ | exact kit_tuple _ | exact kit_dict _)
local macro_rules | `(tactic| tm_at "side") => `(tactic| first | assumption | decide | omega | (simp only [List.length_map, List.length_cons, List.length_nil, List.length_append]; omega) | (simp; done))
local macro_rules | `(tactic| tm_at "pos") => `(tactic| first | decide | assumption | exact Int.pow_pos (by decide) | omega)
local macro_rules | `(tactic| tm_at "mul") => `(tactic| first | assumption | (exact small_mul 200 200 (by omega) (by omega)))
local macro_rules | `(tactic| tm_at "div") => `(tactic| first | assumption | (exact wide_div (b := 200) (by omega) (by omega) (by decide) (by decide)))
local macro_rules | `(tactic| tm_at "pow") => `(tactic| (refine ⟨?_, ?_, ?_⟩ <;> decide))
local macro_rules | `(tactic| tm_at "rd") => `(tactic| first | exact Rdb.fz _ | exact Rdb.cl (by assumption) | exact Rdb.cl rfl)
local macro_rules | `(tactic| tm_at "rdl") => `(tactic| first | exact .inr rfl | exact .inl (by tm_at "rd"))
local macro_rules | `(tactic| tm_at "ix") => `(tactic| first | assumption | exact ix_0 | exact ix_1 | exact ix_2 | exact ix_3 | exact ix_4 | rfl)
local macro_rules | `(tactic| tm_at "cmp") => `(tactic| first | exact cmp_lt | exact cmp_le | exact cmp_gt | exact cmp_ge | exact cmp_eqI | exact cmp_neI | exact cmp_eqS | exact cmp_neS | exact cmp_leS | exact cmp_ltS | exact cmp_inSign | exact cmp_notInSign | exact cmp_isB | exact cmp_notB | exact cmp_isN | exact cmp_notN | exact cmp_eqB | exact cmp_neB)
local macro_rules | `(tactic| tm_at "intro") => `(tactic| (intro _; tm_at "e"))
local macro_rules | `(tactic| tm_at "introe") => `(tactic| (intro _; tm_at "e"))
local macro_rules | `(tactic| tm_at "introw") => `(tactic| (intro _; tm_at "w"))
local macro_rules | `(tactic| tm_at "a") => `(tactic| first
  | exact av_nil
  | (apply av_cons; (focus tm_at "e"); (focus tm_at "a"); (focus tm_at "auto")))
local macro_rules | `(tactic| tm_at "alli") => `(tactic| (repeat (first | exact all_nil | (refine all_cons ⟨_, rfl, ?_, ?_⟩ ?_; (focus omega); (focus omega)))))
local macro_rules | `(tactic| tm_at "afz") => `(tactic| first
  | exact av_nilF
  | (apply av_consF; (focus tm_at "e"); (focus tm_at "afz"); (focus tm_at "auto")))
local macro_rules | `(tactic| tm_at "o") => `(tactic| first
  | exact ov_none
  | (apply ov_some; (focus tm_at "e")))
local macro_rules | `(tactic| tm_at "e") => `(tactic| ((with_reducible show EV _ _ _ (Expr.Tuple _ _ _) _ _); first | (apply ev_tup; (focus tm_at "afz"); (focus tm_at "side"))))
local macro_rules | `(tactic| tm_at "e") => `(tactic| ((with_reducible show EV _ _ _ (Expr.List _ _) _ _); first | (apply ev_lst; (focus tm_at "afz"); (focus tm_at "side"))))
local macro_rules | `(tactic| tm_at "e") => `(tactic| ((with_reducible show EV _ _ _ (Expr.Call (Expr.Attribute _ _ _) _ _ _) _ _); first | (apply ev_join; (focus tm_at "e"); (focus tm_at "e"); (focus tm_at "rd"); (focus tm_at "side"); (focus tm_at "auto"); (focus tm_at "auto"); (focus tm_at "auto"))))
local macro_rules | `(tactic| tm_at "e") => `(tactic| ((with_reducible show EV _ _ _ (Expr.Call (Expr.Name _ _) _ _ _) _ _); first | (apply ev_lenL; (focus tm_at "bt"); (focus tm_at "e"); (focus tm_at "rd"); (focus tm_at "auto")) | (apply ev_lenC; (focus tm_at "bt"); (focus tm_at "e"); (focus tm_at "ix"); (focus tm_at "auto")) | (apply ev_lenT; (focus tm_at "bt"); (focus tm_at "e"); (focus tm_at "auto")) | (apply ev_lenS; (focus tm_at "bt"); (focus tm_at "e"); (focus tm_at "side"); (focus tm_at "auto")) | (apply ev_max2; (focus tm_at "asm"); (focus tm_at "bt"); (focus tm_at "e"); (focus tm_at "e"); (focus tm_at "auto"); (focus tm_at "auto"); (focus tm_at "auto")) | (apply ev_min2; (focus tm_at "asm"); (focus tm_at "bt"); (focus tm_at "e"); (focus tm_at "e"); (focus tm_at "auto"); (focus tm_at "auto"); (focus tm_at "auto")) | (apply ev_intB; (focus tm_at "bt"); (focus tm_at "e"); (focus tm_at "auto")) | (apply ev_intI; (focus tm_at "bt"); (focus tm_at "e"); (focus tm_at "auto")) | (apply ev_abs; (focus tm_at "bt"); (focus tm_at "e"); (focus tm_at "auto")) | (apply ev_sum; (focus tm_at "asm"); (focus tm_at "bt"); (focus tm_at "e"); (focus tm_at "rd"); (focus tm_at "auto")) | (apply ev_listF; (focus tm_at "bt"); (focus tm_at "e"); (focus tm_at "rdl"); (focus tm_at "auto")) | (apply ev_sorted; (focus tm_at "bt"); (focus tm_at "e"); (focus tm_at "rd"); (focus tm_at "auto")) | (apply ev_isi; (focus tm_at "bt"); (focus tm_at "bt"); (focus tm_at "boot"); (focus tm_at "e"); (focus tm_at "rd"); (focus tm_at "kit"); (focus tm_at "auto"); (focus tm_at "auto"); (focus tm_at "auto"); (focus tm_at "auto"); (focus tm_at "auto"))))
local macro_rules | `(tactic| tm_at "e") => `(tactic| ((with_reducible show EV _ _ _ (Expr.BoolOp BoolOp.Or _ _) _ _); first | (apply ev_or; (focus tm_at "e"); (focus tm_at "introe"))))
local macro_rules | `(tactic| tm_at "e") => `(tactic| ((with_reducible show EV _ _ _ (Expr.BoolOp BoolOp.And _ _) _ _); first | (apply ev_and; (focus tm_at "e"); (focus tm_at "introe"))))
local macro_rules | `(tactic| tm_at "e") => `(tactic| ((with_reducible show EV _ _ _ (Expr.BoolOp _ [_] _) _ _); first | (apply ev_one; (focus tm_at "e"))))
local macro_rules | `(tactic| tm_at "e") => `(tactic| ((with_reducible show EV _ _ _ (Expr.IfExp _ _ _ _) _ _); first | (apply ev_ifx; (focus tm_at "t"); (focus tm_at "intro"); (focus tm_at "intro"))))
local macro_rules | `(tactic| tm_at "e") => `(tactic| ((with_reducible show EV _ _ _ (Expr.Compare _ [_, _] [_, _] _) _ _); first | (apply ev_chain2; (focus tm_at "e"); (focus tm_at "e"); (focus tm_at "cmp"); (focus tm_at "e"); (focus tm_at "cmp"); (focus tm_at "auto"))))
local macro_rules | `(tactic| tm_at "e") => `(tactic| ((with_reducible show EV _ _ _ (Expr.Compare _ [_] [_] _) _ _); first | (apply ev_cmp; (focus tm_at "e"); (focus tm_at "e"); (focus tm_at "cmp"); (focus tm_at "auto"))))
local macro_rules | `(tactic| tm_at "e") => `(tactic| ((with_reducible show EV _ _ _ (Expr.UnaryOp UnaryOp.Not _ _) _ _); first | (apply ev_not; (focus tm_at "e"))))
local macro_rules | `(tactic| tm_at "e") => `(tactic| ((with_reducible show EV _ _ _ (Expr.UnaryOp UnaryOp.USub _ _) _ _); first | (apply ev_neg; (focus tm_at "e"))))
local macro_rules | `(tactic| tm_at "e") => `(tactic| ((with_reducible show EV _ _ _ (Expr.Subscript _ _ _) _ _); first | (apply ev_ixL; (focus tm_at "e"); (focus tm_at "e"); (focus tm_at "rd"); (focus tm_at "ix"); (focus tm_at "auto")) | (apply ev_ixT; (focus tm_at "e"); (focus tm_at "e"); (focus tm_at "ix"); (focus tm_at "auto")) | (apply ev_ixC; (focus tm_at "e"); (focus tm_at "e"); (focus tm_at "ix"); (focus tm_at "ix"); (focus tm_at "auto")) | (apply ev_ixP; (focus tm_at "e"); (focus tm_at "e"); (focus tm_at "ix"); (focus tm_at "auto")) | (apply ev_ixS; (focus tm_at "e"); (focus tm_at "e"); (focus tm_at "side"); (focus tm_at "asm"); (focus tm_at "auto"))))
local macro_rules | `(tactic| tm_at "e") => `(tactic| ((with_reducible show EV _ _ _ (Expr.Subscript _ (Expr.Slice _ _ _ _) _) _ _); first | (apply ev_slL; (focus tm_at "e"); (focus tm_at "o"); (focus tm_at "o"); (focus tm_at "rd")) | (apply ev_slT; (focus tm_at "e"); (focus tm_at "o"); (focus tm_at "o"); (focus tm_at "side")) | (apply ev_slS; (focus tm_at "e"); (focus tm_at "o"); (focus tm_at "o"); (focus tm_at "side"))))
local macro_rules | `(tactic| tm_at "e") => `(tactic| ((with_reducible show EV _ _ _ (Expr.BinOp _ Operator.Pow _ _) _ _); first | (apply ev_pow; (focus tm_at "e"); (focus tm_at "e"); (focus tm_at "pow"))))
local macro_rules | `(tactic| tm_at "e") => `(tactic| ((with_reducible show EV _ _ _ (Expr.BinOp _ Operator.FloorDiv _ _) _ _); first | (apply ev_div; (focus tm_at "e"); (focus tm_at "e"); (focus tm_at "div"))))
local macro_rules | `(tactic| tm_at "e") => `(tactic| ((with_reducible show EV _ _ _ (Expr.BinOp _ Operator.Mod _ _) _ _); first | (apply ev_mod; (focus tm_at "e"); (focus tm_at "e"); (focus tm_at "pos"))))
local macro_rules | `(tactic| tm_at "e") => `(tactic| ((with_reducible show EV _ _ _ (Expr.BinOp _ Operator.Mult _ _) _ _); first | (apply ev_mul; (focus tm_at "e"); (focus tm_at "e"); (focus tm_at "mul")) | (apply ev_repF; (focus tm_at "afz"); (focus tm_at "e"); (focus tm_at "side"); (focus tm_at "side"); (focus tm_at "side"))))
local macro_rules | `(tactic| tm_at "e") => `(tactic| ((with_reducible show EV _ _ _ (Expr.BinOp _ Operator.Sub _ _) _ _); first | (apply ev_sub; (focus tm_at "e"); (focus tm_at "e"))))
local macro_rules | `(tactic| tm_at "e") => `(tactic| ((with_reducible show EV _ _ _ (Expr.BinOp _ Operator.Add _ _) _ _); first | (apply ev_add; (focus tm_at "e"); (focus tm_at "e")) | (apply ev_catF; (focus tm_at "e"); (focus tm_at "e"); (focus tm_at "rd"); (focus tm_at "rd"); (focus tm_at "side")) | (apply ev_addS; (focus tm_at "e"); (focus tm_at "e"); (focus tm_at "side")) | (apply ev_catT; (focus tm_at "e"); (focus tm_at "e"); (focus tm_at "side"))))
local macro_rules | `(tactic| tm_at "e") => `(tactic| ((with_reducible show EV _ _ _ (Expr.Name _ _) _ _); first | (apply ev_name; (focus tm_at "nm"); (focus rfl))))
local macro_rules | `(tactic| tm_at "e") => `(tactic| ((with_reducible show EV _ _ _ (Expr.Constant _ _ _) _ _); first | exact ev_int | exact ev_bl | exact ev_str | exact ev_non))
local macro_rules | `(tactic| tm_at "t") => `(tactic| ((with_reducible show TV _ _ _ _ _ _); first | (apply tv_val; (focus tm_at "e"); (focus tm_at "auto")) | (apply tv_truthL; (focus tm_at "e"); (focus tm_at "rd"); (focus tm_at "auto")) | (apply tv_truthI; (focus tm_at "e"); (focus tm_at "auto"))))
local macro_rules | `(tactic| tm_at "t") => `(tactic| ((with_reducible show TV _ _ _ (Expr.BoolOp _ _ _) _ _); first | (apply tv_w; (focus tm_at "w"))))
local macro_rules | `(tactic| tm_at "t") => `(tactic| ((with_reducible show TV _ _ _ (Expr.UnaryOp UnaryOp.Not _ _) _ _); first | (apply tv_not; (focus tm_at "t"))))
local macro_rules | `(tactic| tm_at "t") => `(tactic| ((with_reducible show TV _ _ _ (Expr.Compare _ [_, _] [_, _] _) _ _); first | (apply tv_chain2; (focus tm_at "e"); (focus tm_at "e"); (focus tm_at "cmp"); (focus tm_at "e"); (focus tm_at "cmp"); (focus tm_at "auto"))))
local macro_rules | `(tactic| tm_at "t") => `(tactic| ((with_reducible show TV _ _ _ (Expr.Compare _ [_] [_] _) _ _); first | (apply tv_cmp; (focus tm_at "e"); (focus tm_at "e"); (focus tm_at "cmp"); (focus tm_at "auto"))))
local macro_rules | `(tactic| tm_at "w") => `(tactic| ((with_reducible show WV _ _ _ (Expr.BoolOp BoolOp.Or _ _) _ _); first | (apply wv_or; (focus tm_at "t"); (focus tm_at "introw"))))
local macro_rules | `(tactic| tm_at "w") => `(tactic| ((with_reducible show WV _ _ _ (Expr.BoolOp BoolOp.And _ _) _ _); first | (apply wv_and; (focus tm_at "t"); (focus tm_at "introw"))))
local macro_rules | `(tactic| tm_at "w") => `(tactic| ((with_reducible show WV _ _ _ (Expr.BoolOp BoolOp.Or [_] _) _ _); first | (apply wv_or1; (focus tm_at "t"))))
local macro_rules | `(tactic| tm_at "w") => `(tactic| ((with_reducible show WV _ _ _ (Expr.BoolOp BoolOp.And [_] _) _ _); first | (apply wv_and1; (focus tm_at "t"))))
local macro_rules | `(tactic| tm_at "ee") => `(tactic| first
  | (apply EE.of; (focus tm_at "e"); try (tm_at "ee"))
  | (refine ee_call' (by assumption) ?_; apply AE.of; (focus tm_at "a"))
  | (with_reducible refine ee_mod ?_; tm_at "ee")
  | (with_reducible refine ee_add ?_; tm_at "ee")
  | (with_reducible refine ee_sub ?_; tm_at "ee")
  | (with_reducible refine ee_mul ?_; tm_at "ee")
  | (with_reducible refine ee_div ?_; tm_at "ee")
  | (with_reducible refine ee_ixL ?_; tm_at "ee")
  | (refine ⟨_, rfl, ?_⟩; tm_at "ee"))

/-! ### jobs of drawn hours -/
structure JbN (j : Jb) : Prop where
  g : NmOk j.1
  t : NmOk j.2.1
  s : NmOk j.2.2.1
theorem enum_get {α : Type} {f : α → PyData} {L : List α} {i : Nat} {x : Itm} (h : (enumD (L.map f))[i]? = some x) : ∃ a, L[i]? = some a ∧ a ∈ L ∧ x = .fz (.tuple [.int (i : Int), f a]) := by
  unfold enumD at h
  rw [List.getElem?_map] at h
  cases hz : ((List.range (L.map f).length).zip (L.map f))[i]? with
  | none => rw [hz] at h; cases h
  | some q =>
    rw [hz] at h
    cases h
    obtain ⟨q1, q2⟩ := q
    rw [List.getElem?_zip_eq_some] at hz
    obtain ⟨h1, h2⟩ := hz
    obtain ⟨l, e1⟩ := List.getElem?_eq_some_iff.mp h1
    rw [List.getElem_range] at e1
    simp only at e1 h2
    subst e1
    rw [List.getElem?_map] at h2
    cases ha : L[i]? with
    | none => rw [ha] at h2; cases h2
    | some a =>
      rw [ha] at h2
      cases h2
      exact ⟨a, rfl, List.mem_of_getElem? ha, rfl⟩
theorem enum_len {α : Type} {f : α → PyData} {L : List α} : (enumD (L.map f)).length = L.length := by simp [enumD]
def S_jobs : PSpec := fun args γ P => ∃ (d : Day) (n : Int), args = [.fz (dDay d), .fz (.int n)] ∧ 0 ≤ n ∧ n < 2147483647 ∧ (rows d).length ≤ 20 ∧ (∀ a ∈ rows d, RwOk a) ∧ ∀ js : List Jb, js.length ≤ 20 → (∀ j ∈ js, JbN j) → P (.fz (.list (js.map dJb))) γ
theorem len_jobs {args γ P} (h : S_jobs args γ P) : args.length = 2 := by obtain ⟨d, n, rfl, _⟩ := h; rfl
theorem shp_rws {L : List Rw} (h : ∀ a ∈ L, RwOk a) : Shp 2 (.list (L.map dRw)) := shp_list (n := 1) fun d hd => by
  obtain ⟨a, ha, rfl⟩ := List.mem_map.mp hd
  exact shp_tuple (n := 0) fun e he => by
    simp at he
    rcases he with rfl | rfl | rfl
    · exact shp_low (h a ha).nm.2.2
    · exact shp_low (h a ha).sk.2.2
    · exact shp_int _
set_option maxHeartbeats 16000000 in
theorem body_jobs {P : Program} {w : World} {K : PySem.W.Frag} {mg : Str → Option Value} {base : Heap} (g0 : G0 mg)
    (D_turned : FnD P w K mg base "_law_turned" 1 S_turned)
    {X : Cx} (c : Ctx X P w K mg base N_jobs (defScope s_jobs) 1) {args : List Itm} {γ : Cells} {Po : EPost} (hγ : Clo γ) (hS : S_jobs args γ Po) :
    SVs X (slots0 N_jobs args) γ (defBody s_jobs) { nx := fun _ g => PL.Fin γ.length Po (.fz .none) g, rt := PL.Fin γ.length Po } := by
  have hX := c.ok
  have hp := c.po
  have v0 : Nm X "_law_day_here" 0 .local := c.nm 0 .local rfl (by decide +kernel) (.inl rfl) (by decide +kernel) (by decide +kernel)
  have v1 : Nm X "_law_seed" 1 .local := c.nm 1 .local rfl (by decide +kernel) (.inl rfl) (by decide +kernel) (by decide +kernel)
  have v2 : Nm X "_law_found" 2 .local := c.nm 2 .local rfl (by decide +kernel) (.inl rfl) (by decide +kernel) (by decide +kernel)
  have v3 : Nm X "_law_j" 3 .local := c.nm 3 .local rfl (by decide +kernel) (.inl rfl) (by decide +kernel) (by decide +kernel)
  have v4 : Nm X "_law_one" 4 .cell := c.nm 4 .cell rfl (by decide +kernel) (.inr rfl) (by decide +kernel) (by decide +kernel)
  have v5 : Nm X "_law_number" 5 .local := c.nm 5 .local rfl (by decide +kernel) (.inl rfl) (by decide +kernel) (by decide +kernel)
  have v6 : Nm X "_law_other" 6 .cell := c.nm 6 .cell rfl (by decide +kernel) (.inr rfl) (by decide +kernel) (by decide +kernel)
  have v7 : Nm X "_law_some" 7 .local := c.nm 7 .local rfl (by decide +kernel) (.inl rfl) (by decide +kernel) (by decide +kernel)
  have v8 : Nm X "_law_left" 8 .local := c.nm 8 .local rfl (by decide +kernel) (.inl rfl) (by decide +kernel) (by decide +kernel)
  have v9 : Nm X "_law_most" 9 .local := c.nm 9 .local rfl (by decide +kernel) (.inl rfl) (by decide +kernel) (by decide +kernel)
  have v10 : Nm X "_law_hours" 10 .local := c.nm 10 .local rfl (by decide +kernel) (.inl rfl) (by decide +kernel) (by decide +kernel)
  have b_enumerate : Bt X "enumerate" := c.bt (by decide +kernel) g0.b_enumerate
  have k_turned : Cal X "_law_turned" S_turned := c.cal D_turned (by decide) (by decide +kernel) (by decide +kernel)
  have b_len : Bt X "len" := c.bt (by decide +kernel) g0.b_len
  have b_sum : Bt X "sum" := c.bt (by decide +kernel) g0.b_sum
  have b_min : Bt X "min" := c.bt (by decide +kernel) g0.b_min
  obtain ⟨d, n, rfl, hn0, hn1, hl, hr, hP⟩ := hS
  have hlen : d.1.length + d.2.length ≤ 20 := by have := hl; unfold rows at this; rw [List.length_append] at this; exact this
  apply svs_setE hX v2
  refine EE.of (ev_lstC av_nil) ?_
  refine svs_for hX hp (itv_enum (ds := d.1.map dRw) b_enumerate (ev_ixT (ds := [.list (d.1.map dRw), .list (d.2.map dRw)]) (ev_name v0.r rfl) ev_int ix_0) (Rdb.fz _))
    (fun i Γ' g => ∃ (js : List Jb) (s3 s4 s5 s6 s7 s8 s9 s10 : Option Itm), Γ' = [some (.fz (dDay d)), some (.fz (.int n)), some (.cl γ.length), s3, s4, s5, s6, s7, s8, s9, s10, none] ∧ g = γ ++ [.lst ((js.map dJb).map Itm.fz)] ∧ js.length ≤ i ∧ ∀ j ∈ js, JbN j)
    ⟨[], none, none, none, none, none, none, none, none, rfl, rfl, by simp, by simp⟩ (fun _ _ _ _ _ => Rdb.fz _) ?_ ?_
  · rintro i x Γ' g hx ⟨js, s3, s4, s5, s6, s7, s8, s9, s10, rfl, rfl, hjl, hj⟩
    obtain ⟨a, ha, hm, rfl⟩ := enum_get hx
    have hi := (List.getElem?_eq_some_iff.mp ha).1
    have hra := hr a (List.mem_append_left _ hm)
    refine ⟨_, _, gv_tup (ds := [.int (i : Int), dRw a]) hX (gvs_cons (gv_name hX v3) (gvs_cons (gv_name hX v4) gvs_nil)) rfl, ?_⟩
    refine svs_setE hX v5 (EE.of (ev_call k_turned (by tm_at "a") ⟨n, 70 + (i : Int), rfl, hn0, by omega, by omega, by omega, rfl, rfl⟩) ?_)
    have t0 := turn0 n (70 + (i : Int))
    have t1 := turn1 n (70 + (i : Int))
    generalize turnF n (70 + (i : Int)) = nu at t0 t1
    refine svs_setLcA (own := [("_law_other", 6)]) dRw d.2 (fun o => decide (o.2.1 = a.2.1)) dRw hX v7 (by decide) (by decide +kernel) (by rw [c.N, c.sc]; exact ⟨rfl, by decide +kernel, by decide +kernel, by decide +kernel, by decide +kernel⟩) (ev_ixT (ds := [.list (d.1.map dRw), .list (d.2.map dRw)]) (ev_name v0.r rfl) ev_int ix_1) (Rdb.fz _) (by omega) (fun o ho => ?_) ?_
    · refine ⟨[some (.fz (dDay d)), some (.fz (.int n)), some (.cl γ.length), some (.fz (.int (i : Int))), some (.fz (dRw a)), some (.fz (.int nu)), some (.fz (dRw o)), s7, s8, s9, s10, none], [6], by simp, fun acc X' hB => ?_⟩
      have hX_X' := hB.cok hX rfl
      have w6_X' : Nm X' "_law_other" 6 .local := hB.own (by rw [c.N]; rfl) (by decide +kernel) (by decide +kernel) (by decide +kernel)
      have w4_X' : Nr X' "_law_one" 4 .cell := hB.cap hX v4.r (by decide +kernel)
      exact ⟨tgt1 hX_X' w6_X', tvs_one (tv_cmp (ev_ixT (ds := [.str o.1, .str o.2.1, .int o.2.2]) (ev_name w6_X'.r rfl) ev_int ix_1) (ev_ixT (ds := [.str a.1, .str a.2.1, .int a.2.2]) (ev_name w4_X' rfl) ev_int ix_1) cmp_eqS), fun _ => ev_name w6_X'.r rfl⟩
    have hso : ∀ o ∈ d.2.filter (fun o => decide (o.2.1 = a.2.1)), RwOk o := fun o ho => hr o (List.mem_append_right _ (List.mem_filter.mp ho).1)
    have hsl : (d.2.filter (fun o => decide (o.2.1 = a.2.1))).length ≤ d.2.length := List.length_filter_le _ _
    generalize d.2.filter (fun o => decide (o.2.1 = a.2.1)) = so at hso hsl ⊢
    refine svs_if (tv_w (wv_and (tv_cmp (ev_name v7.r rfl) (ev_lst (ds := []) av_nil) (cmp_neD hX (Rdb.fz _) (Rdb.fz _) (shp_rws hso).shaped (shp_list (n := 0) (by simp)).shaped)) fun _ => wv_and1 (tv_cmp (ev_mod (ev_name v5.r rfl) ev_int (by decide)) ev_int cmp_gt))) (fun q => ?_) (fun q => svs_nil (svs_nil ⟨js, _, _, _, _, _, _, _, _, rfl, rfl, by omega, hj⟩))
    rw [Bool.and_eq_true, empD] at q
    have hne : 0 < so.length := by
      cases so with
      | nil => exact absurd q.1 (by decide)
      | cons _ _ => simp
    obtain ⟨p, hp1, hpl⟩ := natM (d := nu / 3) hne
    have hat : atI (so.map dRw) (nu / 3 % ((so.map dRw).length : Int)) = some (dRw so[p]) := by
      rw [List.length_map, hp1]; exact atMap hpl
    have hro := hso _ (List.getElem_mem hpl)
    have hcell : (γ ++ [Cell.lst ((js.map dJb).map Itm.fz)])[γ.length]? = some (.lst ((js.map dJb).map Itm.fz)) := cl1 _ _
    refine svs_setE hX v6 (EE.of (ev_ixL (ev_name v7.r rfl) (ev_mod (ev_div (ev_name v5.r rfl) ev_int (wide_div (b := 200) (by omega) (by omega) (by decide) (by decide))) (ev_lenL b_len (ev_name v7.r rfl) (Rdb.fz _)) (by rw [List.length_map]; omega)) (Rdb.fz _) hat) ?_)
    generalize so[p] = o at hro
    refine svs_setE hX v8 (EE.of (ev_sub (ev_ixT (ds := [.str o.1, .str o.2.1, .int o.2.2]) (ev_name v6.r rfl) ev_int ix_2) (ev_sum (ns := (js.filter fun j => decide ((j.2.1, j.2.2.1) = (o.1, o.2.1))).map fun j => j.2.2.2) hX b_sum (ev_lcL (w := 11) dJb js (fun j => decide ((j.2.1, j.2.2.1) = (o.1, o.2.1))) (fun j => .int j.2.2.2) hX (by rw [c.N, c.sc]; exact ⟨rfl, by decide +kernel, by decide +kernel, by decide +kernel, by decide +kernel⟩) (fun X' hB => ⟨hB.cok hX rfl, hB.own (by rw [c.N]; rfl) (by decide +kernel) (by decide +kernel) (by decide +kernel)⟩) (ev_name v2.r rfl) (Rdb.cl hcell) (by omega) (fun j hm' acc X' hB => ?_)) (by simp only [List.map_map]; exact Rdb.fz _))) ?_)
    ·
      have hX_X' := hB.cok hX rfl
      have w11_X' : Nm X' "_law_job" 11 .local := hB.own (by rw [c.N]; rfl) (by decide +kernel) (by decide +kernel) (by decide +kernel)
      have w6_X' : Nr X' "_law_other" 6 .cell := hB.cap hX v6.r (by decide +kernel)
      have hjn := hj j hm'
      refine ⟨tvs_one (TV.is (tv_cmp (ev_slT (ds := [.str j.1, .str j.2.1, .str j.2.2.1, .int j.2.2.2]) (ev_name w11_X'.r rfl) (ov_some ev_int) (ov_some ev_int) (by simp; decide)) (ev_slT (ds := [.str o.1, .str o.2.1, .int o.2.2]) (ev_name w6_X' rfl) ov_none (ov_some ev_int) (by simp; decide)) (cmp_eqD (d := dPr (j.2.1, j.2.2.1)) (e := dPr (o.1, o.2.1)) hX_X' (Rdb.fz _) (Rdb.fz _) (shp_pr hjn.t.2.2 hjn.s.2.2).shaped (shp_pr hro.nm.2.2 hro.sk.2.2).shaped)) (eqv_pr _ _)), fun _ => ev_ixT (ds := [.str j.1, .str j.2.1, .str j.2.2.1, .int j.2.2.2]) (ev_name w11_X'.r rfl) ev_int ix_3⟩
    refine svs_setE hX v9 (EE.of (ev_min2 hX b_min (ev_ixT (ds := [.str a.1, .str a.2.1, .int a.2.2]) (ev_name v4.r rfl) ev_int ix_2) (ev_name v8.r rfl)) ?_)
    generalize min a.2.2 (o.2.2 - ((js.filter fun j => decide ((j.2.1, j.2.2.1) = (o.1, o.2.1))).map fun j => j.2.2.2).sum) = mo
    apply svs_setE hX v10
    refine ee_ixL (EE.of (ev_lst (ds := [.int mo, .int mo, .int 1, .int (1 + nu / 60 % 3), .int (mo + 1), .int mo]) (by tm_at "afz")) ?_)
    refine EE.of (r := .fz (.int (nu / 12 % 6))) (by tm_at "e") ?_
    refine pick_go (fun d => ∃ z : Int, d = .int z) (by omega) (by simp only [List.length_cons, List.length_nil]; omega) (by
      intro d hd
      simp at hd
      rcases hd with rfl | rfl | rfl | rfl | rfl <;> exact ⟨_, rfl⟩) ?_
    rintro _ ⟨h, rfl⟩
    refine svs_if (tv_cmp (ev_name v10.r rfl) ev_int cmp_gt) (fun _ => ?_) (fun _ => svs_nil (svs_nil (svs_nil ⟨js, _, _, _, _, _, _, _, _, rfl, rfl, by omega, hj⟩)))
    refine svs_exprE (EE.of (ev_append (cc := γ.length) (r := .fz (dJb (a.1, o.1, a.2.1, h))) (ev_name v2.r rfl) (ev_tup (ds := [.str a.1, .str o.1, .str a.2.1, .int h]) (av_consF (ev_ixT (ds := [.str a.1, .str a.2.1, .int a.2.2]) (ev_name v4.r rfl) ev_int ix_0) (av_consF (ev_ixT (ds := [.str o.1, .str o.2.1, .int o.2.2]) (ev_name v6.r rfl) ev_int ix_0) (av_consF (ev_ixT (ds := [.str a.1, .str a.2.1, .int a.2.2]) (ev_name v4.r rfl) ev_int ix_1) (av_consF (ev_name v10.r rfl) av_nilF))))) ⟨_, hcell⟩ hcell (by simp; omega)) ?_)
    rw [cl1s]
    refine svs_nil (svs_nil (svs_nil ⟨js ++ [(a.1, o.1, a.2.1, h)], _, _, _, _, _, _, _, _, rfl, by simp, by simp; omega, fun j hj' => ?_⟩))
    rcases List.mem_append.mp hj' with q | q
    · exact hj j q
    · obtain rfl := List.mem_singleton.mp q
      exact ⟨hra.nm, hro.nm, hra.sk⟩
  · rintro Γ' g ⟨js, s3, s4, s5, s6, s7, s8, s9, s10, rfl, rfl, hjl, hj⟩
    rw [enum_len] at hjl
    refine SVs.freeze (i := 2) (c := γ.length) (ds := js.map dJb) rfl (cl1 _ _) ?_
    rw [cl1s]
    apply svs_retE
    refine EE.of (ev_name v2.r rfl) ?_
    exact fin_junk hγ (hP js (by omega) hj)
theorem ok_jobs {P : Program} {w : World} {K : PySem.W.Frag} {mg : Str → Option Value} {base : Heap} (g0 : G0 mg)
    (D_turned : FnD P w K mg base "_law_turned" 1 S_turned)
    {f : Addr} {fd : FuncData} (F : Fun K "_law_jobs" "_law_jobs" s_jobs f fd) (hm : mg "_law_jobs" = some (.ref f)) : FnD P w K mg base "_law_jobs" 2 S_jobs :=
  def_ok F sc_jobs hm (F.binds (ps := ["_law_day_here", "_law_seed"]) fun _ _ _ _ _ _ us hl => match us, hl with | [_, _], _ => rfl) (fun args γ P h => len_jobs h)
    fun X c args γ Po hγ hS => body_jobs g0 D_turned c hγ hS
end KK

namespace KK
open PySem PySem.Spec PyProof.Rows L2 PL
local macro_rules | `(tactic| tm_at "nm") => `(tactic| with_reducible first | assumption | exact Nm.r (by assumption))
local macro_rules | `(tactic| tm_at "bt") => `(tactic| with_reducible assumption)
local macro_rules | `(tactic| tm_at "asm") => `(tactic| assumption)
local macro_rules | `(tactic| tm_at "auto") => `(tactic| first | rfl | exact fun _ _ => rfl | (intro _; rfl) | decide | exact nomark _ | (with_unfolding_all rfl))
local macro_rules | `(tactic| tm_at "boot") => `(tactic| decide +kernel)
local macro_rules | `(tactic| tm_at "kit") => `(tactic| first | exact kit_int _ | exact kit_bool _ | exact kit_str _ | exact kit_list _ | exact kit_tuple _ | exact kit_dict _)
local macro_rules | `(tactic| tm_at "side") => `(tactic| first | assumption | decide | omega | (simp only [List.length_map, List.length_cons, List.length_nil, List.length_append]; omega) | (simp; done))
local macro_rules | `(tactic| tm_at "pos") => `(tactic| first | decide | assumption | exact Int.pow_pos (by decide) | omega)
local macro_rules | `(tactic| tm_at "mul") => `(tactic| first | assumption | (exact small_mul 200 200 (by omega) (by omega)))
local macro_rules | `(tactic| tm_at "div") => `(tactic| first | assumption | (exact wide_div (b := 200) (by omega) (by omega) (by decide) (by decide)))
local macro_rules | `(tactic| tm_at "pow") => `(tactic| (refine ⟨?_, ?_, ?_⟩ <;> decide))
local macro_rules | `(tactic| tm_at "rd") => `(tactic| first | exact Rdb.fz _ | exact Rdb.cl (by assumption) | exact Rdb.cl rfl)
local macro_rules | `(tactic| tm_at "rdl") => `(tactic| first | exact .inr rfl | exact .inl (by tm_at "rd"))
local macro_rules | `(tactic| tm_at "ix") => `(tactic| first | assumption | exact ix_0 | exact ix_1 | exact ix_2 | exact ix_3 | exact ix_4 | rfl)
local macro_rules | `(tactic| tm_at "cmp") => `(tactic| first | exact cmp_lt | exact cmp_le | exact cmp_gt | exact cmp_ge | exact cmp_eqI | exact cmp_neI | exact cmp_eqS | exact cmp_neS | exact cmp_leS | exact cmp_ltS | exact cmp_inSign | exact cmp_notInSign | exact cmp_isB | exact cmp_notB | exact cmp_isN | exact cmp_notN | exact cmp_eqB | exact cmp_neB)
local macro_rules | `(tactic| tm_at "intro") => `(tactic| (intro _; tm_at "e"))
local macro_rules | `(tactic| tm_at "introe") => `(tactic| (intro _; tm_at "e"))
local macro_rules | `(tactic| tm_at "introw") => `(tactic| (intro _; tm_at "w"))
local macro_rules | `(tactic| tm_at "a") => `(tactic| first
  | exact av_nil
  | (apply av_cons; (focus tm_at "e"); (focus tm_at "a"); (focus tm_at "auto")))
local macro_rules | `(tactic| tm_at "alli") => `(tactic| (repeat (first | exact all_nil | (refine all_cons ⟨_, rfl, ?_, ?_⟩ ?_; (focus omega); (focus omega)))))
local macro_rules | `(tactic| tm_at "afz") => `(tactic| first
  | exact av_nilF
  | (apply av_consF; (focus tm_at "e"); (focus tm_at "afz"); (focus tm_at "auto")))
local macro_rules | `(tactic| tm_at "o") => `(tactic| first
  | exact ov_none
  | (apply ov_some; (focus tm_at "e")))
local macro_rules | `(tactic| tm_at "e") => `(tactic| ((with_reducible show EV _ _ _ (Expr.Tuple _ _ _) _ _); first | (apply ev_tup; (focus tm_at "afz"); (focus tm_at "side"))))
local macro_rules | `(tactic| tm_at "e") => `(tactic| ((with_reducible show EV _ _ _ (Expr.List _ _) _ _); first | (apply ev_lst; (focus tm_at "afz"); (focus tm_at "side"))))
local macro_rules | `(tactic| tm_at "e") => `(tactic| ((with_reducible show EV _ _ _ (Expr.Call (Expr.Attribute _ _ _) _ _ _) _ _); first | (apply ev_join; (focus tm_at "e"); (focus tm_at "e"); (focus tm_at "rd"); (focus tm_at "side"); (focus tm_at "auto"); (focus tm_at "auto"); (focus tm_at "auto"))))
local macro_rules | `(tactic| tm_at "e") => `(tactic| ((with_reducible show EV _ _ _ (Expr.Call (Expr.Name _ _) _ _ _) _ _); first | (apply ev_lenL; (focus tm_at "bt"); (focus tm_at "e"); (focus tm_at "rd"); (focus tm_at "auto")) | (apply ev_lenC; (focus tm_at "bt"); (focus tm_at "e"); (focus tm_at "ix"); (focus tm_at "auto")) | (apply ev_lenT; (focus tm_at "bt"); (focus tm_at "e"); (focus tm_at "auto")) | (apply ev_lenS; (focus tm_at "bt"); (focus tm_at "e"); (focus tm_at "side"); (focus tm_at "auto")) | (apply ev_max2; (focus tm_at "asm"); (focus tm_at "bt"); (focus tm_at "e"); (focus tm_at "e"); (focus tm_at "auto"); (focus tm_at "auto"); (focus tm_at "auto")) | (apply ev_min2; (focus tm_at "asm"); (focus tm_at "bt"); (focus tm_at "e"); (focus tm_at "e"); (focus tm_at "auto"); (focus tm_at "auto"); (focus tm_at "auto")) | (apply ev_intB; (focus tm_at "bt"); (focus tm_at "e"); (focus tm_at "auto")) | (apply ev_intI; (focus tm_at "bt"); (focus tm_at "e"); (focus tm_at "auto")) | (apply ev_abs; (focus tm_at "bt"); (focus tm_at "e"); (focus tm_at "auto")) | (apply ev_sum; (focus tm_at "asm"); (focus tm_at "bt"); (focus tm_at "e"); (focus tm_at "rd"); (focus tm_at "auto")) | (apply ev_listF; (focus tm_at "bt"); (focus tm_at "e"); (focus tm_at "rdl"); (focus tm_at "auto")) | (apply ev_sorted; (focus tm_at "bt"); (focus tm_at "e"); (focus tm_at "rd"); (focus tm_at "auto")) | (apply ev_isi; (focus tm_at "bt"); (focus tm_at "bt"); (focus tm_at "boot"); (focus tm_at "e"); (focus tm_at "rd"); (focus tm_at "kit"); (focus tm_at "auto"); (focus tm_at "auto"); (focus tm_at "auto"); (focus tm_at "auto"); (focus tm_at "auto"))))
local macro_rules | `(tactic| tm_at "e") => `(tactic| ((with_reducible show EV _ _ _ (Expr.BoolOp BoolOp.Or _ _) _ _); first | (apply ev_or; (focus tm_at "e"); (focus tm_at "introe"))))
local macro_rules | `(tactic| tm_at "e") => `(tactic| ((with_reducible show EV _ _ _ (Expr.BoolOp BoolOp.And _ _) _ _); first | (apply ev_and; (focus tm_at "e"); (focus tm_at "introe"))))
local macro_rules | `(tactic| tm_at "e") => `(tactic| ((with_reducible show EV _ _ _ (Expr.BoolOp _ [_] _) _ _); first | (apply ev_one; (focus tm_at "e"))))
local macro_rules | `(tactic| tm_at "e") => `(tactic| ((with_reducible show EV _ _ _ (Expr.IfExp _ _ _ _) _ _); first | (apply ev_ifx; (focus tm_at "t"); (focus tm_at "intro"); (focus tm_at "intro"))))
local macro_rules | `(tactic| tm_at "e") => `(tactic| ((with_reducible show EV _ _ _ (Expr.Compare _ [_, _] [_, _] _) _ _); first | (apply ev_chain2; (focus tm_at "e"); (focus tm_at "e"); (focus tm_at "cmp"); (focus tm_at "e"); (focus tm_at "cmp"); (focus tm_at "auto"))))
local macro_rules | `(tactic| tm_at "e") => `(tactic| ((with_reducible show EV _ _ _ (Expr.Compare _ [_] [_] _) _ _); first | (apply ev_cmp; (focus tm_at "e"); (focus tm_at "e"); (focus tm_at "cmp"); (focus tm_at "auto"))))
local macro_rules | `(tactic| tm_at "e") => `(tactic| ((with_reducible show EV _ _ _ (Expr.UnaryOp UnaryOp.Not _ _) _ _); first | (apply ev_not; (focus tm_at "e"))))
local macro_rules | `(tactic| tm_at "e") => `(tactic| ((with_reducible show EV _ _ _ (Expr.UnaryOp UnaryOp.USub _ _) _ _); first | (apply ev_neg; (focus tm_at "e"))))
local macro_rules | `(tactic| tm_at "e") => `(tactic| ((with_reducible show EV _ _ _ (Expr.Subscript _ _ _) _ _); first | (apply ev_ixL; (focus tm_at "e"); (focus tm_at "e"); (focus tm_at "rd"); (focus tm_at "ix"); (focus tm_at "auto")) | (apply ev_ixT; (focus tm_at "e"); (focus tm_at "e"); (focus tm_at "ix"); (focus tm_at "auto")) | (apply ev_ixC; (focus tm_at "e"); (focus tm_at "e"); (focus tm_at "ix"); (focus tm_at "ix"); (focus tm_at "auto")) | (apply ev_ixP; (focus tm_at "e"); (focus tm_at "e"); (focus tm_at "ix"); (focus tm_at "auto")) | (apply ev_ixS; (focus tm_at "e"); (focus tm_at "e"); (focus tm_at "side"); (focus tm_at "asm"); (focus tm_at "auto"))))
local macro_rules | `(tactic| tm_at "e") => `(tactic| ((with_reducible show EV _ _ _ (Expr.Subscript _ (Expr.Slice _ _ _ _) _) _ _); first | (apply ev_slL; (focus tm_at "e"); (focus tm_at "o"); (focus tm_at "o"); (focus tm_at "rd")) | (apply ev_slT; (focus tm_at "e"); (focus tm_at "o"); (focus tm_at "o"); (focus tm_at "side")) | (apply ev_slS; (focus tm_at "e"); (focus tm_at "o"); (focus tm_at "o"); (focus tm_at "side"))))
local macro_rules | `(tactic| tm_at "e") => `(tactic| ((with_reducible show EV _ _ _ (Expr.BinOp _ Operator.Pow _ _) _ _); first | (apply ev_pow; (focus tm_at "e"); (focus tm_at "e"); (focus tm_at "pow"))))
local macro_rules | `(tactic| tm_at "e") => `(tactic| ((with_reducible show EV _ _ _ (Expr.BinOp _ Operator.FloorDiv _ _) _ _); first | (apply ev_div; (focus tm_at "e"); (focus tm_at "e"); (focus tm_at "div"))))
local macro_rules | `(tactic| tm_at "e") => `(tactic| ((with_reducible show EV _ _ _ (Expr.BinOp _ Operator.Mod _ _) _ _); first | (apply ev_mod; (focus tm_at "e"); (focus tm_at "e"); (focus tm_at "pos"))))
local macro_rules | `(tactic| tm_at "e") => `(tactic| ((with_reducible show EV _ _ _ (Expr.BinOp _ Operator.Mult _ _) _ _); first | (apply ev_mul; (focus tm_at "e"); (focus tm_at "e"); (focus tm_at "mul")) | (apply ev_repF; (focus tm_at "afz"); (focus tm_at "e"); (focus tm_at "side"); (focus tm_at "side"); (focus tm_at "side"))))
local macro_rules | `(tactic| tm_at "e") => `(tactic| ((with_reducible show EV _ _ _ (Expr.BinOp _ Operator.Sub _ _) _ _); first | (apply ev_sub; (focus tm_at "e"); (focus tm_at "e"))))
local macro_rules | `(tactic| tm_at "e") => `(tactic| ((with_reducible show EV _ _ _ (Expr.BinOp _ Operator.Add _ _) _ _); first | (apply ev_add; (focus tm_at "e"); (focus tm_at "e")) | (apply ev_catF; (focus tm_at "e"); (focus tm_at "e"); (focus tm_at "rd"); (focus tm_at "rd"); (focus tm_at "side")) | (apply ev_addS; (focus tm_at "e"); (focus tm_at "e"); (focus tm_at "side")) | (apply ev_catT; (focus tm_at "e"); (focus tm_at "e"); (focus tm_at "side"))))
local macro_rules | `(tactic| tm_at "e") => `(tactic| ((with_reducible show EV _ _ _ (Expr.Name _ _) _ _); first | (apply ev_name; (focus tm_at "nm"); (focus rfl))))
local macro_rules | `(tactic| tm_at "e") => `(tactic| ((with_reducible show EV _ _ _ (Expr.Constant _ _ _) _ _); first | exact ev_int | exact ev_bl | exact ev_str | exact ev_non))
local macro_rules | `(tactic| tm_at "t") => `(tactic| ((with_reducible show TV _ _ _ _ _ _); first | (apply tv_val; (focus tm_at "e"); (focus tm_at "auto")) | (apply tv_truthL; (focus tm_at "e"); (focus tm_at "rd"); (focus tm_at "auto")) | (apply tv_truthI; (focus tm_at "e"); (focus tm_at "auto"))))
local macro_rules | `(tactic| tm_at "t") => `(tactic| ((with_reducible show TV _ _ _ (Expr.BoolOp _ _ _) _ _); first | (apply tv_w; (focus tm_at "w"))))
local macro_rules | `(tactic| tm_at "t") => `(tactic| ((with_reducible show TV _ _ _ (Expr.UnaryOp UnaryOp.Not _ _) _ _); first | (apply tv_not; (focus tm_at "t"))))
local macro_rules | `(tactic| tm_at "t") => `(tactic| ((with_reducible show TV _ _ _ (Expr.Compare _ [_, _] [_, _] _) _ _); first | (apply tv_chain2; (focus tm_at "e"); (focus tm_at "e"); (focus tm_at "cmp"); (focus tm_at "e"); (focus tm_at "cmp"); (focus tm_at "auto"))))
local macro_rules | `(tactic| tm_at "t") => `(tactic| ((with_reducible show TV _ _ _ (Expr.Compare _ [_] [_] _) _ _); first | (apply tv_cmp; (focus tm_at "e"); (focus tm_at "e"); (focus tm_at "cmp"); (focus tm_at "auto"))))
local macro_rules | `(tactic| tm_at "w") => `(tactic| ((with_reducible show WV _ _ _ (Expr.BoolOp BoolOp.Or _ _) _ _); first | (apply wv_or; (focus tm_at "t"); (focus tm_at "introw"))))
local macro_rules | `(tactic| tm_at "w") => `(tactic| ((with_reducible show WV _ _ _ (Expr.BoolOp BoolOp.And _ _) _ _); first | (apply wv_and; (focus tm_at "t"); (focus tm_at "introw"))))
local macro_rules | `(tactic| tm_at "w") => `(tactic| ((with_reducible show WV _ _ _ (Expr.BoolOp BoolOp.Or [_] _) _ _); first | (apply wv_or1; (focus tm_at "t"))))
local macro_rules | `(tactic| tm_at "w") => `(tactic| ((with_reducible show WV _ _ _ (Expr.BoolOp BoolOp.And [_] _) _ _); first | (apply wv_and1; (focus tm_at "t"))))
local macro_rules | `(tactic| tm_at "ee") => `(tactic| first
  | (apply EE.of; (focus tm_at "e"); try (tm_at "ee"))
  | (refine ee_call' (by assumption) ?_; apply AE.of; (focus tm_at "a"))
  | (with_reducible refine ee_mod ?_; tm_at "ee")
  | (with_reducible refine ee_add ?_; tm_at "ee")
  | (with_reducible refine ee_sub ?_; tm_at "ee")
  | (with_reducible refine ee_mul ?_; tm_at "ee")
  | (with_reducible refine ee_div ?_; tm_at "ee")
  | (with_reducible refine ee_ixL ?_; tm_at "ee")
  | (refine ⟨_, rfl, ?_⟩; tm_at "ee"))

/-! ### jobs, one put otherwise -/
abbrev dZ : Str := "zz"
theorem low_zz : Lows dZ := by unfold Lows Low; decide +kernel
theorem len_zz : Str.length dZ = 2 := by decide +kernel
theorem zz_part : Part (.str dZ) := .str low_zz (by rw [len_zz]; decide)
theorem NmOk.part {z : Str} (h : NmOk z) : Part (.str z) := .str h.2.2 h.2.1
theorem JbN.elt {j : Jb} (h : JbN j) : Elt (dJb j) := .tup fun e he => by
  simp at he
  rcases he with rfl | rfl | rfl | rfl
  · exact h.g.part
  · exact h.t.part
  · exact h.s.part
  · exact .int _
theorem cut_mem {α : Type} {L : List α} {lo hi : Option Int} {x : α} (h : x ∈ PL.cutD L lo hi) : x ∈ L := by
  unfold PL.cutD at h
  exact List.mem_of_mem_drop (List.mem_of_mem_take h)
def S_bent : PSpec := fun args γ P => ∃ (js : List Jb) (t : List Nb) (n : Int), args = [.fz (.list (js.map dJb)), .fz (.list (t.map dNb)), .fz (.int n)] ∧ js.length ≤ 20 ∧ (∀ j ∈ js, JbN j) ∧ Town t ∧ 2 ≤ t.length ∧ 0 ≤ n ∧ n < 2147483647 ∧ ∀ x : PyData, Mild x → P (.fz x) γ
theorem len_bent {args γ P} (h : S_bent args γ P) : args.length = 3 := by obtain ⟨js, t, n, rfl, _⟩ := h; rfl
set_option maxHeartbeats 16000000 in
theorem body_bent {P : Program} {w : World} {K : PySem.W.Frag} {mg : Str → Option Value} {base : Heap} (g0 : G0 mg)
    {X : Cx} (c : Ctx X P w K mg base N_bent (defScope s_bent) 0) {args : List Itm} {γ : Cells} {Po : EPost} (hγ : Clo γ) (hS : S_bent args γ Po) :
    SVs X (slots0 N_bent args) γ (defBody s_bent) { nx := fun _ g => PL.Fin γ.length Po (.fz .none) g, rt := PL.Fin γ.length Po } := by
  have hX := c.ok
  have hp := c.po
  have v0 : Nm X "_law_jobs_here" 0 .local := c.nm 0 .local rfl (by decide +kernel) (.inl rfl) (by decide +kernel) (by decide +kernel)
  have v1 : Nm X "_law_town_here" 1 .local := c.nm 1 .local rfl (by decide +kernel) (.inl rfl) (by decide +kernel) (by decide +kernel)
  have v2 : Nm X "_law_number" 2 .local := c.nm 2 .local rfl (by decide +kernel) (.inl rfl) (by decide +kernel) (by decide +kernel)
  have v3 : Nm X "_law_way" 3 .local := c.nm 3 .local rfl (by decide +kernel) (.inl rfl) (by decide +kernel) (by decide +kernel)
  have v4 : Nm X "_law_at" 4 .local := c.nm 4 .local rfl (by decide +kernel) (.inl rfl) (by decide +kernel) (by decide +kernel)
  have v5 : Nm X "_law_job" 5 .local := c.nm 5 .local rfl (by decide +kernel) (.inl rfl) (by decide +kernel) (by decide +kernel)
  have v6 : Nm X "_law_names" 6 .local := c.nm 6 .local rfl (by decide +kernel) (.inl rfl) (by decide +kernel) (by decide +kernel)
  have v7 : Nm X "_law_name_here" 7 .local := c.nm 7 .local rfl (by decide +kernel) (.inl rfl) (by decide +kernel) (by decide +kernel)
  have v8 : Nm X "_law_some" 8 .local := c.nm 8 .local rfl (by decide +kernel) (.inl rfl) (by decide +kernel) (by decide +kernel)
  have b_tuple : Bt X "tuple" := c.bt (by decide +kernel) g0.b_tuple
  have b_len : Bt X "len" := c.bt (by decide +kernel) g0.b_len
  have b_list : Bt X "list" := c.bt (by decide +kernel) g0.b_list
  obtain ⟨js, t, n, rfl, hl, hj, hT, ht2, hn0, hn1, hP⟩ := hS
  have ht := hT.len
  have nmT : ∀ a ∈ t, NmOk a.1 := fun a ha => (hT.ok a ha).nm
  have eJ : ∀ e ∈ js.map dJb, Elt e := fun e he => by
    obtain ⟨j, hj', rfl⟩ := List.mem_map.mp he
    exact (hj j hj').elt
  have shJ : Shp 2 (.list (js.map dJb)) := shp_list fun e he => (eJ e he).shp
  refine svs_setE hX v3 (EE.of (ev_mod (ev_name v2.r rfl) ev_int (by decide)) ?_)
  have t0 : atI (t.map dNb) 0 = some (dNb t[0]) := atMap (j := 0) (by omega)
  have t1 : atI (t.map dNb) 1 = some (dNb t[1]) := atMap (j := 1) (by omega)
  refine svs_if (tv_w (wv_or (tv_cmp (ev_name v3.r rfl) ev_int cmp_eqI) fun _ => wv_or1 (tv_cmp (ev_name v0.r rfl) (ev_lst (ds := []) av_nil) (cmp_eqD hX (Rdb.fz _) (Rdb.fz _) shJ.shaped (shp_list (n := 0) (by simp)).shaped)))) (fun _ => ?_) (fun q => ?_)
  · apply svs_retE
    refine ee_ixL (EE.of (ev_lst (ds := [.tuple (js.map dJb), .none, .list (js.map dJb ++ [.tuple []]), .list (js.map dJb ++ [.tuple [.str t[0].1, .str t[1].1, .str dZ, .int 1]])]) (av_consF (ev_tupleF b_tuple (ev_name v0.r rfl) (Rdb.fz _)) (av_consF ev_non (av_consF (ev_catF (ds := js.map dJb) (es' := [.tuple []]) (ev_name v0.r rfl) (ev_lst (ds := [.tuple []]) (av_consF (ev_tup (ds := []) av_nilF) av_nilF)) (Rdb.fz _) (Rdb.fz _) (by simp; omega)) (av_consF (ev_catF (ds := js.map dJb) (es' := [.tuple [.str t[0].1, .str t[1].1, .str dZ, .int 1]]) (ev_name v0.r rfl) (ev_lst (ds := [.tuple [.str t[0].1, .str t[1].1, .str dZ, .int 1]]) (av_consF (ev_tup (ds := [.str t[0].1, .str t[1].1, .str dZ, .int 1]) (av_consF (ev_ixT (ds := [.str t[0].1, .int t[0].2.1, .int t[0].2.2.1, .int t[0].2.2.2]) (ev_ixL (ev_name v1.r rfl) ev_int (Rdb.fz _) t0) ev_int ix_0) (av_consF (ev_ixT (ds := [.str t[1].1, .int t[1].2.1, .int t[1].2.2.1, .int t[1].2.2.2]) (ev_ixL (ev_name v1.r rfl) ev_int (Rdb.fz _) t1) ev_int ix_0) (av_consF ev_str (av_consF ev_int av_nilF))))) av_nilF)) (Rdb.fz _) (Rdb.fz _) (by simp; omega)) av_nilF))))) ?_)
    refine EE.of (r := .fz (.int (n / 8 % 4))) (by tm_at "e") ?_
    refine pick_go Mild (by omega) (by simp only [List.length_cons, List.length_nil]; omega) (by
      intro d hd
      simp only [List.mem_cons, List.not_mem_nil, or_false] at hd
      rcases hd with rfl | rfl | rfl | rfl
      · exact .tup (by simp; omega) eJ
      · exact .non
      · refine .lst (by simp; omega) fun e he => ?_
        rcases List.mem_append.mp he with h | h
        · exact eJ e h
        · obtain rfl := List.mem_singleton.mp h
          exact .tup (by simp)
      · refine .lst (by simp; omega) fun e he => ?_
        rcases List.mem_append.mp he with h | h
        · exact eJ e h
        · obtain rfl := List.mem_singleton.mp h
          refine .tup fun e he => ?_
          simp only [List.mem_cons, List.not_mem_nil, or_false] at he
          rcases he with rfl | rfl | rfl | rfl
          · exact (nmT _ (List.getElem_mem _)).part
          · exact (nmT _ (List.getElem_mem _)).part
          · exact zz_part
          · exact .int 1) ?_
    exact fun d hd => fin_same hγ (hP d hd)
  rw [Bool.or_eq_false_iff, empD] at q
  have hne : 0 < js.length := by
    cases js with
    | nil => exact absurd q.2 (by decide)
    | cons _ _ => simp
  obtain ⟨p, hp, hpl⟩ := natM (d := n / 8) hne
  have hat : atI (js.map dJb) (p : Int) = some (dJb js[p]) := atMap hpl
  refine svs_nil ?_
  refine svs_setE hX v4 (EE.of (EV.is (ev_mod (ev_div (ev_name v2.r rfl) ev_int (wide_div (b := 200) (by omega) (by omega) (by decide) (by decide))) (ev_lenL b_len (ev_name v0.r rfl) (Rdb.fz _)) (by rw [List.length_map]; omega)) (d' := .int (p : Int)) (by rw [List.length_map, hp])) ?_)
  refine svs_setE hX v5 (EE.of (ev_ixL (ev_name v0.r rfl) (ev_name v4.r rfl) (Rdb.fz _) hat) ?_)
  have hjp := hj _ (List.getElem_mem hpl)
  generalize js[p] = j at hjp
  obtain ⟨g, tk, s, h⟩ := j
  have pg : Part (.str g) := hjp.g.part
  have pt : Part (.str tk) := hjp.t.part
  have ps : Part (.str s) := hjp.s.part
  refine svs_if (tv_cmp (ev_name v3.r rfl) ev_int cmp_eqI) (fun _ => ?_) (fun _ => svs_nil ?_)
  · apply svs_retE
    refine EE.of (ev_catF (ds := js.map dJb) (es' := [dJb (g, tk, s, h)]) (ev_name v0.r rfl) (ev_lst (ds := [dJb (g, tk, s, h)]) (av_consF (ev_name v5.r rfl) av_nilF)) (Rdb.fz _) (Rdb.fz _) (by simp; omega)) (fin_same hγ (hP _ (.lst (by simp; omega) fun e he => ?_)))
    rcases List.mem_append.mp he with h | h
    · exact eJ e h
    · obtain rfl := List.mem_singleton.mp h
      exact hjp.elt
  -- names
  refine svs_setE hX v6 (EE.of (ev_catF (ds := t.map fun a => PyData.str a.1) (es' := [.str dZ]) (ev_lcM (w := 9) dNb t (fun a => .str a.1) hX (by rw [c.N, c.sc]; exact ⟨rfl, by decide +kernel, by decide +kernel, by decide +kernel, by decide +kernel⟩) (fun X' hB => ⟨hB.cok hX rfl, hB.own (by rw [c.N]; rfl) (by decide +kernel) (by decide +kernel) (by decide +kernel)⟩) (ev_name v1.r rfl) (Rdb.fz _) (by omega) (fun a ha acc X' hB => ?_)) (ev_lst (ds := [.str dZ]) (av_consF ev_str av_nilF)) (Rdb.fz _) (Rdb.fz _) (by simp; omega)) ?_)
  ·
    have hX_X' := hB.cok hX rfl
    have w9_X' : Nm X' "_law_one" 9 .local := hB.own (by rw [c.N]; rfl) (by decide +kernel) (by decide +kernel) (by decide +kernel)
    exact ev_ixT (ds := [.str a.1, .int a.2.1, .int a.2.2.1, .int a.2.2.2]) (ev_name w9_X'.r rfl) ev_int ix_0
  have nl : 0 < ((t.map fun a => PyData.str a.1) ++ [PyData.str dZ]).length := by simp
  obtain ⟨z, hz, pz⟩ : ∃ z : Str, atI ((t.map fun a => PyData.str a.1) ++ [PyData.str dZ]) (n / 64 % (((t.map fun a => PyData.str a.1) ++ [PyData.str dZ]).length : Int)) = some (.str z) ∧ Part (.str z) := by
    obtain ⟨i, hi, hil⟩ := natM (d := n / 64) nl
    rw [hi]
    have e := atI_nat (List.getElem?_eq_getElem hil)
    have hm := List.getElem_mem hil
    generalize ((t.map fun a => PyData.str a.1) ++ [PyData.str dZ])[i] = y at e hm
    rcases List.mem_append.mp hm with q | q
    · obtain ⟨a, ha, rfl⟩ := List.mem_map.mp q
      exact ⟨_, e, (nmT a ha).part⟩
    · obtain rfl := List.mem_singleton.mp q
      exact ⟨_, e, zz_part⟩
  refine svs_setE hX v7 (EE.of (ev_ixL (ev_name v6.r rfl) (ev_mod (ev_div (ev_name v2.r rfl) ev_int (wide_div (b := 200) (by omega) (by omega) (by decide) (by decide))) (ev_lenL b_len (ev_name v6.r rfl) (Rdb.fz _)) (by omega)) (Rdb.fz _) hz) ?_)
  -- twelve other ones
  refine svs_setE hX v8 (EE.of (ev_lst (ds := [.tuple [.str g, .str tk, .str s, .int 0], .tuple [.str g, .str tk, .str s, .bool true], .tuple [.str g, .str tk, .str s, .int (-1)], .tuple [.str g, .str tk, .str s, .int (h + 1)], .tuple [.str g, .str tk, .str s], .list [.str g, .str tk, .str s, .int h]])
    (av_consF (ev_catT (ds := [.str g, .str tk, .str s]) (es := [.int 0]) (ev_slT (ds := [.str g, .str tk, .str s, .int h]) (ev_name v5.r rfl) ov_none (ov_some ev_int) (by simp; decide)) (by tm_at "e") (by simp) (by simp) (by simp))
    (av_consF (ev_catT (ds := [.str g, .str tk, .str s]) (es := [.bool true]) (ev_slT (ds := [.str g, .str tk, .str s, .int h]) (ev_name v5.r rfl) ov_none (ov_some ev_int) (by simp; decide)) (by tm_at "e") (by simp) (by simp) (by simp))
    (av_consF (ev_catT (ds := [.str g, .str tk, .str s]) (es := [.int (-1)]) (ev_slT (ds := [.str g, .str tk, .str s, .int h]) (ev_name v5.r rfl) ov_none (ov_some ev_int) (by simp; decide)) (by tm_at "e") (by simp) (by simp) (by simp))
    (av_consF (ev_catT (ds := [.str g, .str tk, .str s]) (es := [.int (h + 1)]) (ev_slT (ds := [.str g, .str tk, .str s, .int h]) (ev_name v5.r rfl) ov_none (ov_some ev_int) (by simp; decide)) (ev_tup (ds := [.int (h + 1)]) (av_consF (ev_add (ev_ixT (ds := [.str g, .str tk, .str s, .int h]) (ev_name v5.r rfl) ev_int ix_3) ev_int) av_nilF)) (by simp) (by simp) (by simp))
    (av_consF (ev_slT (ds := [.str g, .str tk, .str s, .int h]) (ev_name v5.r rfl) ov_none (ov_some ev_int) (by simp; decide))
    (av_consF (ev_listF (ds := [.str g, .str tk, .str s, .int h]) b_list (ev_name v5.r rfl) (.inr rfl)) av_nilF))))))) ?_)
  refine svs_setE hX v8 (EE.of (ev_catF (ds := [.tuple [.str g, .str tk, .str s, .int 0], .tuple [.str g, .str tk, .str s, .bool true], .tuple [.str g, .str tk, .str s, .int (-1)], .tuple [.str g, .str tk, .str s, .int (h + 1)], .tuple [.str g, .str tk, .str s], .list [.str g, .str tk, .str s, .int h]]) (es' := [.tuple [.str z, .str tk, .str s, .int h], .tuple [.str g, .str z, .str s, .int h], .tuple [.str g, .str tk, .str dZ, .int h], .tuple [.str tk, .str g, .str s, .int h]]) (ev_name v8.r rfl) (ev_lst (ds := [.tuple [.str z, .str tk, .str s, .int h], .tuple [.str g, .str z, .str s, .int h], .tuple [.str g, .str tk, .str dZ, .int h], .tuple [.str tk, .str g, .str s, .int h]])
    (av_consF (ev_catT (ds := [.str z]) (es := [.str tk, .str s, .int h]) (ev_tup (ds := [.str z]) (av_consF (ev_name v7.r rfl) av_nilF)) (ev_slT (ds := [.str g, .str tk, .str s, .int h]) (ev_name v5.r rfl) (ov_some ev_int) ov_none (by simp; decide)) (by simp) (by simp) (by simp))
    (av_consF (ev_catT (ds := [.str g, .str z]) (es := [.str s, .int h]) (ev_tup (ds := [.str g, .str z]) (av_consF (ev_ixT (ds := [.str g, .str tk, .str s, .int h]) (ev_name v5.r rfl) ev_int ix_0) (av_consF (ev_name v7.r rfl) av_nilF))) (ev_slT (ds := [.str g, .str tk, .str s, .int h]) (ev_name v5.r rfl) (ov_some ev_int) ov_none (by simp; decide)) (by simp) (by simp) (by simp))
    (av_consF (ev_catT (ds := [.str g, .str tk]) (es := [.str dZ, .int h]) (ev_slT (ds := [.str g, .str tk, .str s, .int h]) (ev_name v5.r rfl) ov_none (ov_some ev_int) (by simp; decide)) (ev_tup (ds := [.str dZ, .int h]) (av_consF ev_str (av_consF (ev_ixT (ds := [.str g, .str tk, .str s, .int h]) (ev_name v5.r rfl) ev_int ix_3) av_nilF))) (by simp) (by simp) (by simp))
    (av_consF (ev_catT (ds := [.str tk, .str g]) (es := [.str s, .int h]) (ev_rev2 (d1 := .str g) (d2 := .str tk) (d3 := .str s) (d4 := .int h) (ev_name v5.r rfl) ev_int (ev_neg ev_int)) (ev_slT (ds := [.str g, .str tk, .str s, .int h]) (ev_name v5.r rfl) (ov_some ev_int) ov_none (by simp; decide)) (by simp) (by simp) (by simp)) av_nilF))))) (Rdb.fz _) (Rdb.fz _) (by simp)) ?_)
  refine svs_setE hX v8 (EE.of (ev_catF (ds := [.tuple [.str g, .str tk, .str s, .int 0], .tuple [.str g, .str tk, .str s, .bool true], .tuple [.str g, .str tk, .str s, .int (-1)], .tuple [.str g, .str tk, .str s, .int (h + 1)], .tuple [.str g, .str tk, .str s], .list [.str g, .str tk, .str s, .int h], .tuple [.str z, .str tk, .str s, .int h], .tuple [.str g, .str z, .str s, .int h], .tuple [.str g, .str tk, .str dZ, .int h], .tuple [.str tk, .str g, .str s, .int h]]) (es' := [.tuple [.str g, .none, .str s, .int h], .tuple [.str g, .str tk, .str s, .int (10 ^ (40 : Int).toNat)]]) (ev_name v8.r rfl) (ev_lst (ds := [.tuple [.str g, .none, .str s, .int h], .tuple [.str g, .str tk, .str s, .int (10 ^ (40 : Int).toNat)]])
    (av_consF (ev_catT (ds := [.str g, .none]) (es := [.str s, .int h]) (ev_tup (ds := [.str g, .none]) (av_consF (ev_ixT (ds := [.str g, .str tk, .str s, .int h]) (ev_name v5.r rfl) ev_int ix_0) (av_consF ev_non av_nilF))) (ev_slT (ds := [.str g, .str tk, .str s, .int h]) (ev_name v5.r rfl) (ov_some ev_int) ov_none (by simp; decide)) (by simp) (by simp) (by simp))
    (av_consF (ev_catT (ds := [.str g, .str tk, .str s]) (es := [.int (10 ^ (40 : Int).toNat)]) (ev_slT (ds := [.str g, .str tk, .str s, .int h]) (ev_name v5.r rfl) ov_none (ov_some ev_int) (by simp; decide)) (by tm_at "e") (by simp) (by simp) (by simp)) av_nilF))) (Rdb.fz _) (Rdb.fz _) (by simp)) ?_)
  apply svs_retE
  refine ee_catF (ee_catF (EE.of (ev_slL (ev_name v0.r rfl) ov_none (ov_some (ev_name v4.r rfl)) (Rdb.fz _)) (ee_lst (ae_cons (ee_ixL (EE.of (ev_name v8.r rfl) (EE.of (r := .fz (.int (n / 1000 % 12))) (by tm_at "e") ?_)))))))
  refine pick_go Elt (by omega) (by simp only [List.length_cons, List.length_nil, List.length_append]; omega) (by
    intro d hd
    simp only [List.cons_append, List.nil_append, List.mem_cons, List.not_mem_nil, or_false] at hd
    have four : ∀ {a b c d : PyData}, Part a → Part b → Part c → Part d → Elt (.tuple [a, b, c, d]) := fun {a b c d} pa pb pc pd => .tup fun e he => by
      simp only [List.mem_cons, List.not_mem_nil, or_false] at he
      rcases he with rfl | rfl | rfl | rfl
      · exact pa
      · exact pb
      · exact pc
      · exact pd
    rcases hd with rfl | rfl | rfl | rfl | rfl | rfl | rfl | rfl | rfl | rfl | rfl | rfl
    · exact four pg pt ps (.int _)
    · exact four pg pt ps (.bl _)
    · exact four pg pt ps (.int _)
    · exact four pg pt ps (.int _)
    · refine .tup fun e he => ?_
      simp only [List.mem_cons, List.not_mem_nil, or_false] at he
      rcases he with rfl | rfl | rfl
      · exact pg
      · exact pt
      · exact ps
    · refine .lst fun e he => ?_
      simp only [List.mem_cons, List.not_mem_nil, or_false] at he
      rcases he with rfl | rfl | rfl | rfl
      · exact pg
      · exact pt
      · exact ps
      · exact .int _
    · exact four pz pt ps (.int _)
    · exact four pg pz ps (.int _)
    · exact four pg pt zz_part (.int _)
    · exact four pt pg ps (.int _)
    · exact four pg .non ps (.int _)
    · exact four pg pt ps (.int _)) ?_
  intro d hd
  have lc : ∀ lo hi, (PL.cutD (js.map dJb) lo hi).length ≤ 20 := fun lo hi => Nat.le_trans (cutD_length _ _ _) (by rw [List.length_map]; exact hl)
  refine ae_nil ⟨[d], rfl, by simp, _, _, Rdb.fz _, Rdb.fz _, by have := lc none (some (p : Int)); simp only [List.length_cons, List.length_nil]; omega, ?_⟩
  refine EE.of (ev_slL (ev_name v0.r rfl) (ov_some (ev_add (ev_name v4.r rfl) ev_int)) ov_none (Rdb.fz _)) ⟨_, _, Rdb.fz _, Rdb.fz _, by have := lc none (some (p : Int)); have := lc (some ((p : Int) + 1)) none; simp only [List.length_append, List.length_cons, List.length_nil]; omega, ?_⟩
  refine fin_same hγ (hP _ (.lst (by have := lc none (some (p : Int)); have := lc (some ((p : Int) + 1)) none; simp only [List.length_append, List.length_cons, List.length_nil]; omega) fun e he => ?_))
  rcases List.mem_append.mp he with h' | h'
  · rcases List.mem_append.mp h' with h'' | h''
    · exact eJ e (cut_mem h'')
    · obtain rfl := List.mem_singleton.mp h''
      exact hd
  · exact eJ e (cut_mem h')
theorem ok_bent {P : Program} {w : World} {K : PySem.W.Frag} {mg : Str → Option Value} {base : Heap} (g0 : G0 mg)
    {f : Addr} {fd : FuncData} (F : Fun K "_law_bent" "_law_bent" s_bent f fd) (hm : mg "_law_bent" = some (.ref f)) : FnD P w K mg base "_law_bent" 1 S_bent :=
  def_ok F sc_bent hm (F.binds (ps := ["_law_jobs_here", "_law_town_here", "_law_number"]) fun _ _ _ _ _ _ us hl => match us, hl with | [_, _, _], _ => rfl) (fun args γ P h => len_bent h)
    fun X c args γ Po hγ hS => body_bent g0  c hγ hS
end KK

namespace KK
open PySem PySem.Spec PyProof.Rows L2 PL
local macro_rules | `(tactic| tm_at "nm") => `(tactic| with_reducible first | assumption | exact Nm.r (by assumption))
local macro_rules | `(tactic| tm_at "bt") => `(tactic| with_reducible assumption)
local macro_rules | `(tactic| tm_at "asm") => `(tactic| assumption)
local macro_rules | `(tactic| tm_at "auto") => `(tactic| first | rfl | exact fun _ _ => rfl | (intro _; rfl) | decide | exact nomark _ | (with_unfolding_all rfl))
local macro_rules | `(tactic| tm_at "boot") => `(tactic| decide +kernel)
local macro_rules | `(tactic| tm_at "kit") => `(tactic| first | exact kit_int _ | exact kit_bool _ | exact kit_str _ | exact kit_list _ | exact kit_tuple _ | exact kit_dict _)
local macro_rules | `(tactic| tm_at "side") => `(tactic| first | assumption | decide | omega | (simp only [List.length_map, List.length_cons, List.length_nil, List.length_append]; omega) | (simp; done))
local macro_rules | `(tactic| tm_at "pos") => `(tactic| first | decide | assumption | exact Int.pow_pos (by decide) | omega)
local macro_rules | `(tactic| tm_at "mul") => `(tactic| first | assumption | (exact small_mul 200 200 (by omega) (by omega)))
local macro_rules | `(tactic| tm_at "div") => `(tactic| first | assumption | (exact wide_div (b := 200) (by omega) (by omega) (by decide) (by decide)))
local macro_rules | `(tactic| tm_at "pow") => `(tactic| (refine ⟨?_, ?_, ?_⟩ <;> decide))
local macro_rules | `(tactic| tm_at "rd") => `(tactic| first | exact Rdb.fz _ | exact Rdb.cl (by assumption) | exact Rdb.cl rfl)
local macro_rules | `(tactic| tm_at "rdl") => `(tactic| first | exact .inr rfl | exact .inl (by tm_at "rd"))
local macro_rules | `(tactic| tm_at "ix") => `(tactic| first | assumption | exact ix_0 | exact ix_1 | exact ix_2 | exact ix_3 | exact ix_4 | rfl)
local macro_rules | `(tactic| tm_at "cmp") => `(tactic| first | exact cmp_lt | exact cmp_le | exact cmp_gt | exact cmp_ge | exact cmp_eqI | exact cmp_neI | exact cmp_eqS | exact cmp_neS | exact cmp_leS | exact cmp_ltS | exact cmp_inSign | exact cmp_notInSign | exact cmp_isB | exact cmp_notB | exact cmp_isN | exact cmp_notN | exact cmp_eqB | exact cmp_neB)
local macro_rules | `(tactic| tm_at "intro") => `(tactic| (intro _; tm_at "e"))
local macro_rules | `(tactic| tm_at "introe") => `(tactic| (intro _; tm_at "e"))
local macro_rules | `(tactic| tm_at "introw") => `(tactic| (intro _; tm_at "w"))
local macro_rules | `(tactic| tm_at "a") => `(tactic| first
  | exact av_nil
  | (apply av_cons; (focus tm_at "e"); (focus tm_at "a"); (focus tm_at "auto")))
local macro_rules | `(tactic| tm_at "alli") => `(tactic| (repeat (first | exact all_nil | (refine all_cons ⟨_, rfl, ?_, ?_⟩ ?_; (focus omega); (focus omega)))))
local macro_rules | `(tactic| tm_at "afz") => `(tactic| first
  | exact av_nilF
  | (apply av_consF; (focus tm_at "e"); (focus tm_at "afz"); (focus tm_at "auto")))
local macro_rules | `(tactic| tm_at "o") => `(tactic| first
  | exact ov_none
  | (apply ov_some; (focus tm_at "e")))
local macro_rules | `(tactic| tm_at "e") => `(tactic| ((with_reducible show EV _ _ _ (Expr.Tuple _ _ _) _ _); first | (apply ev_tup; (focus tm_at "afz"); (focus tm_at "side"))))
local macro_rules | `(tactic| tm_at "e") => `(tactic| ((with_reducible show EV _ _ _ (Expr.List _ _) _ _); first | (apply ev_lst; (focus tm_at "afz"); (focus tm_at "side"))))
local macro_rules | `(tactic| tm_at "e") => `(tactic| ((with_reducible show EV _ _ _ (Expr.Call (Expr.Attribute _ _ _) _ _ _) _ _); first | (apply ev_join; (focus tm_at "e"); (focus tm_at "e"); (focus tm_at "rd"); (focus tm_at "side"); (focus tm_at "auto"); (focus tm_at "auto"); (focus tm_at "auto"))))
local macro_rules | `(tactic| tm_at "e") => `(tactic| ((with_reducible show EV _ _ _ (Expr.Call (Expr.Name _ _) _ _ _) _ _); first | (apply ev_lenL; (focus tm_at "bt"); (focus tm_at "e"); (focus tm_at "rd"); (focus tm_at "auto")) | (apply ev_lenC; (focus tm_at "bt"); (focus tm_at "e"); (focus tm_at "ix"); (focus tm_at "auto")) | (apply ev_lenT; (focus tm_at "bt"); (focus tm_at "e"); (focus tm_at "auto")) | (apply ev_lenS; (focus tm_at "bt"); (focus tm_at "e"); (focus tm_at "side"); (focus tm_at "auto")) | (apply ev_max2; (focus tm_at "asm"); (focus tm_at "bt"); (focus tm_at "e"); (focus tm_at "e"); (focus tm_at "auto"); (focus tm_at "auto"); (focus tm_at "auto")) | (apply ev_min2; (focus tm_at "asm"); (focus tm_at "bt"); (focus tm_at "e"); (focus tm_at "e"); (focus tm_at "auto"); (focus tm_at "auto"); (focus tm_at "auto")) | (apply ev_intB; (focus tm_at "bt"); (focus tm_at "e"); (focus tm_at "auto")) | (apply ev_intI; (focus tm_at "bt"); (focus tm_at "e"); (focus tm_at "auto")) | (apply ev_abs; (focus tm_at "bt"); (focus tm_at "e"); (focus tm_at "auto")) | (apply ev_sum; (focus tm_at "asm"); (focus tm_at "bt"); (focus tm_at "e"); (focus tm_at "rd"); (focus tm_at "auto")) | (apply ev_listF; (focus tm_at "bt"); (focus tm_at "e"); (focus tm_at "rdl"); (focus tm_at "auto")) | (apply ev_sorted; (focus tm_at "bt"); (focus tm_at "e"); (focus tm_at "rd"); (focus tm_at "auto")) | (apply ev_isi; (focus tm_at "bt"); (focus tm_at "bt"); (focus tm_at "boot"); (focus tm_at "e"); (focus tm_at "rd"); (focus tm_at "kit"); (focus tm_at "auto"); (focus tm_at "auto"); (focus tm_at "auto"); (focus tm_at "auto"); (focus tm_at "auto"))))
local macro_rules | `(tactic| tm_at "e") => `(tactic| ((with_reducible show EV _ _ _ (Expr.BoolOp BoolOp.Or _ _) _ _); first | (apply ev_or; (focus tm_at "e"); (focus tm_at "introe"))))
local macro_rules | `(tactic| tm_at "e") => `(tactic| ((with_reducible show EV _ _ _ (Expr.BoolOp BoolOp.And _ _) _ _); first | (apply ev_and; (focus tm_at "e"); (focus tm_at "introe"))))
local macro_rules | `(tactic| tm_at "e") => `(tactic| ((with_reducible show EV _ _ _ (Expr.BoolOp _ [_] _) _ _); first | (apply ev_one; (focus tm_at "e"))))
local macro_rules | `(tactic| tm_at "e") => `(tactic| ((with_reducible show EV _ _ _ (Expr.IfExp _ _ _ _) _ _); first | (apply ev_ifx; (focus tm_at "t"); (focus tm_at "intro"); (focus tm_at "intro"))))
local macro_rules | `(tactic| tm_at "e") => `(tactic| ((with_reducible show EV _ _ _ (Expr.Compare _ [_, _] [_, _] _) _ _); first | (apply ev_chain2; (focus tm_at "e"); (focus tm_at "e"); (focus tm_at "cmp"); (focus tm_at "e"); (focus tm_at "cmp"); (focus tm_at "auto"))))
local macro_rules | `(tactic| tm_at "e") => `(tactic| ((with_reducible show EV _ _ _ (Expr.Compare _ [_] [_] _) _ _); first | (apply ev_cmp; (focus tm_at "e"); (focus tm_at "e"); (focus tm_at "cmp"); (focus tm_at "auto"))))
local macro_rules | `(tactic| tm_at "e") => `(tactic| ((with_reducible show EV _ _ _ (Expr.UnaryOp UnaryOp.Not _ _) _ _); first | (apply ev_not; (focus tm_at "e"))))
local macro_rules | `(tactic| tm_at "e") => `(tactic| ((with_reducible show EV _ _ _ (Expr.UnaryOp UnaryOp.USub _ _) _ _); first | (apply ev_neg; (focus tm_at "e"))))
local macro_rules | `(tactic| tm_at "e") => `(tactic| ((with_reducible show EV _ _ _ (Expr.Subscript _ _ _) _ _); first | (apply ev_ixL; (focus tm_at "e"); (focus tm_at "e"); (focus tm_at "rd"); (focus tm_at "ix"); (focus tm_at "auto")) | (apply ev_ixT; (focus tm_at "e"); (focus tm_at "e"); (focus tm_at "ix"); (focus tm_at "auto")) | (apply ev_ixC; (focus tm_at "e"); (focus tm_at "e"); (focus tm_at "ix"); (focus tm_at "ix"); (focus tm_at "auto")) | (apply ev_ixP; (focus tm_at "e"); (focus tm_at "e"); (focus tm_at "ix"); (focus tm_at "auto")) | (apply ev_ixS; (focus tm_at "e"); (focus tm_at "e"); (focus tm_at "side"); (focus tm_at "asm"); (focus tm_at "auto"))))
local macro_rules | `(tactic| tm_at "e") => `(tactic| ((with_reducible show EV _ _ _ (Expr.Subscript _ (Expr.Slice _ _ _ _) _) _ _); first | (apply ev_slL; (focus tm_at "e"); (focus tm_at "o"); (focus tm_at "o"); (focus tm_at "rd")) | (apply ev_slT; (focus tm_at "e"); (focus tm_at "o"); (focus tm_at "o"); (focus tm_at "side")) | (apply ev_slS; (focus tm_at "e"); (focus tm_at "o"); (focus tm_at "o"); (focus tm_at "side"))))
local macro_rules | `(tactic| tm_at "e") => `(tactic| ((with_reducible show EV _ _ _ (Expr.BinOp _ Operator.Pow _ _) _ _); first | (apply ev_pow; (focus tm_at "e"); (focus tm_at "e"); (focus tm_at "pow"))))
local macro_rules | `(tactic| tm_at "e") => `(tactic| ((with_reducible show EV _ _ _ (Expr.BinOp _ Operator.FloorDiv _ _) _ _); first | (apply ev_div; (focus tm_at "e"); (focus tm_at "e"); (focus tm_at "div"))))
local macro_rules | `(tactic| tm_at "e") => `(tactic| ((with_reducible show EV _ _ _ (Expr.BinOp _ Operator.Mod _ _) _ _); first | (apply ev_mod; (focus tm_at "e"); (focus tm_at "e"); (focus tm_at "pos"))))
local macro_rules | `(tactic| tm_at "e") => `(tactic| ((with_reducible show EV _ _ _ (Expr.BinOp _ Operator.Mult _ _) _ _); first | (apply ev_mul; (focus tm_at "e"); (focus tm_at "e"); (focus tm_at "mul")) | (apply ev_repF; (focus tm_at "afz"); (focus tm_at "e"); (focus tm_at "side"); (focus tm_at "side"); (focus tm_at "side"))))
local macro_rules | `(tactic| tm_at "e") => `(tactic| ((with_reducible show EV _ _ _ (Expr.BinOp _ Operator.Sub _ _) _ _); first | (apply ev_sub; (focus tm_at "e"); (focus tm_at "e"))))
local macro_rules | `(tactic| tm_at "e") => `(tactic| ((with_reducible show EV _ _ _ (Expr.BinOp _ Operator.Add _ _) _ _); first | (apply ev_add; (focus tm_at "e"); (focus tm_at "e")) | (apply ev_catF; (focus tm_at "e"); (focus tm_at "e"); (focus tm_at "rd"); (focus tm_at "rd"); (focus tm_at "side")) | (apply ev_addS; (focus tm_at "e"); (focus tm_at "e"); (focus tm_at "side")) | (apply ev_catT; (focus tm_at "e"); (focus tm_at "e"); (focus tm_at "side"))))
local macro_rules | `(tactic| tm_at "e") => `(tactic| ((with_reducible show EV _ _ _ (Expr.Name _ _) _ _); first | (apply ev_name; (focus tm_at "nm"); (focus rfl))))
local macro_rules | `(tactic| tm_at "e") => `(tactic| ((with_reducible show EV _ _ _ (Expr.Constant _ _ _) _ _); first | exact ev_int | exact ev_bl | exact ev_str | exact ev_non))
local macro_rules | `(tactic| tm_at "t") => `(tactic| ((with_reducible show TV _ _ _ _ _ _); first | (apply tv_val; (focus tm_at "e"); (focus tm_at "auto")) | (apply tv_truthL; (focus tm_at "e"); (focus tm_at "rd"); (focus tm_at "auto")) | (apply tv_truthI; (focus tm_at "e"); (focus tm_at "auto"))))
local macro_rules | `(tactic| tm_at "t") => `(tactic| ((with_reducible show TV _ _ _ (Expr.BoolOp _ _ _) _ _); first | (apply tv_w; (focus tm_at "w"))))
local macro_rules | `(tactic| tm_at "t") => `(tactic| ((with_reducible show TV _ _ _ (Expr.UnaryOp UnaryOp.Not _ _) _ _); first | (apply tv_not; (focus tm_at "t"))))
local macro_rules | `(tactic| tm_at "t") => `(tactic| ((with_reducible show TV _ _ _ (Expr.Compare _ [_, _] [_, _] _) _ _); first | (apply tv_chain2; (focus tm_at "e"); (focus tm_at "e"); (focus tm_at "cmp"); (focus tm_at "e"); (focus tm_at "cmp"); (focus tm_at "auto"))))
local macro_rules | `(tactic| tm_at "t") => `(tactic| ((with_reducible show TV _ _ _ (Expr.Compare _ [_] [_] _) _ _); first | (apply tv_cmp; (focus tm_at "e"); (focus tm_at "e"); (focus tm_at "cmp"); (focus tm_at "auto"))))
local macro_rules | `(tactic| tm_at "w") => `(tactic| ((with_reducible show WV _ _ _ (Expr.BoolOp BoolOp.Or _ _) _ _); first | (apply wv_or; (focus tm_at "t"); (focus tm_at "introw"))))
local macro_rules | `(tactic| tm_at "w") => `(tactic| ((with_reducible show WV _ _ _ (Expr.BoolOp BoolOp.And _ _) _ _); first | (apply wv_and; (focus tm_at "t"); (focus tm_at "introw"))))
local macro_rules | `(tactic| tm_at "w") => `(tactic| ((with_reducible show WV _ _ _ (Expr.BoolOp BoolOp.Or [_] _) _ _); first | (apply wv_or1; (focus tm_at "t"))))
local macro_rules | `(tactic| tm_at "w") => `(tactic| ((with_reducible show WV _ _ _ (Expr.BoolOp BoolOp.And [_] _) _ _); first | (apply wv_and1; (focus tm_at "t"))))
local macro_rules | `(tactic| tm_at "ee") => `(tactic| first
  | (apply EE.of; (focus tm_at "e"); try (tm_at "ee"))
  | (refine ee_call' (by assumption) ?_; apply AE.of; (focus tm_at "a"))
  | (with_reducible refine ee_mod ?_; tm_at "ee")
  | (with_reducible refine ee_add ?_; tm_at "ee")
  | (with_reducible refine ee_sub ?_; tm_at "ee")
  | (with_reducible refine ee_mul ?_; tm_at "ee")
  | (with_reducible refine ee_div ?_; tm_at "ee")
  | (with_reducible refine ee_ixL ?_; tm_at "ee")
  | (refine ⟨_, rfl, ?_⟩; tm_at "ee"))

def S_law : PSpec := fun args γ P => ∃ ns : List Int, args = [.fz (.list (ns.map .int))] ∧ γ = [] ∧ ns.length ≤ 63 ∧ P (.fz (.bool true)) []
theorem len_law {args γ P} (h : S_law args γ P) : args.length = 1 := by obtain ⟨a, rfl, _⟩ := h; rfl
set_option maxHeartbeats 16000000 in
theorem body_law {P : Program} {w : World} {K : PySem.W.Frag} {mg : Str → Option Value} {base : Heap} (g0 : G0 mg)
    (D_is_exchange : FnD P w K mg base "is_exchange" 5 S_is_exchange)
    (D_moved : FnD P w K mg base "moved" 1 S_moved)
    (D_mixed : FnD P w K mg base "_law_mixed" 1 S_mixed)
    (D_turned : FnD P w K mg base "_law_turned" 1 S_turned)
    (D_town : FnD P w K mg base "_law_town" 3 S_town)
    (D_day : FnD P w K mg base "_law_day" 3 S_day)
    (D_due : FnD P w K mg base "_law_due" 2 S_due)
    (D_jobs : FnD P w K mg base "_law_jobs" 2 S_jobs)
    (D_bent : FnD P w K mg base "_law_bent" 1 S_bent)
    {X : Cx} (c : Ctx X P w K mg base N_law (defScope s_law) 5) {args : List Itm} {γ : Cells} {Po : EPost} (hγ : Clo γ) (hS : S_law args γ Po) :
    SVs X (slots0 N_law args) γ (defBody s_law) { nx := fun _ g => PL.Fin γ.length Po (.fz .none) g, rt := PL.Fin γ.length Po } := by
  have hX := c.ok
  have hp := c.po
  have v0 : Nm X "_law_script" 0 .local := c.nm 0 .local rfl (by decide +kernel) (.inl rfl) (by decide +kernel) (by decide +kernel)
  have v1 : Nm X "_law_k" 1 .local := c.nm 1 .local rfl (by decide +kernel) (.inl rfl) (by decide +kernel) (by decide +kernel)
  have v2 : Nm X "_law_number" 2 .local := c.nm 2 .local rfl (by decide +kernel) (.inl rfl) (by decide +kernel) (by decide +kernel)
  have v3 : Nm X "_law_town_here" 3 .local := c.nm 3 .local rfl (by decide +kernel) (.inl rfl) (by decide +kernel) (by decide +kernel)
  have v4 : Nm X "_law_day_here" 4 .local := c.nm 4 .local rfl (by decide +kernel) (.inl rfl) (by decide +kernel) (by decide +kernel)
  have v5 : Nm X "_law_jobs_here" 5 .local := c.nm 5 .local rfl (by decide +kernel) (.inl rfl) (by decide +kernel) (by decide +kernel)
  have v6 : Nm X "_law_handed" 6 .local := c.nm 6 .local rfl (by decide +kernel) (.inl rfl) (by decide +kernel) (by decide +kernel)
  have v7 : Nm X "_law_turn" 7 .local := c.nm 7 .local rfl (by decide +kernel) (.inl rfl) (by decide +kernel) (by decide +kernel)
  have v8 : Nm X "_law_told" 8 .local := c.nm 8 .local rfl (by decide +kernel) (.inl rfl) (by decide +kernel) (by decide +kernel)
  have b_range : Bt X "range" := c.bt (by decide +kernel) g0.b_range
  have b_max : Bt X "max" := c.bt (by decide +kernel) g0.b_max
  have b_len : Bt X "len" := c.bt (by decide +kernel) g0.b_len
  have k_mixed : Cal X "_law_mixed" S_mixed := c.cal D_mixed (by decide) (by decide +kernel) (by decide +kernel)
  have k_town : Cal X "_law_town" S_town := c.cal D_town (by decide) (by decide +kernel) (by decide +kernel)
  have k_day : Cal X "_law_day" S_day := c.cal D_day (by decide) (by decide +kernel) (by decide +kernel)
  have k_jobs : Cal X "_law_jobs" S_jobs := c.cal D_jobs (by decide) (by decide +kernel) (by decide +kernel)
  have k_moved : Cal X "moved" S_moved := c.cal D_moved (by decide) (by decide +kernel) (by decide +kernel)
  have b_sum : Bt X "sum" := c.bt (by decide +kernel) g0.b_sum
  have k_bent : Cal X "_law_bent" S_bent := c.cal D_bent (by decide) (by decide +kernel) (by decide +kernel)
  have k_turned : Cal X "_law_turned" S_turned := c.cal D_turned (by decide) (by decide +kernel) (by decide +kernel)
  have b_isinstance : Bt X "isinstance" := c.bt (by decide +kernel) g0.b_isinstance
  have b_list : Bt X "list" := c.bt (by decide +kernel) g0.b_list
  have k_is_exchange : Cal X "is_exchange" S_is_exchange := c.cal D_is_exchange (by decide) (by decide +kernel) (by decide +kernel)
  have b_bool : Bt X "bool" := c.bt (by decide +kernel) g0.b_bool
  have k_due : Cal X "_law_due" S_due := c.cal D_due (by decide) (by decide +kernel) (by decide +kernel)
  classical
  obtain ⟨ns, rfl, rfl, hn, hP⟩ := hS
  have hFin : PL.Fin 0 Po (.fz (.bool true)) [] := fin_junk (γ := []) (junk := []) hγ hP
  refine svs_for hX hp (itv_range1 (n := max 1 (ns.length : Int)) b_range (EV.is (ev_max2 hX b_max ev_int (ev_lenL b_len (ev_name v0.r rfl) (Rdb.fz _))) (by simp)) (by omega) (by omega))
    (fun i Γ' g => ∃ (s1 s2 s3 s4 s5 s6 s7 s8 : Option Itm), Γ' = [some (.fz (.list (ns.map .int))), s1, s2, s3, s4, s5, s6, s7, s8, none] ∧ g = [])
    ⟨_, _, _, _, _, _, _, _, rfl, rfl⟩ (fun _ _ _ _ _ => trivial) ?_ ?_
  · rintro i x Γ' g hx ⟨s1, s2, s3, s4, s5, s6, s7, s8, rfl, rfl⟩
    obtain ⟨hi, rfl⟩ := rngL_get hx
    have hi63 : i < 63 := by omega
    rw [Int.zero_add]
    refine ⟨_, _, gv_name hX v1, ?_⟩
    apply svs_setE hX v2
    refine ee_call' k_mixed (AE.of (rs := [.fz (.list (ns.map .int)), .fz (.int (i : Int))]) (γ1 := []) (by tm_at "a") ⟨_, _, rfl, ⟨ns, rfl, hn⟩, by omega, by omega, fun nu h0 h1 => ?_⟩)
    -- town
    apply svs_setE hX v3
    refine ee_call' k_town (AE.of (rs := [.fz (.int nu), .fz (.int (2 + nu % 5))]) (γ1 := []) (by tm_at "a") ⟨nu, 2 + nu % 5, rfl, h0, by omega, by omega, by omega, fun t htl hT => ?_⟩)
    have ht2 : 2 ≤ t.length := by omega
    have ht := hT.len
    -- day
    apply svs_setE hX v4
    refine ee_call' k_day (ae_cons (EE.of (ev_name v3.r rfl) (ae_cons (EE.of (ev_name v2.r rfl) (ae_cons (ee_ixL (EE.of (ev_lst (ds := [.int 4, .int 9, .int 20]) (by tm_at "afz")) (EE.of (r := .fz (.int (nu / 5 % 3))) (by tm_at "e") ?_))))))))
    refine pick_go (fun d => ∃ m : Int, d = .int m ∧ 0 ≤ m ∧ m ≤ 20) (by omega) (by simp only [List.length_cons, List.length_nil]; omega) (by
      intro d hd
      simp at hd
      rcases hd with rfl | rfl | rfl
      · exact ⟨4, rfl, by decide, by decide⟩
      · exact ⟨9, rfl, by decide, by decide⟩
      · exact ⟨20, rfl, by decide, by decide⟩) ?_
    rintro _ ⟨m, rfl, hm0, hm1⟩
    refine ae_nil ⟨t, nu, m, rfl, hT, h0, by omega, hm0, hm1, fun d hD hdl => ?_⟩
    -- jobs
    apply svs_setE hX v5
    refine ee_call' k_jobs (AE.of (rs := [.fz (dDay d), .fz (.int nu)]) (γ1 := []) (by tm_at "a") ⟨d, nu, rfl, h0, by omega, hdl, hD.ok, fun js hjl hj => ?_⟩)
    refine svs_if (k := false) (TV.is (tv_cmp (ev_call k_moved (by tm_at "a") ⟨js, rfl, by omega, rfl, rfl⟩) (ev_sum (ns := js.map (·.2.2.2)) hX b_sum (ev_lcM (w := 9) dJb js (fun j => .int j.2.2.2) hX (by rw [c.N, c.sc]; exact ⟨rfl, by decide +kernel, by decide +kernel, by decide +kernel, by decide +kernel⟩) (fun X' hB => ⟨hB.cok hX rfl, hB.own (by rw [c.N]; rfl) (by decide +kernel) (by decide +kernel) (by decide +kernel)⟩) (ev_name v5.r rfl) (Rdb.fz _) (by omega) (fun j hm acc X' hB => ?_)) (by rw [List.map_map]; exact Rdb.fz _)) cmp_neI) (by simp)) (fun h => by cases h) (fun _ => svs_nil ?_)
    ·
      have hX_X' := hB.cok hX rfl
      have w9_X' : Nm X' "_law_job" 9 .local := hB.own (by rw [c.N]; rfl) (by decide +kernel) (by decide +kernel) (by decide +kernel)
      exact ev_ixT (ds := [.str j.1, .str j.2.1, .str j.2.2.1, .int j.2.2.2]) (ev_name w9_X'.r rfl) ev_int ix_3
    have mJ : Mild (.list (js.map dJb)) := .lst (by simp; omega) fun e he => by
      obtain ⟨j, hj', rfl⟩ := List.mem_map.mp he
      exact (hj j hj').elt
    refine svs_ifM (fun Γ' g => ∃ x : PyData, Γ' = [some (.fz (.list (ns.map .int))), some (.fz (.int (i : Int))), some (.fz (.int nu)), some (.fz (.list (t.map dNb))), some (.fz (dDay d)), some (.fz x), s6, s7, s8, none] ∧ g = [] ∧ Mild x)
      (tp_cmp (EE.of (ev_mod (ev_div (ev_name v2.r rfl) ev_int (wide_div (b := 200) (by omega) (by omega) (by decide) (by decide))) ev_int (by decide)) (EE.of ev_int ⟨_, cmp_eqI, fun _ => ?_, fun _ => svs_nil ⟨_, rfl, rfl, mJ⟩⟩))) ?_
    · apply svs_setE hX v5
      refine ee_call' k_bent (AE.of (rs := [.fz (.list (js.map dJb)), .fz (.list (t.map dNb)), .fz (.int (turnF nu 2))]) (γ1 := []) (av_cons (ev_name v5.r rfl) (av_cons (ev_name v3.r rfl) (av_cons (ev_call k_turned (by tm_at "a") ⟨nu, 2, rfl, h0, by omega, by omega, by omega, rfl, rfl⟩) av_nil))) ⟨js, t, _, rfl, hjl, hj, hT, ht2, turn0 _ _, turn1 _ _, fun x hx => svs_nil ⟨x, rfl, rfl, hx⟩⟩)
    rintro Γ' g ⟨x, rfl, rfl, hx⟩
    have hsx := hx.shp.shaped
    refine svs_setE hX v6 (EE.of (r := .fz x) (γ1 := []) (ev_ifx (tv_val (ev_isi b_isinstance b_list (by decide +kernel) (ev_name v5.r rfl) (Rdb.fz _) (kit_list _))) (fun q => ?_) (fun _ => ev_name v5.r rfl)) ?_)
    · obtain ⟨ds, rfl⟩ : ∃ ds, x = .list ds := by cases x <;> simp [isL] at q; exact ⟨_, rfl⟩
      exact ev_listF b_list (ev_name v5.r rfl) (.inl (Rdb.fz _))
    refine svs_for hX hp (itv_range1 (n := 2) b_range ev_int (by decide) (by decide))
      (fun j Γ' g => ∃ (s7 s8 : Option Itm), Γ' = [some (.fz (.list (ns.map .int))), some (.fz (.int (i : Int))), some (.fz (.int nu)), some (.fz (.list (t.map dNb))), some (.fz (dDay d)), some (.fz x), some (.fz x), s7, s8, none] ∧ g = [])
      ⟨_, _, rfl, rfl⟩ (fun _ _ _ _ _ => trivial) ?_ ?_
    · rintro j y Γ' g hy ⟨s7, s8, rfl, rfl⟩
      refine ⟨_, _, gv_name hX v7, ?_⟩
      refine svs_setE hX v8 (EE.of (ev_call k_is_exchange (by tm_at "a") ⟨t, d, x, rfl, hT, hD, hx.tx, decide (ExP t d x), decide_eq_true_iff, rfl, rfl⟩) ?_)
      refine svs_if (k := false) (TV.is (tv_w (wv_or (tv_not (tv_val (ev_isi b_isinstance b_bool (by decide +kernel) (ev_name v8.r rfl) (Rdb.fz _) (kit_bool _)))) fun _ => wv_or (tv_cmp (ev_name v8.r rfl) (ev_call k_due (by tm_at "a") ⟨t, d, x, rfl, hT, hD, hx, decide (ExP t d x), decide_eq_true_iff, rfl, rfl⟩) cmp_neB) fun _ => wv_or1 (tv_cmp (ev_name v6.r rfl) (ev_name v5.r rfl) (cmp_neD hX (Rdb.fz _) (Rdb.fz _) hsx hsx)))) (by rw [hx.self]; simp [isB])) (fun h => by cases h) (fun _ => svs_nil (svs_nil ⟨_, _, rfl, rfl⟩))
    · rintro Γ' g ⟨s7, s8, rfl, rfl⟩
      exact svs_nil ⟨_, _, _, _, _, _, _, _, rfl, rfl⟩
  · rintro Γ' g ⟨s1, s2, s3, s4, s5, s6, s7, s8, rfl, rfl⟩
    apply svs_retE
    exact EE.of (ev_cmp (ev_call k_moved (av_cons (ev_lst (ds := []) av_nil) av_nil) ⟨[], rfl, by simp, rfl, rfl⟩) ev_int cmp_eqI) hFin
end KK

namespace KK
open PySem PySem.Spec PyProof.Rows L2 PL
def spLaw (K : PySem.W.Frag) : Sp := fun vs H Q _ => ∃ (a : Addr) (ns : List Int), vs = [.ref a] ∧ SqL K H a (ns.map V.int) ∧ ns.length ≤ 63 ∧ ∀ H', Q (.bl true) H'
theorem law_sp {K : PySem.W.Frag} (vs : List V) (H : Hp) (Q : VK) (E : XK) (h : spLaw K vs H Q E) : spPL K S_law vs H Q E := by
  obtain ⟨a, ns, rfl, hS, hl, hq⟩ := h
  refine ⟨H, [], [], [.fz (.list (ns.map .int))], fun r g => r = .fz (.bool true), ⟨fun _ _ h => h, by simp, rfl, by simp, fun c o h => by simp at h⟩, .cons (itm_lst.mpr ⟨a, ns.map V.int, rfl, hS, dpAll_ints ns⟩) .nil, ⟨ns, rfl, rfl, hl, rfl⟩, ?_⟩
  rintro v r g F' as' H' rfl x R i
  rw [itm_bl.mp i]
  exact hq H'
theorem law_fn {P : Program} {w : World} {K : PySem.W.Frag} {mg : Str → Option Value} {base : Heap} {qual x : Str} {st : Stmt} {f : Addr} {fd : FuncData} {N ps : List Str} {k : Nat} {S : PSpec} {sp : Sp} (F : Fun K x qual st f fd) (SC : FnScope N ps (defScope st))
    (len : ∀ args γ P, S args γ P → args.length = ps.length)
    (body : ∀ X : Cx, PL.Ctx X P w K mg base N (defScope st) k → ∀ args γ Po, Clo γ → S args γ Po → SVs X (slots0 N args) γ (defBody st) { nx := fun _ g => PL.Fin γ.length Po (.fz .none) g, rt := PL.Fin γ.length Po })
    (hsp : ∀ vs H Q E, sp vs H Q E → spPL K S vs H Q E) : FnOk P w K mg base CX0 (k + 1) f fd ps sp := by
  refine FnOk.imp (sp := spPL K S) (F.ok SC (fun vs H Q E h => ?_) (fun cdv A outer s H vs Q E hr h => ?_)) hsp
  · obtain ⟨F, as, γ, args, Po, R, i, hs, _⟩ := h
    rw [← itms_length i]
    exact len _ _ _ hs
  · obtain ⟨F', as, γ, args, Po, R, i, hs, q⟩ := h
    refine ⟨_, pss_wp, ?_⟩
    have c : PL.Ctx (cxOf CX0 P w K mg base N qual (defScope st) f cdv A outer s H E).nox P w K mg base N (defScope st) k :=
      ⟨rfl, rfl, rfl, rfl, rfl, rfl, rfl, rfl, ⟨rfl, SC.nd, SC.kind, by have := hr.un; show (A.deeper (envOfC qual (defScope st) s.heap.objs.size f cdv)).units + 100 < cLine; omega⟩, hr, PassesOwn.never⟩
    refine body _ c args γ Po R.clo hs F' as (start N vs) H _ R (env_start i) ⟨fun Γ' g F1 as1 σ1 H1 hn x1 R1 E1 => ?_, fun r g F1 as1 v H1 hn x1 R1 i1 => ?_, fun _ _ _ _ _ _ z => z.elim, fun _ _ _ _ _ _ z => z.elim⟩
    · obtain ⟨g', junk, rfl, hl, hc, hi, hp⟩ := hn
      refine q _ _ g' F1 (as1.take g'.length) H1 hp ⟨x1.1, ?_⟩ (R1.cut hc) (itm_non.mpr rfl)
      obtain ⟨_, t, rfl⟩ := x1
      rw [List.take_append, List.take_of_length_le (by rw [R.len]; exact hl)]
      exact ⟨_, rfl⟩
    · obtain ⟨g', junk, rfl, hl, hc, hi, hp⟩ := hn
      refine q _ _ g' F1 (as1.take g'.length) H1 hp ⟨x1.1, ?_⟩ (R1.cut hc) (itm_cut i1 hi)
      obtain ⟨_, t, rfl⟩ := x1
      rw [List.take_append, List.take_of_length_le (by rw [R.len]; exact hl)]
      exact ⟨_, rfl⟩

theorem all_mk {l : PySem.W.OpenLaw} {w : World} {K : PySem.W.Frag} {h : Heap} {mg : Str → Option Value} {fa f0 f1 f2 f3 f4 f5 f6 f7 f8 f9 f10 f11 f12 f13 f14 f15 f16 f17 f18 f19 f20 f21 f22 f23 f24 : Addr} (X : K.In h) (G : h.Ns mainGlobals mg) (hfa : mg "law" = some (.ref fa))
    {od0 an0 od1 an1 od2 an2 od3 an3 od4 an4 od5 an5 od6 an6 od7 an7 od8 an8 od9 an9 od10 an10 od11 an11 od12 an12 od13 an13 od14 an14 od15 an15 od16 an16 od17 an17 od18 an18 od19 an19 od20 an20 od21 an21 od22 an22 od23 an23 od24 an24 : Option Addr} {sl0 sl1 sl2 sl3 sl4 sl5 sl6 sl7 sl8 sl9 sl10 sl11 sl12 sl13 sl14 sl15 sl16 sl17 sl18 sl19 sl20 sl21 sl22 sl23 sl24 : Array (Option Value)} {oc0 kV0 dc0 pm0 cd0 ct0 oc1 kV1 dc1 pm1 cd1 ct1 oc2 kV2 dc2 pm2 cd2 ct2 oc3 kV3 dc3 pm3 cd3 ct3 oc4 kV4 dc4 pm4 cd4 ct4 oc5 kV5 dc5 pm5 cd5 ct5 oc6 kV6 dc6 pm6 cd6 ct6 oc7 kV7 dc7 pm7 cd7 ct7 oc8 kV8 dc8 pm8 cd8 ct8 oc9 kV9 dc9 pm9 cd9 ct9 oc10 kV10 dc10 pm10 cd10 ct10 oc11 kV11 dc11 pm11 cd11 ct11 oc12 kV12 dc12 pm12 cd12 ct12 oc13 kV13 dc13 pm13 cd13 ct13 oc14 kV14 dc14 pm14 cd14 ct14 oc15 kV15 dc15 pm15 cd15 ct15 oc16 kV16 dc16 pm16 cd16 ct16 oc17 kV17 dc17 pm17 cd17 ct17 oc18 kV18 dc18 pm18 cd18 ct18 oc19 kV19 dc19 pm19 cd19 ct19 oc20 kV20 dc20 pm20 cd20 ct20 oc21 kV21 dc21 pm21 cd21 ct21 oc22 kV22 dc22 pm22 cd22 ct22 oc23 kV23 dc23 pm23 cd23 ct23 oc24 kV24 dc24 pm24 cd24 ct24 : Value}
    (a0 : PySem.W.nsIn K mainGlobals "is_name" = some (some (.ref f0))) (l0 : K.lookup f0 = some ⟨oc0, od0, .func (PySem.W.fnOf "is_name" "is_name" (defArgs s_is_name) (defBody s_is_name) (defScope s_is_name) .none kV0 dc0 pm0 an0 cd0 ct0), sl0⟩) (c0 : PySem.W.codeIn K cd0 "is_name" = true) (k0 : PySem.W.keepIn K (.ref f0) = true)
    (a1 : PySem.W.nsIn K mainGlobals "is_whole" = some (some (.ref f1))) (l1 : K.lookup f1 = some ⟨oc1, od1, .func (PySem.W.fnOf "is_whole" "is_whole" (defArgs s_is_whole) (defBody s_is_whole) (defScope s_is_whole) .none kV1 dc1 pm1 an1 cd1 ct1), sl1⟩) (c1 : PySem.W.codeIn K cd1 "is_whole" = true) (k1 : PySem.W.keepIn K (.ref f1) = true)
    (a2 : PySem.W.nsIn K mainGlobals "skills_of" = some (some (.ref f2))) (l2 : K.lookup f2 = some ⟨oc2, od2, .func (PySem.W.fnOf "skills_of" "skills_of" (defArgs s_skills_of) (defBody s_skills_of) (defScope s_skills_of) .none kV2 dc2 pm2 an2 cd2 ct2), sl2⟩) (c2 : PySem.W.codeIn K cd2 "skills_of" = true) (k2 : PySem.W.keepIn K (.ref f2) = true)
    (a3 : PySem.W.nsIn K mainGlobals "is_exchange" = some (some (.ref f3))) (l3 : K.lookup f3 = some ⟨oc3, od3, .func (PySem.W.fnOf "is_exchange" "is_exchange" (defArgs s_is_exchange) (defBody s_is_exchange) (defScope s_is_exchange) .none kV3 dc3 pm3 an3 cd3 ct3), sl3⟩) (c3 : PySem.W.codeIn K cd3 "is_exchange" = true) (k3 : PySem.W.keepIn K (.ref f3) = true)
    (a4 : PySem.W.nsIn K mainGlobals "moved" = some (some (.ref f4))) (l4 : K.lookup f4 = some ⟨oc4, od4, .func (PySem.W.fnOf "moved" "moved" (defArgs s_moved) (defBody s_moved) (defScope s_moved) .none kV4 dc4 pm4 an4 cd4 ct4), sl4⟩) (c4 : PySem.W.codeIn K cd4 "moved" = true) (k4 : PySem.W.keepIn K (.ref f4) = true)
    (a5 : PySem.W.nsIn K mainGlobals "_is_row" = some (some (.ref f5))) (l5 : K.lookup f5 = some ⟨oc5, od5, .func (PySem.W.fnOf "_is_row" "_is_row" (defArgs s__is_row) (defBody s__is_row) (defScope s__is_row) .none kV5 dc5 pm5 an5 cd5 ct5), sl5⟩) (c5 : PySem.W.codeIn K cd5 "_is_row" = true) (k5 : PySem.W.keepIn K (.ref f5) = true)
    (a6 : PySem.W.nsIn K mainGlobals "_is_town" = some (some (.ref f6))) (l6 : K.lookup f6 = some ⟨oc6, od6, .func (PySem.W.fnOf "_is_town" "_is_town" (defArgs s__is_town) (defBody s__is_town) (defScope s__is_town) .none kV6 dc6 pm6 an6 cd6 ct6), sl6⟩) (c6 : PySem.W.codeIn K cd6 "_is_town" = true) (k6 : PySem.W.keepIn K (.ref f6) = true)
    (a7 : PySem.W.nsIn K mainGlobals "_is_neighbour" = some (some (.ref f7))) (l7 : K.lookup f7 = some ⟨oc7, od7, .func (PySem.W.fnOf "_is_neighbour" "_is_neighbour" (defArgs s__is_neighbour) (defBody s__is_neighbour) (defScope s__is_neighbour) .none kV7 dc7 pm7 an7 cd7 ct7), sl7⟩) (c7 : PySem.W.codeIn K cd7 "_is_neighbour" = true) (k7 : PySem.W.keepIn K (.ref f7) = true)
    (a8 : PySem.W.nsIn K mainGlobals "_is_day" = some (some (.ref f8))) (l8 : K.lookup f8 = some ⟨oc8, od8, .func (PySem.W.fnOf "_is_day" "_is_day" (defArgs s__is_day) (defBody s__is_day) (defScope s__is_day) .none kV8 dc8 pm8 an8 cd8 ct8), sl8⟩) (c8 : PySem.W.codeIn K cd8 "_is_day" = true) (k8 : PySem.W.keepIn K (.ref f8) = true)
    (a9 : PySem.W.nsIn K mainGlobals "_is_offer_or_wish" = some (some (.ref f9))) (l9 : K.lookup f9 = some ⟨oc9, od9, .func (PySem.W.fnOf "_is_offer_or_wish" "_is_offer_or_wish" (defArgs s__is_offer_or_wish) (defBody s__is_offer_or_wish) (defScope s__is_offer_or_wish) .none kV9 dc9 pm9 an9 cd9 ct9), sl9⟩) (c9 : PySem.W.codeIn K cd9 "_is_offer_or_wish" = true) (k9 : PySem.W.keepIn K (.ref f9) = true)
    (a10 : PySem.W.nsIn K mainGlobals "_are_jobs" = some (some (.ref f10))) (l10 : K.lookup f10 = some ⟨oc10, od10, .func (PySem.W.fnOf "_are_jobs" "_are_jobs" (defArgs s__are_jobs) (defBody s__are_jobs) (defScope s__are_jobs) .none kV10 dc10 pm10 an10 cd10 ct10), sl10⟩) (c10 : PySem.W.codeIn K cd10 "_are_jobs" = true) (k10 : PySem.W.keepIn K (.ref f10) = true)
    (a11 : PySem.W.nsIn K mainGlobals "_is_job" = some (some (.ref f11))) (l11 : K.lookup f11 = some ⟨oc11, od11, .func (PySem.W.fnOf "_is_job" "_is_job" (defArgs s__is_job) (defBody s__is_job) (defScope s__is_job) .none kV11 dc11 pm11 an11 cd11 ct11), sl11⟩) (c11 : PySem.W.codeIn K cd11 "_is_job" = true) (k11 : PySem.W.keepIn K (.ref f11) = true)
    (a12 : PySem.W.nsIn K mainGlobals "_covers" = some (some (.ref f12))) (l12 : K.lookup f12 = some ⟨oc12, od12, .func (PySem.W.fnOf "_covers" "_covers" (defArgs s__covers) (defBody s__covers) (defScope s__covers) .none kV12 dc12 pm12 an12 cd12 ct12), sl12⟩) (c12 : PySem.W.codeIn K cd12 "_covers" = true) (k12 : PySem.W.keepIn K (.ref f12) = true)
    (a13 : PySem.W.nsIn K mainGlobals "_purses_hold" = some (some (.ref f13))) (l13 : K.lookup f13 = some ⟨oc13, od13, .func (PySem.W.fnOf "_purses_hold" "_purses_hold" (defArgs s__purses_hold) (defBody s__purses_hold) (defScope s__purses_hold) .none kV13 dc13 pm13 an13 cd13 ct13), sl13⟩) (c13 : PySem.W.codeIn K cd13 "_purses_hold" = true) (k13 : PySem.W.keepIn K (.ref f13) = true)
    (a14 : PySem.W.nsIn K mainGlobals "_law_mixed" = some (some (.ref f14))) (l14 : K.lookup f14 = some ⟨oc14, od14, .func (PySem.W.fnOf "_law_mixed" "_law_mixed" (defArgs s_mixed) (defBody s_mixed) (defScope s_mixed) .none kV14 dc14 pm14 an14 cd14 ct14), sl14⟩) (c14 : PySem.W.codeIn K cd14 "_law_mixed" = true) (k14 : PySem.W.keepIn K (.ref f14) = true)
    (a15 : PySem.W.nsIn K mainGlobals "_law_turned" = some (some (.ref f15))) (l15 : K.lookup f15 = some ⟨oc15, od15, .func (PySem.W.fnOf "_law_turned" "_law_turned" (defArgs s_turned) (defBody s_turned) (defScope s_turned) .none kV15 dc15 pm15 an15 cd15 ct15), sl15⟩) (c15 : PySem.W.codeIn K cd15 "_law_turned" = true) (k15 : PySem.W.keepIn K (.ref f15) = true)
    (a16 : PySem.W.nsIn K mainGlobals "_law_name" = some (some (.ref f16))) (l16 : K.lookup f16 = some ⟨oc16, od16, .func (PySem.W.fnOf "_law_name" "_law_name" (defArgs s_name) (defBody s_name) (defScope s_name) .none kV16 dc16 pm16 an16 cd16 ct16), sl16⟩) (c16 : PySem.W.codeIn K cd16 "_law_name" = true) (k16 : PySem.W.keepIn K (.ref f16) = true)
    (a17 : PySem.W.nsIn K mainGlobals "_law_size" = some (some (.ref f17))) (l17 : K.lookup f17 = some ⟨oc17, od17, .func (PySem.W.fnOf "_law_size" "_law_size" (defArgs s_size) (defBody s_size) (defScope s_size) .none kV17 dc17 pm17 an17 cd17 ct17), sl17⟩) (c17 : PySem.W.codeIn K cd17 "_law_size" = true) (k17 : PySem.W.keepIn K (.ref f17) = true)
    (a18 : PySem.W.nsIn K mainGlobals "_law_town" = some (some (.ref f18))) (l18 : K.lookup f18 = some ⟨oc18, od18, .func (PySem.W.fnOf "_law_town" "_law_town" (defArgs s_town) (defBody s_town) (defScope s_town) .none kV18 dc18 pm18 an18 cd18 ct18), sl18⟩) (c18 : PySem.W.codeIn K cd18 "_law_town" = true) (k18 : PySem.W.keepIn K (.ref f18) = true)
    (a19 : PySem.W.nsIn K mainGlobals "_law_day" = some (some (.ref f19))) (l19 : K.lookup f19 = some ⟨oc19, od19, .func (PySem.W.fnOf "_law_day" "_law_day" (defArgs s_day) (defBody s_day) (defScope s_day) .none kV19 dc19 pm19 an19 cd19 ct19), sl19⟩) (c19 : PySem.W.codeIn K cd19 "_law_day" = true) (k19 : PySem.W.keepIn K (.ref f19) = true)
    (a20 : PySem.W.nsIn K mainGlobals "_law_is_job" = some (some (.ref f20))) (l20 : K.lookup f20 = some ⟨oc20, od20, .func (PySem.W.fnOf "_law_is_job" "_law_is_job" (defArgs s_is_job) (defBody s_is_job) (defScope s_is_job) .none kV20 dc20 pm20 an20 cd20 ct20), sl20⟩) (c20 : PySem.W.codeIn K cd20 "_law_is_job" = true) (k20 : PySem.W.keepIn K (.ref f20) = true)
    (a21 : PySem.W.nsIn K mainGlobals "_law_due" = some (some (.ref f21))) (l21 : K.lookup f21 = some ⟨oc21, od21, .func (PySem.W.fnOf "_law_due" "_law_due" (defArgs s_due) (defBody s_due) (defScope s_due) .none kV21 dc21 pm21 an21 cd21 ct21), sl21⟩) (c21 : PySem.W.codeIn K cd21 "_law_due" = true) (k21 : PySem.W.keepIn K (.ref f21) = true)
    (a22 : PySem.W.nsIn K mainGlobals "_law_jobs" = some (some (.ref f22))) (l22 : K.lookup f22 = some ⟨oc22, od22, .func (PySem.W.fnOf "_law_jobs" "_law_jobs" (defArgs s_jobs) (defBody s_jobs) (defScope s_jobs) .none kV22 dc22 pm22 an22 cd22 ct22), sl22⟩) (c22 : PySem.W.codeIn K cd22 "_law_jobs" = true) (k22 : PySem.W.keepIn K (.ref f22) = true)
    (a23 : PySem.W.nsIn K mainGlobals "_law_bent" = some (some (.ref f23))) (l23 : K.lookup f23 = some ⟨oc23, od23, .func (PySem.W.fnOf "_law_bent" "_law_bent" (defArgs s_bent) (defBody s_bent) (defScope s_bent) .none kV23 dc23 pm23 an23 cd23 ct23), sl23⟩) (c23 : PySem.W.codeIn K cd23 "_law_bent" = true) (k23 : PySem.W.keepIn K (.ref f23) = true)
    (a24 : PySem.W.nsIn K mainGlobals "law" = some (some (.ref f24))) (l24 : K.lookup f24 = some ⟨oc24, od24, .func (PySem.W.fnOf "law" "law" (defArgs s_law) (defBody s_law) (defScope s_law) .none kV24 dc24 pm24 an24 cd24 ct24), sl24⟩) (c24 : PySem.W.codeIn K cd24 "law" = true) (k24 : PySem.W.keepIn K (.ref f24) = true)
    (z_all : PySem.W.nsIn K mainGlobals "all" = some none)
    (z_bool : PySem.W.nsIn K mainGlobals "bool" = some none)
    (z_enumerate : PySem.W.nsIn K mainGlobals "enumerate" = some none)
    (z_int : PySem.W.nsIn K mainGlobals "int" = some none)
    (z_isinstance : PySem.W.nsIn K mainGlobals "isinstance" = some none)
    (z_len : PySem.W.nsIn K mainGlobals "len" = some none)
    (z_list : PySem.W.nsIn K mainGlobals "list" = some none)
    (z_max : PySem.W.nsIn K mainGlobals "max" = some none)
    (z_min : PySem.W.nsIn K mainGlobals "min" = some none)
    (z_range : PySem.W.nsIn K mainGlobals "range" = some none)
    (z_set : PySem.W.nsIn K mainGlobals "set" = some none)
    (z_sorted : PySem.W.nsIn K mainGlobals "sorted" = some none)
    (z_str : PySem.W.nsIn K mainGlobals "str" = some none)
    (z_sum : PySem.W.nsIn K mainGlobals "sum" = some none)
    (z_tuple : PySem.W.nsIn K mainGlobals "tuple" = some none)
    {t_MOST_HOURS : Tok} (y_MOST_HOURS : PySem.W.nsIn K mainGlobals "MOST_HOURS" = some (some (.int 1000000000000000000000000000000 t_MOST_HOURS)))
    {t_MOST_LETTERS : Tok} (y_MOST_LETTERS : PySem.W.nsIn K mainGlobals "MOST_LETTERS" = some (some (.int 8 t_MOST_LETTERS)))
    {t_MOST_NEIGHBOURS : Tok} (y_MOST_NEIGHBOURS : PySem.W.nsIn K mainGlobals "MOST_NEIGHBOURS" = some (some (.int 12 t_MOST_NEIGHBOURS)))
    {t_MOST_ROWS : Tok} (y_MOST_ROWS : PySem.W.nsIn K mainGlobals "MOST_ROWS" = some (some (.int 40 t_MOST_ROWS)))
    {t_MOST_SKILLS : Tok} (y_MOST_SKILLS : PySem.W.nsIn K mainGlobals "MOST_SKILLS" = some (some (.int 12 t_MOST_SKILLS)))
    : ∃ fd : FuncData, (∀ (s : Shared) (v : Value), BindsTo s fd ⟨[v], []⟩ [("_law_script", v)]) ∧ ∀ base : Heap, K.In base → base.Ns mainGlobals mg → FnOk l.prog w K mg base CX0 6 fa fd ["_law_script"] (spLaw K) := by
  have e := hfa.symm.trans (PySem.W.mg_of X G a24)
  cases e
  have g0 : G0 mg := ⟨PySem.W.mg_none_of X G z_all, PySem.W.mg_none_of X G z_bool, PySem.W.mg_none_of X G z_enumerate, PySem.W.mg_none_of X G z_int, PySem.W.mg_none_of X G z_isinstance, PySem.W.mg_none_of X G z_len, PySem.W.mg_none_of X G z_list, PySem.W.mg_none_of X G z_max, PySem.W.mg_none_of X G z_min, PySem.W.mg_none_of X G z_range, PySem.W.mg_none_of X G z_set, PySem.W.mg_none_of X G z_sorted, PySem.W.mg_none_of X G z_str, PySem.W.mg_none_of X G z_sum, PySem.W.mg_none_of X G z_tuple, ⟨_, PySem.W.mg_of X G y_MOST_HOURS⟩, ⟨_, PySem.W.mg_of X G y_MOST_LETTERS⟩, ⟨_, PySem.W.mg_of X G y_MOST_NEIGHBOURS⟩, ⟨_, PySem.W.mg_of X G y_MOST_ROWS⟩, ⟨_, PySem.W.mg_of X G y_MOST_SKILLS⟩⟩
  refine ⟨PySem.W.fnOf "law" "law" (defArgs s_law) (defBody s_law) (defScope s_law) .none kV24 dc24 pm24 an24 cd24 ct24, fun s v => .of_eq rfl, fun base _ _ => ?_⟩
  have D_is_name : FnD l.prog w K mg base "is_name" 1 S_is_name := ok_is_name g0  (fun_mk (st := s_is_name) l0 c0 k0) (PySem.W.mg_of X G a0)
  have D_is_whole : FnD l.prog w K mg base "is_whole" 1 S_is_whole := ok_is_whole g0  (fun_mk (st := s_is_whole) l1 c1 k1) (PySem.W.mg_of X G a1)
  have D_skills_of : FnD l.prog w K mg base "skills_of" 1 S_skills_of := ok_skills_of g0  (fun_mk (st := s_skills_of) l2 c2 k2) (PySem.W.mg_of X G a2)
  have D_moved : FnD l.prog w K mg base "moved" 1 S_moved := ok_moved g0  (fun_mk (st := s_moved) l4 c4 k4) (PySem.W.mg_of X G a4)
  have D__is_row : FnD l.prog w K mg base "_is_row" 1 S__is_row := ok__is_row g0  (fun_mk (st := s__is_row) l5 c5 k5) (PySem.W.mg_of X G a5)
  have D__covers : FnD l.prog w K mg base "_covers" 1 S__covers := ok__covers g0  (fun_mk (st := s__covers) l12 c12 k12) (PySem.W.mg_of X G a12)
  have D__purses_hold : FnD l.prog w K mg base "_purses_hold" 1 S__purses_hold := ok__purses_hold g0  (fun_mk (st := s__purses_hold) l13 c13 k13) (PySem.W.mg_of X G a13)
  have D_mixed : FnD l.prog w K mg base "_law_mixed" 1 S_mixed := ok_mixed g0  (fun_mk (st := s_mixed) l14 c14 k14) (PySem.W.mg_of X G a14)
  have D_turned : FnD l.prog w K mg base "_law_turned" 1 S_turned := ok_turned g0  (fun_mk (st := s_turned) l15 c15 k15) (PySem.W.mg_of X G a15)
  have D_size : FnD l.prog w K mg base "_law_size" 1 S_size := ok_size g0  (fun_mk (st := s_size) l17 c17 k17) (PySem.W.mg_of X G a17)
  have D_is_job : FnD l.prog w K mg base "_law_is_job" 1 S_is_job := ok_is_job g0  (fun_mk (st := s_is_job) l20 c20 k20) (PySem.W.mg_of X G a20)
  have D_bent : FnD l.prog w K mg base "_law_bent" 1 S_bent := ok_bent g0  (fun_mk (st := s_bent) l23 c23 k23) (PySem.W.mg_of X G a23)
  have D__is_neighbour : FnD l.prog w K mg base "_is_neighbour" 2 S__is_neighbour := ok__is_neighbour g0 D_is_name D_is_whole D__is_row (fun_mk (st := s__is_neighbour) l7 c7 k7) (PySem.W.mg_of X G a7)
  have D__is_offer_or_wish : FnD l.prog w K mg base "_is_offer_or_wish" 2 S__is_offer_or_wish := ok__is_offer_or_wish g0 D_is_name D_is_whole D__is_row (fun_mk (st := s__is_offer_or_wish) l9 c9 k9) (PySem.W.mg_of X G a9)
  have D__is_job : FnD l.prog w K mg base "_is_job" 2 S__is_job := ok__is_job g0 D_is_name D_is_whole D__is_row (fun_mk (st := s__is_job) l11 c11 k11) (PySem.W.mg_of X G a11)
  have D_name : FnD l.prog w K mg base "_law_name" 2 S_name := ok_name g0 D_turned (fun_mk (st := s_name) l16 c16 k16) (PySem.W.mg_of X G a16)
  have D_due : FnD l.prog w K mg base "_law_due" 2 S_due := ok_due g0 D_is_job (fun_mk (st := s_due) l21 c21 k21) (PySem.W.mg_of X G a21)
  have D_jobs : FnD l.prog w K mg base "_law_jobs" 2 S_jobs := ok_jobs g0 D_turned (fun_mk (st := s_jobs) l22 c22 k22) (PySem.W.mg_of X G a22)
  have D__is_town : FnD l.prog w K mg base "_is_town" 3 S__is_town := ok__is_town g0 D__is_neighbour (fun_mk (st := s__is_town) l6 c6 k6) (PySem.W.mg_of X G a6)
  have D__are_jobs : FnD l.prog w K mg base "_are_jobs" 3 S__are_jobs := ok__are_jobs g0 D__is_job (fun_mk (st := s__are_jobs) l10 c10 k10) (PySem.W.mg_of X G a10)
  have D_town : FnD l.prog w K mg base "_law_town" 3 S_town := ok_town g0 D_turned D_name D_size (fun_mk (st := s_town) l18 c18 k18) (PySem.W.mg_of X G a18)
  have D_day : FnD l.prog w K mg base "_law_day" 3 S_day := ok_day g0 D_turned D_name (fun_mk (st := s_day) l19 c19 k19) (PySem.W.mg_of X G a19)
  have D__is_day : FnD l.prog w K mg base "_is_day" 4 S__is_day := ok__is_day g0 D_skills_of D__is_row D__is_town D__is_offer_or_wish (fun_mk (st := s__is_day) l8 c8 k8) (PySem.W.mg_of X G a8)
  have D_is_exchange : FnD l.prog w K mg base "is_exchange" 5 S_is_exchange := ok_is_exchange g0 D__is_day D__are_jobs D__covers D__purses_hold (fun_mk (st := s_is_exchange) l3 c3 k3) (PySem.W.mg_of X G a3)
  exact law_fn (F := fun_mk (st := s_law) l24 c24 k24) sc_law (fun args γ P h => len_law h) (fun X c args γ Po hγ hS => body_law g0 D_is_exchange D_moved D_mixed D_turned D_town D_day D_due D_jobs D_bent c hγ hS) law_sp
end KK
open PySem PySem.W PyProof.Rows in
set_option maxRecDepth 100000 in
set_option maxHeartbeats 0 in
theorem PySem.Challenge.cw_hourring_k02_exchanges_told_holds : PySem.Challenge.rw_hourring_k02_exchanges_told.Holds := by
  w_on; o_law; k_head; (case hw => w_witness2)
  k_fill
  refine L2.walk_of (l := PySem.Challenge.rw_hourring_k02_exchanges_told) (n := 63) (k := 6) (x := "_law_script") (CX := fun _ => L2.CX0) (sp := fun w => KK.spLaw _) rfl (by decide) rfl ⟨rfl, by decide, by decide⟩ (fun w h Y => PySem.W.kIn_of Y) ?F (fun _ _ a ns hl _ hS => ⟨a, ns, rfl, hS, hl, fun _ => rfl⟩) (fun _ _ _ _ _ h => h)
  case F =>
    intro w mg fa h KX G hmg
    refine' KK.all_mk KX G hmg ?a0 ?l0 ?c0 ?k0 ?a1 ?l1 ?c1 ?k1 ?a2 ?l2 ?c2 ?k2 ?a3 ?l3 ?c3 ?k3 ?a4 ?l4 ?c4 ?k4 ?a5 ?l5 ?c5 ?k5 ?a6 ?l6 ?c6 ?k6 ?a7 ?l7 ?c7 ?k7 ?a8 ?l8 ?c8 ?k8 ?a9 ?l9 ?c9 ?k9 ?a10 ?l10 ?c10 ?k10 ?a11 ?l11 ?c11 ?k11 ?a12 ?l12 ?c12 ?k12 ?a13 ?l13 ?c13 ?k13 ?a14 ?l14 ?c14 ?k14 ?a15 ?l15 ?c15 ?k15 ?a16 ?l16 ?c16 ?k16 ?a17 ?l17 ?c17 ?k17 ?a18 ?l18 ?c18 ?k18 ?a19 ?l19 ?c19 ?k19 ?a20 ?l20 ?c20 ?k20 ?a21 ?l21 ?c21 ?k21 ?a22 ?l22 ?c22 ?k22 ?a23 ?l23 ?c23 ?k23 ?a24 ?l24 ?c24 ?k24 ?z_all ?z_bool ?z_enumerate ?z_int ?z_isinstance ?z_len ?z_list ?z_max ?z_min ?z_range ?z_set ?z_sorted ?z_str ?z_sum ?z_tuple ?y_MOST_HOURS ?y_MOST_LETTERS ?y_MOST_NEIGHBOURS ?y_MOST_ROWS ?y_MOST_SKILLS
    (case a0 => k_is)
    (case l0 => k_is)
    (case c0 => k_is)
    (case k0 => k_is)
    (case a1 => k_is)
    (case l1 => k_is)
    (case c1 => k_is)
    (case k1 => k_is)
    (case a2 => k_is)
    (case l2 => k_is)
    (case c2 => k_is)
    (case k2 => k_is)
    (case a3 => k_is)
    (case l3 => k_is)
    (case c3 => k_is)
    (case k3 => k_is)
    (case a4 => k_is)
    (case l4 => k_is)
    (case c4 => k_is)
    (case k4 => k_is)
    (case a5 => k_is)
    (case l5 => k_is)
    (case c5 => k_is)
    (case k5 => k_is)
    (case a6 => k_is)
    (case l6 => k_is)
    (case c6 => k_is)
    (case k6 => k_is)
    (case a7 => k_is)
    (case l7 => k_is)
    (case c7 => k_is)
    (case k7 => k_is)
    (case a8 => k_is)
    (case l8 => k_is)
    (case c8 => k_is)
    (case k8 => k_is)
    (case a9 => k_is)
    (case l9 => k_is)
    (case c9 => k_is)
    (case k9 => k_is)
    (case a10 => k_is)
    (case l10 => k_is)
    (case c10 => k_is)
    (case k10 => k_is)
    (case a11 => k_is)
    (case l11 => k_is)
    (case c11 => k_is)
    (case k11 => k_is)
    (case a12 => k_is)
    (case l12 => k_is)
    (case c12 => k_is)
    (case k12 => k_is)
    (case a13 => k_is)
    (case l13 => k_is)
    (case c13 => k_is)
    (case k13 => k_is)
    (case a14 => k_is)
    (case l14 => k_is)
    (case c14 => k_is)
    (case k14 => k_is)
    (case a15 => k_is)
    (case l15 => k_is)
    (case c15 => k_is)
    (case k15 => k_is)
    (case a16 => k_is)
    (case l16 => k_is)
    (case c16 => k_is)
    (case k16 => k_is)
    (case a17 => k_is)
    (case l17 => k_is)
    (case c17 => k_is)
    (case k17 => k_is)
    (case a18 => k_is)
    (case l18 => k_is)
    (case c18 => k_is)
    (case k18 => k_is)
    (case a19 => k_is)
    (case l19 => k_is)
    (case c19 => k_is)
    (case k19 => k_is)
    (case a20 => k_is)
    (case l20 => k_is)
    (case c20 => k_is)
    (case k20 => k_is)
    (case a21 => k_is)
    (case l21 => k_is)
    (case c21 => k_is)
    (case k21 => k_is)
    (case a22 => k_is)
    (case l22 => k_is)
    (case c22 => k_is)
    (case k22 => k_is)
    (case a23 => k_is)
    (case l23 => k_is)
    (case c23 => k_is)
    (case k23 => k_is)
    (case a24 => k_is)
    (case l24 => k_is)
    (case c24 => k_is)
    (case k24 => k_is)
    (case z_all => k_is)
    (case z_bool => k_is)
    (case z_enumerate => k_is)
    (case z_int => k_is)
    (case z_isinstance => k_is)
    (case z_len => k_is)
    (case z_list => k_is)
    (case z_max => k_is)
    (case z_min => k_is)
    (case z_range => k_is)
    (case z_set => k_is)
    (case z_sorted => k_is)
    (case z_str => k_is)
    (case z_sum => k_is)
    (case z_tuple => k_is)
    (case y_MOST_HOURS => k_is)
    (case y_MOST_LETTERS => k_is)
    (case y_MOST_NEIGHBOURS => k_is)
    (case y_MOST_ROWS => k_is)
    (case y_MOST_SKILLS => k_is)

