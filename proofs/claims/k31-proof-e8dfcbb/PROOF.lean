import PyProof.Rows.All
import Wide.All
import OpenK.AllK
import Wide.FinOn
import HandS.ForMost
import HandS.Exc
import HandS.IsInst
import HandS.Wide
import HandS.StrMore
import HandS.Conv
import HandS.DictComp
import HandS.Codes
import HandS.Property
import HandS.Style
import HandS.CallSlots
import HandS.Finally
import HandS.Lambda
import HandS.WordsExc
import HandS.ListItems
import PySem.Challenge.RW_fewlabels_k31_whole_units
set_option Elab.async false
set_option linter.all false
set_option maxRecDepth 100000
/-! Pc1: values without a heap, what stands for them, and what an evaluation may change. -/
namespace Pi
open PySem L2

/-- a value, its parts told in full -/
inductive P where
  | non | bl (b : Bool) | int (i : Int) | str (s : Str)
  | lst (xs : List P) | tup (xs : List P) | dic (kvs : List (Key × P)) | obj (c : Nat) (fs : List (Str × P))
/-- a thing that may still change: nobody else holds it -/
inductive C where
  | lst (xs : List P) | dic (kvs : List (Key × P)) | obj (c : Nat) (fs : List (Str × P))
def C.p : C → P
  | .lst xs => .lst xs
  | .dic kvs => .dic kvs
  | .obj c fs => .obj c fs

section
variable (K : PySem.W.Frag) (cl : Nat → Addr)
mutual
/-- what stands for a value, over what never changes again (F) -/
inductive Rep (F : Hp) : P → V → Prop where
  | non : Rep F .non .non
  | bl (b : Bool) : Rep F (.bl b) (.bl b)
  | int (i : Int) : Rep F (.int i) (.int i)
  | str (s : Str) : Rep F (.str s) (.str s)
  | lst {a : Addr} {vs : List V} {xs : List P} (h : F a = some (.lst vs) ∨ SqL K (fun _ => none) a vs) (r : Reps F xs vs) : Rep F (.lst xs) (.ref a)
  | tup {a : Addr} {vs : List V} {xs : List P} (h : F a = some (.tup vs) ∨ SqT K (fun _ => none) a vs) (r : Reps F xs vs) : Rep F (.tup xs) (.ref a)
  | dic {a : Addr} {ws : List (Key × V)} {kvs : List (Key × P)} (h : F a = some (.dK ws)) (r : RepK F kvs ws) : Rep F (.dic kvs) (.ref a)
  | obj {a dx : Addr} {c : Nat} {ws : List (Str × V)} {fs : List (Str × P)} (h : F a = some (.ins (cl c) dx ws)) (r : RepF F fs ws) : Rep F (.obj c fs) (.ref a)
inductive Reps (F : Hp) : List P → List V → Prop where
  | nil : Reps F [] []
  | cons {x : P} {v : V} {xs : List P} {vs : List V} (h : Rep F x v) (t : Reps F xs vs) : Reps F (x :: xs) (v :: vs)
inductive RepK (F : Hp) : List (Key × P) → List (Key × V) → Prop where
  | nil : RepK F [] []
  | cons {k : Key} {x : P} {v : V} {xs : List (Key × P)} {vs : List (Key × V)} (h : Rep F x v) (t : RepK F xs vs) : RepK F ((k, x) :: xs) ((k, v) :: vs)
inductive RepF (F : Hp) : List (Str × P) → List (Str × V) → Prop where
  | nil : RepF F [] []
  | cons {k : Str} {x : P} {v : V} {xs : List (Str × P)} {vs : List (Str × V)} (h : Rep F x v) (t : RepF F xs vs) : RepF F ((k, x) :: xs) ((k, v) :: vs)
end
end

def Ext (F F' : Hp) : Prop := ∀ a o, F a = some o → F' a = some o
theorem Ext.refl (F : Hp) : Ext F F := fun _ _ h => h
theorem Ext.trans {F G H : Hp} (a : Ext F G) (b : Ext G H) : Ext F H := fun x o h => b x o (a x o h)
theorem Ext.upd {F : Hp} {p : Addr} {o : HO} (h : F p = none) : Ext F (upd F p o) := fun a u e => by rw [upd_ne (ne_of_none e h)]; exact e

section
variable {K : PySem.W.Frag} {cl : Nat → Addr} {F F' : Hp}
mutual
theorem Rep.mono (e : Ext F F') : ∀ {x : P} {v : V}, Rep K cl F x v → Rep K cl F' x v
  | _, _, .non => .non
  | _, _, .bl b => .bl b
  | _, _, .int i => .int i
  | _, _, .str s => .str s
  | _, _, .lst h r => .lst (h.imp (e _ _) id) (Reps.mono e r)
  | _, _, .tup h r => .tup (h.imp (e _ _) id) (Reps.mono e r)
  | _, _, .dic h r => .dic (e _ _ h) (RepK.mono e r)
  | _, _, .obj h r => .obj (e _ _ h) (RepF.mono e r)
theorem Reps.mono (e : Ext F F') : ∀ {xs : List P} {vs : List V}, Reps K cl F xs vs → Reps K cl F' xs vs
  | _, _, .nil => .nil
  | _, _, .cons h t => .cons (Rep.mono e h) (Reps.mono e t)
theorem RepK.mono (e : Ext F F') : ∀ {xs : List (Key × P)} {vs : List (Key × V)}, RepK K cl F xs vs → RepK K cl F' xs vs
  | _, _, .nil => .nil
  | _, _, .cons h t => .cons (Rep.mono e h) (RepK.mono e t)
theorem RepF.mono (e : Ext F F') : ∀ {xs : List (Str × P)} {vs : List (Str × V)}, RepF K cl F xs vs → RepF K cl F' xs vs
  | _, _, .nil => .nil
  | _, _, .cons h t => .cons (Rep.mono e h) (RepF.mono e t)
end
end

/-- what F says of a is so in H: as it is, or (a list, a tuple, a dict) locked -/
def Has (H : Hp) (a : Addr) (o : HO) : Prop := match o with
  | .lst _ => Rd H a o
  | .tup _ => Rd H a o
  | .dK _ => Rd H a o
  | _ => H a = some o
theorem Has.of {H : Hp} {a : Addr} {o : HO} (h : H a = some o) : Has H a o := by
  cases o <;> first | exact .inl h | exact h
theorem Has.some {H : Hp} {a : Addr} {o : HO} (h : Has H a o) : ∃ u, H a = some u := by
  cases o <;> first | exact ⟨_, h⟩ | (rcases h with h | ⟨ob, h⟩ <;> exact ⟨_, h⟩)

section
variable (K : PySem.W.Frag) (cl : Nat → Addr)
/-- a changing thing's object -/
def HasC (F H : Hp) (p : Addr) : C → Prop
  | .lst xs => ∃ vs, H p = some (.lst vs) ∧ Reps K cl F xs vs
  | .dic kvs => ∃ ws, H p = some (.dK ws) ∧ RepK K cl F kvs ws
  | .obj c fs => ∃ dx ws, H p = some (.ins (cl c) dx ws) ∧ RepF K cl F fs ws
/-- a value as an operation reads it -/
inductive Shape (F H : Hp) : P → V → Prop where
  | non : Shape F H .non .non
  | bl (b : Bool) : Shape F H (.bl b) (.bl b)
  | int (i : Int) : Shape F H (.int i) (.int i)
  | str (s : Str) : Shape F H (.str s) (.str s)
  | lst {a : Addr} {vs : List V} {xs : List P} (h : SqL K H a vs) (r : Reps K cl F xs vs) : Shape F H (.lst xs) (.ref a)
  | tup {a : Addr} {vs : List V} {xs : List P} (h : SqT K H a vs) (r : Reps K cl F xs vs) : Shape F H (.tup xs) (.ref a)
  | dic {a : Addr} {ws : List (Key × V)} {kvs : List (Key × P)} (h : Rd H a (.dK ws)) (r : RepK K cl F kvs ws) : Shape F H (.dic kvs) (.ref a)
  | obj {a dx : Addr} {c : Nat} {ws : List (Str × V)} {fs : List (Str × P)} (h : H a = some (.ins (cl c) dx ws)) (r : RepF K cl F fs ws) : Shape F H (.obj c fs) (.ref a)
end

/-! ### slots -/
/-- what a name holds: nothing known; a value; a thing that it alone holds. f: the name is never stored again -/
inductive Sl where
  | no | val (x : P) (f : Bool) | own (c : C) (f : Bool)
abbrev En := List Sl
def Sl.fix : Sl → Bool
  | .no => false
  | .val _ f => f
  | .own _ f => f
/-- what an expression gives: a value; a new thing; the thing that the name in slot i holds -/
inductive R where
  | val (x : P) | new (c : C) | «at» (i : Nat)

abbrev Ow := Addr → Option C
/-- no name's own thing -/
def Foreign (σ : L2.St) (env : En) (p : Addr) : Prop := ∀ (i : Nat) (c : C) (f : Bool), env[i]? = some (.own c f) → σ[i]? ≠ some (some (.ref p))

section
variable (K : PySem.W.Frag) (cl : Nat → Addr)
def SlR (F : Hp) (ow : Ow) : Sl → Option (Option V) → Prop
  | .no, _ => True
  | .val x _, o => ∃ v, o = some (some v) ∧ Rep K cl F x v
  | .own c _, o => ∃ p, o = some (some (.ref p)) ∧ ow p = some c
structure Rel (F : Hp) (ow : Ow) (σ : L2.St) (env : En) (H : Hp) : Prop where
  ext : ∀ a o, F a = some o → Has H a o
  own : ∀ p c, ow p = some c → F p = none ∧ HasC K cl F H p c
  len : env.length = σ.length
  slot : ∀ (i : Nat) (s : Sl), env[i]? = some s → SlR K cl F ow s σ[i]?
  inj : ∀ (i j : Nat) (c c' : C) (f f' : Bool) (p : Addr), env[i]? = some (.own c f) → env[j]? = some (.own c' f') → σ[i]? = some (some (.ref p)) → σ[j]? = some (some (.ref p)) → i = j
/-- from one state of affairs to a later one -/
structure Post (F : Hp) (ow : Ow) (σ : L2.St) (env : En) (H : Hp) (F' : Hp) (ow' : Ow) (σ' : L2.St) (env' : En) (H' : Hp) : Prop where
  sub : Ext F F'
  rel : Rel K cl F' ow' σ' env' H'
  frame : ∀ p c, ow p = some c → Foreign σ env p → ow' p = some c ∧ Foreign σ' env' p
  fix : ∀ (i : Nat) (s : Sl), env[i]? = some s → s.fix = true → σ'[i]? = σ[i]? ∧ ∃ s', env'[i]? = some s' ∧ (s'.fix = true)
  frz : ∀ b o u, H b = some (.frz o u) → H' b = some (.frz o u)
def RR (F : Hp) (ow : Ow) (σ : L2.St) (env : En) : R → V → Prop
  | .val x, v => Rep K cl F x v
  | .new c, v => ∃ p, v = .ref p ∧ ow p = some c ∧ Foreign σ env p
  | .at i, v => σ[i]? = some (some v) ∧ ∃ p, v = .ref p
end
/-- p is not held by anybody around -/
def NF (ow : Ow) (σ : L2.St) (env : En) (p : Addr) : Prop := ∀ c, ow p = some c → ¬ Foreign σ env p
def RNF (ow : Ow) (σ : L2.St) (env : En) : R → V → Prop
  | .new _, v => ∀ p, v = .ref p → NF ow σ env p
  | _, _ => True

section
variable {K : PySem.W.Frag} {cl : Nat → Addr} {F F' F1 F2 : Hp} {ow ow' ow1 ow2 : Ow} {σ σ' σ1 σ2 : L2.St} {env env' env1 env2 : En} {H H' H1 H2 : Hp}
theorem HasC.mono {p : Addr} {c : C} (e : Ext F F') (h : HasC K cl F H p c) : HasC K cl F' H p c := by
  cases c with
  | lst xs => obtain ⟨vs, a, r⟩ := h; exact ⟨vs, a, r.mono e⟩
  | dic kvs => obtain ⟨vs, a, r⟩ := h; exact ⟨vs, a, r.mono e⟩
  | obj c fs => obtain ⟨dx, vs, a, r⟩ := h; exact ⟨dx, vs, a, r.mono e⟩
theorem HasC.some {p : Addr} {c : C} (h : HasC K cl F H p c) : ∃ o, H p = some o ∧ ∀ F', Ext F F' → F' p = some o → Rep K cl F' c.p (.ref p) := by
  cases c with
  | lst xs => obtain ⟨vs, a, r⟩ := h; exact ⟨_, a, fun F' e x => .lst (.inl x) (r.mono e)⟩
  | dic kvs => obtain ⟨vs, a, r⟩ := h; exact ⟨_, a, fun F' e x => .dic x (r.mono e)⟩
  | obj c fs => obtain ⟨dx, vs, a, r⟩ := h; exact ⟨_, a, fun F' e x => .obj x (r.mono e)⟩
theorem HasC.upd {p q : Addr} {c : C} {o : HO} (h : HasC K cl F H p c) (n : p ≠ q) : HasC K cl F (L2.upd H q o) p c := by
  cases c with
  | lst xs => obtain ⟨vs, a, r⟩ := h; exact ⟨vs, by rw [upd_ne n]; exact a, r⟩
  | dic kvs => obtain ⟨vs, a, r⟩ := h; exact ⟨vs, by rw [upd_ne n]; exact a, r⟩
  | obj c fs => obtain ⟨dx, vs, a, r⟩ := h; exact ⟨dx, vs, by rw [upd_ne n]; exact a, r⟩
theorem Has.upd {p q : Addr} {o u : HO} (h : Has H p o) (n : p ≠ q) : Has (L2.upd H q u) p o := by
  have e : L2.upd H q u p = H p := upd_ne n
  cases o <;> first | (show Rd _ _ _; unfold Rd; rw [e]; exact h) | (show _ = _; rw [e]; exact h)
theorem sqL_has {a : Addr} {vs : List V} (h : Has H a (.lst vs)) : SqL K H a vs := .inl h
theorem sqT_has {a : Addr} {vs : List V} (h : Has H a (.tup vs)) : SqT K H a vs := .inl h
theorem not_rd_none {a : Addr} {o : HO} (h : Rd (fun _ => none) a o) : False := by
  rcases h with h | ⟨_, h⟩ <;> cases h
theorem Rep.shape (hF : ∀ a o, F a = some o → Has H a o) {x : P} {v : V} (h : Rep K cl F x v) : Shape K cl F H x v := by
  cases h with
  | non => exact .non
  | bl b => exact .bl b
  | int i => exact .int i
  | str s => exact .str s
  | lst h r => exact .lst (h.elim (fun h => .inl (hF _ _ h)) fun h => h.elim (fun z => (not_rd_none z).elim) .inr) r
  | tup h r => exact .tup (h.elim (fun h => .inl (hF _ _ h)) fun h => h.elim (fun z => (not_rd_none z).elim) .inr) r
  | dic h r => exact .dic (hF _ _ h) r
  | obj h r => exact .obj (hF _ _ h) r
theorem HasC.shape {p : Addr} {c : C} (h : HasC K cl F H p c) : Shape K cl F H c.p (.ref p) := by
  cases c with
  | lst xs => obtain ⟨vs, a, r⟩ := h; exact .lst (SqL.of a) r
  | dic kvs => obtain ⟨vs, a, r⟩ := h; exact .dic (.inl a) r
  | obj c fs => obtain ⟨dx, vs, a, r⟩ := h; exact .obj a r

theorem Post.refl (r : Rel K cl F ow σ env H) : Post K cl F ow σ env H F ow σ env H :=
  ⟨Ext.refl F, r, fun _ _ h f => ⟨h, f⟩, fun i s h f => ⟨rfl, s, h, f⟩, fun _ _ _ h => h⟩
theorem Post.trans (a : Post K cl F ow σ env H F1 ow1 σ1 env1 H1) (b : Post K cl F1 ow1 σ1 env1 H1 F2 ow2 σ2 env2 H2) : Post K cl F ow σ env H F2 ow2 σ2 env2 H2 where
  sub := a.sub.trans b.sub
  rel := b.rel
  frame := fun p c h f => let ⟨x, y⟩ := a.frame p c h f; b.frame p c x y
  fix := fun i s h f => by
    obtain ⟨e, s1, h1, f1⟩ := a.fix i s h f
    obtain ⟨e2, s2, h2, f2⟩ := b.fix i s1 h1 f1
    exact ⟨e2.trans e, s2, h2, f2⟩
  frz := fun q o u h => b.frz q o u (a.frz q o u h)
theorem NF.back {p : Addr} (a : Post K cl F ow σ env H F1 ow1 σ1 env1 H1) (n : NF ow1 σ1 env1 p) : NF ow σ env p := fun c h f =>
  let ⟨x, y⟩ := a.frame p c h f; n c x y
theorem RNF.back {r : R} {v : V} (a : Post K cl F ow σ env H F1 ow1 σ1 env1 H1) (n : RNF ow1 σ1 env1 r v) : RNF ow σ env r v := by
  cases r with
  | new c => exact fun p e => (n p e).back a
  | _ => exact n
/-- what was given stays given -/
theorem RR.post {r : R} {v : V} (a : Post K cl F ow σ env H F1 ow1 σ env1 H1) (h : RR K cl F ow σ env r v) : RR K cl F1 ow1 σ env1 r v := by
  cases r with
  | val x => exact Rep.mono a.sub h
  | new c => obtain ⟨p, e, o, f⟩ := h; obtain ⟨o', f'⟩ := a.frame p c o f; exact ⟨p, e, o', f'⟩
  | «at» i => exact h

/-! ### reading what was given -/
def peek (env : En) : R → Option P
  | .val x => some x
  | .new c => some c.p
  | .at i => match env[i]? with
    | some (.own c _) => some c.p
    | some (.val x _) => some x
    | _ => none
theorem RR.shape {r : R} {v : V} {x : P} (l : Rel K cl F ow σ env H) (h : RR K cl F ow σ env r v) (e : peek env r = some x) : Shape K cl F H x v := by
  cases r with
  | val y => cases e; exact Rep.shape l.ext h
  | new c => cases e; obtain ⟨p, rfl, o, _⟩ := h; exact (l.own p c o).2.shape
  | «at» i =>
    obtain ⟨hs, _⟩ := h
    unfold peek at e
    dsimp only at e
    split at e
    · rename_i c f hc
      cases e
      obtain ⟨p, hp, o⟩ := l.slot i _ hc
      rw [hs] at hp; cases hp
      exact (l.own p c o).2.shape
    · rename_i y f hc
      cases e
      obtain ⟨w, hw, r⟩ := l.slot i _ hc
      rw [hs] at hw; cases hw
      exact Rep.shape l.ext r
    · cases e

/-! ### a thing stops changing -/
def freeze (r : R) (env : En) : Option (P × En) := match r with
  | .val x => some (x, env)
  | .new c => some (c.p, env)
  | .at i => match env[i]? with
    | some (.own c f) => some (c.p, env.set i (.val c.p f))
    | some (.val x _) => some (x, env)
    | _ => none
def without (ow : Ow) (p : Addr) : Ow := fun q => if q = p then none else ow q
theorem without_ne {p q : Addr} (h : q ≠ p) : without ow p q = ow q := if_neg h
theorem without_same {p : Addr} : without ow p p = none := if_pos rfl
/-- the thing at p, held by a name or just given, is told by F -/
theorem Rel.seal {p : Addr} {c : C} {o : HO} (l : Rel K cl F ow σ env H) (h : ow p = some c) (ho : H p = some o) (hn : ∀ (i : Nat) (c' : C) (f : Bool), env[i]? = some (.own c' f) → σ[i]? ≠ some (some (.ref p))) : Rel K cl (L2.upd F p o) (without ow p) σ env H := by
  obtain ⟨np, hc⟩ := l.own p c h
  have e : Ext F (L2.upd F p o) := Ext.upd np
  refine ⟨fun a u ha => ?_, fun q c' hq => ?_, l.len, fun i s hs => ?_, l.inj⟩
  · by_cases z : a = p
    · subst z; rw [upd_same] at ha; cases ha; exact Has.of ho
    · rw [upd_ne z] at ha; exact l.ext a u ha
  · by_cases z : q = p
    · subst z; rw [without_same] at hq; cases hq
    · rw [without_ne z] at hq
      obtain ⟨n, hh⟩ := l.own q c' hq
      exact ⟨by rw [upd_ne z]; exact n, hh.mono e⟩
  · have q := l.slot i s hs
    cases s with
    | no => trivial
    | val x f => obtain ⟨v, hv, r⟩ := q; exact ⟨v, hv, r.mono e⟩
    | own c' f =>
      obtain ⟨p', hp', o'⟩ := q
      have : p' ≠ p := fun z => hn i c' f hs (z ▸ hp')
      exact ⟨p', hp', by rw [without_ne this]; exact o'⟩
theorem get_set {α : Type} {l : List α} {i j : Nat} {x y : α} (h : (l.set i x)[j]? = some y) : (j = i ∧ y = x ∧ i < l.length) ∨ (j ≠ i ∧ l[j]? = some y) := by
  by_cases e : i = j
  · subst e
    by_cases hl : i < l.length
    · rw [List.getElem?_set_self hl] at h; cases h; exact .inl ⟨rfl, rfl, hl⟩
    · rw [List.getElem?_eq_none (by simpa using hl)] at h; cases h
  · rw [List.getElem?_set_ne e] at h; exact .inr ⟨fun z => e z.symm, h⟩
theorem Post.freeze {r : R} {v : V} {x : P} (a : Post K cl F ow σ env H F1 ow1 σ1 env1 H1) (h : RR K cl F1 ow1 σ1 env1 r v) (n : RNF ow σ env r v) (e : Pi.freeze r env1 = some (x, env2)) :
    ∃ F2 ow2, Post K cl F ow σ env H F2 ow2 σ1 env2 H1 ∧ Rep K cl F2 x v ∧ Ext F1 F2 ∧ (∀ q c, ow1 q = some c → Foreign σ1 env1 q → (∀ c', r = .new c' → v ≠ .ref q) → ow2 q = some c) := by
  have l := a.rel
  cases r with
  | val y => cases e; exact ⟨F1, ow1, a, h, Ext.refl _, fun _ _ q _ _ => q⟩
  | new c =>
    cases e
    obtain ⟨p, rfl, o, f⟩ := h
    obtain ⟨np, hc⟩ := l.own p c o
    obtain ⟨ob, ho, hr⟩ := hc.some
    refine ⟨L2.upd F1 p ob, without ow1 p, ⟨a.sub.trans (Ext.upd np), l.seal o ho f, fun q c' hq fq => ?_, a.fix, a.frz⟩, hr _ (Ext.upd np) upd_same, Ext.upd np, fun q c' hq _ z => ?_⟩
    · obtain ⟨h1, h2⟩ := a.frame q c' hq fq
      have : q ≠ p := by rintro rfl; exact n q rfl c' hq fq
      exact ⟨by rw [without_ne this]; exact h1, h2⟩
    · rw [without_ne (fun e => z c rfl (by rw [e]))]; exact hq
  | «at» i =>
    obtain ⟨hs, p, rfl⟩ := h
    unfold Pi.freeze at e
    dsimp only at e
    split at e
    · rename_i c f hc
      cases e
      obtain ⟨p', hp', o⟩ := l.slot i _ hc
      rw [hs] at hp'
      cases hp'
      obtain ⟨np, hcc⟩ := l.own p c o
      obtain ⟨ob, ho, hr⟩ := hcc.some
      have e1 : Ext F1 (L2.upd F1 p ob) := Ext.upd np
      have hi : i < env1.length := (List.getElem?_eq_some_iff.mp hc).1
      have rp : Rep K cl (L2.upd F1 p ob) c.p (.ref p) := hr _ e1 upd_same
      refine ⟨L2.upd F1 p ob, without ow1 p, ⟨a.sub.trans e1, ⟨fun b u hb => ?_, fun q c' hq => ?_, by rw [List.length_set]; exact l.len, fun j s hj => ?_, fun j k c1 c2 f1 f2 q hj hk h1 h2 => ?_⟩, fun q c' hq fq => ?_, fun j s hj hf => ?_, a.frz⟩, rp, e1, fun q c' hq fq z => ?_⟩
      · by_cases z : b = p
        · subst z; rw [upd_same] at hb; cases hb; exact Has.of ho
        · rw [upd_ne z] at hb; exact l.ext b u hb
      · by_cases z : q = p
        · subst z; rw [without_same] at hq; cases hq
        · rw [without_ne z] at hq
          obtain ⟨n', hh⟩ := l.own q c' hq
          exact ⟨by rw [upd_ne z]; exact n', hh.mono e1⟩
      · rcases get_set hj with ⟨rfl, rfl, _⟩ | ⟨hne, hj⟩
        · exact ⟨_, hs, rp⟩
        · have q := l.slot j s hj
          cases s with
          | no => trivial
          | val x f => obtain ⟨v, hv, r⟩ := q; exact ⟨v, hv, r.mono e1⟩
          | own c' f' =>
            obtain ⟨p', hp', o'⟩ := q
            have : p' ≠ p := fun z => hne (l.inj j i c' c f' f p hj hc (z ▸ hp') hs)
            exact ⟨p', hp', by rw [without_ne this]; exact o'⟩
      · rcases get_set hj with ⟨_, z, _⟩ | ⟨_, hj⟩
        · cases z
        · rcases get_set hk with ⟨_, z, _⟩ | ⟨_, hk⟩
          · cases z
          · exact l.inj j k c1 c2 f1 f2 q hj hk h1 h2
      · obtain ⟨h1, h2⟩ := a.frame q c' hq fq
        have : q ≠ p := by rintro rfl; exact h2 i c f hc hs
        refine ⟨by rw [without_ne this]; exact h1, fun j c1 f1 hj => ?_⟩
        rcases get_set hj with ⟨_, z, _⟩ | ⟨_, hj⟩
        · cases z
        · exact h2 j c1 f1 hj
      · obtain ⟨h1, s', h2, h3⟩ := a.fix j s hj hf
        refine ⟨h1, ?_⟩
        by_cases z : j = i
        · subst z
          rw [hc] at h2; cases h2
          exact ⟨_, List.getElem?_set_self hi, h3⟩
        · exact ⟨s', by rw [List.getElem?_set_ne (Ne.symm z)]; exact h2, h3⟩
      · rw [without_ne (fun e => fq i c f hc (by rw [e]; exact hs))]; exact hq
    · rename_i y f hc
      cases e
      obtain ⟨w, hw, r⟩ := l.slot i _ hc
      rw [hs] at hw; cases hw
      exact ⟨F1, ow1, a, r, Ext.refl _, fun _ _ q _ _ => q⟩
    · cases e
end
end Pi

/-! Pc2: what a piece of code comes to (without a heap), and that as a reading. -/
namespace Pi
open PySem L2

/-- an exception of the program: its class, its own attributes where it has a dict -/
structure Exn where
  k : Nat
  fs : Option (List (Str × P))
inductive Out (α : Type) where
  | ok (a : α) (e : En) | ex (x : Exn) (e : En) | bad
abbrev M (α : Type) := En → Out α
@[inline] def M.pure {α : Type} (a : α) : M α := fun e => .ok a e
@[inline] def M.bind {α β : Type} (m : M α) (k : α → M β) : M β := fun e => match m e with
  | .ok a e' => k a e'
  | .ex x e' => .ex x e'
  | .bad => .bad
def M.cons (m : M R) (ms : M (List R)) : M (List R) := fun e => match m e with
  | .ok r e' => match ms e' with
    | .ok rs e'' => .ok (r :: rs) e''
    | .ex x e'' => .ex x e''
    | .bad => .bad
  | .ex x e' => .ex x e'
  | .bad => .bad
/-- what a statement comes to -/
inductive SO where
  | nx (e : En) | bk (e : En) | ct (e : En) | rt (r : R) (e : En) | ex (x : Exn) (e : En) | bad

structure Gm where
  K : PySem.W.Frag
  cl : Nat → Addr
  xc : Nat → Addr

section
variable (g : Gm)
abbrev gRep := Rep g.K g.cl
abbrev gRel := Rel g.K g.cl
abbrev gPost := Post g.K g.cl
abbrev gRR := RR g.K g.cl
/-- an exception as the layer tells it -/
def XR (F H : Hp) (x : Exn) (cls : Value) (d : Option Addr) : Prop := cls = .ref (g.xc x.k) ∧
  match x.fs with
  | none => d = none
  | some fs => ∃ a ws, d = some a ∧ H a = some (.xd ws) ∧ RepF g.K g.cl F fs ws
abbrev WX' := Value → Option Addr → L2.St → Hp → Prop
def RRs (F : Hp) (ow : Ow) (σ : L2.St) (env : En) : List R → List V → Prop
  | [], [] => True
  | r :: rs, v :: vs => RR g.K g.cl F ow σ env r v ∧ RRs F ow σ env rs vs
  | _, _ => False
/-- each new thing is nobody's, and no two are one -/
def RNFs (ow : Ow) (σ : L2.St) (env : En) : List R → List V → Prop
  | r :: rs, v :: vs => RNF ow σ env r v ∧ (∀ c p, r = .new c → v = .ref p → ∀ (i : Nat) (c' : C), rs[i]? = some (.new c') → vs[i]? ≠ some (.ref p)) ∧ RNFs ow σ env rs vs
  | _, _ => True
def OutE (W : WX') (F : Hp) (ow : Ow) (σ : L2.St) (env : En) (H : Hp) (Q : VK) : Out R → Prop
  | .ok r env' => ∀ v F' ow' H', gPost g F ow σ env H F' ow' σ env' H' → gRR g F' ow' σ env' r v → RNF ow σ env r v → Q v H'
  | .ex x env' => ∀ F' ow' H' cls d, gPost g F ow σ env H F' ow' σ env' H' → XR g F' H' x cls d → W cls d σ H'
  | .bad => False
def OutA (W : WX') (F : Hp) (ow : Ow) (σ : L2.St) (env : En) (H : Hp) (Q : List V → Hp → Prop) : Out (List R) → Prop
  | .ok rs env' => ∀ vs F' ow' H', gPost g F ow σ env H F' ow' σ env' H' → RRs g F' ow' σ env' rs vs → RNFs ow σ env rs vs → Q vs H'
  | .ex x env' => ∀ F' ow' H' cls d, gPost g F ow σ env H F' ow' σ env' H' → XR g F' H' x cls d → W cls d σ H'
  | .bad => False
def OutT (W : WX') (F : Hp) (ow : Ow) (σ : L2.St) (env : En) (H : Hp) (Q : Bool → Hp → Prop) : Out Bool → Prop
  | .ok b env' => ∀ F' ow' H', gPost g F ow σ env H F' ow' σ env' H' → Q b H'
  | .ex x env' => ∀ F' ow' H' cls d, gPost g F ow σ env H F' ow' σ env' H' → XR g F' H' x cls d → W cls d σ H'
  | .bad => False
def OutS (W : WX') (F : Hp) (ow : Ow) (σ : L2.St) (env : En) (H : Hp) (D : Ends) : SO → Prop
  | .nx env' => ∀ F' ow' σ' H', gPost g F ow σ env H F' ow' σ' env' H' → D.nx σ' H'
  | .bk env' => ∀ F' ow' σ' H', gPost g F ow σ env H F' ow' σ' env' H' → D.bk σ' H'
  | .ct env' => ∀ F' ow' σ' H', gPost g F ow σ env H F' ow' σ' env' H' → D.ct σ' H'
  | .rt r env' => ∀ v F' ow' σ' H', gPost g F ow σ env H F' ow' σ' env' H' → gRR g F' ow' σ' env' r v → RNF ow σ env r v → D.rt v H'
  | .ex x env' => ∀ F' ow' σ' H' cls d, gPost g F ow σ env H F' ow' σ' env' H' → XR g F' H' x cls d → W cls d σ' H'
  | .bad => False
def TEv (W : WX') (m : M R) : TE := fun σ H Q => ∃ F ow env, gRel g F ow σ env H ∧ OutE g W F ow σ env H Q (m env)
def TAv (W : WX') (m : M (List R)) : TA := fun σ H Q => ∃ F ow env, gRel g F ow σ env H ∧ OutA g W F ow σ env H Q (m env)
def TTv (W : WX') (m : M Bool) : TT := fun σ H Q => ∃ F ow env, gRel g F ow σ env H ∧ OutT g W F ow σ env H Q (m env)
def TSv (W : WX') (m : En → SO) : TS := fun D σ H => ∃ F ow env, gRel g F ow σ env H ∧ OutS g W F ow σ env H D (m env)
end

/-! ### weaker readings -/
theorem PE.imp {X : Cx} {e : Expr} {t t' : TE} (h : PE X e t) (i : ∀ σ H Q, t' σ H Q → t σ H Q) : PE X e t' := ⟨fun pins s σ H Q I q => h.run pins s σ H Q I (i σ H Q q)⟩
theorem PA.imp {X : Cx} {e : List Expr} {t t' : TA} (h : PA X e t) (i : ∀ σ H Q, t' σ H Q → t σ H Q) : PA X e t' := ⟨fun pos pins s σ H Q I q => h.run pos pins s σ H Q I (i σ H Q q)⟩
theorem PT.imp {X : Cx} {e : Expr} {t t' : TT} (h : PT X e t) (i : ∀ σ H Q, t' σ H Q → t σ H Q) : PT X e t' := ⟨fun pins s σ H Q I q => h.run pins s σ H Q I (i σ H Q q)⟩
theorem PS.imp {X : Cx} {e : Stmt} {t t' : TS} (h : PS X e t) (i : ∀ D σ H, t' D σ H → t D σ H) : PS X e t' := ⟨fun pins s σ H D I q => h.run pins s σ H D I (i D σ H q)⟩
theorem PSs.imp {X : Cx} {e : List Stmt} {t t' : TS} (h : PSs X e t) (i : ∀ D σ H, t' D σ H → t D σ H) : PSs X e t' := ⟨fun pins s σ H D I q => h.run pins s σ H D I (i D σ H q)⟩

section
variable {g : Gm} {W : WX'} {F F' F1 F2 : Hp} {ow ow' ow1 ow2 : Ow} {σ σ' σ1 σ2 : L2.St} {env env' env1 env2 : En} {H H' H1 H2 : Hp} {Q : VK}
theorem RRs.post {rs : List R} {vs : List V} (a : gPost g F ow σ env H F1 ow1 σ env1 H1) (h : RRs g F ow σ env rs vs) : RRs g F1 ow1 σ env1 rs vs := by
  induction rs generalizing vs with
  | nil => cases vs <;> exact h
  | cons r rs ih =>
    cases vs with
    | nil => exact h
    | cons v vs => exact ⟨h.1.post a, ih h.2⟩
theorem RNFs.back {rs : List R} {vs : List V} (a : gPost g F ow σ env H F1 ow1 σ1 env1 H1) (n : RNFs ow1 σ1 env1 rs vs) : RNFs ow σ env rs vs := by
  induction rs generalizing vs with
  | nil => trivial
  | cons r rs ih =>
    cases vs with
    | nil => trivial
    | cons v vs => exact ⟨n.1.back a, n.2.1, ih n.2.2⟩
theorem RNFs.apart {rs : List R} {vs : List V} {p : Addr} {c : C} (n : RNFs ow σ env rs vs) (o : ow p = some c) (f : Foreign σ env p) : ∀ (i : Nat) (c' : C), rs[i]? = some (.new c') → vs[i]? ≠ some (.ref p) := by
  induction rs generalizing vs with
  | nil => intro i c' h; simp at h
  | cons r rs ih =>
    intro i c' h hv
    cases vs with
    | nil => simp at hv
    | cons v vs =>
      cases i with
      | zero =>
        simp at h hv
        subst h hv
        exact n.1 p rfl c o f
      | succ i => exact ih n.2.2 i c' (by simpa using h) (by simpa using hv)
/-- an argument, then the others -/
theorem tav_cons {m : M R} {ms : M (List R)} {Q : List V → Hp → Prop} (h : TAv g W (M.cons m ms) σ H Q) : TEv g W m σ H fun x H1 => TAv g W ms σ H1 fun xs H2 => Q (x :: xs) H2 := by
  obtain ⟨F, ow, env, l, o⟩ := h
  refine ⟨F, ow, env, l, ?_⟩
  unfold M.cons at o
  cases e : m env with
  | bad => rw [e] at o; exact o
  | ex x env' => rw [e] at o; exact o
  | ok r env1 =>
    rw [e] at o
    intro v F1 ow1 H1 p r1 n1
    refine ⟨F1, ow1, env1, p.rel, ?_⟩
    dsimp only at o
    cases e2 : ms env1 with
    | bad => rw [e2] at o; exact o
    | ex x env' =>
      rw [e2] at o
      exact fun F' ow' H' cls d p' x' => o F' ow' H' cls d (p.trans p') x'
    | ok rs env2 =>
      rw [e2] at o
      intro vs F2 ow2 H2 p2 r2 n2
      refine o (v :: vs) F2 ow2 H2 (p.trans p2) ⟨r1.post p2, r2⟩ ⟨n1, fun c q er ev i c' hi hv => ?_, n2.back p⟩
      subst er ev
      obtain ⟨q', eq, o1, f1⟩ := r1
      cases eq
      exact n2.apart o1 f1 i c' hi hv
theorem tav_nil {Q : List V → Hp → Prop} (h : TAv g W (M.pure []) σ H Q) : tNil σ H Q := by
  obtain ⟨F, ow, env, l, o⟩ := h
  exact o [] F ow H (Post.refl l) trivial trivial
theorem tav_pa_cons {X : Cx} {e : Expr} {es : List Expr} {m : M R} {ms : M (List R)} (h : PE X e (TEv g W m)) (h2 : PA X es (TAv g W ms)) (hs : starEach (e :: es) X.env = (false, eval e X.env) :: starEach es X.env) : PA X (e :: es) (TAv g W (M.cons m ms)) :=
  PA.imp (pa_cons h h2 hs) fun _ _ _ q => tav_cons q
theorem tav_pa_nil {X : Cx} : PA X [] (TAv g W (M.pure [])) := PA.imp pa_nil fun _ _ _ q => tav_nil q

/-! ### what an operation on values gives -/
/-- a value that stands already, or a new thing -/
inductive O1 where
  | sc (x : P) | mk (c : C) | tp (xs : List P)
def O1.r : O1 → R
  | .sc x => .val x
  | .mk c => .new c
  | .tp xs => .val (.tup xs)
/-- the object of a new thing -/
def ObC (g : Gm) (F : Hp) : C → HO → Prop
  | .lst xs, o => ∃ vs, o = .lst vs ∧ Reps g.K g.cl F xs vs
  | .dic kvs, o => ∃ ws, o = .dK ws ∧ RepK g.K g.cl F kvs ws
  | .obj _ _, _ => False
theorem ObC.has {c : C} {o : HO} {p : Addr} (h : ObC g F c o) : HasC g.K g.cl F (upd H p o) p c := by
  cases c with
  | lst xs => obtain ⟨vs, rfl, r⟩ := h; exact ⟨vs, upd_same, r⟩
  | dic kvs => obtain ⟨vs, rfl, r⟩ := h; exact ⟨vs, upd_same, r⟩
  | obj _ _ => exact h.elim
def O1R (g : Gm) (F H : Hp) : O1 → V → Hp → Prop
  | .sc x, v, H' => H' = H ∧ gRep g F x v
  | .mk c, v, H' => ∃ p o, H p = none ∧ v = .ref p ∧ H' = upd H p o ∧ ObC g F c o
  | .tp xs, v, H' => ∃ p vs, H p = none ∧ v = .ref p ∧ H' = upd H p (.tup vs) ∧ Reps g.K g.cl F xs vs
/-- an object laid at a free place -/
theorem Rel.lay {p : Addr} {o : HO} (l : gRel g F ow σ env H) (n : H p = none) : gRel g F ow σ env (upd H p o) := by
  refine ⟨fun a u h => (l.ext a u h).upd ?_, fun q c h => ?_, l.len, l.slot, l.inj⟩
  · obtain ⟨z, hz⟩ := (l.ext a u h).some
    exact ne_of_none hz n
  · obtain ⟨a, b⟩ := l.own q c h
    obtain ⟨z, hz, _⟩ := b.some
    exact ⟨a, b.upd (ne_of_none hz n)⟩
theorem Rel.free {p : Addr} (l : gRel g F ow σ env H) (n : H p = none) : F p = none ∧ ow p = none := by
  constructor
  · cases e : F p with
    | none => rfl
    | some o => obtain ⟨z, hz⟩ := (l.ext p o e).some; rw [n] at hz; cases hz
  · cases e : ow p with
    | none => rfl
    | some c => obtain ⟨z, hz, _⟩ := (l.own p c e).2.some; rw [n] at hz; cases hz
def setO (ow : Ow) (p : Addr) (c : C) : Ow := fun q => if q = p then some c else ow q
theorem setO_same {p : Addr} {c : C} : setO ow p c p = some c := if_pos rfl
theorem setO_ne {p q : Addr} {c : C} (h : q ≠ p) : setO ow p c q = ow q := if_neg h
theorem Rel.notHeld {p : Addr} (l : gRel g F ow σ env H) (n : H p = none) : Foreign σ env p := fun i c f hi hs => by
  obtain ⟨q, hq, o⟩ := l.slot i _ hi
  rw [hs] at hq; cases hq
  rw [(l.free n).2] at o; cases o
theorem out_post {o : O1} {v : V} (a : gPost g F ow σ env H F1 ow1 σ1 env1 H1) (h : O1R g F1 H1 o v H2) : ∃ F2 ow2, gPost g F ow σ env H F2 ow2 σ1 env1 H2 ∧ gRR g F2 ow2 σ1 env1 o.r v ∧ RNF ow σ env o.r v := by
  have l := a.rel
  cases o with
  | sc x =>
    obtain ⟨rfl, r⟩ := h
    exact ⟨F1, ow1, a, r, trivial⟩
  | mk c =>
    obtain ⟨p, o, n, rfl, rfl, ob⟩ := h
    obtain ⟨fF, fo⟩ := l.free n
    refine ⟨F1, setO ow1 p c, ⟨a.sub, ⟨(l.lay n).ext, fun q c' hq => ?_, l.len, fun i s hs => ?_, l.inj⟩, fun q c' hq fq => ?_, a.fix, fun b o' u hb => by rw [upd_ne (ne_of_none (a.frz b o' u hb) n)]; exact a.frz b o' u hb⟩, ⟨p, rfl, setO_same, l.notHeld n⟩, fun q e c' hq fq => ?_⟩
    · by_cases z : q = p
      · subst z; rw [setO_same] at hq; cases hq; exact ⟨fF, ob.has⟩
      · rw [setO_ne z] at hq; exact (l.lay n).own q c' hq
    · have q := l.slot i s hs
      cases s with
      | no => trivial
      | val x f => exact q
      | own c' f =>
        obtain ⟨p', hp', o'⟩ := q
        have : p' ≠ p := by rintro rfl; rw [fo] at o'; cases o'
        exact ⟨p', hp', by rw [setO_ne this]; exact o'⟩
    · obtain ⟨h1, h2⟩ := a.frame q c' hq fq
      have : q ≠ p := by rintro rfl; rw [fo] at h1; cases h1
      exact ⟨by rw [setO_ne this]; exact h1, h2⟩
    · cases e
      obtain ⟨h1, _⟩ := a.frame p c' hq fq
      rw [fo] at h1; cases h1
  | tp xs =>
    obtain ⟨p, vs, n, rfl, rfl, r⟩ := h
    obtain ⟨fF, fo⟩ := l.free n
    have e1 : Ext F1 (upd F1 p (.tup vs)) := Ext.upd fF
    have l2 := l.lay (o := .tup vs) n
    refine ⟨upd F1 p (.tup vs), ow1, ⟨a.sub.trans e1, ⟨fun b u hb => ?_, fun q c' hq => ?_, l.len, fun i s hs => ?_, l.inj⟩, a.frame, a.fix, fun b o' u hb => by rw [upd_ne (ne_of_none (a.frz b o' u hb) n)]; exact a.frz b o' u hb⟩, .tup (.inl upd_same) (r.mono e1), trivial⟩
    · by_cases z : b = p
      · subst z; rw [upd_same] at hb; cases hb; exact .of upd_same
      · rw [upd_ne z] at hb; exact l2.ext b u hb
    · obtain ⟨h1, h2⟩ := l2.own q c' hq
      have : q ≠ p := by rintro rfl; rw [fo] at hq; cases hq
      exact ⟨by rw [upd_ne this]; exact h1, h2.mono e1⟩
    · have q := l.slot i s hs
      cases s with
      | no => trivial
      | val x f => obtain ⟨v, hv, r⟩ := q; exact ⟨v, hv, Rep.mono e1 r⟩
      | own c' f => exact q

/-! ### operations on values that are only read -/
def peeks (env : En) : List R → Option (List P)
  | [] => some []
  | r :: rs => match peek env r, peeks env rs with
    | some x, some xs => some (x :: xs)
    | _, _ => none
def Shs (g : Gm) (F H : Hp) : List P → List V → Prop
  | [], [] => True
  | x :: xs, v :: vs => Shape g.K g.cl F H x v ∧ Shs g F H xs vs
  | _, _ => False
theorem RRs.shapes {rs : List R} {vs : List V} {xs : List P} (l : gRel g F ow σ env H) (h : RRs g F ow σ env rs vs) (e : peeks env rs = some xs) : Shs g F H xs vs := by
  induction rs generalizing vs xs with
  | nil =>
    cases vs with
    | nil => cases e; trivial
    | cons _ _ => exact h.elim
  | cons r rs ih =>
    cases vs with
    | nil => exact h.elim
    | cons v vs =>
      unfold peeks at e
      split at e
      · rename_i x xs' e1 e2
        cases e
        exact ⟨h.1.shape l e1, ih h.2 e2⟩
      · cases e
def opM (f : List P → Option O1) (ms : M (List R)) : M R := fun env => match ms env with
  | .ok rs env' => match peeks env' rs with
    | some xs => match f xs with
      | some o => .ok o.r env'
      | none => .bad
    | none => .bad
  | .ex x env' => .ex x env'
  | .bad => .bad
/-- an operation's reading on values -/
def rOp (g : Gm) (f : List P → Option O1) : List V → Hp → VK → Prop := fun vs H Q => ∃ F xs o, (∀ a u, F a = some u → Has H a u) ∧ Shs g F H xs vs ∧ f xs = some o ∧ ∀ v H', O1R g F H o v H' → Q v H'
theorem tev_op {f : List P → Option O1} {ms : M (List R)} (h : TEv g W (opM f ms) σ H Q) : TAv g W ms σ H fun vs H1 => rOp g f vs H1 Q := by
  obtain ⟨F, ow, env, l, o⟩ := h
  refine ⟨F, ow, env, l, ?_⟩
  unfold opM at o
  cases e : ms env with
  | bad => rw [e] at o; exact o
  | ex x env' => rw [e] at o; exact o
  | ok rs env1 =>
    rw [e] at o
    intro vs F1 ow1 H1 p r1 n1
    dsimp only at o
    cases e2 : peeks env1 rs with
    | none => rw [e2] at o; exact o.elim
    | some xs =>
      rw [e2] at o
      dsimp only at o
      cases e3 : f xs with
      | none => rw [e3] at o; exact o.elim
      | some oo =>
        rw [e3] at o
        refine ⟨F1, xs, oo, p.rel.ext, r1.shapes p.rel e2, e3, fun v H2 h2 => ?_⟩
        obtain ⟨F2, ow2, p2, r2, n2⟩ := out_post p h2
        exact o v F2 ow2 H2 p2 r2 n2
/-- one argument, two, three -/
theorem tav1 {m : M R} {Q : List V → Hp → Prop} (h : TAv g W (M.cons m (M.pure [])) σ H Q) : TEv g W m σ H fun x H1 => Q [x] H1 := by
  obtain ⟨F, ow, env, l, o⟩ := tav_cons h
  refine ⟨F, ow, env, l, ?_⟩
  cases e : m env with
  | bad => rw [e] at o; exact o
  | ex x env' => rw [e] at o; exact o
  | ok r env1 => rw [e] at o; exact fun v F1 ow1 H1 p r1 n1 => tav_nil (o v F1 ow1 H1 p r1 n1)
theorem TEv.mono {m : M R} {Q Q' : VK} (h : TEv g W m σ H Q) (q : ∀ v H1, Q v H1 → Q' v H1) : TEv g W m σ H Q' := by
  obtain ⟨F, ow, env, l, o⟩ := h
  refine ⟨F, ow, env, l, ?_⟩
  cases e : m env with
  | bad => rw [e] at o; exact o
  | ex x env' => rw [e] at o; exact o
  | ok r env1 => rw [e] at o; exact fun v F1 ow1 H1 p r1 n1 => q _ _ (o v F1 ow1 H1 p r1 n1)
theorem tav2 {m m2 : M R} {Q : List V → Hp → Prop} (h : TAv g W (M.cons m (M.cons m2 (M.pure []))) σ H Q) : TEv g W m σ H fun x H1 => TEv g W m2 σ H1 fun y H2 => Q [x, y] H2 :=
  (tav_cons h).mono fun _ _ q => tav1 q
theorem tav3 {m m2 m3 : M R} {Q : List V → Hp → Prop} (h : TAv g W (M.cons m (M.cons m2 (M.cons m3 (M.pure [])))) σ H Q) : TEv g W m σ H fun x H1 => TEv g W m2 σ H1 fun y H2 => TEv g W m3 σ H2 fun z H3 => Q [x, y, z] H3 :=
  (tav_cons h).mono fun _ _ q => tav2 q
end
end Pi

/-! Pc3: operations on values: what they give, and the rule of each. -/
namespace Pi
open PySem L2 PyProof.Rows

/-! ### data -/
mutual
def toD : P → Option PyData
  | .non => some .none
  | .bl b => some (.bool b)
  | .int i => some (.int i)
  | .str s => some (.str s)
  | .lst xs => (toDs xs).map .list
  | .tup xs => (toDs xs).map .tuple
  | .dic _ => none
  | .obj _ _ => none
def toDs : List P → Option (List PyData)
  | [] => some []
  | x :: xs => match toD x, toDs xs with
    | some d, some ds => some (d :: ds)
    | _, _ => none
end
section
variable {g : Gm} {F H : Hp}
theorem Shape.mk {x : P} {v : V} (hF : ∀ a u, F a = some u → Has H a u) (r : gRep g F x v) : Shape g.K g.cl F H x v := Rep.shape hF r
mutual
theorem toD_rep (hF : ∀ a u, F a = some u → Has H a u) : ∀ (x : P) (v : V) (d : PyData), gRep g F x v → toD x = some d → Dp g.K H v d
  | .non, _, _, r, e => by cases r; cases e; exact .non
  | .bl b, _, _, r, e => by cases r; cases e; exact .bl b
  | .int i, _, _, r, e => by cases r; cases e; exact .int i
  | .str s, _, _, r, e => by cases r; cases e; exact .str s
  | .lst xs, v, d, r, e => by
    unfold toD at e
    obtain ⟨ds, e1, rfl⟩ := Option.map_eq_some_iff.mp e
    cases Shape.mk hF r with
    | lst h rs => exact .lst h (toDs_rep hF xs _ ds rs e1)
  | .tup xs, v, d, r, e => by
    unfold toD at e
    obtain ⟨ds, e1, rfl⟩ := Option.map_eq_some_iff.mp e
    cases Shape.mk hF r with
    | tup h rs => exact .tup h (toDs_rep hF xs _ ds rs e1)
  | .dic _, _, _, _, e => by unfold toD at e; cases e
  | .obj _ _, _, _, _, e => by unfold toD at e; cases e
theorem toDs_rep (hF : ∀ a u, F a = some u → Has H a u) : ∀ (xs : List P) (vs : List V) (ds : List PyData), Reps g.K g.cl F xs vs → toDs xs = some ds → DpAll g.K H vs ds
  | [], _, _, r, e => by cases r; unfold toDs at e; cases e; exact .nil
  | x :: xs, _, _, r, e => by
    cases r with
    | cons r1 r2 =>
      unfold toDs at e
      split at e
      · rename_i d ds e1 e2
        cases e
        exact .cons (toD_rep hF x _ d r1 e1) (toDs_rep hF xs _ ds r2 e2)
      · cases e
end
theorem toD_shape (hF : ∀ a u, F a = some u → Has H a u) {x : P} {v : V} {d : PyData} (r : Shape g.K g.cl F H x v) (e : toD x = some d) : Dp g.K H v d := by
  cases r with
  | non => unfold toD at e; cases e; exact .non
  | bl b => unfold toD at e; cases e; exact .bl b
  | int i => unfold toD at e; cases e; exact .int i
  | str s => unfold toD at e; cases e; exact .str s
  | lst h rs =>
    unfold toD at e
    obtain ⟨ds, e1, rfl⟩ := Option.map_eq_some_iff.mp e
    exact .lst h (toDs_rep hF _ _ ds rs e1)
  | tup h rs =>
    unfold toD at e
    obtain ⟨ds, e1, rfl⟩ := Option.map_eq_some_iff.mp e
    exact .tup h (toDs_rep hF _ _ ds rs e1)
  | dic h rs => unfold toD at e; cases e
  | obj h rs => unfold toD at e; cases e
end

/-! ### dicts -/
def valP {κ : Type} [DecidableEq κ] (kvs : List (κ × P)) (k : κ) : Option P := (kvs.find? fun kv => decide (kv.1 = k)).map (·.2)
def hasP {κ : Type} [DecidableEq κ] (kvs : List (κ × P)) (k : κ) : Bool := kvs.any fun kv => decide (kv.1 = k)
def putP {κ : Type} [DecidableEq κ] (kvs : List (κ × P)) (k : κ) (x : P) : List (κ × P) :=
  if hasP kvs k = true then kvs.map (fun kv => if kv.1 = k then (kv.1, x) else kv) else kvs ++ [(k, x)]
def mergeP (kvs more : List (Key × P)) : List (Key × P) := more.foldl (fun acc kv => putP acc kv.1 kv.2) kvs
def keyP : P → Option Key
  | .int i => some (.inl i)
  | .str s => some (.inr s)
  | _ => none
def pKey : Key → P
  | .inl i => .int i
  | .inr s => .str s
section
variable {g : Gm} {F H : Hp}
theorem RepK.get {kvs : List (Key × P)} {ws : List (Key × V)} (r : RepK g.K g.cl F kvs ws) (k : Key) : (∃ x v, valP kvs k = some x ∧ valV ws k = some v ∧ gRep g F x v) ∨ (valP kvs k = none ∧ valV ws k = none) := by
  match r with
  | .nil => exact .inr ⟨rfl, rfl⟩
  | .cons (k := k') (x := x) (v := v) (xs := xs) (vs := vs) h t =>
    by_cases e : k' = k
    · exact .inl ⟨x, v, by simp [valP, e], by simp [valV, e], h⟩
    · rcases RepK.get t k with ⟨x', v', h1, h2, h3⟩ | ⟨h1, h2⟩
      · exact .inl ⟨x', v', by simpa [valP, e] using h1, by simpa [valV, e] using h2, h3⟩
      · exact .inr ⟨by simpa [valP, e] using h1, by simpa [valV, e] using h2⟩
theorem RepK.has {kvs : List (Key × P)} {ws : List (Key × V)} (r : RepK g.K g.cl F kvs ws) (k : Key) : (ws.any fun kv => decide (kv.1 = k)) = hasP kvs k := by
  match r with
  | .nil => rfl
  | .cons h t => simp only [hasP, List.any_cons]; rw [RepK.has t k]; rfl
theorem RepK.snoc {kvs : List (Key × P)} {ws : List (Key × V)} (r : RepK g.K g.cl F kvs ws) {k : Key} {x : P} {v : V} (h : gRep g F x v) : RepK g.K g.cl F (kvs ++ [(k, x)]) (ws ++ [(k, v)]) := by
  match r with
  | .nil => exact .cons h .nil
  | .cons h' t => exact .cons h' (RepK.snoc t h)
theorem RepK.repl {kvs : List (Key × P)} {ws : List (Key × V)} (r : RepK g.K g.cl F kvs ws) {k : Key} {x : P} {v : V} (h : gRep g F x v) :
    RepK g.K g.cl F (kvs.map fun kv => if kv.1 = k then (kv.1, x) else kv) (ws.map fun kv => if kv.1 = k then (kv.1, v) else kv) := by
  match r with
  | .nil => exact .nil
  | .cons (k := k') h' t =>
    by_cases e : k' = k
    · simp only [List.map_cons, if_pos e]; exact .cons h (RepK.repl t h)
    · simp only [List.map_cons, if_neg e]; exact .cons h' (RepK.repl t h)
theorem RepK.put {kvs : List (Key × P)} {ws : List (Key × V)} (r : RepK g.K g.cl F kvs ws) {k : Key} {x : P} {v : V} (h : gRep g F x v) : RepK g.K g.cl F (putP kvs k x) (putK ws k v) := by
  unfold putP putK
  rw [RepK.has r k]
  split
  · exact r.repl h
  · exact r.snoc h
theorem RepK.len {kvs : List (Key × P)} {ws : List (Key × V)} (r : RepK g.K g.cl F kvs ws) : kvs.length = ws.length := by
  match r with
  | .nil => rfl
  | .cons h t => simp [RepK.len t]
theorem RepK.keys {kvs : List (Key × P)} {ws : List (Key × V)} (r : RepK g.K g.cl F kvs ws) : kvs.map (·.1) = ws.map (·.1) := by
  match r with
  | .nil => rfl
  | .cons h t => simp [RepK.keys t]
theorem Reps.len {xs : List P} {vs : List V} (r : Reps g.K g.cl F xs vs) : xs.length = vs.length := by
  match r with
  | .nil => rfl
  | .cons h t => simp [Reps.len t]
theorem Reps.get {xs : List P} {vs : List V} (r : Reps g.K g.cl F xs vs) {i : Nat} {x : P} (h : xs[i]? = some x) : ∃ v, vs[i]? = some v ∧ gRep g F x v := by
  match r, i, h with
  | .cons r1 _, 0, h => simp at h; subst h; exact ⟨_, rfl, r1⟩
  | .cons _ t, i + 1, h =>
    obtain ⟨v, h1, h2⟩ := Reps.get t (i := i) (x := x) (by simpa using h)
    exact ⟨v, by simpa using h1, h2⟩
theorem Reps.app {xs ys : List P} {vs ws : List V} (r : Reps g.K g.cl F xs vs) (q : Reps g.K g.cl F ys ws) : Reps g.K g.cl F (xs ++ ys) (vs ++ ws) := by
  match r with
  | .nil => exact q
  | .cons h t => exact .cons h (Reps.app t q)
theorem Reps.set {xs : List P} {vs : List V} (r : Reps g.K g.cl F xs vs) (i : Nat) {x : P} {v : V} (h : gRep g F x v) : Reps g.K g.cl F (xs.set i x) (vs.set i v) := by
  match r, i with
  | .nil, _ => exact .nil
  | .cons r1 t, 0 => exact .cons h t
  | .cons r1 t, i + 1 => exact .cons r1 (Reps.set t i h)
theorem rep_key {k : Key} : gRep g F (pKey k) (kV k) := by
  cases k with
  | inl i => exact .int i
  | inr s => exact .str s
theorem keyP_eq {x : P} {k : Key} (h : keyP x = some k) : x = pKey k := by
  cases x <;> simp [keyP] at h <;> subst h <;> rfl
theorem keyP_rep {x : P} {k : Key} {v : V} (h : keyP x = some k) (r : Shape g.K g.cl F H x v) : v = kV k := by
  rw [keyP_eq h] at r
  cases k <;> cases r <;> rfl
end

/-! ### equality -/
def eqD (x y : P) : Option Bool := match toD x, toD y with
  | some d, some e => if (SeqAt.shaped d && SeqAt.shaped e) = true then some (PyData.eqv d e) else none
  | _, _ => none
def hitsP (bs : List (Key × P)) : List (Key × P) → Option Bool
  | [] => some true
  | (k, x) :: r => match valP bs k with
    | none => some false
    | some y => match eqD x y, hitsP bs r with
      | some e, some b => some (e && b)
      | _, _ => none
def eqP (x y : P) : Option Bool := match x, y with
  | .dic a, .dic b => match hitsP b a with
    | some h => some (a.length == b.length && h)
    | none => none
  | x, y => eqD x y
section
variable {g : Gm} {F H : Hp} {X : Cx}
theorem hits_of {pins : List (Addr × Obj)} {σ : L2.St} {s : Shared} {A : Around} (hu : A.units + 64 < cLine) (I : Inv X pins σ H s) (hK : X.K = g.K) (hF : ∀ a u, F a = some u → Has H a u) {bs : List (Key × P)} {wb : List (Key × V)} {vb : List (Key × Value)} (rb : RepK g.K g.cl F bs wb) (kb : KV wb vb) :
    ∀ (as : List (Key × P)) (wa : List (Key × V)) (va : List (Key × Value)) (r : Bool), RepK g.K g.cl F as wa → KV wa va → hitsP bs as = some r → PySem.W.KeqHits A s vb va r
  | [], _, _, r, ra, ka, h => by
    cases ra; cases ka; unfold hitsP at h; cases h; exact .nil
  | (k, x) :: as, _, _, r, ra, ka, h => by
    cases ra with
    | cons r1 r2 =>
      rename_i v wa
      cases ka with
      | cons k1 k2 =>
        rename_i q va
        obtain ⟨k', u⟩ := q
        obtain ⟨e1, rv⟩ := k1
        cases (show k = k' from e1)
        unfold hitsP at h
        have rr := kb.val k
        rcases rb.get k with ⟨y, w, h1, h2, h3⟩ | ⟨h1, h2⟩
        · rw [h1] at h
          rw [h2] at rr
          obtain ⟨z, hz, rz⟩ := rr.some_of
          dsimp only at h
          split at h
          · rename_i e b he hb
            cases h
            unfold eqD at he
            split at he
            · rename_i d d' e1 e2
              split at he
              · rename_i hs
                cases he
                obtain ⟨s1, s2⟩ := Bool.and_eq_true_iff.mp hs
                have p1 := toD_rep hF x v d r1 e1
                have p2 := toD_rep hF y w d' h3 e2
                rw [← hK] at p1 p2
                obtain ⟨as1, q1⟩ := Dp.reads I d v u p1 rv
                obtain ⟨bs1, q2⟩ := Dp.reads I d' w z p2 rz
                exact .hit hz (PySem.SeqAt.eqAt_reads d d' A s u z as1 bs1 q1 q2 (SeqAt.canLay_of_shaped s1) (SeqAt.canLay_of_shaped s2) (SeqAt.room_of_shaped s1 hu)) (hits_of hu I hK hF rb kb as wa va b r2 k2 hb)
              · cases he
            · cases he
          · cases h
        · rw [h1] at h
          rw [h2] at rr
          cases h
          exact .miss rr.none_of
end
end Pi

/-! Pc4: the operations, each with its rule. -/
namespace Pi
open PySem PySem.Spec L2 PyProof.Rows

/-- texts in order -/
def insS (x : Str) : List Str → List Str
  | [] => [x]
  | y :: ys => if ltCps y.cps.toList x.cps.toList = true then y :: insS x ys else x :: y :: ys
def sortS : List Str → List Str
  | [] => []
  | x :: xs => insS x (sortS xs)
def strsP : List P → Option (List Str)
  | [] => some []
  | .str s :: r => (strsP r).map (s :: ·)
  | _ => none
def keysS : List (Key × P) → Option (List Str)
  | [] => some []
  | (.inr s, _) :: r => (keysS r).map (s :: ·)
  | _ => none
def bls : List P → Option (List Bool)
  | [] => some []
  | .bl b :: r => (bls r).map (b :: ·)
  | _ => none
def pairsP : List P → Option (List (Key × P))
  | [] => some []
  | .tup [k, x] :: r => match keyP k, pairsP r with
    | some k', some r' => some ((k', x) :: r')
    | _, _ => none
  | _ => none

/-- built-in types; a type as isinstance takes it, and the classes of the program of which the answer is known -/
inductive BT where
  | int | bool | str | dict | list | tuple
def BT.name : BT → String
  | .int => "int" | .bool => "bool" | .str => "str" | .dict => "dict" | .list => "list" | .tuple => "tuple"
inductive Ty where
  | b (t : BT) (nots : List Nat) | own (c : Nat) (subs nots : List Nat)

inductive Op where
  | add | sub | mul | fdiv | mod | neg | pow
  | lt | le | gt | ge | eq | ne | isin | notin | isnon | notnon
  | ix | len | sorted | dict1 | list1 | bool1 | min2 | max2 | all1 | isa (t : Ty)
  | isascii | isalpha | islower | get2 | revl
def lim : Nat := 100000
def isB : BT → P → Option Bool
  | .int, x => match x with | .bl _ => some true | .int _ => some true | .obj _ _ => none | _ => some false
  | .bool, x => match x with | .bl _ => some true | .obj _ _ => none | _ => some false
  | .str, x => match x with | .str _ => some true | .obj _ _ => none | _ => some false
  | .dict, x => match x with | .dic _ => some true | .obj _ _ => none | _ => some false
  | .list, x => match x with | .lst _ => some true | .obj _ _ => none | _ => some false
  | .tuple, x => match x with | .tup _ => some true | .obj _ _ => none | _ => some false
def isaP : Ty → P → Option Bool
  | .b t nots, x => match x with
    | .obj d _ => if nots.contains d = true then some false else none
    | x => isB t x
  | .own _ subs nots, x => match x with
    | .obj d _ => if subs.contains d = true then some true else if nots.contains d = true then some false else none
    | _ => some false

def isSc : P → Bool
  | .non => true | .bl _ => true | .int _ => true | .str _ => true | _ => false
def p_add : List P → Option O1
  | [.int a, .int b] => some (.sc (.int (a + b)))
  | [.str a, .str b] => if a.length + b.length ≤ lim then some (.sc (.str (a ++ b))) else none
  | _ => none
def p_sub : List P → Option O1
  | [.int a, .int b] => some (.sc (.int (a - b)))
  | _ => none
def p_mul : List P → Option O1
  | [.int a, .int b] => if (-(2 ^ 64) < a ∧ a < 2 ^ 64) ∨ (-(2 ^ 64) < b ∧ b < 2 ^ 64) then some (.sc (.int (a * b))) else none
  | _ => none
def p_fdiv : List P → Option O1
  | [.int a, .int b] => if 0 < b ∧ b.natAbs < 2 ^ 8000 then some (.sc (.int (a / b))) else none
  | _ => none
def p_mod : List P → Option O1
  | [.int a, .int b] => if 0 < b then some (.sc (.int (a % b))) else none
  | _ => none
def p_pow : List P → Option O1
  | [.int a, .int b] => if 0 ≤ b ∧ b ≤ 1000000 ∧ a.natAbs < 2 ^ 64 then some (.sc (.int (a ^ b.toNat))) else none
  | _ => none
def p_neg : List P → Option O1
  | [.int a] => some (.sc (.int (-a)))
  | _ => none
def p_lt : List P → Option O1
  | [.int a, .int b] => some (.sc (.bl (decide (a < b))))
  | _ => none
def p_le : List P → Option O1
  | [.int a, .int b] => some (.sc (.bl (decide (a ≤ b))))
  | _ => none
def p_gt : List P → Option O1
  | [.int a, .int b] => some (.sc (.bl (decide (b < a))))
  | _ => none
def p_ge : List P → Option O1
  | [.int a, .int b] => some (.sc (.bl (decide (b ≤ a))))
  | _ => none
def p_eq : List P → Option O1
  | [x, y] => (eqP x y).map fun b => .sc (.bl b)
  | _ => none
def p_ne : List P → Option O1
  | [x, y] => (eqP x y).map fun b => .sc (.bl (!b))
  | _ => none
def p_isin : List P → Option O1
  | [k, .dic kvs] => (keyP k).map fun k => .sc (.bl (hasP kvs k))
  | _ => none
def p_notin : List P → Option O1
  | [k, .dic kvs] => (keyP k).map fun k => .sc (.bl (!hasP kvs k))
  | _ => none
def p_isnon : List P → Option O1
  | [x, .non] => some (.sc (.bl (match x with | .non => true | _ => false)))
  | _ => none
def p_notnon : List P → Option O1
  | [x, .non] => some (.sc (.bl (match x with | .non => false | _ => true)))
  | _ => none
def p_ix : List P → Option O1
  | [.lst xs, .int i] => (atI xs i).map .sc
  | [.tup xs, .int i] => (atI xs i).map .sc
  | [.dic kvs, k] => (keyP k).bind fun k => (valP kvs k).map .sc
  | _ => none
def p_len : List P → Option O1
  | [.lst xs] => some (.sc (.int xs.length))
  | [.tup xs] => some (.sc (.int xs.length))
  | [.str s] => if s.length ≤ lim then some (.sc (.int s.length)) else none
  | [.dic kvs] => some (.sc (.int kvs.length))
  | _ => none
def p_sorted : List P → Option O1
  | [.dic kvs] => (keysS kvs).bind fun ks => if ks.length < 64 then some (.mk (.lst ((sortS ks).map .str))) else none
  | [.lst xs] => (strsP xs).bind fun ks => if ks.length < 64 then some (.mk (.lst ((sortS ks).map .str))) else none
  | _ => none
def p_dict1 : List P → Option O1
  | [.dic kvs] => some (.mk (.dic kvs))
  | [.lst xs] => (pairsP xs).map fun kvs => .mk (.dic (mergeP [] kvs))
  | _ => none
def p_list1 : List P → Option O1
  | [.lst xs] => some (.mk (.lst xs))
  | [.tup xs] => some (.mk (.lst xs))
  | [.dic kvs] => some (.mk (.lst (kvs.map fun kv => pKey kv.1)))
  | _ => none
def p_bool1 : List P → Option O1
  | [.int i] => some (.sc (.bl (i != 0)))
  | [.bl b] => some (.sc (.bl b))
  | [.dic kvs] => some (.sc (.bl (!kvs.isEmpty)))
  | _ => none
def p_min2 : List P → Option O1
  | [.int i, .int j] => some (.sc (.int (if j < i then j else i)))
  | _ => none
def p_max2 : List P → Option O1
  | [.int i, .int j] => some (.sc (.int (if j > i then j else i)))
  | _ => none
def p_all1 : List P → Option O1
  | [.lst xs] => (bls xs).map fun bs => .sc (.bl (bs.all id))
  | _ => none
def p_isa (t : Ty) : List P → Option O1
  | [x] => (isaP t x).map fun b => .sc (.bl b)
  | _ => none
def p_isascii : List P → Option O1
  | [.str s] => some (.sc (.bl (Txt.isascii s)))
  | _ => none
def p_isalpha : List P → Option O1
  | [.str s] => some (.sc (.bl (Txt.isalpha s)))
  | _ => none
def p_islower : List P → Option O1
  | [.str s] => some (.sc (.bl (Txt.islower s)))
  | _ => none
def p_get2 : List P → Option O1
  | [.dic kvs, k, d] => if isSc d = true then (keyP k).map fun k => .sc ((valP kvs k).getD d) else none
  | _ => none
def p_revl : List P → Option O1
  | [.lst xs] => some (.mk (.lst xs.reverse))
  | _ => none
def opP : Op → List P → Option O1
  | .add => p_add
  | .sub => p_sub
  | .mul => p_mul
  | .fdiv => p_fdiv
  | .mod => p_mod
  | .neg => p_neg
  | .pow => p_pow
  | .lt => p_lt
  | .le => p_le
  | .gt => p_gt
  | .ge => p_ge
  | .eq => p_eq
  | .ne => p_ne
  | .isin => p_isin
  | .notin => p_notin
  | .isnon => p_isnon
  | .notnon => p_notnon
  | .ix => p_ix
  | .len => p_len
  | .sorted => p_sorted
  | .dict1 => p_dict1
  | .list1 => p_list1
  | .bool1 => p_bool1
  | .min2 => p_min2
  | .max2 => p_max2
  | .all1 => p_all1
  | .isa t => p_isa t
  | .isascii => p_isascii
  | .isalpha => p_isalpha
  | .islower => p_islower
  | .get2 => p_get2
  | .revl => p_revl

section
variable {g : Gm} {X : Cx}
/-- two values, one -/
abbrev r2 (g : Gm) (o : Op) : R2 := fun x y H Q => rOp g (opP o) [x, y] H Q
abbrev r1 (g : Gm) (o : Op) : V → Hp → VK → Prop := fun x H Q => rOp g (opP o) [x] H Q

theorem bi_of {f : Value → Value → Sem Value} {o : Op} (h : ∀ (F H : Hp) (x y : P) (v u : V) (Q : VK) (out : O1), (∀ a u, F a = some u → Has H a u) → Shape g.K g.cl F H x v → Shape g.K g.cl F H y u → opP o [x, y] = some out → (∀ v H', O1R g F H out v H' → Q v H') →
    ∀ (pins : List (Addr × Obj)) (s : Shared) (σ : L2.St) (v' u' : Value), Inv X pins σ H s → RelV v v' → RelV u u' → wpAny (model X.prog X.w) X.A (f v' u') (EP X pins σ Q) X.xe s) : OpR X f (r2 g o) := by
  intro pins s σ H x y v u Q I rx ry hr
  obtain ⟨F, xs, out, hF, sh, e, q⟩ := hr
  match xs, sh, e with
  | [], sh, _ => exact sh.elim
  | [_], sh, _ => exact sh.2.elim
  | _ :: _ :: _ :: _, sh, _ => exact sh.2.2.elim
  | [a, b], sh, e => exact h F H a b x y Q out hF sh.1 sh.2.1 e q pins s σ v u I rx ry
theorem sc_bl {F H : Hp} {Q : VK} {b : Bool} (q : ∀ v H', O1R g F H (.sc (.bl b)) v H' → Q v H') : Q (.bl b) H := q _ _ ⟨rfl, .bl b⟩
theorem sc_int {F H : Hp} {Q : VK} {b : Int} (q : ∀ v H', O1R g F H (.sc (.int b)) v H' → Q v H') : Q (.int b) H := q _ _ ⟨rfl, .int b⟩
theorem sc_str {F H : Hp} {Q : VK} {b : Str} (q : ∀ v H', O1R g F H (.sc (.str b)) v H' → Q v H') : Q (.str b) H := q _ _ ⟨rfl, .str b⟩
theorem lim_line {n : Nat} (h : n ≤ lim) : n ≤ sizeLine := by
  have := sizeLine_eq
  unfold lim at h
  omega

theorem o_add : OpR X (binaryOp .Add) (r2 g .add) := by
  refine bi_of fun F H x y v u Q out hF s1 s2 e q pins s σ v' u' I rx ry => ?_
  cases x <;> cases y <;> simp only [opP, p_add, reduceCtorEq] at e
  · cases e; cases s1; cases s2
    exact op_add pins s σ H _ _ v' u' Q I rx ry ⟨_, _, rfl, rfl, sc_int q⟩
  · split at e
    · rename_i hl
      cases e; cases s1; cases s2
      exact op_add_str pins s σ H _ _ v' u' Q I rx ry ⟨_, _, rfl, rfl, lim_line hl, sc_str q⟩
    · cases e
theorem o_sub : OpR X (binaryOp .Sub) (r2 g .sub) := by
  refine bi_of fun F H x y v u Q out hF s1 s2 e q pins s σ v' u' I rx ry => ?_
  cases x <;> cases y <;> simp only [opP, p_sub, reduceCtorEq] at e
  cases e; cases s1; cases s2
  exact op_sub pins s σ H _ _ v' u' Q I rx ry ⟨_, _, rfl, rfl, sc_int q⟩
theorem o_mul : OpR X (binaryOp .Mult) (r2 g .mul) := by
  refine bi_of fun F H x y v u Q out hF s1 s2 e q pins s σ v' u' I rx ry => ?_
  cases x <;> cases y <;> simp only [opP, p_mul, reduceCtorEq] at e
  split at e
  · rename_i hc
    cases e; cases s1; cases s2
    exact op_mul pins s σ H _ _ v' u' Q I rx ry ⟨_, _, rfl, rfl, hc, sc_int q⟩
  · cases e
theorem o_fdiv : OpR X (binaryOp .FloorDiv) (r2 g .fdiv) := by
  refine bi_of fun F H x y v u Q out hF s1 s2 e q pins s σ v' u' I rx ry => ?_
  cases x <;> cases y <;> simp only [opP, p_fdiv, reduceCtorEq] at e
  split at e
  · rename_i hc
    cases e; cases s1; cases s2
    exact op_fdivW pins s σ H _ _ v' u' Q I rx ry ⟨_, _, rfl, rfl, wide_div hc.1 hc.2 (by decide) (by decide), sc_int q⟩
  · cases e
theorem o_mod : OpR X (binaryOp .Mod) (r2 g .mod) := by
  refine bi_of fun F H x y v u Q out hF s1 s2 e q pins s σ v' u' I rx ry => ?_
  cases x <;> cases y <;> simp only [opP, p_mod, reduceCtorEq] at e
  split at e
  · rename_i hc
    cases e; cases s1; cases s2
    exact op_mod pins s σ H _ _ v' u' Q I rx ry ⟨_, _, rfl, rfl, hc, sc_int q⟩
  · cases e
theorem o_pow : OpR X (binaryOp .Pow) (r2 g .pow) := by
  refine bi_of fun F H x y v u Q out hF s1 s2 e q pins s σ v' u' I rx ry => ?_
  cases x <;> cases y <;> simp only [opP, p_pow, reduceCtorEq] at e
  split at e
  · rename_i hc
    cases e; cases s1; cases s2
    exact op_pow pins s σ H _ _ v' u' Q I rx ry ⟨_, _, rfl, rfl, hc, sc_int q⟩
  · cases e
theorem o_lt : OpR X (compareOp .Lt) (r2 g .lt) := by
  refine bi_of fun F H x y v u Q out hF s1 s2 e q pins s σ v' u' I rx ry => ?_
  cases x <;> cases y <;> simp only [opP, p_lt, reduceCtorEq] at e
  cases e; cases s1; cases s2
  exact op_lt pins s σ H _ _ v' u' Q I rx ry ⟨_, _, rfl, rfl, sc_bl q⟩
theorem o_le : OpR X (compareOp .LtE) (r2 g .le) := by
  refine bi_of fun F H x y v u Q out hF s1 s2 e q pins s σ v' u' I rx ry => ?_
  cases x <;> cases y <;> simp only [opP, p_le, reduceCtorEq] at e
  cases e; cases s1; cases s2
  exact op_le pins s σ H _ _ v' u' Q I rx ry ⟨_, _, rfl, rfl, sc_bl q⟩
theorem o_gt : OpR X (compareOp .Gt) (r2 g .gt) := by
  refine bi_of fun F H x y v u Q out hF s1 s2 e q pins s σ v' u' I rx ry => ?_
  cases x <;> cases y <;> simp only [opP, p_gt, reduceCtorEq] at e
  cases e; cases s1; cases s2
  exact op_gt pins s σ H _ _ v' u' Q I rx ry ⟨_, _, rfl, rfl, sc_bl q⟩
theorem o_ge : OpR X (compareOp .GtE) (r2 g .ge) := by
  refine bi_of fun F H x y v u Q out hF s1 s2 e q pins s σ v' u' I rx ry => ?_
  cases x <;> cases y <;> simp only [opP, p_ge, reduceCtorEq] at e
  cases e; cases s1; cases s2
  exact op_ge pins s σ H _ _ v' u' Q I rx ry ⟨_, _, rfl, rfl, sc_bl q⟩

/-- == by data or of two dicts -/
theorem eqD_reads {x y : P} {b : Bool} {F H : Hp} {v u : V} (hF : ∀ a u, F a = some u → Has H a u) (s1 : Shape g.K g.cl F H x v) (s2 : Shape g.K g.cl F H y u) (e : eqD x y = some b) :
    ∃ d d', Dp g.K H v d ∧ Dp g.K H u d' ∧ SeqAt.shaped d = true ∧ SeqAt.shaped d' = true ∧ b = PyData.eqv d d' := by
  unfold eqD at e
  split at e
  · rename_i d d' e1 e2
    split at e
    · rename_i hs
      cases e
      obtain ⟨h1, h2⟩ := Bool.and_eq_true_iff.mp hs
      exact ⟨d, d', toD_shape hF s1 e1, toD_shape hF s2 e2, h1, h2, rfl⟩
    · cases e
  · cases e
theorem o_eqne (hK : X.K = g.K) (hu : X.A.units + 64 + 1 < cLine) :
    OpR X (compareOp .Eq) (r2 g .eq) ∧ OpR X (compareOp .NotEq) (r2 g .ne) := by
  have data : ∀ (F H : Hp) (x y : P) (v u : V) (Q : VK) (b : Bool), (∀ a u, F a = some u → Has H a u) → Shape g.K g.cl F H x v → Shape g.K g.cl F H y u → eqD x y = some b → 
      ∀ (pins : List (Addr × Obj)) (s : Shared) (σ : L2.St) (v' u' : Value), Inv X pins σ H s → RelV v v' → RelV u u' →
      (Q (.bl b) H → wpAny (model X.prog X.w) X.A (compareOp .Eq v' u') (EP X pins σ Q) X.xe s) ∧ (Q (.bl (!b)) H → wpAny (model X.prog X.w) X.A (compareOp .NotEq v' u') (EP X pins σ Q) X.xe s) := by
    intro F H x y v u Q b hF s1 s2 e pins s σ v' u' I rx ry
    obtain ⟨d, d', p1, p2, h1, h2, rfl⟩ := eqD_reads hF s1 s2 e
    rw [← hK] at p1 p2
    exact ⟨fun q => op_eqD (by omega) pins s σ H _ _ v' u' Q I rx ry ⟨d, d', p1, p2, h1, h2, q⟩, fun q => op_neD (by omega) pins s σ H _ _ v' u' Q I rx ry ⟨d, d', p1, p2, h1, h2, q⟩⟩
  have dics : ∀ (F H : Hp) (as bs : List (Key × P)) (v u : V) (Q : VK) (b : Bool), (∀ a u, F a = some u → Has H a u) → Shape g.K g.cl F H (.dic as) v → Shape g.K g.cl F H (.dic bs) u → hitsP bs as = some b → 
      ∀ (pins : List (Addr × Obj)) (s : Shared) (σ : L2.St) (v' u' : Value), Inv X pins σ H s → RelV v v' → RelV u u' →
      (Q (.bl (as.length == bs.length && b)) H → wpAny (model X.prog X.w) X.A (compareOp .Eq v' u') (EP X pins σ Q) X.xe s) ∧ (Q (.bl (!(as.length == bs.length && b))) H → wpAny (model X.prog X.w) X.A (compareOp .NotEq v' u') (EP X pins σ Q) X.xe s) := by
    intro F H as bs v u Q b hF s1 s2 e pins s σ v' u' I rx ry
    cases s1 with
    | dic ha ra =>
      cases s2 with
      | dic hb rb =>
        rename_i a wa b' wb
        cases (show v' = Value.ref a from rx)
        cases (show u' = Value.ref b' from ry)
        obtain ⟨_, ya, va, ka, da⟩ := dk_rd I.hok ha
        obtain ⟨_, yb, vb, kb, db⟩ := dk_rd I.hok hb
        have l1 : va.length = as.length := by rw [ra.len, ka.length]
        have l2 : vb.length = bs.length := by rw [rb.len, kb.length]
        have hits := hits_of (A := X.A.in1) (show X.A.units + 1 + 64 < cLine by omega) I hK hF rb kb as wa va b ra ka e
        refine ⟨fun q => PySem.W.keq_eq (knd := mixKind X.prog X.w) (r := b) ya yb da db (by omega) (fun _ => hits) (fin_bl I q ?_), fun q => PySem.W.keq_ne (knd := mixKind X.prog X.w) (r := b) ya yb da db (by omega) (fun _ => hits) (fin_bl I q ?_)⟩
        · rw [l1, l2]
        · rw [l1, l2]
  have main : ∀ (F H : Hp) (x y : P) (v u : V) (Q : VK) (b : Bool), (∀ a u, F a = some u → Has H a u) → Shape g.K g.cl F H x v → Shape g.K g.cl F H y u → eqP x y = some b → 
      ∀ (pins : List (Addr × Obj)) (s : Shared) (σ : L2.St) (v' u' : Value), Inv X pins σ H s → RelV v v' → RelV u u' →
      (Q (.bl b) H → wpAny (model X.prog X.w) X.A (compareOp .Eq v' u') (EP X pins σ Q) X.xe s) ∧ (Q (.bl (!b)) H → wpAny (model X.prog X.w) X.A (compareOp .NotEq v' u') (EP X pins σ Q) X.xe s) := by
    intro F H x y v u Q b hF s1 s2 e pins s σ v' u' I rx ry
    unfold eqP at e
    split at e
    · split at e
      · rename_i h hb
        cases e
        exact dics F H _ _ v u Q h hF s1 s2 hb pins s σ v' u' I rx ry
      · cases e
    · exact data F H x y v u Q b hF s1 s2 e pins s σ v' u' I rx ry
  constructor
  · refine bi_of fun F H x y v u Q out hF s1 s2 e q pins s σ v' u' I rx ry => ?_
    obtain ⟨b, e1, rfl⟩ := Option.map_eq_some_iff.mp (show (eqP x y).map (fun b => O1.sc (.bl b)) = some out from e)
    exact (main F H x y v u Q b hF s1 s2 e1 pins s σ v' u' I rx ry).1 (sc_bl q)
  · refine bi_of fun F H x y v u Q out hF s1 s2 e q pins s σ v' u' I rx ry => ?_
    obtain ⟨b, e1, rfl⟩ := Option.map_eq_some_iff.mp (show (eqP x y).map (fun b => O1.sc (.bl (!b))) = some out from e)
    exact (main F H x y v u Q b hF s1 s2 e1 pins s σ v' u' I rx ry).2 (sc_bl q)

theorem val_has {κ : Type} [DecidableEq κ] (k : κ) : ∀ kvs : List (κ × P), (valP kvs k).isSome = hasP kvs k
  | [] => rfl
  | (a, x) :: r => by
    have ih := val_has k r
    by_cases e : a = k
    · simp [valP, hasP, e]
    · simp only [valP, hasP] at ih
      simp only [valP, hasP, List.find?_cons, List.any_cons, e, decide_false, Bool.false_or]
      exact ih
theorem dget_of {F H : Hp} {kvs : List (Key × P)} {ws : List (Key × V)} {a : Addr} (h : Rd H a (.dK ws)) (k : Key) : DGet H a (kV k) (valV ws k) := .inl ⟨ws, k, h, rfl, rfl⟩
theorem o_in (hu : X.A.units + 1 < cLine) : OpR X (compareOp .In) (r2 g .isin) := by
  refine bi_of fun F H x y v u Q out hF s1 s2 e q pins s σ v' u' I rx ry => ?_
  cases y <;> simp only [opP, p_isin, reduceCtorEq] at e
  rename_i kvs
  obtain ⟨k, e1, rfl⟩ := Option.map_eq_some_iff.mp e
  cases s2 with
  | dic h r =>
    rename_i a ws
    cases (show u' = Value.ref a from ry)
    cases keyP_rep e1 s1
    refine d_in hu I (dget_of (F := F) (kvs := kvs) h k) rx fun s' I' => ⟨.bl (hasP kvs k), H, I', ?_, sc_bl q⟩
    show Value.bool _ = Value.bool _
    rw [← val_has]
    rcases r.get k with ⟨x', w, h1, h2, _⟩ | ⟨h1, h2⟩ <;> rw [h1, h2] <;> rfl
theorem o_notin (hu : X.A.units + 1 < cLine) : OpR X (compareOp .NotIn) (r2 g .notin) := by
  refine bi_of fun F H x y v u Q out hF s1 s2 e q pins s σ v' u' I rx ry => ?_
  cases y <;> simp only [opP, p_notin, reduceCtorEq] at e
  rename_i kvs
  obtain ⟨k, e1, rfl⟩ := Option.map_eq_some_iff.mp e
  cases s2 with
  | dic h r =>
    rename_i a ws
    cases (show u' = Value.ref a from ry)
    cases keyP_rep e1 s1
    refine d_notIn hu I (dget_of (F := F) (kvs := kvs) h k) rx fun s' I' => ⟨.bl (!hasP kvs k), H, I', ?_, sc_bl q⟩
    show Value.bool _ = Value.bool _
    rw [← val_has]
    rcases r.get k with ⟨x', w, h1, h2, _⟩ | ⟨h1, h2⟩ <;> rw [h1, h2] <;> rfl
end
end Pi

/-! Pc5: more operations: subscripts, built-in functions and methods. -/
namespace Pi
open PySem PySem.Spec L2 PyProof.Rows
section
variable {g : Gm} {X : Cx}
theorem o_isnon : OpR X (compareOp .Is) (r2 g .isnon) := by
  refine bi_of fun F H x y v u Q out hF s1 s2 e q pins s σ v' u' I rx ry => ?_
  cases y <;> simp only [opP, p_isnon, reduceCtorEq] at e
  cases s2
  refine op_isN pins s σ H _ _ v' u' Q I rx ry ⟨rfl, ?_⟩
  cases e
  cases s1 <;> exact sc_bl q
theorem o_notnon : OpR X (compareOp .IsNot) (r2 g .notnon) := by
  refine bi_of fun F H x y v u Q out hF s1 s2 e q pins s σ v' u' I rx ry => ?_
  cases y <;> simp only [opP, p_notnon, reduceCtorEq] at e
  cases s2
  refine op_notN pins s σ H _ _ v' u' Q I rx ry ⟨rfl, ?_⟩
  cases e
  cases s1 <;> exact sc_bl q
theorem at_rep {F : Hp} {xs : List P} {vs : List V} (r : Reps g.K g.cl F xs vs) {i : Int} {x : P} (h : atI xs i = some x) : ∃ v, atI vs i = some v ∧ gRep g F x v := by
  unfold atI at h ⊢
  rw [← r.len]
  cases e : ixN xs.length i with
  | none => rw [e] at h; cases h
  | some j =>
    rw [e] at h
    exact r.get h
theorem o_ix (hK : X.K = g.K) (hu : X.A.units + 1 < cLine) : IxR X (r2 g .ix) := by
  intro value slice pins s σ H x y v u Q I rx ry hr hs
  obtain ⟨F, xs, out, hF, sh, e, q⟩ := hr
  match xs, sh, e with
  | [], sh, _ => exact sh.elim
  | [_], sh, _ => exact sh.2.elim
  | _ :: _ :: _ :: _, sh, _ => exact sh.2.2.elim
  | [a, b], sh, e =>
    obtain ⟨s1, s2, _⟩ := sh
    cases a with
    | lst l =>
      cases b <;> simp only [opP, p_ix, reduceCtorEq] at e
      obtain ⟨z, ez, rfl⟩ := Option.map_eq_some_iff.mp e
      cases s2
      cases s1 with
      | lst h r =>
        obtain ⟨w, hw, rw'⟩ := at_rep r ez
        rw [← hK] at h
        exact ix_list value slice pins s σ H _ _ v u Q I rx ry ⟨_, _, _, w, rfl, rfl, h, hw, q _ _ ⟨rfl, rw'⟩⟩ hs
    | tup l =>
      cases b <;> simp only [opP, p_ix, reduceCtorEq] at e
      obtain ⟨z, ez, rfl⟩ := Option.map_eq_some_iff.mp e
      cases s2
      cases s1 with
      | tup h r =>
        obtain ⟨w, hw, rw'⟩ := at_rep r ez
        rw [← hK] at h
        exact ix_tup value slice pins s σ H _ _ v u Q I rx ry ⟨_, _, _, w, rfl, rfl, h, hw, q _ _ ⟨rfl, rw'⟩⟩ hs
    | dic kvs =>
      simp only [opP, p_ix] at e
      obtain ⟨k, ek, e2⟩ := Option.bind_eq_some_iff.mp e
      obtain ⟨z, ez, rfl⟩ := Option.map_eq_some_iff.mp e2
      cases keyP_rep ek s2
      cases s1 with
      | dic h r =>
        rename_i a ws
        cases (show v = Value.ref a from rx)
        rcases r.get k with ⟨x', w, h1, h2, h3⟩ | ⟨h1, _⟩
        · rw [ez] at h1; cases h1
          have gd : DGet H a (kV k) (some w) := by rw [← h2]; exact dget_of (F := F) (kvs := kvs) h k
          unfold subscriptTail
          refine wpAny_bind ?_
          rw [getitemInPython_of_ne (dict_typeIs I gd).not_modules]
          refine wpAny_bind (wpAny_specialOf (dict_typeIs I gd) PySem.F.slot_dict_getitem.lookup ?_)
          have fin : wpAny (model X.prog X.w) X.A (subscripted slice false (.ref a) u) (fun r s₃ => wpAny (model X.prog X.w) X.A (letTemporaryGo value (.ref a) r >>= fun _ => pure r) (EP X pins σ Q) X.xe s₃) X.xe s := by
            rw [hs]
            exact wpAny_operating (d_getItem hu I gd ry fun w' s3 I3 rw' => wpAny_bind (wpAny_letTemporaryGo (wpAny_pure ⟨w, H, I3, rw', q _ _ ⟨rfl, h3⟩⟩)))
          first
            | exact wpAny_pure (wpAny_bind fin)
            | exact wpAny_bind (wpAny_pure (wpAny_bind fin))
            | exact wpAny_bind fin
        · rw [ez] at h1; cases h1
    | _ => simp only [opP, p_ix, reduceCtorEq] at e
theorem o_neg : UnR X (unaryOp .USub) (r1 g .neg) := by
  intro pins s σ H x v Q I rx hr
  obtain ⟨F, xs, out, hF, sh, e, q⟩ := hr
  match xs, sh, e with
  | [], sh, _ => exact sh.elim
  | _ :: _ :: _, sh, _ => exact sh.2.elim
  | [a], sh, e =>
    obtain ⟨s1, _⟩ := sh
    cases a <;> simp only [opP, p_neg, reduceCtorEq] at e
    cases e; cases s1
    exact un_neg pins s σ H _ v Q I rx ⟨_, rfl, sc_int q⟩

/-- a call of one value -/
theorem c1_of {f : Value} {o : Op} (h : ∀ (F H : Hp) (x : P) (v : V) (Q : VK) (out : O1), (∀ a u, F a = some u → Has H a u) → Shape g.K g.cl F H x v → opP o [x] = some out → (∀ v H', O1R g F H out v H' → Q v H') →
    ∀ (pins : List (Addr × Obj)) (s : Shared) (σ : L2.St) (us : List Value), Inv X pins σ H s → Vals [v] us → wpAny (model X.prog X.w) X.A (call f us) (EP X pins σ Q) X.xe s) (h0 : ∀ xs, xs.length ≠ 1 → opP o xs = none) : CallR X f (rOp g (opP o)) := by
  intro pins s σ H vs us Q I rv hr
  obtain ⟨F, xs, out, hF, sh, e, q⟩ := hr
  match xs, vs, sh, e, rv with
  | [], _, _, e, _ => rw [h0 _ (by decide)] at e; cases e
  | [_], [], sh, _, _ => exact sh.elim
  | [_], _ :: _ :: _, sh, _, _ => exact sh.2.elim
  | _ :: _ :: _, _, _, e, _ => rw [h0 _ (by simp)] at e; cases e
  | [a], [b], sh, e, rv => exact h F H a b Q out hF sh.1 e q pins s σ us I rv
theorem mk_lst {F H : Hp} {Q : VK} {xs : List P} {vs : List V} (r : Reps g.K g.cl F xs vs) (q : ∀ v H', O1R g F H (.mk (.lst xs)) v H' → Q v H') : ∀ p, H p = none → Q (.ref p) (upd H p (.lst vs)) := fun p n => q _ _ ⟨p, _, n, rfl, rfl, vs, rfl, r⟩
theorem mk_dic {F H : Hp} {Q : VK} {xs : List (Key × P)} {vs : List (Key × V)} (r : RepK g.K g.cl F xs vs) (q : ∀ v H', O1R g F H (.mk (.dic xs)) v H' → Q v H') : ∀ p, H p = none → Q (.ref p) (upd H p (.dK vs)) := fun p n => q _ _ ⟨p, _, n, rfl, rfl, vs, rfl, r⟩

theorem o_len (hK : X.K = g.K) : CallR X (.builtin "len") (rOp g (opP .len)) := by
  refine c1_of (fun F H x v Q out hF s1 e q pins s σ us I rv => ?_) (fun xs h => by match xs, h with | [], _ => rfl | [_], h => exact (h rfl).elim | a :: _ :: _, _ => cases a <;> rfl)
  cases s1 with
  | lst h r =>
    cases e
    rw [← hK] at h
    refine call_len_seq pins s σ H _ us Q I rv ⟨_, _, rfl, .inl h, ?_⟩
    rw [r.len] at q
    exact sc_int q
  | tup h r =>
    cases e
    rw [← hK] at h
    refine call_len_seq pins s σ H _ us Q I rv ⟨_, _, rfl, .inr h, ?_⟩
    rw [r.len] at q
    exact sc_int q
  | str z =>
    simp only [opP, p_len] at e
    split at e
    · rename_i hl
      cases e
      exact call_len_str pins s σ H _ us Q I rv ⟨_, rfl, lim_line hl, sc_int q⟩
    · cases e
  | dic h r =>
    cases e
    obtain ⟨u, rfl, ru⟩ := Vals.one rv
    cases ru
    rename_i ws _
    refine d_len I h fun t s' I' => ⟨.int ws.length, H, I', ⟨t, rfl⟩, ?_⟩
    rw [r.len] at q
    exact sc_int q
  | _ => cases e

/-! ### sorted -/
theorem lt_asym : ∀ {a b : List Nat}, ltCps a b = true → ltCps b a = false
  | [], [], h => by simp [ltCps] at h
  | [], _ :: _, _ => by simp [ltCps]
  | _ :: _, [], h => by simp [ltCps] at h
  | x :: a, y :: b, h => by
    simp only [ltCps] at h ⊢
    by_cases e : x = y
    · subst e
      simp at h ⊢
      exact lt_asym h
    · have e' : ¬ y = x := fun z => e z.symm
      simp [e, e'] at h ⊢
      omega
theorem lt_tri : ∀ {a b : List Nat}, ltCps a b = false → ltCps b a = false → a = b
  | [], [], _, _ => rfl
  | [], _ :: _, h, _ => by simp [ltCps] at h
  | _ :: _, [], _, h => by simp [ltCps] at h
  | x :: a, y :: b, h, h' => by
    simp only [ltCps] at h h'
    by_cases e : x = y
    · subst e
      simp at h h'
      rw [lt_tri h h']
    · have e' : ¬ y = x := fun z => e z.symm
      simp [e, e'] at h h'
      omega
theorem le_trans' : ∀ {a b c : List Nat}, ltCps b a = false → ltCps c b = false → ltCps c a = false
  | [], [], [], _, _ => by simp [ltCps]
  | [], [], _ :: _, _, _ => by simp [ltCps]
  | [], _ :: _, [], _, _ => by simp [ltCps]
  | [], _ :: _, _ :: _, _, _ => by simp [ltCps]
  | _ :: _, [], _, h, _ => by simp [ltCps] at h
  | _ :: _, _ :: _, [], _, h => by simp [ltCps] at h
  | x :: a, y :: b, z :: c, h, h' => by
    have ih := @le_trans' a b c
    simp only [ltCps, Bool.or_eq_false_iff, Bool.and_eq_false_iff, decide_eq_false_iff_not, beq_eq_false_iff_ne, ne_eq] at h h' ⊢
    obtain ⟨h1, h2⟩ := h
    obtain ⟨h3, h4⟩ := h'
    refine ⟨by omega, ?_⟩
    by_cases e : z = x
    · have e1 : y = x := by omega
      have e2 : z = y := by omega
      exact .inr (ih (h2.resolve_left (fun n => n e1)) (h4.resolve_left (fun n => n e2)))
    · exact .inl e
abbrev SLe (a b : Str) : Prop := ltCps b.cps.toList a.cps.toList = false
theorem rising_pw : ∀ {p : Str} {l : List Str}, risingS p l = true → (p :: l).Pairwise SLe
  | p, [], _ => by simp
  | p, x :: r, h => by
    unfold risingS at h
    obtain ⟨h1, h2⟩ := Bool.and_eq_true_iff.mp h
    have ih := rising_pw h2
    have h1' : SLe p x := by simpa using h1
    refine List.Pairwise.cons (fun y hy => ?_) ih
    rcases List.mem_cons.mp hy with rfl | hy
    · exact h1'
    · exact le_trans' h1' ((List.pairwise_cons.mp ih).1 y hy)
theorem sorted_pw {l : List Str} (h : sortedS l = true) : l.Pairwise SLe := by
  cases l with
  | nil => exact List.Pairwise.nil
  | cons x r => exact rising_pw h
theorem insS_perm (x : Str) : ∀ l, (insS x l).Perm (x :: l)
  | [] => .refl _
  | y :: ys => by
    unfold insS
    split
    · exact ((insS_perm x ys).cons y).trans (.swap x y ys)
    · exact .refl _
theorem sortS_perm : ∀ l, (sortS l).Perm l
  | [] => .refl _
  | x :: xs => (insS_perm x _).trans ((sortS_perm xs).cons x)
theorem insS_pw (x : Str) : ∀ l : List Str, l.Pairwise SLe → (insS x l).Pairwise SLe
  | [], _ => by simp [insS]
  | y :: ys, h => by
    obtain ⟨h1, h2⟩ := List.pairwise_cons.mp h
    unfold insS
    split
    · rename_i c
      refine List.Pairwise.cons (fun z hz => ?_) (insS_pw x ys h2)
      rcases List.mem_cons.mp ((insS_perm x ys).mem_iff.mp hz) with rfl | hz
      · exact lt_asym c
      · exact h1 z hz
    · rename_i c
      have c' : SLe x y := by simpa using c
      refine List.Pairwise.cons (fun z hz => ?_) h
      rcases List.mem_cons.mp hz with rfl | hz
      · exact c'
      · exact le_trans' c' (h1 z hz)
theorem sortS_pw : ∀ l : List Str, (sortS l).Pairwise SLe
  | [] => List.Pairwise.nil
  | x :: xs => insS_pw x _ (sortS_pw xs)
theorem str_ext {a b : Str} (h : a.cps.toList = b.cps.toList) : a = b := by
  cases a; cases b
  have := Array.toList_inj.mp h
  simpa using this
theorem sort_one {ys ks : List Str} (hp : ys.Perm ks) (hs : sortedS ys = true) : ys = sortS ks :=
  (hp.trans (sortS_perm ks).symm).eq_of_pairwise (fun a b _ _ h1 h2 => str_ext (lt_tri h2 h1)) (sorted_pw hs) (sortS_pw ks)
theorem keysS_eq : ∀ {kvs : List (Key × P)} {ks : List Str}, keysS kvs = some ks → kvs.map (·.1) = ks.map Sum.inr
  | [], _, h => by cases h; rfl
  | (.inr s, x) :: r, ks, h => by
    unfold keysS at h
    obtain ⟨ks', h1, rfl⟩ := Option.map_eq_some_iff.mp h
    simp [keysS_eq h1]
  | (.inl _, _) :: _, _, h => by cases h
theorem reps_strs {F : Hp} : ∀ l : List Str, Reps g.K g.cl F (l.map .str) (l.map V.str)
  | [] => .nil
  | s :: r => .cons (.str s) (reps_strs r)
theorem strsP_rep {F : Hp} : ∀ {xs : List P} {ss : List Str} {vs : List V}, strsP xs = some ss → Reps g.K g.cl F xs vs → vs = ss.map V.str
  | [], _, _, h, r => by cases h; cases r; rfl
  | .str s :: xs, ss, _, h, r => by
    unfold strsP at h
    obtain ⟨ss', h1, rfl⟩ := Option.map_eq_some_iff.mp h
    cases r with
    | cons r1 r2 =>
      cases r1
      rw [strsP_rep h1 r2]
      rfl
  | .non :: _, _, _, h, _ | .bl _ :: _, _, _, h, _ | .int _ :: _, _, _, h, _ | .lst _ :: _, _, _, h, _ | .tup _ :: _, _, _, h, _ | .dic _ :: _, _, _, h, _ | .obj _ _ :: _, _, _, h, _ => by cases h
theorem o_sorted (hc : X.calm = true) (hK : X.K = g.K) : CallR X (.builtin "sorted") (rOp g (opP .sorted)) := by
  refine c1_of (fun F H x v Q out hF s1 e q pins s σ us I rv => ?_) (fun xs h => by match xs, h with | [], _ => rfl | [_], h => exact (h rfl).elim | a :: _ :: _, _ => cases a <;> rfl)
  cases s1 with
  | dic h r =>
    simp only [opP, p_sorted] at e
    obtain ⟨ks, h1, e⟩ := Option.bind_eq_some_iff.mp e
    split at e
    · rename_i h64
      cases e
      refine call_sortedD hc pins s σ H _ us Q I rv ⟨_, _, ks, rfl, h, ?_, h64, fun ys p hp hs n => ?_⟩
      · rw [← r.keys]; exact keysS_eq h1
      · rw [sort_one hp hs]
        exact mk_lst (reps_strs _) q p n
    · cases e
  | lst h r =>
    simp only [opP, p_sorted] at e
    obtain ⟨ks, h1, e⟩ := Option.bind_eq_some_iff.mp e
    split at e
    · rename_i h64
      cases e
      rw [strsP_rep h1 r, ← hK] at h
      refine cr_sortedS pins s σ H _ us Q I rv ⟨_, ks, rfl, h, h64, fun ys p hp hs n => ?_⟩
      rw [sort_one hp hs]
      exact mk_lst (reps_strs _) q p n
    · cases e
  | _ => cases e

/-! ### dict(..), list(..), bool(..), min, max, all -/
theorem call_list_dR (hc : X.calm = true) : CallR X (.type "list") (fun xs H Q => ∃ p kvs, xs = [V.ref p] ∧ Rd H p (.dK kvs) ∧ ∀ q, H q = none → Q (.ref q) (upd H q (.lst (kvs.map fun kv => kV kv.1)))) := by
  intro pins s σ H xs us Q I r ⟨p, kvs, e, hk, q⟩
  subst e
  obtain ⟨u, rfl, rx⟩ := Vals.one r
  cases rx
  obtain ⟨z, lo, vs, rk, hd⟩ := dk_rd I.hok hk
  obtain ⟨ep, hat⟩ := hd.dictAt
  have hl : kvs.length = vs.length := rk.length
  refine PySem.W.kdl_call (PySem.W.kdl_dict (knd := mixKind X.prog X.w) (kvs := vs) (ep := ep) lo) (I.ok.hd hc) hat (by omega) fun h' tk acc' c' hkeep hS hacc => ?_
  have hv : Vals (kvs.map fun kv => kV kv.1) acc'.toList := by
    refine vals_of_at (by have h1 := hacc.1; simp [hl, h1]) fun j x w h1 h2 => ?_
    rw [Array.getElem?_toList] at h2
    obtain ⟨k, y, hky, hi⟩ := hacc.2 j w h2
    have e1 : (kvs.map (·.1))[j]? = some k := by rw [rk.keys, List.getElem?_map, hky]; rfl
    rw [List.getElem?_map] at h1 e1
    cases e2 : kvs[j]? with
    | none => rw [e2] at e1; cases e1
    | some kv =>
      rw [e2] at e1 h1
      cases e1; cases h1
      exact keyIs_rel hi
  exact ⟨.ref s.heap.objs.size, _, I.laid (o := .lst (kvs.map fun kv => kV kv.1)) hkeep (Nat.le_refl _) (show ObjOk X.prog X.w _ h' _ (.lst _) from ⟨by rw [List.length_map]; exact z, acc'.toList, c', hv, by rw [Array.toArray_toList]; exact hS⟩), rfl, q _ (I.hok.fresh (Nat.le_refl _))⟩
theorem reps_keys {F : Hp} {kvs : List (Key × P)} {ws : List (Key × V)} (r : RepK g.K g.cl F kvs ws) : Reps g.K g.cl F (kvs.map fun kv => pKey kv.1) (ws.map fun kv => kV kv.1) := by
  match r with
  | .nil => exact .nil
  | .cons h t => exact .cons rep_key (reps_keys t)
theorem o_list1 (hc : X.calm = true) (hK : X.K = g.K) : CallR X (.type "list") (rOp g (opP .list1)) := by
  refine c1_of (fun F H x v Q out hF s1 e q pins s σ us I rv => ?_) (fun xs h => by match xs, h with | [], _ => rfl | [_], h => exact (h rfl).elim | a :: _ :: _, _ => cases a <;> rfl)
  cases s1 with
  | dic h r => cases e; exact call_list_dR hc pins s σ H _ us Q I rv ⟨_, _, rfl, h, mk_lst (reps_keys r) q⟩
  | lst h r => cases e; rw [← hK] at h; exact call_list_of pins s σ H _ us Q I rv ⟨_, _, rfl, .inl h, mk_lst r q⟩
  | tup h r => cases e; rw [← hK] at h; exact call_list_of pins s σ H _ us Q I rv ⟨_, _, rfl, .inr h, mk_lst r q⟩
  | _ => cases e
theorem merge_rep {F : Hp} : ∀ (m : List (Key × P)) (mw : List (Key × V)) (kvs : List (Key × P)) (ws : List (Key × V)), RepK g.K g.cl F m mw → RepK g.K g.cl F kvs ws → RepK g.K g.cl F (mergeP kvs m) (mergeK ws mw)
  | [], _, _, _, q, r => by cases q; exact r
  | (k, x) :: m, _, kvs, ws, q, r => by
    cases q with
    | cons h t =>
      rename_i v mw
      exact merge_rep m mw (putP kvs k x) (putK ws k v) t (r.put h)
theorem pairs_rep {F H : Hp} (hF : ∀ a u, F a = some u → Has H a u) : ∀ {xs : List P} {vs : List V} {kvs : List (Key × P)}, Reps g.K g.cl F xs vs → pairsP xs = some kvs → ∃ (ps : List Addr) (ws : List (Key × V)), vs = ps.map V.ref ∧ RepK g.K g.cl F kvs ws ∧ Paired (fun p (kv : Key × V) => SqT g.K H p [kV kv.1, kv.2]) ps ws
  | [], _, _, r, h => by cases r; cases h; exact ⟨[], [], rfl, .nil, .nil⟩
  | .tup [k, x] :: xs, _, kvs, r, h => by
    cases r with
    | cons r1 r2 =>
      unfold pairsP at h
      split at h
      · rename_i k' r' e1 e2
        cases h
        obtain ⟨ps, ws, rfl, h1, h2⟩ := pairs_rep hF r2 e2
        cases Shape.mk hF r1 with
        | tup ht rt =>
          rename_i a vv
          cases rt with
          | cons q1 q2 =>
            cases q2 with
            | cons q3 q4 =>
              cases q4
              cases keyP_rep e1 (Shape.mk hF q1)
              exact ⟨a :: ps, _, rfl, .cons q3 h1, .cons ht h2⟩
      · cases h
  | .tup [] :: _, _, _, _, h | .tup [_] :: _, _, _, _, h | .tup (_ :: _ :: _ :: _) :: _, _, _, _, h | .non :: _, _, _, _, h | .bl _ :: _, _, _, _, h | .int _ :: _, _, _, _, h | .str _ :: _, _, _, _, h
  | .lst _ :: _, _, _, _, h | .dic _ :: _, _, _, _, h | .obj _ _ :: _, _, _, _, h => by cases h
theorem o_dict1 (hc : X.calm = true) (hK : X.K = g.K) : CallR X (.type "dict") (rOp g (opP .dict1)) := by
  refine c1_of (fun F H x v Q out hF s1 e q pins s σ us I rv => ?_) (fun xs h => by match xs, h with | [], _ => rfl | [_], h => exact (h rfl).elim | a :: _ :: _, _ => cases a <;> rfl)
  cases s1 with
  | dic h r => cases e; exact call_dictD pins s σ H _ us Q I rv ⟨_, _, rfl, h, mk_dic r q⟩
  | lst h r =>
    simp only [opP, p_dict1] at e
    obtain ⟨kvs, h1, rfl⟩ := Option.map_eq_some_iff.mp e
    obtain ⟨ps, ws, rfl, r2, r3⟩ := pairs_rep hF r h1
    rw [← hK] at h r3
    exact call_dictP hc pins s σ H _ us Q I rv ⟨_, ps, ws, rfl, h, r3, mk_dic (merge_rep kvs ws [] [] r2 .nil) q⟩
  | _ => cases e
theorem bool_any {prog : Program} {w : World} {A : Around} {E : Value → Shared → Prop} {s : Shared} {x : Value} {Q : Value → Shared → Prop} (h : wpAny (model prog w) A.in1.in1 (truthy x) (fun b s' => Q (.bool b) s') E s) :
    wpAny (model prog w) A (call (.type "bool") [x]) Q E s := by
  refine callType_codes (Q₁ := fun r s' => ∃ b, r = .bool b ∧ Q (.bool b) s') F.called_bool (F.typeCall_bool_1 x) F.entry_object_init (codeAny_call_builtin F.called_bool.plain F.entry_bool_new (wpAny_of_eq (F.newCall_bool_1 x) ?_)) fun obj s1 ⟨b, e, q⟩ => ?_
  · have f1 := F.conv_sub_bool
    unfold Builtin.«bool.__new__»
    repeat (any_goals (first | assumption | (with_reducible refine wpAny_mono h (fun b s' q => ?_) fun _ _ z => z) | wp_step))
    all_goals first | exact ⟨_, rfl, q⟩ | skip
  · subst e
    exact ⟨PySem.typeIs_bool _ _, F.args_object_init_2 _ _, object_init_meets F.called_bool.init.lookup F.called_bool.made F.newNe_bool prog w A.in1 _ s1 ⟨PySem.typeIs_bool _ _, rfl, q⟩⟩
theorem o_bool1 : CallR X (.type "bool") (rOp g (opP .bool1)) := by
  refine c1_of (fun F H x v Q out hF s1 e q pins s σ us I rv => ?_) (fun xs h => by match xs, h with | [], _ => rfl | [_], h => exact (h rfl).elim | a :: _ :: _, _ => cases a <;> rfl)
  cases s1 with
  | dic h r =>
    cases e
    obtain ⟨u, rfl, ru⟩ := Vals.one rv
    cases ru
    refine bool_any (d_truth I h fun s' I' => ⟨.bl _, H, I', rfl, ?_⟩)
    cases r with
    | nil => exact sc_bl q
    | cons _ _ => exact sc_bl q
  | int i => cases e; exact call_bool1 pins s σ H _ us Q I rv (.inl ⟨i, rfl, sc_bl q⟩)
  | bl i => cases e; exact call_bool1 pins s σ H _ us Q I rv (.inr ⟨i, rfl, sc_bl q⟩)
  | _ => cases e
theorem c2_of {f : Value} {o : Op} (h : ∀ (F H : Hp) (x y : P) (v u : V) (Q : VK) (out : O1), (∀ a u, F a = some u → Has H a u) → Shape g.K g.cl F H x v → Shape g.K g.cl F H y u → opP o [x, y] = some out → (∀ v H', O1R g F H out v H' → Q v H') →
    ∀ (pins : List (Addr × Obj)) (s : Shared) (σ : L2.St) (us : List Value), Inv X pins σ H s → Vals [v, u] us → wpAny (model X.prog X.w) X.A (call f us) (EP X pins σ Q) X.xe s) (h0 : ∀ xs, xs.length ≠ 2 → opP o xs = none) : CallR X f (rOp g (opP o)) := by
  intro pins s σ H vs us Q I rv hr
  obtain ⟨F, xs, out, hF, sh, e, q⟩ := hr
  by_cases hl : xs.length = 2
  · match xs, vs, sh, e, rv, hl with
    | [_, _], [], sh, _, _, _ => exact sh.elim
    | [_, _], [_], sh, _, _, _ => exact sh.2.elim
    | [_, _], _ :: _ :: _ :: _, sh, _, _, _ => exact sh.2.2.elim
    | [a, c], [b, d], sh, e, rv, _ => exact h F H a c b d Q out hF sh.1 sh.2.1 e q pins s σ us I rv
  · rw [h0 xs hl] at e; cases e
theorem no_min (xs : List P) (h : xs.length ≠ 2) : opP .min2 xs = none := by
  match xs, h with
  | [], _ => rfl
  | [a], _ => cases a <;> rfl
  | [_, _], h => exact (h rfl).elim
  | a :: b :: _ :: _, _ => cases a <;> cases b <;> rfl
theorem no_max (xs : List P) (h : xs.length ≠ 2) : opP .max2 xs = none := by
  match xs, h with
  | [], _ => rfl
  | [a], _ => cases a <;> rfl
  | [_, _], h => exact (h rfl).elim
  | a :: b :: _ :: _, _ => cases a <;> cases b <;> rfl
theorem o_min2 (hc : X.calm = true) : CallR X (.builtin "min") (rOp g (opP .min2)) := by
  refine c2_of (fun F H x y v u Q out hF s1 s2 e q pins s σ us I rv => ?_) no_min
  cases x <;> cases y <;> simp only [opP, p_min2, reduceCtorEq] at e
  cases e; cases s1; cases s2
  exact call_min2 hc pins s σ H _ us Q I rv ⟨_, _, rfl, sc_int q⟩
theorem o_max2 (hc : X.calm = true) : CallR X (.builtin "max") (rOp g (opP .max2)) := by
  refine c2_of (fun F H x y v u Q out hF s1 s2 e q pins s σ us I rv => ?_) no_max
  cases x <;> cases y <;> simp only [opP, p_max2, reduceCtorEq] at e
  cases e; cases s1; cases s2
  exact call_max2 hc pins s σ H _ us Q I rv ⟨_, _, rfl, sc_int q⟩
theorem bls_rep {F : Hp} : ∀ {xs : List P} {ss : List Bool} {vs : List V}, bls xs = some ss → Reps g.K g.cl F xs vs → vs = ss.map V.bl
  | [], _, _, h, r => by cases h; cases r; rfl
  | .bl s :: xs, ss, _, h, r => by
    unfold bls at h
    obtain ⟨ss', h1, rfl⟩ := Option.map_eq_some_iff.mp h
    cases r with
    | cons r1 r2 =>
      cases r1
      rw [bls_rep h1 r2]
      rfl
  | .non :: _, _, _, h, _ | .str _ :: _, _, _, h, _ | .int _ :: _, _, _, h, _ | .lst _ :: _, _, _, h, _ | .tup _ :: _, _, _, h, _ | .dic _ :: _, _, _, h, _ | .obj _ _ :: _, _, _, h, _ => by cases h
theorem o_all1 (hc : X.calm = true) (hK : X.K = g.K) : CallR X (.builtin "all") (rOp g (opP .all1)) := by
  refine c1_of (fun F H x v Q out hF s1 e q pins s σ us I rv => ?_) (fun xs h => by match xs, h with | [], _ => rfl | [_], h => exact (h rfl).elim | a :: _ :: _, _ => cases a <;> rfl)
  cases s1 with
  | lst h r =>
    simp only [opP, p_all1] at e
    obtain ⟨bs, h1, rfl⟩ := Option.map_eq_some_iff.mp e
    rw [bls_rep h1 r, ← hK] at h
    exact cr_all hc pins s σ H _ us Q I rv ⟨_, bs, rfl, h, sc_bl q⟩
  | _ => cases e

/-! ### isinstance -/
/-- what is asked of a class of the program so that isinstance of its instances is known -/
structure InsOk (K : PySem.W.Frag) (C : Addr) : Prop where
  cl : Cls K C
  ha : PySem.W.findIn K (.ref C) "__class__" = some (some (.builtin "object.__class__"))
  hn : PySem.W.specialIn K (.builtin "object.__class__") "__get__" = some (some (.builtin "getset_descriptor.__get__"))
  htk : PySem.W.takesIn K (.builtin "object.__class__") = some true
  hm : PySem.W.mroIn K C (.type "object") = some true
def bTypes : List String := ["NoneType", "bool", "int", "str", "list", "tuple", "dict"]
def TyOk (g : Gm) : Ty → Prop
  | .b t nots => ∀ d ∈ nots, InsOk g.K (g.cl d) ∧ PySem.W.kitOne g.K (.ref (g.cl d)) (.type t.name) = some false
  | .own c subs nots => (∀ d ∈ subs, InsOk g.K (g.cl d) ∧ PySem.W.kitOne g.K (.ref (g.cl d)) (.ref (g.cl c)) = some true) ∧
      (∀ d ∈ nots, InsOk g.K (g.cl d) ∧ PySem.W.kitOne g.K (.ref (g.cl d)) (.ref (g.cl c)) = some false) ∧ ∀ T ∈ bTypes, PySem.W.kitOne g.K (.type T) (.ref (g.cl c)) = some false
/-- the type's value -/
def Ty.v (g : Gm) : Ty → V
  | .b t _ => .ty t.name
  | .own c _ _ => .ref (g.cl c)
def Ty.u (g : Gm) : Ty → Value
  | .b t _ => .type t.name
  | .own c _ _ => .ref (g.cl c)
theorem Ty.clsV (t : Ty) : ClsV (t.v g) (t.u g) := by
  cases t with
  | b t n => exact .ty _
  | own c s n => exact .own _
def tyName : P → String
  | .non => "NoneType" | .bl _ => "bool" | .int _ => "int" | .str _ => "str" | .lst _ => "list" | .tup _ => "tuple" | .dic _ => "dict" | .obj _ _ => "object"
theorem shape_ty {F H : Hp} {x : P} {v : V} (s : Shape g.K g.cl F H x v) (ho : ∀ c fs, x ≠ .obj c fs) : ∃ T, T ∈ bTypes ∧ TyX g.K H v (.type T) ∧ T = tyName x := by
  cases s with
  | non => exact ⟨_, by decide, .base .non, rfl⟩
  | bl b => exact ⟨_, by decide, .base (.bl b), rfl⟩
  | int i => exact ⟨_, by decide, .base (.int i), rfl⟩
  | str z => exact ⟨_, by decide, .base (.str z), rfl⟩
  | lst h r =>
    refine ⟨"list", by decide, ?_, rfl⟩
    rcases h with (h | ⟨o, h⟩) | ⟨o, its, n, h1, h2, _⟩
    · exact .base (.lst h)
    · exact .base (.frz h)
    · exact .kList h1 h2
  | tup h r =>
    refine ⟨"tuple", by decide, ?_, rfl⟩
    rcases h with (h | ⟨o, h⟩) | ⟨o, its, n, h1, h2, _⟩
    · exact .base (.tup h)
    · exact .fTuple h
    · exact .kTuple h1 h2
  | dic h r =>
    refine ⟨"dict", by decide, ?_, rfl⟩
    rcases h with h | ⟨o, h⟩
    · exact .base (.dK h)
    · exact .fDict h
  | obj h r => exact (ho _ _ rfl).elim
theorem kitB_ok (t : BT) (x : P) : (∀ c fs, x ≠ .obj c fs) → isB t x = kitB (tyName x) t.name := by
  intro ho
  cases x <;> first | exact (ho _ _ rfl).elim | (cases t <;> (show _ = _) <;> simp only [isB, BT.name, tyName] <;> decide +kernel)
theorem shape_no {F H : Hp} {x : P} {v : V} (_ : Shape g.K g.cl F H x v) (h : ∀ c fs, x ≠ .obj c fs) : ∀ c fs, x ≠ .obj c fs := h
theorem isa_of (hK : X.K = g.K) {t : Ty} (ok : TyOk g t) {pins : List (Addr × Obj)} {s : Shared} {σ : L2.St} {H : Hp} {v : V} {us : List Value} {Q : VK} (I : Inv X pins σ H s) (rv : Vals [v, t.v g] us) (hr : rOp g (opP (.isa t)) [v] H Q) :
    wpAny (model X.prog X.w) X.A (call (.builtin "isinstance") us) (EP X pins σ Q) X.xe s := by
  obtain ⟨F, xs, out, hF, sh, e, q⟩ := hr
  match xs, sh, e with
  | [], sh, _ => exact sh.elim
  | _ :: _ :: _, sh, _ => exact sh.2.elim
  | [x], sh, e =>
    obtain ⟨b, e1, rfl⟩ := Option.map_eq_some_iff.mp (show (isaP t x).map (fun b => O1.sc (.bl b)) = some out from e)
    obtain ⟨s1, _⟩ := sh
    have go : ∀ T : Value, TyX g.K H v T → PySem.W.kitOne g.K T (t.u g) = some b → wpAny (model X.prog X.w) X.A (call (.builtin "isinstance") us) (EP X pins σ Q) X.xe s := fun T ht hk => by
      rw [← hK] at ht hk
      exact call_isi pins s σ H _ us Q I rv ⟨v, t.v g, T, t.u g, b, rfl, t.clsV, ht, hk, sc_bl q⟩
    have objT : ∀ d a dx ws, H a = some (.ins (g.cl d) dx ws) → InsOk g.K (g.cl d) → TyX g.K H (.ref a) (.ref (g.cl d)) := fun d a dx ws h k => .base (.ins h k.cl k.ha k.hn k.htk k.hm)
    cases t with
    | b t nots =>
      cases x with
      | obj d fs =>
        simp only [isaP] at e1
        split at e1
        · rename_i hd
          cases e1
          cases s1 with
          | obj h r =>
            obtain ⟨k1, k2⟩ := ok d (by simpa using hd)
            exact go _ (objT d _ _ _ h k1) k2
        · cases e1
      | _ =>
        obtain ⟨T, hT, ht, eT⟩ := shape_ty s1 (by intro c fs z; cases z)
        have e2 := kitB_ok t _ (shape_no s1 (by intro c fs z; cases z))
        simp only [isaP] at e1
        rw [e1] at e2
        subst eT
        exact go _ ht (kit_ty e2.symm)
    | own c subs nots =>
      obtain ⟨k1, k2, k3⟩ := ok
      cases x with
      | obj d fs =>
        simp only [isaP] at e1
        cases s1 with
        | obj h r =>
          split at e1
          · rename_i hd
            cases e1
            obtain ⟨a1, a2⟩ := k1 d (by simpa using hd)
            exact go _ (objT d _ _ _ h a1) a2
          · split at e1
            · rename_i hd
              cases e1
              obtain ⟨a1, a2⟩ := k2 d (by simpa using hd)
              exact go _ (objT d _ _ _ h a1) a2
            · cases e1
      | _ =>
        obtain ⟨T, hT, ht, eT⟩ := shape_ty s1 (by intro c fs z; cases z)
        simp only [isaP] at e1
        cases e1
        exact go _ ht (k3 T hT)

/-! ### methods of texts -/
theorem o_str0 {id : String} {o : Op} {f : Str → Bool} (ho : ∀ x : P, opP o [x] = match x with | .str s => some (.sc (.bl (f s))) | _ => none)
    (m : MtR X id (fun x xs H Q => ∃ a, x = .str a ∧ xs = [] ∧ True ∧ Q (.bl (f a)) H)) : MtR X id (fun x xs H Q => xs = [] ∧ r1 g o x H Q) := by
  intro pins s σ H x xs v us Q I rx rs hr
  obtain ⟨rfl, F, ys, out, hF, sh, e, q⟩ := hr
  match ys, sh, e with
  | [], sh, _ => exact sh.elim
  | _ :: _ :: _, sh, _ => exact sh.2.elim
  | [a], sh, e =>
    obtain ⟨s1, _⟩ := sh
    rw [ho] at e
    cases s1 with
    | str z => cases e; exact m pins s σ H _ _ v us Q I rx rs ⟨_, rfl, rfl, trivial, sc_bl q⟩
    | _ => cases e
theorem o_isascii : MtR X "str.isascii" (fun x xs H Q => xs = [] ∧ r1 g .isascii x H Q) := o_str0 (f := Txt.isascii) (fun x => by cases x <;> rfl) mt_isascii
theorem o_isalpha : MtR X "str.isalpha" (fun x xs H Q => xs = [] ∧ r1 g .isalpha x H Q) := o_str0 (f := Txt.isalpha) (fun x => by cases x <;> rfl) mt_isalpha
theorem o_islower : MtR X "str.islower" (fun x xs H Q => xs = [] ∧ r1 g .islower x H Q) := o_str0 (f := Txt.islower) (fun x => by cases x <;> rfl) mt_islower
end
end Pi

/-! Pc6: calls: how things are lent to a callee and come back. -/
namespace Pi
open PySem PySem.Spec L2 PyProof.Rows

/-- a callee, by its number: what its parameters' slots come to, and what it gives -/
abbrev CF := Nat → List Sl → Out R
def slotR (env : En) : R → Option Sl
  | .val x => some (.val x false)
  | .new c => some (.own c true)
  | .at i => match env[i]? with
    | some (.own c _) => some (.own c true)
    | some (.val x _) => some (.val x false)
    | _ => none
def notAt (j : Nat) : List R → Bool
  | [] => true
  | .at i :: rs => (i != j) && notAt j rs
  | _ :: rs => notAt j rs
def fresh1 (r : R) (rs : List R) : Bool := match r with
  | .at j => notAt j rs
  | _ => true
def slotsOf (env : En) : List R → Option (List Sl)
  | [] => some []
  | r :: rs => match slotR env r, slotsOf env rs with
    | some s, some ss => if fresh1 r rs = true then some (s :: ss) else none
    | _, _ => none
/-- what came back for the thing that slot j holds -/
def lentAt : List R → List Sl → Nat → Option Sl
  | .at i :: rs, s :: ss, j => if i = j then some s else lentAt rs ss j
  | .val _ :: rs, _ :: ss, j => lentAt rs ss j
  | .new _ :: rs, _ :: ss, j => lentAt rs ss j
  | _, _, _ => none
def backS (s : Sl) (o : Option Sl) : Sl := match s with
  | .own _ f => match o with
    | some (.own c _) => .own c f
    | some (.val x _) => .val x f
    | some .no => .no
    | none => s
  | s => s
def backE (env : En) (rs : List R) (ss : List Sl) : En := env.mapIdx fun j s => backS s (lentAt rs ss j)
/-- the callee's slots are there -/
def applyS (cf : CF) (k : Nat) (rs : List R) (ss : List Sl) (env : En) : Out R := match cf k ss with
  | .ok (.val x) ss' => .ok (.val x) (backE env rs ss')
  | .ok (.new c) ss' => .ok (.new c) (backE env rs ss')
  | .ok (.at _) _ => .bad
  | .ex x ss' => .ex x (backE env rs ss')
  | .bad => .bad
def freezes (env : En) : List R → Option (List P × En)
  | [] => some ([], env)
  | r :: rs => match freeze r env with
    | some (x, e1) => match freezes e1 rs with
      | some (xs, e2) => some (x :: xs, e2)
      | none => none
    | none => none
/-- a thing handed on twice stops changing first -/
def applyM (cf : CF) (k : Nat) (rs : List R) (env : En) : Out R := match slotsOf env rs with
  | some ss => applyS cf k rs ss env
  | none => match freezes env rs with
    | some (xs, e2) => applyS cf k (xs.map .val) (xs.map fun x => .val x false) e2
    | none => .bad
def callM (cf : CF) (k : Nat) (ds : List P) (ms : M (List R)) : M R := fun env => match ms env with
  | .ok rs env' => applyM cf k (rs ++ ds.map .val) env'
  | .ex x env' => .ex x env'
  | .bad => .bad
/-- what a callee promises -/
def spF (g : Gm) (cf : CF) (k : Nat) : Sp := fun vs H Q E => TEv g (fun cls d _ H' => E cls d H') (cf k) (vs.map some) H Q

section
variable {g : Gm} {W : WX'} {F F' F1 F2 : Hp} {ow ow' ow1 ow2 : Ow} {σ σ' σ1 σ2 : L2.St} {env env' env1 env2 : En} {H H' H1 H2 : Hp} {Q : VK}
theorem backE_get {rs : List R} {ss : List Sl} (j : Nat) : (backE env rs ss)[j]? = (env[j]?).map fun s => backS s (lentAt rs ss j) := by
  unfold backE
  rw [List.getElem?_mapIdx]
theorem RRs.len {rs : List R} {vs : List V} (h : RRs g F ow σ env rs vs) : rs.length = vs.length := by
  induction rs generalizing vs with
  | nil =>
    cases vs with
    | nil => rfl
    | cons _ _ => exact h.elim
  | cons r rs ih =>
    cases vs with
    | nil => exact h.elim
    | cons v vs => simp [ih h.2]
theorem RRs.get {rs : List R} {vs : List V} (h : RRs g F ow σ env rs vs) {k : Nat} {r : R} (hk : rs[k]? = some r) : ∃ v, vs[k]? = some v ∧ gRR g F ow σ env r v := by
  induction rs generalizing vs k with
  | nil => simp at hk
  | cons r' rs ih =>
    cases vs with
    | nil => exact h.elim
    | cons v vs =>
      cases k with
      | zero => simp at hk; subst hk; exact ⟨v, rfl, h.1⟩
      | succ k =>
        obtain ⟨w, h1, h2⟩ := ih h.2 (by simpa using hk)
        exact ⟨w, by simpa using h1, h2⟩
theorem RNFs.get {rs : List R} {vs : List V} (h : RNFs ow σ env rs vs) {k : Nat} {r : R} {v : V} (hk : rs[k]? = some r) (hv : vs[k]? = some v) : RNF ow σ env r v := by
  induction rs generalizing vs k with
  | nil => simp at hk
  | cons r' rs ih =>
    cases vs with
    | nil => simp at hv
    | cons v' vs =>
      cases k with
      | zero => simp at hk hv; subst hk hv; exact h.1
      | succ k => exact ih h.2.2 (by simpa using hk) (by simpa using hv)
theorem RNFs.dst {rs : List R} {vs : List V} (h : RNFs ow σ env rs vs) {i j : Nat} {c c' : C} {p : Addr} (hi : rs[i]? = some (.new c)) (hj : rs[j]? = some (.new c')) (vi : vs[i]? = some (.ref p)) (vj : vs[j]? = some (.ref p)) : i = j := by
  induction rs generalizing vs i j with
  | nil => simp at hi
  | cons r rs ih =>
    cases vs with
    | nil => simp at vi
    | cons v vs =>
      cases i with
      | zero =>
        cases j with
        | zero => rfl
        | succ j =>
          simp at hi vi hj vj
          subst hi vi
          exact (h.2.1 c p rfl rfl j c' hj vj).elim
      | succ i =>
        cases j with
        | zero =>
          simp at hi vi hj vj
          subst hj vj
          exact (h.2.1 c' p rfl rfl i c hi vi).elim
        | succ j =>
          exact congrArg (· + 1) (ih h.2.2 (i := i) (j := j) (by simpa using hi) (by simpa using hj) (by simpa using vi) (by simpa using vj))
theorem slotsOf_get {rs : List R} {ss : List Sl} (h : slotsOf env rs = some ss) : ss.length = rs.length ∧ ∀ (k : Nat) (s : Sl), ss[k]? = some s → ∃ r, rs[k]? = some r ∧ slotR env r = some s := by
  induction rs generalizing ss with
  | nil => cases h; exact ⟨rfl, fun k s hk => by simp at hk⟩
  | cons r rs ih =>
    unfold slotsOf at h
    split at h
    · rename_i s' ss' e1 e2
      split at h
      · cases h
        obtain ⟨h1, h2⟩ := ih e2
        refine ⟨by simp [h1], fun k s hk => ?_⟩
        cases k with
        | zero => simp at hk; subst hk; exact ⟨r, rfl, e1⟩
        | succ k => obtain ⟨r', q1, q2⟩ := h2 k s (by simpa using hk); exact ⟨r', by simpa using q1, q2⟩
      · cases h
    · cases h
theorem notAt_get {j : Nat} : ∀ {rs : List R}, notAt j rs = true → ∀ k : Nat, rs[k]? ≠ some (.at j)
  | [], _, k => by simp
  | .at i :: rs, h, k => by
    simp only [notAt, Bool.and_eq_true, bne_iff_ne, ne_eq] at h
    cases k with
    | zero => simpa using h.1
    | succ k => simpa using notAt_get h.2 k
  | .val _ :: rs, h, k => by
    cases k with
    | zero => simp
    | succ k => simpa using notAt_get (rs := rs) h k
  | .new _ :: rs, h, k => by
    cases k with
    | zero => simp
    | succ k => simpa using notAt_get (rs := rs) h k
theorem slotsOf_dst {rs : List R} {ss : List Sl} (h : slotsOf env rs = some ss) : ∀ (k l i : Nat), rs[k]? = some (.at i) → rs[l]? = some (.at i) → k = l := by
  induction rs generalizing ss with
  | nil => intro k l i hk; simp at hk
  | cons r rs ih =>
    unfold slotsOf at h
    split at h
    · rename_i s' ss' e1 e2
      split at h
      · rename_i hn
        intro k l i hk hl
        cases k with
        | zero =>
          cases l with
          | zero => rfl
          | succ l =>
            simp at hk hl
            subst hk
            exact (notAt_get (show notAt i rs = true from hn) l hl).elim
        | succ k =>
          cases l with
          | zero =>
            simp at hk hl
            subst hl
            exact (notAt_get (show notAt i rs = true from hn) k hk).elim
          | succ l => exact congrArg (· + 1) (ih e2 k l i (by simpa using hk) (by simpa using hl))
      · cases h
    · cases h
/-- what came back at j came from a place where j was handed on -/
theorem lentAt_some {rs : List R} {ss : List Sl} {j : Nat} {s : Sl} (h : lentAt rs ss j = some s) : ∃ k : Nat, rs[k]? = some (.at j) ∧ ss[k]? = some s := by
  induction rs generalizing ss with
  | nil => cases ss <;> simp [lentAt] at h
  | cons r rs ih =>
    cases ss with
    | nil => cases r <;> simp [lentAt] at h
    | cons s' ss =>
      cases r with
      | «at» i =>
        unfold lentAt at h
        split at h
        · rename_i e
          subst e
          cases h
          exact ⟨0, rfl, rfl⟩
        · obtain ⟨k, h1, h2⟩ := ih h
          exact ⟨k + 1, by simpa using h1, by simpa using h2⟩
      | val x => obtain ⟨k, h1, h2⟩ := ih (show lentAt rs ss j = some s from h); exact ⟨k + 1, by simpa using h1, by simpa using h2⟩
      | new c => obtain ⟨k, h1, h2⟩ := ih (show lentAt rs ss j = some s from h); exact ⟨k + 1, by simpa using h1, by simpa using h2⟩
theorem lentAt_none {rs : List R} {ss : List Sl} {j : Nat} (h : lentAt rs ss j = none) (hl : ss.length = rs.length) : ∀ k : Nat, rs[k]? ≠ some (.at j) := by
  induction rs generalizing ss with
  | nil => intro k; simp
  | cons r rs ih =>
    cases ss with
    | nil => simp at hl
    | cons s ss =>
      intro k
      cases r with
      | «at» i =>
        unfold lentAt at h
        split at h
        · cases h
        · rename_i e
          cases k with
          | zero => simpa using e
          | succ k => simpa using ih h (by simpa using hl) k
      | val x =>
        cases k with
        | zero => simp
        | succ k => simpa using ih (show lentAt rs ss j = none from h) (by simpa using hl) k
      | new c =>
        cases k with
        | zero => simp
        | succ k => simpa using ih (show lentAt rs ss j = none from h) (by simpa using hl) k
/-- the callee's own state of affairs -/
theorem callee_rel {rs : List R} {vs : List V} {ss : List Sl} {ow0 : Ow} {σ0 : L2.St} {env0 : En} (l : gRel g F ow σ env H) (h : RRs g F ow σ env rs vs) (n : RNFs ow0 σ0 env0 rs vs) (e : slotsOf env rs = some ss) : gRel g F ow (vs.map some) ss H := by
  obtain ⟨hl, hg⟩ := slotsOf_get e
  have own : ∀ (k : Nat) (c : C) (f : Bool) (p : Addr), ss[k]? = some (.own c f) → (vs.map some)[k]? = some (some (.ref p)) → (rs[k]? = some (.new c) ∨ ∃ i c' f', rs[k]? = some (.at i) ∧ env[i]? = some (.own c' f') ∧ σ[i]? = some (some (.ref p))) ∧ vs[k]? = some (.ref p) := by
    intro k c f p hk hv
    obtain ⟨r, hr, hs⟩ := hg k _ hk
    have hv' : vs[k]? = some (.ref p) := by
      rw [List.getElem?_map] at hv
      cases q : vs[k]? with
      | none => rw [q] at hv; cases hv
      | some v => rw [q] at hv; cases hv; rfl
    obtain ⟨v, hv2, rr⟩ := h.get hr
    rw [hv'] at hv2; cases hv2
    refine ⟨?_, hv'⟩
    cases r with
    | val x => unfold slotR at hs; cases hs
    | new c' => unfold slotR at hs; cases hs; exact .inl hr
    | «at» i =>
      unfold slotR at hs
      dsimp only at hs
      split at hs
      · rename_i c' f' hc
        exact .inr ⟨i, c', f', hr, hc, rr.1⟩
      · cases hs
      · cases hs
  refine ⟨l.ext, l.own, by rw [List.length_map, hl, h.len], fun k s hk => ?_, fun i j c c' f f' p hi hj vi vj => ?_⟩
  · obtain ⟨r, hr, hs⟩ := hg k s hk
    obtain ⟨v, hv, rr⟩ := h.get hr
    have hv' : (vs.map some)[k]? = some (some v) := by rw [List.getElem?_map, hv]; rfl
    cases r with
    | val x => unfold slotR at hs; cases hs; exact ⟨v, hv', rr⟩
    | new c => unfold slotR at hs; cases hs; obtain ⟨p, rfl, o, _⟩ := rr; exact ⟨p, hv', o⟩
    | «at» i =>
      obtain ⟨hσ, p, rfl⟩ := rr
      unfold slotR at hs
      dsimp only at hs
      split at hs
      · rename_i c f hc
        cases hs
        obtain ⟨q, hq, o⟩ := l.slot i _ hc
        rw [hσ] at hq; cases hq
        exact ⟨p, hv', o⟩
      · rename_i x f hc
        cases hs
        obtain ⟨w, hw, rp⟩ := l.slot i _ hc
        rw [hσ] at hw; cases hw
        exact ⟨_, hv', rp⟩
      · cases hs
  · obtain ⟨a, va⟩ := own i c f p hi vi
    obtain ⟨b, vb⟩ := own j c' f' p hj vj
    rcases a with a | ⟨i', c1, f1, a, ea, sa⟩
    · obtain ⟨v, hv, q, eq, o, fo⟩ := h.get a
      rw [va] at hv; cases hv; cases eq
      rcases b with b | ⟨j', c2, f2, b, eb, sb⟩
      · exact n.dst a b va vb
      · exact (fo j' c2 f2 eb sb).elim
    · rcases b with b | ⟨j', c2, f2, b, eb, sb⟩
      · obtain ⟨v, hv, q, eq, o, fo⟩ := h.get b
        rw [vb] at hv; cases hv; cases eq
        exact (fo i' c1 f1 ea sa).elim
      · have : i' = j' := l.inj i' j' c1 c2 f1 f2 p ea eb sa sb
        subst this
        exact slotsOf_dst e i j i' a b
/-- what the caller keeps is nothing of the callee's -/
theorem callee_foreign {rs : List R} {vs : List V} {ss : List Sl} {p : Addr} (h : RRs g F ow σ env rs vs) (e : slotsOf env rs = some ss) (f : Foreign σ env p) (hn : ∀ (k : Nat) (c : C), rs[k]? = some (.new c) → vs[k]? ≠ some (.ref p)) : Foreign (vs.map some) ss p := by
  intro k c fl hk hv
  obtain ⟨r, hr, hs⟩ := (slotsOf_get e).2 k _ hk
  obtain ⟨v, hv2, rr⟩ := h.get hr
  have hv' : v = .ref p := by
    rw [List.getElem?_map, hv2] at hv
    simpa using hv
  subst hv'
  cases r with
  | val x => unfold slotR at hs; cases hs
  | new c' => exact hn k c' hr hv2
  | «at» i =>
    unfold slotR at hs
    dsimp only at hs
    split at hs
    · rename_i c' f' hc
      exact f i c' f' hc rr.1
    · cases hs
    · cases hs
/-- behind the callee: the caller's state of affairs -/
theorem call_post {rs : List R} {vs : List V} {ss ss' : List Sl} (a : gPost g F ow σ env H F1 ow1 σ env1 H1) (h : RRs g F1 ow1 σ env1 rs vs) (n : RNFs ow σ env rs vs) (e : slotsOf env1 rs = some ss)
    (b : gPost g F1 ow1 (vs.map some) ss H1 F2 ow2 (vs.map some) ss' H2) : gPost g F ow σ env H F2 ow2 σ (backE env1 rs ss') H2 := by
  have l := a.rel
  have l2 := b.rel
  obtain ⟨hl, hg⟩ := slotsOf_get e
  have hl' : ss'.length = rs.length := by rw [l2.len, List.length_map, h.len]
  -- a slot of the caller's that held its thing
  have key : ∀ (j : Nat) (c : C) (f : Bool) (p : Addr), env1[j]? = some (.own c f) → σ[j]? = some (some (.ref p)) → ow1 p = some c →
      (lentAt rs ss' j = none ∧ ow2 p = some c) ∨ (∃ c', ∃ f', lentAt rs ss' j = some (.own c' f') ∧ ow2 p = some c') ∨ ∃ x f', lentAt rs ss' j = some (.val x f') ∧ gRep g F2 x (.ref p) := by
    intro j c f p hj hs ho
    cases q : lentAt rs ss' j with
    | none =>
      refine .inl ⟨rfl, ?_⟩
      have hne := lentAt_none q hl'
      have fo : Foreign (vs.map some) ss p := by
        intro k c' fl hk hv
        obtain ⟨r, hr, hsr⟩ := hg k _ hk
        obtain ⟨v, hv2, rr⟩ := h.get hr
        have hv' : v = .ref p := by rw [List.getElem?_map, hv2] at hv; simpa using hv
        subst hv'
        cases r with
        | val x => unfold slotR at hsr; cases hsr
        | new c2 => obtain ⟨p', ep, _, f2⟩ := rr; cases ep; exact f2 j c f hj hs
        | «at» i =>
          unfold slotR at hsr
          dsimp only at hsr
          split at hsr
          · rename_i c2 f2 hc
            have : i = j := l.inj i j c2 c f2 f p hc hj rr.1 hs
            subst this
            exact hne k hr
          · cases hsr
          · cases hsr
      exact (b.frame p c ho fo).1
    | some s =>
      obtain ⟨k, hr, hk⟩ := lentAt_some q
      obtain ⟨v, hv, hσ, p', ep⟩ := h.get hr
      subst ep
      rw [hs] at hσ; cases hσ
      have hss : ss[k]? = some (.own c true) := by
        have : k < ss.length := by rw [hl]; exact (List.getElem?_eq_some_iff.mp hr).1
        obtain ⟨s0, hs0⟩ : ∃ s0, ss[k]? = some s0 := ⟨_, List.getElem?_eq_getElem this⟩
        obtain ⟨r, hr', hsr⟩ := hg k s0 hs0
        rw [hr] at hr'; cases hr'
        unfold slotR at hsr
        dsimp only at hsr
        rw [hj] at hsr
        cases hsr
        exact hs0
      obtain ⟨_, s', hs', hf'⟩ := b.fix k _ hss rfl
      rw [hk] at hs'; cases hs'
      have hv' : (vs.map some)[k]? = some (some (.ref p)) := by rw [List.getElem?_map, hv]; rfl
      have q2 := l2.slot k _ hk
      cases s with
      | no => cases hf'
      | val x f' =>
        obtain ⟨w, hw, rp⟩ := q2
        rw [hv'] at hw; cases hw
        exact .inr (.inr ⟨x, f', rfl, rp⟩)
      | own c' f' =>
        obtain ⟨p2, hp2, o2⟩ := q2
        rw [hv'] at hp2; cases hp2
        exact .inr (.inl ⟨c', f', rfl, o2⟩)
  have slotB : ∀ (j : Nat) (s : Sl), (backE env1 rs ss')[j]? = some s → (∃ c f, env1[j]? = some (.own c f) ∧ s = backS (.own c f) (lentAt rs ss' j)) ∨ (env1[j]? = some s ∧ ∀ c f, s ≠ .own c f) := by
    intro j s hj
    rw [backE_get] at hj
    cases q : env1[j]? with
    | none => rw [q] at hj; cases hj
    | some s0 =>
      rw [q] at hj
      simp only [Option.map_some, Option.some.injEq] at hj
      cases s0 with
      | no => subst hj; exact .inr ⟨rfl, fun _ _ z => nomatch z⟩
      | val x f => subst hj; exact .inr ⟨rfl, fun _ _ z => nomatch z⟩
      | own c f => exact .inl ⟨c, f, rfl, hj.symm⟩
  have ownB : ∀ (j : Nat) (c : C) (f : Bool), (backE env1 rs ss')[j]? = some (.own c f) → ∃ c0, env1[j]? = some (.own c0 f) := by
    intro j c f hj
    rcases slotB j _ hj with ⟨c0, f0, h0, e0⟩ | ⟨h0, z⟩
    · refine ⟨c0, ?_⟩
      rw [h0]
      unfold backS at e0
      dsimp only at e0
      split at e0 <;> cases e0 <;> rfl
    · exact (z c f rfl).elim
  refine ⟨a.sub.trans b.sub, ⟨l2.ext, l2.own, by unfold backE; rw [List.length_mapIdx]; exact l.len, fun j s hj => ?_, fun i j c c' f f' p hi hj si sj => ?_⟩, fun p c ho hf => ?_, fun j s hj hfx => ?_, fun q o u hq => b.frz q o u (a.frz q o u hq)⟩
  · rcases slotB j s hj with ⟨c, f, hc, rfl⟩ | ⟨hc, hno⟩
    · obtain ⟨p, hp, o⟩ := l.slot j _ hc
      rcases key j c f p hc hp o with ⟨q1, q2⟩ | ⟨c', f', q1, q2⟩ | ⟨x, f', q1, q2⟩
      · rw [q1]; exact ⟨p, hp, q2⟩
      · rw [q1]; exact ⟨p, hp, q2⟩
      · rw [q1]; exact ⟨_, hp, q2⟩
    · have q := l.slot j s hc
      cases s with
      | no => trivial
      | val x f => obtain ⟨v, hv, r⟩ := q; exact ⟨v, hv, Rep.mono b.sub r⟩
      | own c f => exact (hno c f rfl).elim
  · obtain ⟨c1, h1⟩ := ownB i c f hi
    obtain ⟨c2, h2⟩ := ownB j c' f' hj
    exact l.inj i j c1 c2 f f' p h1 h2 si sj
  · obtain ⟨o1, f1⟩ := a.frame p c ho hf
    have fo := callee_foreign h e f1 (fun k c' hk hv => by
      have := n.get hk hv
      exact this p rfl c ho hf)
    refine ⟨(b.frame p c o1 fo).1, fun i c' f' hi => ?_⟩
    obtain ⟨c2, h2⟩ := ownB i c' f' hi
    exact f1 i c2 f' h2
  · obtain ⟨h1, s1, h2, h3⟩ := a.fix j s hj hfx
    refine ⟨h1, ?_⟩
    have hb := backE_get (env := env1) (rs := rs) (ss := ss') j
    rw [h2] at hb
    refine ⟨_, hb, ?_⟩
    cases s1 with
    | no => exact h3
    | val x f => exact h3
    | own c f =>
      obtain ⟨p, hp, o⟩ := l.slot j _ h2
      rcases key j c f p h2 hp o with ⟨q1, q2⟩ | ⟨c', f', q1, q2⟩ | ⟨x, f', q1, q2⟩ <;> rw [q1] <;> exact h3
/-- what the callee gives, in the caller's eyes -/
theorem call_res {rs : List R} {vs : List V} {ss ss' : List Sl} {r : R} {v : V} (a : gPost g F ow σ env H F1 ow1 σ env1 H1) (h : RRs g F1 ow1 σ env1 rs vs) (n : RNFs ow σ env rs vs) (e : slotsOf env1 rs = some ss)
    (b : gPost g F1 ow1 (vs.map some) ss H1 F2 ow2 (vs.map some) ss' H2) (hr : gRR g F2 ow2 (vs.map some) ss' r v) (hn : RNF ow1 (vs.map some) ss r v) (hat : ∀ i, r ≠ .at i) :
    gRR g F2 ow2 σ (backE env1 rs ss') r v ∧ RNF ow σ env r v := by
  cases r with
  | val x => exact ⟨hr, trivial⟩
  | «at» i => exact (hat i rfl).elim
  | new c =>
    obtain ⟨p, rfl, o, fo⟩ := hr
    have l := a.rel
    have hnp := hn p rfl
    refine ⟨⟨p, rfl, o, fun j c' f hj hs => ?_⟩, fun q eq c' ho hf => ?_⟩
    · -- an own slot of the caller's would hold p
      have hb := backE_get (env := env1) (rs := rs) (ss := ss') j
      rw [hj] at hb
      cases q : env1[j]? with
      | none => rw [q] at hb; cases hb
      | some s0 =>
        rw [q] at hb
        simp only [Option.map_some, Option.some.injEq] at hb
        cases s0 with
        | no => cases hb
        | val x f' => cases hb
        | own c0 f0 =>
          obtain ⟨p', hp', o'⟩ := l.slot j _ q
          rw [hs] at hp'; cases hp'
          refine hnp c0 o' fun k c2 f2 hk hv => ?_
          obtain ⟨r, hr2, hsr⟩ := (slotsOf_get e).2 k _ hk
          obtain ⟨w, hw, rr⟩ := h.get hr2
          have hw' : w = .ref p := by rw [List.getElem?_map, hw] at hv; simpa using hv
          subst hw'
          cases r with
          | val x => unfold slotR at hsr; cases hsr
          | new c3 => obtain ⟨p3, e3, _, f3⟩ := rr; cases e3; exact f3 j c0 f0 q hs
          | «at» i =>
            unfold slotR at hsr
            dsimp only at hsr
            split at hsr
            · rename_i c3 f3 hc
              have : i = j := l.inj i j c3 c0 f3 f0 p hc q rr.1 hs
              subst this
              have hl' : ss'.length = rs.length := by rw [b.rel.len, List.length_map, h.len]
              cases q3 : lentAt rs ss' i with
              | none => exact lentAt_none q3 hl' k hr2
              | some s3 =>
                rw [q3] at hb
                obtain ⟨k', hr', hk'⟩ := lentAt_some q3
                have : k' = k := slotsOf_dst e k' k i hr' hr2
                subst this
                cases s3 with
                | no => cases hb
                | val x f' => cases hb
                | own c4 f4 => exact fo k' c4 f4 hk' hv
            · cases hsr
            · cases hsr
    · cases eq
      obtain ⟨o1, f1⟩ := a.frame p c' ho hf
      exact hnp c' o1 (callee_foreign h e f1 fun k c2 hk hv => n.get hk hv p rfl c' ho hf)
theorem freeze_foreign {r : R} {x : P} {p : Addr} (e : freeze r env1 = some (x, env2)) (f : Foreign σ env1 p) : Foreign σ env2 p := by
  cases r with
  | val y => cases e; exact f
  | new c => cases e; exact f
  | «at» i =>
    unfold freeze at e
    dsimp only at e
    split at e
    · cases e
      intro k c fl hk hs
      rcases get_set hk with ⟨_, z, _⟩ | ⟨_, hk⟩
      · cases z
      · exact f k c fl hk hs
    · cases e; exact f
    · cases e
theorem freezes_ok {rs : List R} {vs : List V} {xs : List P} (a : gPost g F ow σ env H F1 ow1 σ env1 H1) (h : RRs g F1 ow1 σ env1 rs vs) (n : RNFs ow σ env rs vs) (e : freezes env1 rs = some (xs, env2)) :
    ∃ F2 ow2, gPost g F ow σ env H F2 ow2 σ env2 H1 ∧ Reps g.K g.cl F2 xs vs ∧ Ext F1 F2 := by
  induction rs generalizing vs xs F1 ow1 env1 with
  | nil =>
    cases vs with
    | nil => cases e; exact ⟨F1, ow1, a, .nil, Ext.refl _⟩
    | cons _ _ => exact h.elim
  | cons r rs ih =>
    cases vs with
    | nil => exact h.elim
    | cons v vs =>
      unfold freezes at e
      split at e
      · rename_i x e1 h1
        split at e
        · rename_i xs' e2 h2
          cases e
          obtain ⟨F2, ow2, p2, r2, x2, k2⟩ := a.freeze h.1 n.1 h1
          have go : ∀ (rs : List R) (vs : List V), RRs g F1 ow1 σ env1 rs vs → (∀ c p, r = .new c → v = .ref p → ∀ (i : Nat) (c' : C), rs[i]? = some (.new c') → vs[i]? ≠ some (.ref p)) → RRs g F2 ow2 σ e1 rs vs := by
            intro rs
            clear h ih h2 n
            induction rs with
            | nil => intro vs h _; cases vs <;> exact h
            | cons r' rs ih =>
              intro vs h hd
              cases vs with
              | nil => exact h
              | cons w vs =>
                refine ⟨?_, ih vs h.2 fun c p er ev i c' hi hv => hd c p er ev (i + 1) c' (by simpa using hi) (by simpa using hv)⟩
                cases r' with
                | val y => exact Rep.mono x2 h.1
                | «at» i => exact h.1
                | new c' =>
                  obtain ⟨q, rfl, o, f⟩ := h.1
                  exact ⟨q, rfl, k2 q c' o f fun c2 er ev => hd c2 q er ev 0 c' rfl rfl, freeze_foreign h1 f⟩
          obtain ⟨F3, ow3, p3, r3, x3⟩ := ih p2 (go rs vs h.2 n.2.1) n.2.2 h2
          exact ⟨F3, ow3, p3, .cons (r2.mono x3) r3, x2.trans x3⟩
        · cases e
      · cases e
theorem slotsOf_vals : ∀ xs : List P, slotsOf env (xs.map .val) = some (xs.map fun x => .val x false)
  | [] => rfl
  | x :: xs => by
    show (match slotR env (.val x), slotsOf env (xs.map .val) with
      | some s, some ss => if fresh1 (.val x) (xs.map .val) = true then some (s :: ss) else none
      | _, _ => none) = _
    rw [slotsOf_vals xs]
    rfl
theorem rrs_vals : ∀ {xs : List P} {vs : List V}, Reps g.K g.cl F xs vs → RRs g F ow σ env (xs.map .val) vs
  | _, _, .nil => trivial
  | _, _, .cons h q => ⟨h, rrs_vals q⟩
theorem rnfs_vals : ∀ (xs : List P) (vs : List V), RNFs ow σ env (xs.map .val) vs
  | [], _ => trivial
  | _ :: _, [] => trivial
  | x :: xs, v :: vs => ⟨trivial, fun c p er => (nomatch er), rnfs_vals xs vs⟩
/-- the callee's promise is what is wanted -/
theorem applyS_sp {cf : CF} {k : Nat} {rs : List R} {vs : List V} {ss : List Sl} (e : slotsOf env1 rs = some ss) (a : gPost g F ow σ env H F1 ow1 σ env1 H1) (h : RRs g F1 ow1 σ env1 rs vs) (n : RNFs ow σ env rs vs) (o : OutE g W F ow σ env H Q (applyS cf k rs ss env1)) :
    spF g cf k vs H1 Q (fun cls d H' => W cls d σ H') := by
  unfold applyS at o
  refine ⟨F1, ow1, ss, callee_rel a.rel h n e, ?_⟩
  cases e2 : cf k ss with
  | bad => rw [e2] at o; exact o
  | ex x ss' =>
    rw [e2] at o
    intro F' ow' H' cls d p xr
    exact o F' ow' H' cls d (call_post a h n e p) xr
  | ok r ss' =>
    rw [e2] at o
    cases r with
    | «at» i => exact o.elim
    | val x =>
      intro v F' ow' H' p rr rn
      obtain ⟨h1, h2⟩ := call_res a h n e p rr rn (fun _ z => nomatch z)
      exact o v F' ow' H' (call_post a h n e p) h1 h2
    | new c =>
      intro v F' ow' H' p rr rn
      obtain ⟨h1, h2⟩ := call_res a h n e p rr rn (fun _ z => nomatch z)
      exact o v F' ow' H' (call_post a h n e p) h1 h2
theorem apply_sp {cf : CF} {k : Nat} {rs : List R} {vs : List V} (a : gPost g F ow σ env H F1 ow1 σ env1 H1) (h : RRs g F1 ow1 σ env1 rs vs) (n : RNFs ow σ env rs vs) (o : OutE g W F ow σ env H Q (applyM cf k rs env1)) :
    spF g cf k vs H1 Q (fun cls d H' => W cls d σ H') := by
  unfold applyM at o
  cases e : slotsOf env1 rs with
  | some ss => rw [e] at o; exact applyS_sp e a h n o
  | none =>
    rw [e] at o
    dsimp only at o
    cases e2 : freezes env1 rs with
    | none => rw [e2] at o; exact o.elim
    | some q =>
      obtain ⟨xs, env2⟩ := q
      rw [e2] at o
      dsimp only at o
      obtain ⟨F2, ow2, p2, r2, _⟩ := freezes_ok a h n e2
      exact applyS_sp (slotsOf_vals xs) p2 (rrs_vals r2) (rnfs_vals _ _) o
end
end Pi

/-! Pc7: expressions. -/
namespace Pi
open PySem PySem.Spec L2 PyProof.Rows

/-- what a class has under a name -/
inductive At where
  | fld | prop (k : Nat) | meth (k : Nat)
structure Gf where
  adr : Nat → Addr
  fd : Nat → FuncData
  ps : Nat → List Str
  att : Nat → Str → Option At
  init : Nat → Option Nat
/-- facts of the text that do not change while it runs -/
structure GSt (g : Gm) (t : Gf) : Prop where
  cls : ∀ c f a, t.att c f = some a → Cls g.K (g.cl c) ∧ PySem.W.selfFirst g.K (g.cl c) = true
  fld : ∀ c f, t.att c f = some .fld → NoAttr g.K (g.cl c) f
  meth : ∀ c f k, t.att c f = some (.meth k) → Meth g.K (g.cl c) f (t.adr k)
  prop : ∀ c f k, t.att c f = some (.prop k) → ∃ p, PropOf g.K (g.cl c) f p (t.adr k)
  bind : ∀ k, Binds g.K (t.fd k) (t.ps k) []
  mko : ∀ c k, t.init c = some k → Mk g.K (g.cl c) (t.adr k)
  fnIn : ∀ c f k, t.att c f = some (.meth k) → PySem.W.fnIn g.K (t.adr k) = true
/-- where a piece of code stands: X; what is wanted of exceptions: W; callees: cf, below level j -/
structure Cc (g : Gm) (t : Gf) (cf : CF) (X : Cx) (W : WX') (j : Nat) : Prop where
  K : X.K = g.K
  calm : X.calm = true
  nd : X.N.Nodup
  room3 : Room (j + 3) X.A
  tk : Takes X W
  po : PassesOwn (model X.prog X.w) X.A X.env X.xe
  fn : ∀ k, FnOk X.prog X.w X.K X.mg X.base (L2.CX X.prog X.w) j (t.adr k) (t.fd k) (t.ps k) (spF g cf k)
  st : GSt g t

def varM (i : Nat) : M R := fun env => match env[i]? with
  | some (.val x _) => .ok (.val x) env
  | some (.own _ _) => .ok (.at i) env
  | _ => .bad
def conM (x : P) : M R := fun env => .ok (.val x) env
/-- a scalar -/
def vOf : P → Option V
  | .non => some .non
  | .bl b => some (.bl b)
  | .int i => some (.int i)
  | .str s => some (.str s)
  | _ => none

section
variable {g : Gm} {t : Gf} {cf : CF} {X : Cx} {W : WX'} {j : Nat} {F F' F1 F2 : Hp} {ow ow' ow1 ow2 : Ow} {σ σ' σ1 σ2 : L2.St} {env env' env1 env2 : En} {H H' H1 H2 : Hp} {Q : VK}
theorem Cc.room (c : Cc g t cf X W j) : Room (j + 1) X.A := c.room3.mono (by omega)
theorem Cc.hu (c : Cc g t cf X W j) : X.A.units + 1 < cLine := by have := c.room.un; omega
theorem Cc.hu64 (c : Cc g t cf X W j) : X.A.units + 64 + 1 < cLine := by have := c.room.un; omega
theorem pass_at (c : Cc g t cf X W j) (σ : L2.St) : PassesAt (L2.CX X.prog X.w) X σ (fun cls d H' => W cls d σ H') :=
  fun pins H s e s' I h => c.tk e s' (XE.of_call I (fun _ _ _ q => q) h)
/-- the callee runs -/
theorem call_run (c : Cc g t cf X W j) {k : Nat} {pins : List (Addr × Obj)} {s : Shared} {us : List Value} {vs : List V} (I : Inv X pins σ H s) (r : Vals vs us) (h : spF g cf k vs H Q (fun cls d H' => W cls d σ H')) :
    wpAny (model X.prog X.w) X.A (call (.ref (t.adr k)) us) (EP X pins σ Q) X.xe s :=
  run_fnSD (ds := []) (dvs := []) (E := fun σ => fun cls d H' => W cls d σ H') (c.fn k) (c.room.mono (Nat.le_succ _)) (by rw [c.K]; exact c.st.bind k) .nil (pass_at c σ) I r (by rw [List.append_nil]; exact h)

/-- the callee runs, two steps further in -/
theorem call_run2 (c : Cc g t cf X W j) {k : Nat} {pins : List (Addr × Obj)} {s : Shared} {us : List Value} {vs : List V} (I : Inv X pins σ H s) (r : Vals vs us) (h : spF g cf k vs H Q (fun cls d H' => W cls d σ H')) :
    wpAny (model X.prog X.w) X.A.in1.in1 (call (.ref (t.adr k)) us) (EP X pins σ Q) X.xe s := by
  have hb := c.st.bind k
  rw [← c.K] at hb
  have hb2 := hb s us I.kIn (by rw [List.append_nil, ← r.length]; exact (c.fn k).len _ _ _ _ h)
  rw [List.append_nil] at hb2
  have hr : Room j X.A.in1.in1 := (c.room3.mono (by omega : j + 2 ≤ j + 3)).in1.in1
  refine wpAny_call (codeAny_mono ((c.fn k).run X.A.in1.in1 X.stack s H ⟨us, []⟩ us vs Q (fun cls d H' => W cls d σ H') hr I.env0.in1.in1 hb2 r h) fun r s' hq => ?_)
  cases r with
  | error e => exact pass_at c σ pins H s e s' I hq
  | ok fl => cases fl <;> first | exact I.after hq | exact hq.elim
theorem e_var (c : Cc g t cf X W j) (i : Nat) {x : Str} {pos : Pos} (hN : X.N[i]? = some x := by rfl) (hv : Vis X.env.scope x := by first | exact Or.inl rfl | exact Or.inr (Or.inl rfl) | exact Or.inr (Or.inr rfl))
    (hd : (x == ("__debug__" : Str)) = false := by decide) (hcd : (x == ("__classdict__" : Str)) = false := by decide) : PE X (.Name x pos) (TEv g W (varM i)) := by
  refine PE.imp (pe_var (i := i) hN hv hd hcd) fun σ H Q h => ?_
  obtain ⟨F, ow, env, l, o⟩ := h
  unfold varM at o
  cases e : env[i]? with
  | none => rw [e] at o; exact o.elim
  | some s =>
    rw [e] at o
    have q := l.slot i s e
    cases s with
    | no => exact o.elim
    | val y f =>
      obtain ⟨v, hv', r⟩ := q
      exact ⟨v, hv', o v F ow H (Post.refl l) r trivial⟩
    | own y f =>
      obtain ⟨p, hv', _⟩ := q
      exact ⟨_, hv', o _ F ow H (Post.refl l) ⟨hv', p, rfl⟩ trivial⟩
theorem e_con (x : P) {v : V} {e : Expr} (hx : vOf x = some v) (he : PE X e (tC v)) : PE X e (TEv g W (conM x)) := by
  refine PE.imp he fun σ H Q h => ?_
  obtain ⟨F, ow, env, l, o⟩ := h
  refine o v F ow H (Post.refl l) ?_ trivial
  cases x <;> simp only [vOf, reduceCtorEq, Option.some.injEq] at hx <;> subst hx
  · exact Rep.non
  · exact Rep.bl _
  · exact Rep.int _
  · exact Rep.str _
theorem e_int {i : Int} {k : Nat} {pos : Pos} : PE X (.Constant (.int i) k pos) (TEv g W (conM (.int i))) := e_con (.int i) rfl pe_int
theorem e_bl {i : Bool} {k : Nat} {pos : Pos} : PE X (.Constant (.bool i) k pos) (TEv g W (conM (.bl i))) := e_con (.bl i) rfl pe_bl
theorem e_non {k : Nat} {pos : Pos} : PE X (.Constant .none k pos) (TEv g W (conM .non)) := e_con .non rfl pe_non
theorem e_str {i : Str} {k : Nat} {pos : Pos} : PE X (.Constant (.str i) k pos) (TEv g W (conM (.str i))) := e_con (.str i) rfl pe_str

/-! ### two operands -/
def opAt (f : List P → Option O1) (rs : List R) (env : En) : Out R := match peeks env rs with
  | some xs => match f xs with
    | some o => .ok o.r env
    | none => .bad
  | none => .bad
/-- the class's own def for it, the receiver first -/
def recv (t : Gf) (d : Str) (iOk : Bool) (env : En) (r r' : R) : Option Nat := match peek env r, peek env r' with
  | some (.obj c _), some (.obj c' _) => if c = c' then (match t.att c d with | some (.meth k) => some k | _ => none) else none
  | some (.obj c _), some (.int _) => if iOk = true then (match t.att c d with | some (.meth k) => some k | _ => none) else none
  | some (.obj c _), some (.str _) => if iOk = true then (match t.att c d with | some (.meth k) => some k | _ => none) else none
  | _, _ => none
def binM (t : Gf) (cf : CF) (o : Op) (d : Str) (iOk : Bool) (ma mb : M R) : M R := fun env => match ma env with
  | .ok ra e1 => match mb e1 with
    | .ok rb e2 => match recv t d iOk e2 ra rb with
      | some k => applyM cf k [ra, rb] e2
      | none => opAt (opP o) [ra, rb] e2
    | .ex x e2 => .ex x e2
    | .bad => .bad
  | .ex x e1 => .ex x e1
  | .bad => .bad
/-- in, not in: the right one is asked -/
def blOnly (neg : Bool) : Out R → Out R
  | .ok (.val (.bl b)) e => .ok (.val (.bl (if neg = true then !b else b))) e
  | .ok _ _ => .bad
  | .ex x e => .ex x e
  | .bad => .bad
def inM (t : Gf) (cf : CF) (neg : Bool) (ma mb : M R) : M R := fun env => match ma env with
  | .ok ra e1 => match mb e1 with
    | .ok rb e2 => match recv t "__contains__" true e2 rb ra with
      | some k => blOnly neg (applyM cf k [rb, ra] e2)
      | none => opAt (opP (if neg = true then .notin else .isin)) [ra, rb] e2
    | .ex x e2 => .ex x e2
    | .bad => .bad
  | .ex x e1 => .ex x e1
  | .bad => .bad
/-- how the two stand once both are there -/
structure Two (g : Gm) (W : WX') (F : Hp) (ow : Ow) (σ : L2.St) (env : En) (H : Hp) (F2 : Hp) (ow2 : Ow) (env2 : En) (H2 : Hp) (ra rb : R) (x y : V) : Prop where
  post : gPost g F ow σ env H F2 ow2 σ env2 H2
  rr : RRs g F2 ow2 σ env2 [ra, rb] [x, y]
  nf : RNFs ow σ env [ra, rb] [x, y]
theorem Two.flip {ra rb : R} {x y : V} (h : Two g W F ow σ env H F2 ow2 env2 H2 ra rb x y) : RRs g F2 ow2 σ env2 [rb, ra] [y, x] ∧ RNFs ow σ env [rb, ra] [y, x] := by
  obtain ⟨h1, h2, _⟩ := h.rr
  obtain ⟨n1, n2, n3, _, _⟩ := h.nf
  refine ⟨⟨h2, h1, trivial⟩, n3, fun c p er ev i c' hi hv => ?_, n1, fun _ _ _ _ i c' hi _ => by simp at hi, trivial⟩
  cases i with
  | zero =>
    simp at hi hv
    subst hi hv er ev
    exact n2 c' p rfl rfl 0 c rfl rfl
  | succ i => simp at hi
theorem two_of {ma mb : M R} {k : R → R → En → Out R}
    (h : TEv g W (fun env => match ma env with
      | .ok ra e1 => match mb e1 with
        | .ok rb e2 => k ra rb e2
        | .ex x e2 => .ex x e2
        | .bad => .bad
      | .ex x e1 => .ex x e1
      | .bad => .bad) σ H Q) :
    TEv g W ma σ H fun x H1 => TEv g W mb σ H1 fun y H2 => ∃ F ow env F2 ow2 env2 ra rb, Two g W F ow σ env H F2 ow2 env2 H2 ra rb x y ∧ OutE g W F ow σ env H Q (k ra rb env2) := by
  obtain ⟨F, ow, env, l, o⟩ := h
  refine ⟨F, ow, env, l, ?_⟩
  dsimp only at o
  cases e : ma env with
  | bad => rw [e] at o; exact o
  | ex x e' => rw [e] at o; exact o
  | ok ra e1 =>
    rw [e] at o
    intro v F1 ow1 H1 p1 r1 n1
    refine ⟨F1, ow1, e1, p1.rel, ?_⟩
    dsimp only at o
    cases e2 : mb e1 with
    | bad => rw [e2] at o; exact o
    | ex x e' =>
      rw [e2] at o
      exact fun F' ow' H' cls d p' x' => o F' ow' H' cls d (p1.trans p') x'
    | ok rb e3 =>
      rw [e2] at o
      intro u F2 ow2 H2 p2 r2 n2
      refine ⟨F, ow, env, F2, ow2, e3, ra, rb, ⟨p1.trans p2, ⟨r1.post p2, r2, trivial⟩, n1, fun c q er ev i c' hi hv => ?_, n2.back p1, fun _ _ _ _ i c' hi _ => by simp at hi, trivial⟩, o⟩
      subst er ev
      obtain ⟨q', eq, o1, f1⟩ := r1
      cases eq
      cases i with
      | zero =>
        simp at hi hv
        subst hi hv
        exact n2 q rfl c o1 f1
      | succ i => simp at hi
theorem opAt_ok {f : List P → Option O1} {rs : List R} {vs : List V} (p : gPost g F ow σ env H F2 ow2 σ env2 H2) (rr : RRs g F2 ow2 σ env2 rs vs) (o : OutE g W F ow σ env H Q (opAt f rs env2)) : rOp g f vs H2 Q := by
  unfold opAt at o
  cases e : peeks env2 rs with
  | none => rw [e] at o; exact o.elim
  | some xs =>
    rw [e] at o
    dsimp only at o
    cases e2 : f xs with
    | none => rw [e2] at o; exact o.elim
    | some oo =>
      rw [e2] at o
      refine ⟨F2, xs, oo, p.rel.ext, rr.shapes p.rel e, e2, fun v H3 h3 => ?_⟩
      obtain ⟨F3, ow3, p3, r3, n3⟩ := out_post p h3
      exact o v F3 ow3 H3 p3 r3 n3
/-- what is known where the class's own def is called -/
theorem recv_ok {d : Str} {iOk : Bool} {r r' : R} {x y : V} {k : Nat} (st : GSt g t) (l : gRel g F ow σ env H) (h1 : gRR g F ow σ env r x) (h2 : gRR g F ow σ env r' y) (e : recv t d iOk env r r' = some k) :
    ∃ c a dx ws, t.att c d = some (.meth k) ∧ x = .ref a ∧ H a = some (.ins (g.cl c) dx ws) ∧ Cls g.K (g.cl c) ∧ PySem.W.selfFirst g.K (g.cl c) = true ∧ Meth g.K (g.cl c) d (t.adr k) ∧ PySem.W.fnIn g.K (t.adr k) = true ∧
      ((∃ b dy us, y = .ref b ∧ H b = some (.ins (g.cl c) dy us)) ∨ (iOk = true ∧ ((∃ i, y = .int i) ∨ ∃ z, y = .str z))) := by
  unfold recv at e
  have one : ∀ c, (match t.att c d with | some (.meth k) => some k | _ => none) = some k → t.att c d = some (.meth k) := fun c e => by
    split at e
    · rename_i k' hk
      cases e
      exact hk
    · cases e
  split at e
  · rename_i c fs c' fs' e1 e2
    split at e
    · rename_i hc
      subst hc
      have hk := one c e
      obtain ⟨k1, k2⟩ := st.cls c d _ hk
      cases h1.shape l e1 with
      | obj ha _ =>
        cases h2.shape l e2 with
        | obj hb _ => exact ⟨c, _, _, _, hk, rfl, ha, k1, k2, st.meth c d k hk, st.fnIn c d k hk, .inl ⟨_, _, _, rfl, hb⟩⟩
    · cases e
  · rename_i c fs i e1 e2
    split at e
    · rename_i hi
      have hk := one c e
      obtain ⟨k1, k2⟩ := st.cls c d _ hk
      cases h1.shape l e1 with
      | obj ha _ =>
        cases h2.shape l e2
        exact ⟨c, _, _, _, hk, rfl, ha, k1, k2, st.meth c d k hk, st.fnIn c d k hk, .inr ⟨hi, .inl ⟨_, rfl⟩⟩⟩
    · cases e
  · rename_i c fs i e1 e2
    split at e
    · rename_i hi
      have hk := one c e
      obtain ⟨k1, k2⟩ := st.cls c d _ hk
      cases h1.shape l e1 with
      | obj ha _ =>
        cases h2.shape l e2
        exact ⟨c, _, _, _, hk, rfl, ha, k1, k2, st.meth c d k hk, st.fnIn c d k hk, .inr ⟨hi, .inr ⟨_, rfl⟩⟩⟩
    · cases e
  · cases e

/-- an operation whose first operand's class has a def for it -/
def OwnOp (g : Gm) (t : Gf) (X : Cx) (f : Value → Value → Sem Value) (d : Str) (iOk : Bool) : Prop :=
  ∀ (pins : List (Addr × Obj)) (s : Shared) (σ : L2.St) (H : Hp) (a C dx fa : Addr) (ws : List (Str × V)) (y : V) (u : Value) (Q : VK), Inv X pins σ H s → (∃ c k, C = g.cl c ∧ t.att c d = some (.meth k)) → H a = some (.ins C dx ws) → Cls X.K C → PySem.W.selfFirst X.K C = true → Meth X.K C d fa → RelV y u →
    ((∃ b dy us, y = .ref b ∧ H b = some (.ins C dy us)) ∨ (iOk = true ∧ ((∃ i, y = .int i) ∨ ∃ z, y = .str z))) →
    wpAny (model X.prog X.w) X.A (call (.ref fa) [.ref a, u]) (EP X pins σ Q) X.xe s → wpAny (model X.prog X.w) X.A (f (.ref a) u) (EP X pins σ Q) X.xe s
theorem cmp_back {P : Value → Shared → Prop} {z : V} {v : Value} {s' : Shared} (r : RelV z v) (h : P v s') : PySem.W.CmpBack P v s' := by
  cases z <;> first | (cases r; exact h) | (obtain ⟨tk, rfl⟩ := r; exact h)
theorem ep_back {pins : List (Addr × Obj)} {v : Value} {s' : Shared} (h : EP X pins σ Q v s') : PySem.W.CmpBack (EP X pins σ Q) v s' := by
  obtain ⟨z, H', I, r, q⟩ := h
  exact cmp_back r ⟨z, H', I, r, q⟩
theorem own_bin (op : Operator) : OwnOp g t X (binaryOp op) (PySem.dunder op.info.2) false := by
  intro pins s σ H a C dx fa ws y u Q I hcc ha kc sf me ry hy h
  obtain ⟨mA, O, _⟩ := ins_get I.hok ha
  obtain ⟨od, J, _⟩ := O.look
  obtain ⟨m, hF⟩ := I.fr
  rcases hy with ⟨b, dy, us, rfl, hb⟩ | ⟨hi, _⟩
  · cases ry
    obtain ⟨mB, O', _⟩ := ins_get I.hok hb
    obtain ⟨od', J', _⟩ := O'.look
    exact PySem.W.binop_K hF I.ok.mod.kin J J'.type sf me.at_ me.fn (wpAny_mono h (fun _ _ q => ep_back q) fun _ _ z => z)
  · cases hi
theorem own_eq (hu : X.A.units < cLine) : OwnOp g t X (compareOp .Eq) "__eq__" false := by
  intro pins s σ H a C dx fa ws y u Q I hcc ha kc sf me ry hy h
  obtain ⟨mA, O, _⟩ := ins_get I.hok ha
  obtain ⟨od, J, _⟩ := O.look
  obtain ⟨m, hF⟩ := I.fr
  rcases hy with ⟨b, dy, us, rfl, hb⟩ | ⟨hi, _⟩
  · cases ry
    obtain ⟨mB, O', _⟩ := ins_get I.hok hb
    obtain ⟨od', J', _⟩ := O'.look
    exact PySem.W.cmp_K (op := .Eq) (tb := .ref C) hu hF I.ok.mod.kin J J'.type (by simp [PySem.W.notFirst]) me.at_ me.fn (wpAny_mono h (fun _ _ q => ep_back q) fun _ _ z => z)
  · cases hi
theorem own_none (f : Value → Value → Sem Value) (d : Str) (iOk : Bool) (h : ∀ c k, t.att c d ≠ some (.meth k)) : OwnOp g t X f d iOk := by
  intro pins s σ H a C dx fa ws y u Q I hcc ha kc sf me ry hy hh
  obtain ⟨c, k, _, e⟩ := hcc
  exact (h c k e).elim

theorem bin_ok (c : Cc g t cf X W j) {f : Value → Value → Sem Value} {o : Op} {d : Str} {iOk : Bool} (ho : OpR X f (r2 g o)) (hown : OwnOp g t X f d iOk) {ra rb : R} {x y : V} {v u : Value} {pins : List (Addr × Obj)} {s : Shared} (I : Inv X pins σ H2 s) (rx : RelV x v) (ry : RelV y u)
    (h2 : Two g W F ow σ env H F2 ow2 env2 H2 ra rb x y) (out : OutE g W F ow σ env H Q (match recv t d iOk env2 ra rb with
      | some k => applyM cf k [ra, rb] env2
      | none => opAt (opP o) [ra, rb] env2)) : wpAny (model X.prog X.w) X.A (f v u) (EP X pins σ Q) X.xe s := by
  cases e : recv t d iOk env2 ra rb with
  | none =>
    rw [e] at out
    exact ho pins s σ H2 x y v u Q I rx ry (opAt_ok h2.post h2.rr out)
  | some k =>
    rw [e] at out
    obtain ⟨cc, a, dx, ws, hat, rfl, ha, k1, k2, k3, k4, k5⟩ := recv_ok c.st h2.post.rel h2.rr.1 h2.rr.2.1 e
    cases rx
    rw [← c.K] at k1 k2 k3
    exact hown pins s σ H2 a _ dx _ ws y u Q I ⟨cc, k, rfl, hat⟩ ha k1 k2 k3 ry k5 (call_run c I (vs := [.ref a, y]) (us := [.ref a, u]) (.cons rfl (.cons ry .nil)) (apply_sp h2.post h2.rr h2.nf out))
theorem e_bin (c : Cc g t cf X W j) {op : Operator} {o : Op} {d : Str} {iOk : Bool} {a b : Expr} {ma mb : M R} {pos : Pos} (ho : OpR X (binaryOp op) (r2 g o)) (hown : OwnOp g t X (binaryOp op) d iOk) (ha : PE X a (TEv g W ma)) (hb : PE X b (TEv g W mb)) :
    PE X (.BinOp a op b pos) (TEv g W (binM t cf o d iOk ma mb)) := by
  refine ⟨fun pins s σ H Q I h => ?_⟩
  refine wpAny_BinOp (binT ha hb I (two_of h) fun v u s2 x y H2 I2 rx ry q => ?_)
  obtain ⟨F, ow, env, F2, ow2, env2, ra, rb, h2, out⟩ := q
  exact bin_ok c ho hown I2 rx ry h2 out
theorem e_cmp (c : Cc g t cf X W j) {op : CmpOp} {o : Op} {d : Str} {iOk : Bool} {a b : Expr} {ma mb : M R} {pos : Pos} (ho : OpR X (compareOp op) (r2 g o)) (hown : OwnOp g t X (compareOp op) d iOk) (ha : PE X a (TEv g W ma)) (hb : PE X b (TEv g W mb)) (hm : behindInMarks op b = false) :
    PE X (.Compare a [op] [b] pos) (TEv g W (binM t cf o d iOk ma mb)) := by
  refine ⟨fun pins s σ H Q I h => ?_⟩
  refine wpAny_Compare1 (binT ha hb I (two_of h) fun v u s2 x y H2 I2 rx ry q => ?_) hm
  obtain ⟨F, ow, env, F2, ow2, env2, ra, rb, h2, out⟩ := q
  exact bin_ok c ho hown I2 rx ry h2 out
end
end Pi

/-! Pc8: in, subscripts, calls, attributes. -/
namespace Pi
open PySem PySem.Spec L2 PyProof.Rows
section
variable {g : Gm} {t : Gf} {cf : CF} {X : Cx} {W : WX'} {j : Nat} {F F' F1 F2 : Hp} {ow ow' ow1 ow2 : Ow} {σ σ' σ1 σ2 : L2.St} {env env' env1 env2 : En} {H H' H1 H2 : Hp} {Q : VK}
theorem blOnly_ok {neg : Bool} {o : Out R} (h : OutE g W F ow σ env H Q (blOnly neg o)) : OutE g W F ow σ env H (fun v H' => ∃ b, v = .bl b ∧ Q (.bl (if neg = true then !b else b)) H') o := by
  cases o with
  | bad => exact h
  | ex x e => exact h
  | ok r e =>
    cases r with
    | new c => exact h.elim
    | «at» i => exact h.elim
    | val x =>
      cases x <;> first | exact h.elim | skip
      rename_i b
      intro v F' ow' H' p rr rn
      cases (show gRep g F' (.bl b) v from rr)
      exact ⟨b, rfl, h _ F' ow' H' p (.bl _) trivial⟩
theorem op_ins {F H : Hp} : True := trivial
/-- a in b -/
theorem e_in (c : Cc g t cf X W j) {neg : Bool} {a b : Expr} {ma mb : M R} {pos : Pos} (ha : PE X a (TEv g W ma)) (hb : PE X b (TEv g W mb)) (hm : behindInMarks (if neg = true then .NotIn else .In) b = false) :
    PE X (.Compare a [if neg = true then .NotIn else .In] [b] pos) (TEv g W (inM t cf neg ma mb)) := by
  refine ⟨fun pins s σ H Q I h => ?_⟩
  refine wpAny_Compare1 (binT ha hb I (two_of h) fun v u s2 x y H2 I2 rx ry q => ?_) hm
  obtain ⟨F, ow, env, F2, ow2, env2, ra, rb, h2, out⟩ := q
  cases e : recv t "__contains__" true env2 rb ra with
  | none =>
    rw [e] at out
    have hr := opAt_ok h2.post h2.rr out
    cases neg with
    | false => exact o_in c.hu pins s2 σ H2 x y v u Q I2 rx ry hr
    | true => exact o_notin c.hu pins s2 σ H2 x y v u Q I2 rx ry hr
  | some k =>
    rw [e] at out
    obtain ⟨f1, f2⟩ := h2.flip
    obtain ⟨cc, a', dx, ws, hat, rfl, haa, k1, k2, k3, k4, k5⟩ := recv_ok c.st h2.post.rel f1.1 f1.2.1 e
    cases ry
    rw [← c.K] at k3
    have hc := call_run c I2 (vs := [.ref a', x]) (us := [.ref a', v]) (.cons rfl (.cons rx .nil)) (apply_sp h2.post f1 f2 (blOnly_ok out))
    obtain ⟨mA, O, _⟩ := ins_get I2.hok haa
    obtain ⟨od, J, _⟩ := O.look
    obtain ⟨m, hF⟩ := I2.fr
    cases neg with
    | false =>
      refine PySem.W.in_K hF I2.ok.mod.kin J k3.at_ k3.fn (thn hc fun r s3 hq => ?_)
      obtain ⟨z, H3, I3, rz, b', rfl, q⟩ := hq
      cases rz
      exact wpAny_truthy_bool ⟨.bl b', H3, I3, rfl, q⟩
    | true =>
      refine PySem.W.notIn_K hF I2.ok.mod.kin J k3.at_ k3.fn (thn hc fun r s3 hq => ?_)
      obtain ⟨z, H3, I3, rz, b', rfl, q⟩ := hq
      cases rz
      exact wpAny_truthy_bool ⟨.bl (!b'), H3, I3, rfl, q⟩
/-- a[b] -/
theorem own_ix (hu : True) {value slice : Expr} {pins : List (Addr × Obj)} {s : Shared} {a C dx fa : Addr} {ws : List (Str × V)} {u : Value} (I : Inv X pins σ H s) (ha : H a = some (.ins C dx ws)) (me : Meth X.K C "__getitem__" fa) (hf : PySem.W.fnIn X.K fa = true)
    (hsl : subscripted slice true (.ref a) u = runValue (.builtin "lifetime.subscript" ⟨[.ref a, u], []⟩)) (h : wpAny (model X.prog X.w) X.A.in1 (call (.ref fa) [.ref a, u]) (EP X pins σ Q) X.xe s) :
    wpAny (model X.prog X.w) X.A (subscriptTail value slice (.ref a) u) (EP X pins σ Q) X.xe s := by
  obtain ⟨mA, O, _⟩ := ins_get I.hok ha
  obtain ⟨od, J, _⟩ := O.look
  obtain ⟨m, hF⟩ := I.fr
  exact PySem.W.sub_K hF I.ok.mod.kin J me.at_ hf me.fn h hsl
/-- the callee runs, one level of the machine deeper -/
theorem call_run1 (c : Cc g t cf X W j) {k : Nat} {pins : List (Addr × Obj)} {s : Shared} {us : List Value} {vs : List V} (I : Inv X pins σ H s) (r : Vals vs us) (h : spF g cf k vs H Q (fun cls d H' => W cls d σ H')) :
    wpAny (model X.prog X.w) X.A.in1 (call (.ref (t.adr k)) us) (EP X pins σ Q) X.xe s := by
  have hl : us.length = (t.ps k).length := by rw [← r.length]; exact (c.fn k).len _ _ _ _ h
  have hb := c.st.bind k s us (by have := I.kIn; rw [c.K] at this; exact this) (by rw [List.append_nil]; exact hl)
  rw [List.append_nil] at hb
  refine wpAny_call (codeAny_mono ((c.fn k).run X.A.in1 X.stack s H ⟨us, []⟩ us vs Q (fun cls d H' => W cls d σ H') c.room.in1 I.env0.in1 hb r h) fun r s' hq => ?_)
  cases r with
  | error e => exact pass_at c σ pins H s e s' I hq
  | ok fl =>
    cases fl with
    | ret u => exact I.after hq
    | _ => exact hq.elim
theorem e_ix (c : Cc g t cf X W j) {a b : Expr} {ma mb : M R} {pos : Pos} (ha : PE X a (TEv g W ma)) (hb : PE X b (TEv g W mb)) (hs : PlainIx b) (hs2 : ∀ o i, subscripted b true o i = runValue (.builtin "lifetime.subscript" ⟨[o, i], []⟩)) :
    PE X (.Subscript a b pos) (TEv g W (binM t cf .ix "__getitem__" true ma mb)) := by
  refine ⟨fun pins s σ H Q I h => ?_⟩
  refine Subscript_ (binT ha hb I (two_of h) fun v u s2 x y H2 I2 rx ry q => ?_)
  obtain ⟨F, ow, env, F2, ow2, env2, ra, rb, h2, out⟩ := q
  cases e : recv t "__getitem__" true env2 ra rb with
  | none =>
    rw [e] at out
    exact o_ix c.K c.hu a b pins s2 σ H2 x y v u Q I2 rx ry (opAt_ok h2.post h2.rr out) (hs _ _)
  | some k =>
    rw [e] at out
    obtain ⟨cc, a', dx, ws, hat, rfl, haa, k1, k2, k3, k4, k5⟩ := recv_ok c.st h2.post.rel h2.rr.1 h2.rr.2.1 e
    cases rx
    rw [← c.K] at k3 k4
    exact own_ix trivial I2 haa k3 k4 (hs2 _ _) (call_run1 c I2 (vs := [.ref a', y]) (us := [.ref a', u]) (.cons rfl (.cons ry .nil)) (apply_sp h2.post h2.rr h2.nf out))

/-! ### built-in functions -/
theorem e_fn {id : String} {o : Op} {x : Str} {e : Expr} {es : List Expr} {ms : M (List R)} {p pos : Pos} (ho : CallR X (.builtin id) (rOp g (opP o))) (hg : Gl X x) (hm : X.mg x = none) (hv : bootBuiltins x = some (.builtin id)) (ha : PA X (e :: es) (TAv g W ms))
    (hn : x ≠ "__name__" := by decide) (hdb : (x == ("__debug__" : Str)) = false := by decide) (he : starEach (e :: es) X.env = (false, eval e X.env) :: starEach es X.env := by rfl) (hpl : (backTo pos (starEach es X.env)).any (·.1) = false := by rfl) :
    PE X (.Call (.Name x p) (e :: es) [] pos) (TEv g W (opM (opP o) ms)) :=
  PE.imp (pe_callB ho hg hm hv ha hn hdb he hpl) fun _ _ _ h => tev_op h
theorem e_ty {T : String} {o : Op} {x : Str} {e : Expr} {es : List Expr} {ms : M (List R)} {p pos : Pos} (ho : CallR X (.type T) (rOp g (opP o))) (hg : Gl X x) (hm : X.mg x = none) (hv : bootBuiltins x = some (.type T)) (ha : PA X (e :: es) (TAv g W ms))
    (hn : x ≠ "__name__" := by decide) (hdb : (x == ("__debug__" : Str)) = false := by decide) (he : starEach (e :: es) X.env = (false, eval e X.env) :: starEach es X.env := by rfl) (hpl : (backTo pos (starEach es X.env)).any (·.1) = false := by rfl) :
    PE X (.Call (.Name x p) (e :: es) [] pos) (TEv g W (opM (opP o) ms)) :=
  PE.imp (pe_callTy ho hg hm hv ha hn hdb he hpl) fun _ _ _ h => tev_op h
def opM1 (o : Op) (ma : M R) : M R := opM (opP o) (M.cons ma (M.pure []))
theorem tev_op1 {o : Op} {ma : M R} (h : TEv g W (opM1 o ma) σ H Q) : TEv g W ma σ H fun x H1 => rOp g (opP o) [x] H1 Q := tav1 (tev_op h)
theorem e_neg {a : Expr} {ma : M R} {pos : Pos} (ha : PE X a (TEv g W ma)) : PE X (.UnaryOp .USub a pos) (TEv g W (opM1 .neg ma)) := PE.imp (pe_un o_neg ha) fun _ _ _ h => tev_op1 h
/-- isinstance(e, T) -/
theorem e_isa (hK : X.K = g.K) {ty : Ty} (ok : TyOk g ty) {a b : Expr} {ma : M R} {p pos : Pos} (ha : PE X a (TEv g W ma)) (hb : PE X b (tC (ty.v g))) (hg : Gl X "isinstance") (hm : X.mg "isinstance" = none)
    (he : starEach [a, b] X.env = (false, eval a X.env) :: starEach [b] X.env := by rfl) (he2 : starEach [b] X.env = (false, eval b X.env) :: starEach [] X.env := by rfl) (hpl : (backTo pos (starEach [b] X.env)).any (·.1) = false := by rfl) :
    PE X (.Call (.Name "isinstance" p) [a, b] [] pos) (TEv g W (opM1 (.isa ty) ma)) := by
  have hc : CallR X (.builtin "isinstance") (fun vs H Q => ∃ v, vs = [v, ty.v g] ∧ rOp g (opP (.isa ty)) [v] H Q) := by
    intro pins s σ H xs us Q I r ⟨v, e, h⟩
    subst e
    exact isa_of hK ok I r h
  refine PE.imp (pe_callB hc hg hm (by decide +kernel) (pa_cons ha (pa_cons hb pa_nil he2) he) (by decide) (by decide) he hpl) fun σ H Q h => ?_
  exact (tev_op1 h).mono fun v H1 q => ⟨v, rfl, q⟩
/-- o.m() of a text -/
def strM (o : Op) (ma : M R) : M R := fun env => match ma env with
  | .ok r e => match peek e r with
    | some (.str _) => opAt (opP o) [r] e
    | _ => .bad
  | .ex x e => .ex x e
  | .bad => .bad
theorem e_str0 {id : String} {name : Str} {o : Op} {a : Expr} {ma : M R} {apos pos : Pos} (slot : Slot "str" name id) (ty : typeOf (.builtin id) = pure (.type "method_descriptor")) (rule : MtR X id (fun x xs H Q => xs = [] ∧ r1 g o x H Q)) (ha : PE X a (TEv g W ma))
    (hbase : attributeBase a name X.env (eval a X.env) = eval a X.env := by rfl) (hline : (apos.endLine == pos.line) = true := by rfl) : PE X (.Call (.Attribute a name apos) [] [] pos) (TEv g W (strM o ma)) := by
  refine PE.imp (pe_m0 slot ty rule ha hbase hline) fun σ H Q h => ?_
  obtain ⟨F, ow, env, l, o⟩ := h
  refine ⟨F, ow, env, l, ?_⟩
  unfold strM at o
  cases e : ma env with
  | bad => rw [e] at o; exact o
  | ex x e' => rw [e] at o; exact o
  | ok r e1 =>
    rw [e] at o
    intro v F1 ow1 H1 p1 r1 n1
    dsimp only at o
    split at o
    · rename_i z hz
      cases r1.shape p1.rel hz
      exact ⟨⟨_, rfl⟩, rfl, opAt_ok (rs := [r]) p1 ⟨r1, trivial⟩ o⟩
    · exact o.elim
/-- d.get(k, x) -/
def get2M (ma mk mx : M R) : M R := fun env => match ma env with
  | .ok r e => match peek e r with
    | some (.dic _) => match M.cons mk (M.cons mx (M.pure [])) e with
      | .ok rs e2 => opAt (opP .get2) (r :: rs) e2
      | .ex x e2 => .ex x e2
      | .bad => .bad
    | _ => .bad
  | .ex x e => .ex x e
  | .bad => .bad
theorem sc_rep {x : P} {v : V} (h : isSc x = true) (s : Shape g.K g.cl F H x v) : gRep g F x v := by
  cases s <;> first | exact .non | exact .bl _ | exact .int _ | exact .str _ | cases h
theorem get2_ok {a : Addr} {y z : V} (hr : rOp g (opP .get2) [.ref a, y, z] H Q) : ∃ o, DGet H a y o ∧ Q (o.getD z) H := by
  obtain ⟨F, xs, out, hF, sh, e, q⟩ := hr
  match xs, sh, e with
  | [d, k, x], sh, e =>
    obtain ⟨s1, s2, s3, _⟩ := sh
    cases d <;> simp only [opP, p_get2, reduceCtorEq] at e
    rename_i kvs
    split at e
    · rename_i hs
      obtain ⟨kk, h1, rfl⟩ := Option.map_eq_some_iff.mp e
      cases s1 with
      | dic h r =>
        rename_i ws
        cases keyP_rep h1 s2
        refine ⟨valV ws kk, dget_of (F := F) (kvs := kvs) h kk, q _ _ ⟨rfl, ?_⟩⟩
        rcases r.get kk with ⟨x', w, e1, e2, e3⟩ | ⟨e1, e2⟩
        · rw [e1, e2]; exact e3
        · rw [e1, e2]; exact sc_rep hs s3
    · cases e
  | [], _, e => simp [opP, p_get2] at e
  | [_], sh, _ => exact sh.2.elim
  | [_, _], sh, _ => exact sh.2.2.elim
  | _ :: _ :: _ :: _ :: _, sh, _ => exact sh.2.2.2.elim
theorem e_get2 (c : Cc g t cf X W j) {o e f : Expr} {ma mk mx : M R} {apos cpos : Pos} (ho : PE X o (TEv g W ma)) (he : PE X e (TEv g W mk)) (hf : PE X f (TEv g W mx)) (m : M2 X o "get" apos e f cpos) :
    PE X (.Call (.Attribute o "get" apos) [e, f] [] cpos) (TEv g W (get2M ma mk mx)) := by
  refine PE.imp (pe_dget2 c.hu ho he hf m) fun σ H Q h => ?_
  obtain ⟨F, ow, env, l, out⟩ := h
  refine ⟨F, ow, env, l, ?_⟩
  unfold get2M at out
  cases e0 : ma env with
  | bad => rw [e0] at out; exact out
  | ex x e' => rw [e0] at out; exact out
  | ok r e1 =>
    rw [e0] at out
    intro v F1 ow1 H1 p1 r1 n1
    dsimp only at out
    split at out
    · rename_i kvs hz
      cases r1.shape p1.rel hz with
      | dic hd rd =>
        rename_i a ws
        refine ⟨a, rfl, .inl ⟨ws, hd⟩, ?_⟩
        have h2 : TAv g W (M.cons mk (M.cons mx (M.pure []))) σ H1 fun vs H3 => ∃ o, DGet H3 a (vs.getD 0 .non) o ∧ Q (o.getD (vs.getD 1 .non)) H3 := by
          refine ⟨F1, ow1, e1, p1.rel, ?_⟩
          cases e2 : M.cons mk (M.cons mx (M.pure [])) e1 with
          | bad => rw [e2] at out; exact out
          | ex x e' =>
            rw [e2] at out
            exact fun F' ow' H' cls d p' x' => out F' ow' H' cls d (p1.trans p') x'
          | ok rs e3 =>
            rw [e2] at out
            intro vs F2 ow2 H2 p2 rr nn
            dsimp only at out
            have q := opAt_ok (rs := r :: rs) (vs := .ref a :: vs) (p1.trans p2) ⟨r1.post p2, rr⟩ out
            match vs, rr, q with
            | [y, z], _, q => exact get2_ok q
            | [], _, ⟨_, xs, _, _, sh, e, _⟩ => exact (by match xs, sh, e with | [_], _, e => simp [opP, p_get2] at e | [], _, e => simp [opP, p_get2] at e | _ :: _ :: _, sh, _ => exact sh.2.elim)
            | [_], _, ⟨_, xs, _, _, sh, e, _⟩ => exact (by match xs, sh, e with | [_, _], _, e => simp [opP, p_get2] at e | [_], _, e => simp [opP, p_get2] at e | [], _, e => simp [opP, p_get2] at e | _ :: _ :: _ :: _, sh, _ => exact sh.2.2.elim)
            | _ :: _ :: _ :: _, _, ⟨_, xs, _, _, sh, e, _⟩ => exact (by match xs, sh, e with | [_, _, _], sh, _ => exact sh.2.2.2.elim | [_, _], sh, _ => exact sh.2.2.elim | [_], _, e => simp [opP, p_get2] at e | [], _, e => simp [opP, p_get2] at e | _ :: _ :: _ :: _ :: _, _, e => simp [opP, p_get2] at e)
        exact tav2 h2
    · exact out.elim

/-! ### calls -/
theorem tev_call {k : Nat} {ds : List P} {ms : M (List R)} {dvs : List V} (hd : ∀ F, Reps g.K g.cl F ds dvs) (h : TEv g W (callM cf k ds ms) σ H Q) : TAv g W ms σ H fun vs H1 => spF g cf k (vs ++ dvs) H1 Q (fun cls d H' => W cls d σ H') := by
  obtain ⟨F, ow, env, l, o⟩ := h
  refine ⟨F, ow, env, l, ?_⟩
  unfold callM at o
  cases e : ms env with
  | bad => rw [e] at o; exact o
  | ex x env' => rw [e] at o; exact o
  | ok rs env1 =>
    rw [e] at o
    intro vs F1 ow1 H1 p r1 n1
    have h1 : RRs g F1 ow1 σ env1 (rs ++ ds.map .val) (vs ++ dvs) := by
      have hb : ∀ (ds : List P) (dvs : List V), Reps g.K g.cl F1 ds dvs → RRs g F1 ow1 σ env1 (ds.map .val) dvs := by
        intro ds dvs hr
        induction ds generalizing dvs with
        | nil => cases hr; trivial
        | cons d ds ih => cases hr with | cons a b => exact ⟨a, ih _ b⟩
      clear o e n1
      induction rs generalizing vs with
      | nil =>
        cases vs with
        | nil => exact hb _ _ (hd F1)
        | cons _ _ => exact r1.elim
      | cons r rs ih =>
        cases vs with
        | nil => exact r1.elim
        | cons v vs => exact ⟨r1.1, ih vs r1.2⟩
    have hl := r1.len
    have h2 : RNFs ow σ env (rs ++ ds.map .val) (vs ++ dvs) := by
      have hb : ∀ (ds : List P) (dvs : List V), RNFs ow σ env (ds.map .val) dvs := by
        intro ds dvs
        induction ds generalizing dvs with
        | nil => trivial
        | cons d ds ih =>
          cases dvs with
          | nil => trivial
          | cons v dvs => exact ⟨trivial, fun c p er => (nomatch er), ih dvs⟩
      have hno : ∀ (ds : List P) (i : Nat) (c : C), (ds.map R.val)[i]? ≠ some (.new c) := by
        intro ds i c hi
        rw [List.getElem?_map] at hi
        cases q : ds[i]? with
        | none => rw [q] at hi; cases hi
        | some d => rw [q] at hi; cases hi
      clear o e r1 h1
      induction rs generalizing vs with
      | nil =>
        cases vs with
        | nil => exact hb _ _
        | cons _ _ => cases hl
      | cons r rs ih =>
        cases vs with
        | nil => cases hl
        | cons v vs =>
          refine ⟨n1.1, fun c p er ev i c' hi hv => ?_, ih vs n1.2.2 (by simpa using hl)⟩
          have hl' : rs.length = vs.length := by simpa using hl
          have hi : (rs ++ ds.map R.val)[i]? = some (.new c') := hi
          have hv : (vs ++ dvs)[i]? = some (.ref p) := hv
          by_cases hlt : i < rs.length
          · rw [List.getElem?_append_left hlt] at hi
            rw [List.getElem?_append_left (by omega)] at hv
            exact n1.2.1 c p er ev i c' hi hv
          · rw [List.getElem?_append_right (by omega)] at hi
            exact hno _ _ _ hi
    exact apply_sp p h1 h2 o
theorem e_call (c : Cc g t cf X W j) (k : Nat) {x : Str} {e : Expr} {es : List Expr} {ms : M (List R)} {p pos : Pos} (hg : Gl X x) (hm : X.mg x = some (.ref (t.adr k))) (hk : PySem.W.keepIn X.K (.ref (t.adr k)) = true) (ha : PA X (e :: es) (TAv g W ms))
    (hdb : (x == ("__debug__" : Str)) = false := by decide) (he : starEach (e :: es) X.env = (false, eval e X.env) :: starEach es X.env := by rfl) (hpl : (backTo pos (starEach es X.env)).any (·.1) = false := by rfl) :
    PE X (.Call (.Name x p) (e :: es) [] pos) (TEv g W (callM cf k [] ms)) := by
  refine ⟨fun pins s σ H Q I h => ?_⟩
  refine wpAny_Call_Name_kw (ld_glob I hg hm (PySem.W.callWith_K (h₀ := X.base) I.ok.mod.kin hk ?_ he hpl) hdb)
  refine thn (ha.run pos pins s σ H _ I (tev_call (fun _ => .nil) h)) fun us s1 ⟨vs, H1, I1, r, q⟩ => ⟨I1.kIn, call_run c I1 r ?_⟩
  have q : spF g cf k (vs ++ []) H1 Q (fun cls d H' => W cls d σ H') := q
  rw [List.append_nil] at q
  exact q
/-- no argument -/
theorem e_call0 (c : Cc g t cf X W j) (k : Nat) {x : Str} {p pos : Pos} (hg : Gl X x) (hm : X.mg x = some (.ref (t.adr k))) (hk : PySem.W.keepIn X.K (.ref (t.adr k)) = true) (hdb : (x == ("__debug__" : Str)) = false := by decide) :
    PE X (.Call (.Name x p) [] [] pos) (TEv g W (callM cf k [] (M.pure []))) := by
  refine ⟨fun pins s σ H Q I h => ?_⟩
  have q := tav_nil (tev_call (fun _ => .nil) h)
  exact wpAny_Call_Name_kw (ld_glob I hg hm (PySem.W.callWith_K0 I.kIn hk (call_run (us := []) c I .nil q)) hdb)

/-! ### methods, attributes -/
def methM (t : Gf) (cf : CF) (m : Str) (ma : M R) (ms : M (List R)) : M R := fun env => match ma env with
  | .ok r e => match peek e r with
    | some (.obj c fs) => match t.att c m, valP fs m with
      | some (.meth k), none => match ms e with
        | .ok rs e2 => applyM cf k (r :: rs) e2
        | .ex x e2 => .ex x e2
        | .bad => .bad
      | _, _ => .bad
    | _ => .bad
  | .ex x e => .ex x e
  | .bad => .bad
theorem RepF.val {fs : List (Str × P)} {ws : List (Str × V)} (r : RepF g.K g.cl F fs ws) (k : Str) : (∃ x v, valP fs k = some x ∧ ws.lookup k = some v ∧ gRep g F x v) ∨ (valP fs k = none ∧ ws.lookup k = none) := by
  match r with
  | .nil => exact .inr ⟨rfl, rfl⟩
  | .cons (k := k') (x := x) (v := v) (xs := xs) (vs := vs) h q =>
    by_cases e : k' = k
    · subst e
      exact .inl ⟨x, v, by simp [valP], by simp [List.lookup_cons], h⟩
    · have e2 : (k == k') = false := beq_eq_false_iff_ne.mpr fun z => e z.symm
      rcases RepF.val q k with ⟨x', v', h1, h2, h3⟩ | ⟨h1, h2⟩
      · exact .inl ⟨x', v', by simpa [valP, e] using h1, by simpa [List.lookup_cons, e2] using h2, h3⟩
      · exact .inr ⟨by simpa [valP, e] using h1, by simpa [List.lookup_cons, e2] using h2⟩
theorem rnf_cons {r : R} {v : V} {rs : List R} {vs : List V} (p1 : gPost g F ow σ env H F1 ow1 σ env1 H1) (r1 : gRR g F1 ow1 σ env1 r v) (n1 : RNF ow σ env r v) (n2 : RNFs ow1 σ env1 rs vs) : RNFs ow σ env (r :: rs) (v :: vs) := by
  refine ⟨n1, fun c q er ev i c' hi hv => ?_, n2.back p1⟩
  subst er ev
  obtain ⟨q', eq, o1, f1⟩ := r1
  cases eq
  exact n2.apart o1 f1 i c' hi hv
theorem tev_meth (st : GSt g t) {m : Str} {ma : M R} {ms : M (List R)} (h : TEv g W (methM t cf m ma ms) σ H Q) :
    TEv g W ma σ H fun x H1 => ∃ c a dx ws k, x = .ref a ∧ H1 a = some (.ins (g.cl c) dx ws) ∧ ws.lookup m = none ∧ Cls g.K (g.cl c) ∧ Meth g.K (g.cl c) m (t.adr k) ∧
      TAv g W ms σ H1 fun vs H2 => spF g cf k (x :: vs) H2 Q (fun cls d H' => W cls d σ H') := by
  obtain ⟨F, ow, env, l, o⟩ := h
  refine ⟨F, ow, env, l, ?_⟩
  unfold methM at o
  cases e : ma env with
  | bad => rw [e] at o; exact o
  | ex x env' => rw [e] at o; exact o
  | ok r e1 =>
    rw [e] at o
    intro v F1 ow1 H1 p1 r1 n1
    dsimp only at o
    split at o
    · rename_i c fs hz
      split at o
      · rename_i k hk hn
        cases r1.shape p1.rel hz with
        | obj ha rf =>
          rename_i a dx ws
          refine ⟨c, a, dx, ws, k, rfl, ha, ?_, (st.cls c m _ hk).1, st.meth c m k hk, F1, ow1, e1, p1.rel, ?_⟩
          · rcases rf.val m with ⟨x, v, h1, _⟩ | ⟨_, h2⟩
            · rw [hn] at h1; cases h1
            · exact h2
          · cases e2 : ms e1 with
            | bad => rw [e2] at o; exact o
            | ex x e' =>
              rw [e2] at o
              exact fun F' ow' H' cls d p' x' => o F' ow' H' cls d (p1.trans p') x'
            | ok rs e3 =>
              rw [e2] at o
              intro vs F2 ow2 H2 p2 rr nn
              exact apply_sp (rs := r :: rs) (p1.trans p2) ⟨r1.post p2, rr⟩ (rnf_cons p1 r1 n1 nn) o
      · exact o.elim
    · exact o.elim
theorem e_meth (c : Cc g t cf X W j) {pl : Sem Bool} {m : Str} {o e : Expr} {es : List Expr} {ma : M R} {ms : M (List R)} {apos pos : Pos} (ho : PE X o (TEv g W ma)) (ha : PA X (e :: es) (TAv g W ms))
    (hst : starEach (e :: es) X.env = (false, eval e X.env) :: starEach es X.env := by rfl) (hpl : (backTo pos (starEach es X.env)).any (·.1) = false := by rfl)
    (ht : eval (.Call (.Attribute o m apos) (e :: es) [] pos) X.env = (eval o X.env >>= fun ov => standAt apos.atName >>= fun _ => holding [ov] (getMethod ov m pl) >>= fun fx => callWith pos fx.1 fx.2 (backTo pos (starEach (e :: es) X.env)) (backToKw pos (keywordEach [] X.env))) := by rfl) :
    PE X (.Call (.Attribute o m apos) (e :: es) [] pos) (TEv g W (methM t cf m ma ms)) := by
  refine ⟨fun pins s σ H Q I h => ?_⟩
  refine PySem.W.methodCall_KW (pl := pl) (thn (ho.run pins s σ H _ I (tev_meth c.st h)) fun u s1 ⟨x, H1, I1, rx, cc, a, dx, ws, k, ex, ea, hl, k1, k2, q⟩ => ?_) ht
  subst ex
  cases rx
  rw [← c.K] at k1 k2
  refine getmeth_ok I1 ea k1 k2 hl (PySem.W.callWith_K (first := [.ref a]) (h₀ := X.base) I.ok.mod.kin k2.kp (thn (ha.run pos pins s1 σ H1 _ I1 q) fun us s2 ⟨vs, H2, I2, r, q2⟩ => ⟨I2.kIn, ?_⟩) hst hpl)
  exact call_run c I2 (us := .ref a :: us) (vs := .ref a :: vs) (.cons rfl r) q2
theorem e_meth0 (c : Cc g t cf X W j) {pl : Sem Bool} {m : Str} {o : Expr} {ma : M R} {apos pos : Pos} (ho : PE X o (TEv g W ma))
    (ht : eval (.Call (.Attribute o m apos) [] [] pos) X.env = (eval o X.env >>= fun ov => standAt apos.atName >>= fun _ => holding [ov] (getMethod ov m pl) >>= fun fx => callWith pos fx.1 fx.2 (backTo pos (starEach [] X.env)) (backToKw pos (keywordEach [] X.env))) := by rfl) :
    PE X (.Call (.Attribute o m apos) [] [] pos) (TEv g W (methM t cf m ma (M.pure []))) := by
  refine ⟨fun pins s σ H Q I h => ?_⟩
  refine PySem.W.methodCall_KW (pl := pl) (thn (ho.run pins s σ H _ I (tev_meth c.st h)) fun u s1 ⟨x, H1, I1, rx, cc, a, dx, ws, k, ex, ea, hl, k1, k2, q⟩ => ?_) ht
  subst ex
  cases rx
  rw [← c.K] at k1 k2
  exact getmeth_ok I1 ea k1 k2 hl (PySem.W.callWith_K0 (first := [.ref a]) I1.kIn k2.kp (call_run c I1 (us := [.ref a]) (vs := [.ref a]) (.cons rfl .nil) (tav_nil q)))
/-- nothing is raised there -/
def noEx : Out R → Out R
  | .ex _ _ => .bad
  | o => o
theorem noEx_ok {o : Out R} (h : OutE g W F ow σ env H Q (noEx o)) : OutE g (fun _ _ _ _ => False) F ow σ env H Q o := by
  cases o with
  | bad => exact h
  | ex x e => exact h.elim
  | ok r e => exact h
def attrM (t : Gf) (cf : CF) (f : Str) (ma : M R) : M R := fun env => match ma env with
  | .ok r e => match peek e r with
    | some (.obj c fs) => match t.att c f with
      | some .fld => match valP fs f with
        | some x => .ok (.val x) e
        | none => .bad
      | some (.prop k) => noEx (applyM cf k [r] e)
      | _ => .bad
    | _ => .bad
  | .ex x e => .ex x e
  | .bad => .bad
theorem e_attr (c : Cc g t cf X W j) {f : Str} {a : Expr} {ma : M R} {pos : Pos} (ha : PE X a (TEv g W ma)) (hab : attributeBase a f X.env (eval a X.env) = eval a X.env := by rfl) : PE X (.Attribute a f pos) (TEv g W (attrM t cf f ma)) := by
  refine ⟨fun pins s σ H Q I h => ?_⟩
  have h2 : TEv g W ma σ H fun x H1 => ∃ cc a dx ws, x = .ref a ∧ H1 a = some (.ins (g.cl cc) dx ws) ∧ Cls g.K (g.cl cc) ∧
      ((NoAttr g.K (g.cl cc) f ∧ ∃ v, ws.lookup f = some v ∧ Q v H1) ∨ ∃ k p, PropOf g.K (g.cl cc) f p (t.adr k) ∧ spF g cf k [x] H1 Q (fun _ _ _ => False)) := by
    obtain ⟨F, ow, env, l, o⟩ := h
    refine ⟨F, ow, env, l, ?_⟩
    unfold attrM at o
    cases e : ma env with
    | bad => rw [e] at o; exact o
    | ex x env' => rw [e] at o; exact o
    | ok r e1 =>
      rw [e] at o
      intro v F1 ow1 H1 p1 r1 n1
      dsimp only at o
      split at o
      · rename_i cc fs hz
        split at o
        · rename_i hat
          split at o
          · rename_i y hy
            cases r1.shape p1.rel hz with
            | obj ho rf =>
              rename_i a dx ws
              refine ⟨cc, a, dx, ws, rfl, ho, (c.st.cls cc f _ hat).1, .inl ⟨c.st.fld cc f hat, ?_⟩⟩
              rcases rf.val f with ⟨x, w, h1, h2, h3⟩ | ⟨h1, _⟩
              · rw [hy] at h1; cases h1
                exact ⟨w, h2, o w F1 ow1 H1 p1 h3 trivial⟩
              · rw [hy] at h1; cases h1
          · exact o.elim
        · rename_i k hat
          cases r1.shape p1.rel hz with
          | obj ho rf =>
            rename_i a dx ws
            obtain ⟨p, hp⟩ := c.st.prop cc f k hat
            exact ⟨cc, a, dx, ws, rfl, ho, (c.st.cls cc f _ hat).1, .inr ⟨k, p, hp, apply_sp (rs := [r]) (vs := [.ref a]) p1 ⟨r1, trivial⟩ ⟨n1, fun _ _ _ _ i c' hi _ => by simp at hi, trivial⟩ (noEx_ok o)⟩⟩
        · exact o.elim
      · exact o.elim
  refine attr_of hab (thn (ha.run pins s σ H _ I h2) fun u s1 ⟨x, H1, I1, rx, cc, a, dx, ws, ex, ea, k1, q⟩ => ?_)
  subst ex
  cases rx
  rw [← c.K] at k1
  rcases q with ⟨n, v, hl, q⟩ | ⟨k, p, hp, q⟩
  · rw [← c.K] at n
    exact getattr_ok I1 ea k1 n hl fun u s' I' r => ⟨v, H1, I', r, q⟩
  · rw [← c.K] at hp
    -- the getter's call
    obtain ⟨mA, O, _, _, _, _⟩ := ins_get I1.hok ea
    obtain ⟨od, J, _⟩ := O.look
    obtain ⟨rest, hrec⟩ := hp.rec_
    have hc : (PySem.W.clsIn X.K (g.cl cc)).isSome = true := by
      obtain ⟨cd, hc, _⟩ := PySem.W.any_some k1.hd
      rw [hc]; rfl
    have I2 := I1.tok (s1.toks + 1)
    have hb := c.st.bind k { s1 with toks := s1.toks + 1 } [.ref a] (by have := I2.kIn; rw [c.K] at this; exact this) (by rw [List.append_nil]; exact (c.fn k).len _ _ _ _ q)
    refine PySem.W.get_bind I1.kIn J (PySem.W.plainGet_of (k1.get f)).1 (PySem.W.findObj_data hc hp.at_ hp.get hp.tak) (PySem.W.plainGet_of (k1.get f)).2 (wpAny_call (PySem.W.prop_get (s := { s1 with toks := s1.toks + 1 }) I1.kIn hrec ?_))
    refine codeAny_mono ((c.fn k).run X.A.in1 X.stack { s1 with toks := s1.toks + 1 } H1 ⟨[.ref a], []⟩ [.ref a] [.ref a] Q (fun _ _ _ => False) c.room.in1 I2.env0.in1 hb (.cons rfl .nil) q) fun r s' hq => ?_
    cases r with
    | error er =>
      obtain ⟨_, _, _, _, _, _, _, _, _, _, _, _, z⟩ := hq
      exact z.elim
    | ok fl =>
      cases fl with
      | ret u =>
        obtain ⟨v, H', I3, rv, q3⟩ := I2.after hq
        show wpAny _ _ (handedOut u) _ _ _
        rw [PySem.W.handedOut_of (handed_of rv)]
        exact wpAny_pure ⟨v, H', I3, rv, q3⟩
      | _ => exact hq.elim
end
end Pi

/-! Pc9: new objects, displays, tests. -/
namespace Pi
open PySem PySem.Spec L2 PyProof.Rows
def newM (t : Gf) (cf : CF) (c : Nat) (ms : M (List R)) : M R := fun env => match ms env with
  | .ok rs e => match t.init c, slotsOf e rs with
    | some k, some ss => match cf k (.own (.obj c []) true :: ss) with
      | .ok (.val .non) (s0 :: ss') => match s0 with
        | .own (.obj c' fs) _ => .ok (.new (.obj c' fs)) (backE e rs ss')
        | .val x _ => .ok (.val x) (backE e rs ss')
        | _ => .bad
      | .ex x (_ :: ss') => .ex x (backE e rs ss')
      | _ => .bad
    | _, _ => .bad
  | .ex x e => .ex x e
  | .bad => .bad
section
variable {g : Gm} {t : Gf} {cf : CF} {X : Cx} {W : WX'} {j : Nat} {F F' F1 F2 : Hp} {ow ow' ow1 ow2 : Ow} {σ σ' σ1 σ2 : L2.St} {env env' env1 env2 : En} {H H' H1 H2 : Hp} {Q : VK}
theorem backE_own {rs : List R} {ss : List Sl} {i : Nat} {c : C} {f : Bool} (h : (backE env rs ss)[i]? = some (.own c f)) : ∃ c0, env[i]? = some (.own c0 f) := by
  rw [backE_get] at h
  cases q : env[i]? with
  | none => rw [q] at h; cases h
  | some s0 =>
    rw [q] at h
    simp only [Option.map_some, Option.some.injEq] at h
    cases s0 with
    | no => cases h
    | val x f => cases h
    | own c0 f0 =>
      unfold backS at h
      dsimp only at h
      split at h <;> cases h <;> exact ⟨_, rfl⟩
/-- C(..)'s own __init__ keeps its promise at a new instance -/
theorem tev_new {c : Nat} {ms : M (List R)} (h : TEv g W (newM t cf c ms) σ H Q) : TAv g W ms σ H fun vs H1 => ∃ k, t.init c = some k ∧ ∀ x dx, H1 x = none → H1 dx = none → dx ≠ x →
    spF g cf k (.ref x :: vs) (upd (upd H1 dx (.own x)) x (.ins (g.cl c) dx [])) (fun v H2 => v = .non ∧ Q (.ref x) H2) (fun cls d H' => W cls d σ H') := by
  obtain ⟨F, ow, env, l, o⟩ := h
  refine ⟨F, ow, env, l, ?_⟩
  unfold newM at o
  cases e : ms env with
  | bad => rw [e] at o; exact o
  | ex x env' => rw [e] at o; exact o
  | ok rs env1 =>
    rw [e] at o
    intro vs F1 ow1 H1 p r1 n1
    dsimp only at o
    cases ei : t.init c with
    | none => rw [ei] at o; exact o.elim
    | some k =>
      cases es : slotsOf env1 rs with
      | none => rw [ei, es] at o; exact o.elim
      | some ss =>
        rw [ei, es] at o
        dsimp only at o
        refine ⟨k, rfl, fun x dx hx hdx hne => ?_⟩
        have l1 := p.rel
        have hx' : (upd H1 dx (.own x)) x = none := by rw [upd_ne (Ne.symm hne)]; exact hx
        have l2 := (l1.lay (o := .own x) hdx).lay (o := .ins (g.cl c) dx []) hx'
        obtain ⟨fF, fo⟩ := l1.free hx
        have nh := l1.notHeld hx
        have l3 : gRel g F1 (setO ow1 x (.obj c [])) σ env1 (upd (upd H1 dx (.own x)) x (.ins (g.cl c) dx [])) := by
          refine ⟨l2.ext, fun q c' hq => ?_, l2.len, fun i s hs => ?_, l2.inj⟩
          · by_cases z : q = x
            · subst z; rw [setO_same] at hq; cases hq; exact ⟨fF, dx, [], upd_same, .nil⟩
            · rw [setO_ne z] at hq; exact l2.own q c' hq
          · have q := l2.slot i s hs
            cases s with
            | no => trivial
            | val y f => exact q
            | own c' f =>
              obtain ⟨p', hp', o'⟩ := q
              have : p' ≠ x := by rintro rfl; rw [fo] at o'; cases o'
              exact ⟨p', hp', by rw [setO_ne this]; exact o'⟩
        have p13 : gPost g F1 ow1 σ env1 H1 F1 (setO ow1 x (.obj c [])) σ env1 (upd (upd H1 dx (.own x)) x (.ins (g.cl c) dx [])) :=
          ⟨Ext.refl _, l3, fun q c' hq hf => ⟨by rw [setO_ne (by rintro rfl; rw [fo] at hq; cases hq)]; exact hq, hf⟩, fun i s hs hf => ⟨rfl, s, hs, hf⟩, fun q o u hq => by rw [upd_ne (ne_of_none hq hx), upd_ne (ne_of_none hq hdx)]; exact hq⟩
        have p03 := p.trans p13
        have rr : RRs g F1 (setO ow1 x (.obj c [])) σ env1 (.new (.obj c []) :: rs) (.ref x :: vs) := ⟨⟨x, rfl, setO_same, nh⟩, r1.post p13⟩
        have nn : RNFs ow σ env (.new (.obj c []) :: rs) (.ref x :: vs) := by
          refine ⟨fun q eq c' hq hf => ?_, fun c' q _ eq i c2 hi hv => ?_, n1⟩
          · cases eq
            obtain ⟨h1, _⟩ := p.frame x c' hq hf
            rw [fo] at h1; cases h1
          · cases eq
            obtain ⟨w, hw, q, eq, o2, _⟩ := r1.get hi
            rw [hv] at hw; cases hw; cases eq
            rw [fo] at o2; cases o2
        have es' : slotsOf env1 (.new (.obj c []) :: rs) = some (.own (.obj c []) true :: ss) := by
          simp only [slotsOf, slotR, es, fresh1, if_true]
        refine ⟨F1, setO ow1 x (.obj c []), .own (.obj c []) true :: ss, callee_rel l3 rr nn es', ?_⟩
        have bk : ∀ s0 ss', backE env1 (.new (.obj c []) :: rs) (s0 :: ss') = backE env1 rs ss' := fun _ _ => rfl
        cases e2 : cf k (.own (.obj c []) true :: ss) with
        | bad => rw [e2] at o; exact o
        | ex ex1 ss1 =>
          rw [e2] at o
          intro F' ow' H' cls d pp xr
          cases ss1 with
          | nil => exact o.elim
          | cons s0 ss' =>
            have := call_post p03 rr nn es' pp
            rw [bk] at this
            exact o F' ow' H' cls d this xr
        | ok r ss1 =>
          rw [e2] at o
          intro v F' ow' H' pp rr2 rn2
          cases r with
          | new _ => exact o.elim
          | «at» _ => exact o.elim
          | val y =>
            cases ss1 with
            | nil => cases y <;> exact o.elim
            | cons s0 ss' =>
              cases y <;> first | exact o.elim | skip
              cases (show gRep g F' .non v from rr2)
              refine ⟨rfl, ?_⟩
              have cp := call_post p03 rr nn es' pp
              rw [bk] at cp
              have s0q := pp.rel.slot 0 s0 rfl
              cases s0 with
              | no => exact o.elim
              | val x' f =>
                obtain ⟨w, hw, rp⟩ := s0q
                cases hw
                exact o _ F' ow' H' cp rp trivial
              | own c' f =>
                cases c' with
                | lst _ => exact o.elim
                | dic _ => exact o.elim
                | obj c2 fs =>
                  obtain ⟨p0, hp0, op0⟩ := s0q
                  cases hp0
                  refine o _ F' ow' H' cp ⟨x, rfl, op0, fun i c3 f3 hi hs => ?_⟩ fun q eq c4 hq hf => ?_
                  · obtain ⟨c0, h0⟩ := backE_own hi
                    exact nh i c0 f3 h0 hs
                  · cases eq
                    obtain ⟨h1, _⟩ := p.frame x c4 hq hf
                    rw [fo] at h1; cases h1
theorem make_run (c : Cc g t cf X W j) {cc k : Nat} {pins : List (Addr × Obj)} {s : Shared} {us : List Value} {vs : List V} (hk : t.init cc = some k) (I : Inv X pins σ H s) (r : Vals vs us)
    (h : ∀ x dx, H x = none → H dx = none → dx ≠ x → spF g cf k (.ref x :: vs) (upd (upd H dx (.own x)) x (.ins (g.cl cc) dx [])) (fun v H2 => v = .non ∧ Q (.ref x) H2) (fun cls d H' => W cls d σ H')) :
    wpAny (model X.prog X.w) X.A (call (.ref (g.cl cc)) us) (EP X pins σ Q) X.xe s := by
  have mk := c.st.mko cc k hk
  rw [← c.K] at mk
  have hq := h (s.heap.objs.size + 1) s.heap.objs.size (I.hok.fresh (Nat.le_succ _)) (I.hok.fresh (Nat.le_refl _)) (Nat.ne_of_lt (Nat.lt_succ_self _))
  have I2 := Inv.made (C := g.cl cc) I
  have r2 : Vals (V.ref (s.heap.objs.size + 1) :: vs) (Value.ref (s.heap.objs.size + 1) :: us) := .cons rfl r
  have hl := (c.fn k).len _ _ _ _ hq
  have hb := c.st.bind k _ (Value.ref (s.heap.objs.size + 1) :: us) (by have := I2.kIn; rw [c.K] at this; exact this) (by rw [List.append_nil, ← r2.length]; exact hl)
  rw [List.append_nil] at hb
  refine wpAny_call (make_map (f := t.adr k) I.kIn mk.makes mk.init (beq_iff_eq.mp mk.fn) (codeAny_mono ((c.fn k).run _ X.stack _ _ ⟨Value.ref (s.heap.objs.size + 1) :: us, []⟩ _ _ _ (fun cls d H' => W cls d σ H') (c.room.make (g.cl cc) us []) (I2.env0.make (g.cl cc) us []) hb r2 hq) fun r s' hq' => ?_))
  cases r with
  | error e => exact pass_at c σ pins _ _ e s' I2 hq'
  | ok fl =>
    cases fl with
    | ret u =>
      obtain ⟨v, H', I3, rv, ev, q3⟩ := I2.after hq'
      subst ev
      exact ⟨rv, V.ref (s.heap.objs.size + 1), H', I3, rfl, q3⟩
    | _ => exact hq'.elim
theorem e_new (c : Cc g t cf X W j) (cc : Nat) {x : Str} {e : Expr} {es : List Expr} {ms : M (List R)} {p pos : Pos} (hg : Gl X x) (hm : X.mg x = some (.ref (g.cl cc))) (hk : PySem.W.keepIn X.K (.ref (g.cl cc)) = true) (ha : PA X (e :: es) (TAv g W ms))
    (hdb : (x == ("__debug__" : Str)) = false := by decide) (he : starEach (e :: es) X.env = (false, eval e X.env) :: starEach es X.env := by rfl) (hpl : (backTo pos (starEach es X.env)).any (·.1) = false := by rfl) :
    PE X (.Call (.Name x p) (e :: es) [] pos) (TEv g W (newM t cf cc ms)) := by
  refine ⟨fun pins s σ H Q I h => ?_⟩
  refine wpAny_Call_Name_kw (ld_glob I hg hm (PySem.W.callWith_K (h₀ := X.base) I.ok.mod.kin hk ?_ he hpl) hdb)
  exact thn (ha.run pos pins s σ H _ I (tev_new h)) fun us s1 ⟨vs, H1, I1, r, k, hki, q⟩ => ⟨I1.kIn, make_run c hki I1 r q⟩

/-! ### displays -/
def dispM (f : List P → O1) (ms : M (List R)) : M R := fun env => match ms env with
  | .ok rs e => match freezes e rs with
    | some (xs, e2) => if xs.length ≤ lim then .ok (f xs).r e2 else .bad
    | none => .bad
  | .ex x e => .ex x e
  | .bad => .bad
theorem disp_ok {f : List P → O1} {ms : M (List R)} (h : TEv g W (dispM f ms) σ H Q) : TAv g W ms σ H fun vs H1 => vs.length ≤ sizeLine ∧ ∃ F xs, Reps g.K g.cl F xs vs ∧ ∀ v H2, O1R g F H1 (f xs) v H2 → Q v H2 := by
  obtain ⟨F, ow, env, l, o⟩ := h
  refine ⟨F, ow, env, l, ?_⟩
  unfold dispM at o
  cases e : ms env with
  | bad => rw [e] at o; exact o
  | ex x env' => rw [e] at o; exact o
  | ok rs env1 =>
    rw [e] at o
    intro vs F1 ow1 H1 p r1 n1
    dsimp only at o
    cases e2 : freezes env1 rs with
    | none => rw [e2] at o; exact o.elim
    | some q =>
      obtain ⟨xs, env2⟩ := q
      rw [e2] at o
      dsimp only at o
      split at o
      · rename_i hl
        obtain ⟨F2, ow2, p2, r2, _⟩ := freezes_ok p r1 n1 e2
        refine ⟨lim_line (by rw [← r2.len]; exact hl), F2, xs, r2, fun v H2 h2 => ?_⟩
        obtain ⟨F3, ow3, p3, r3, n3⟩ := out_post p2 h2
        exact o v F3 ow3 H2 p3 r3 n3
      · exact o.elim
theorem TAv.mono {ms : M (List R)} {Q Q' : List V → Hp → Prop} (h : TAv g W ms σ H Q) (q : ∀ v H1, Q v H1 → Q' v H1) : TAv g W ms σ H Q' := by
  obtain ⟨F, ow, env, l, o⟩ := h
  refine ⟨F, ow, env, l, ?_⟩
  cases e : ms env with
  | bad => rw [e] at o; exact o
  | ex x env' => rw [e] at o; exact o
  | ok r env1 => rw [e] at o; exact fun v F1 ow1 H1 p r1 n1 => q _ _ (o v F1 ow1 H1 p r1 n1)
theorem e_lst {es : List Expr} {ms : M (List R)} {pos : Pos} (h : PA X es (TAv g W ms)) : PE X (.List es pos) (TEv g W (dispM (fun xs => .mk (.lst xs)) ms)) :=
  PE.imp (pe_lst h) fun _ _ _ q => (disp_ok q).mono fun vs H1 ⟨hl, F, xs, r, k⟩ => ⟨hl, fun p n => k _ _ ⟨p, _, n, rfl, rfl, vs, rfl, r⟩⟩
theorem e_tup {es : List Expr} {ms : M (List R)} {k : Nat} {pos : Pos} (h : PA X es (TAv g W ms)) : PE X (.Tuple es k pos) (TEv g W (dispM .tp ms)) :=
  PE.imp (pe_tup h) fun _ _ _ q => (disp_ok q).mono fun vs H1 ⟨hl, F, xs, r, k⟩ => ⟨hl, fun p n => k _ _ ⟨p, vs, n, rfl, rfl, r⟩⟩
def dic0M : M R := fun env => .ok (.new (.dic [])) env
theorem e_dic0 {pos : Pos} : PE X (.Dict [] [] pos) (TEv g W dic0M) := PE.imp pe_dnewK fun σ H Q h => by
  obtain ⟨F, ow, env, l, o⟩ := h
  intro p n
  obtain ⟨F2, ow2, p2, r2, n2⟩ := out_post (o := .mk (.dic [])) (v := .ref p) (Post.refl l) (H2 := upd H p (.dK [])) ⟨p, _, n, rfl, rfl, [], rfl, .nil⟩
  exact o _ F2 ow2 _ p2 r2 n2

/-! ### truth -/
def truthM (t : Gf) (cf : CF) (r : R) (env : En) : Out Bool := match peek env r with
  | some .non => .ok false env
  | some (.bl b) => .ok b env
  | some (.int i) => .ok (i != 0) env
  | some (.str s) => if s.length ≤ lim then .ok ((s.length : Int) != 0) env else .bad
  | some (.lst xs) => .ok (!xs.isEmpty) env
  | some (.tup xs) => .ok (!xs.isEmpty) env
  | some (.dic kvs) => .ok (!kvs.isEmpty) env
  | some (.obj c _) => match t.att c "__bool__" with
    | some (.meth k) => match applyM cf k [r] env with
      | .ok (.val (.bl b)) e => .ok b e
      | .ok _ _ => .bad
      | .ex x e => .ex x e
      | .bad => .bad
    | _ => .bad
  | none => .bad
def tM (t : Gf) (cf : CF) (m : M R) : M Bool := fun env => match m env with
  | .ok r e => truthM t cf r e
  | .ex x e => .ex x e
  | .bad => .bad
/-- a value may be tested -/
def TruW (X : Cx) (σ : L2.St) (x : V) (H : Hp) (Q : Bool → Hp → Prop) : Prop :=
  ∀ (pins : List (Addr × Obj)) (s : Shared) (v : Value), Inv X pins σ H s → RelV x v → wpAny (model X.prog X.w) X.A (truthy v) (TP X pins σ Q) X.xe s
theorem truV {x : V} {Q : Bool → Hp → Prop} {k : Bool} (h : TruV X.K x H k) (q : Q k H) : TruW X σ x H Q := fun pins s v I r => tru_ok pins s σ H x v Q I r ⟨k, h, q⟩
theorem truth_ok (c : Cc g t cf X W j) {r : R} {x : V} {Q : Bool → Hp → Prop} (p : gPost g F ow σ env H F1 ow1 σ env1 H1) (r1 : gRR g F1 ow1 σ env1 r x) (n1 : RNF ow σ env r x) (o : OutT g W F ow σ env H Q (truthM t cf r env1)) : TruW X σ x H1 Q := by
  have emp : ∀ {xs : List P} {vs : List V}, Reps g.K g.cl F1 xs vs → (!vs.isEmpty) = !xs.isEmpty := fun r => by cases r <;> rfl
  unfold truthM at o
  split at o
  · rename_i e; cases r1.shape p.rel e; exact truV (k := false) rfl (o F1 ow1 H1 p)
  · rename_i e; cases r1.shape p.rel e; exact truV rfl (o F1 ow1 H1 p)
  · rename_i e; cases r1.shape p.rel e; exact truV rfl (o F1 ow1 H1 p)
  · rename_i e
    cases r1.shape p.rel e
    split at o
    · rename_i hl; exact truV ⟨lim_line hl, rfl⟩ (o F1 ow1 H1 p)
    · exact o.elim
  · rename_i e
    cases r1.shape p.rel e with
    | lst h q => rw [← c.K] at h; exact truV (.inl ⟨_, h, (emp q).symm⟩) (o F1 ow1 H1 p)
  · rename_i e
    cases r1.shape p.rel e with
    | tup h q => rw [← c.K] at h; exact truV (.inr (.inl ⟨_, h, (emp q).symm⟩)) (o F1 ow1 H1 p)
  · rename_i e
    cases r1.shape p.rel e with
    | dic h q =>
      intro pins s v I r
      cases r
      refine d_truth I h fun s' I' => ⟨H1, I', ?_⟩
      have : ∀ {as : List (Key × P)} {ws : List (Key × V)}, RepK g.K g.cl F1 as ws → (!ws.isEmpty) = !as.isEmpty := fun r => by cases r <;> rfl
      rw [this q]
      exact o F1 ow1 H1 p
  · rename_i cc fs e
    split at o
    · rename_i k hk
      cases r1.shape p.rel e with
      | obj ha _ =>
        rename_i a dx ws
        intro pins s v I rv
        cases rv
        have me := c.st.meth cc _ k hk
        rw [← c.K] at me
        obtain ⟨mA, O, _⟩ := ins_get I.hok ha
        obtain ⟨od, J, _⟩ := O.look
        obtain ⟨m, hF⟩ := I.fr
        have o2 : OutE g W F ow σ env H (fun v H' => ∃ b, v = .bl b ∧ Q b H') (applyM cf k [r] env1) := by
          cases e2 : applyM cf k [r] env1 with
          | bad => rw [e2] at o; exact o
          | ex x e' => rw [e2] at o; exact o
          | ok q e' =>
            rw [e2] at o
            cases q with
            | new _ => exact o.elim
            | «at» _ => exact o.elim
            | val y =>
              cases y <;> first | exact o.elim | skip
              rename_i b
              intro v F' ow' H' pp rr rn
              cases (show gRep g F' (.bl b) v from rr)
              exact ⟨b, rfl, o F' ow' H' pp⟩
        have sp := apply_sp (rs := [r]) (vs := [_]) p ⟨r1, trivial⟩ ⟨n1, fun _ _ _ _ i c' hi _ => by simp at hi, trivial⟩ o2
        refine PySem.W.truthy_K hF I.ok.mod.kin J me.at_ me.fn (thn (call_run c I (by exact .cons rfl .nil) sp) fun u s1 ⟨z, H2, I2, rz, b, eb, q⟩ => ?_)
        subst eb
        cases rz
        exact ⟨H2, I2, q⟩
    · exact o.elim
  · exact o.elim
theorem tev_t (c : Cc g t cf X W j) {m : M R} {Q : Bool → Hp → Prop} (h : TTv g W (tM t cf m) σ H Q) : TEv g W m σ H fun x H1 => TruW X σ x H1 Q := by
  obtain ⟨F, ow, env, l, o⟩ := h
  refine ⟨F, ow, env, l, ?_⟩
  unfold tM at o
  cases e : m env with
  | bad => rw [e] at o; exact o
  | ex x env' => rw [e] at o; exact o
  | ok r env1 =>
    rw [e] at o
    exact fun v F1 ow1 H1 p r1 n1 => truth_ok c p r1 n1 o
/-- a plain expression as a test -/
theorem t_of (c : Cc g t cf X W j) {e : Expr} {m : M R} (h : PE X e (TEv g W m)) (he : ∀ whole, isTrue e X.env whole = (whole >>= fun v => standAt e.pos >>= fun _ => holding [v] (truthy v)) := by intro _; rfl) : PT X e (TTv g W (tM t cf m)) := by
  refine ⟨fun pins s σ H Q I q => ?_⟩
  exact isTrue_plain (thn (h.run pins s σ H _ I (tev_t c q)) fun v s1 ⟨x, H1, I1, r1, q1⟩ => q1 pins s1 v I1 r1) (he _)
theorem t_cmp (c : Cc g t cf X W j) {op : CmpOp} {o : Op} {d : Str} {iOk : Bool} {a b : Expr} {ma mb : M R} {pos : Pos} (ho : OpR X (compareOp op) (r2 g o)) (hown : OwnOp g t X (compareOp op) d iOk) (ha : PE X a (TEv g W ma)) (hb : PE X b (TEv g W mb)) (hm : behindInMarks op b = false) :
    PT X (.Compare a [op] [b] pos) (TTv g W (tM t cf (binM t cf o d iOk ma mb))) := by
  refine ⟨fun pins s σ H Q I h => ?_⟩
  refine wpAny_isTrue_Compare1 (binT ha hb I (two_of (tev_t c h)) fun v u s2 x y H2 I2 rx ry q => ?_) hm
  obtain ⟨F, ow, env, F2, ow2, env2, ra, rb, h2, out⟩ := q
  exact thn (bin_ok c ho hown I2 rx ry h2 out) fun z s3 ⟨zv, H3, I3, r3, q3⟩ => q3 pins s3 z I3 r3
def notM (m : M Bool) : M Bool := fun env => match m env with
  | .ok b e => .ok (!b) e
  | .ex x e => .ex x e
  | .bad => .bad
def andM (m n : M Bool) : M Bool := fun env => match m env with
  | .ok b e => if b = true then n e else .ok false e
  | .ex x e => .ex x e
  | .bad => .bad
def orM (m n : M Bool) : M Bool := fun env => match m env with
  | .ok b e => if b = true then .ok true e else n e
  | .ex x e => .ex x e
  | .bad => .bad
theorem t_not {e : Expr} {m : M Bool} {pos : Pos} (h : PT X e (TTv g W m)) : PT X (.UnaryOp .Not e pos) (TTv g W (notM m)) := by
  refine PT.imp (pt_not h) fun σ H Q q => ?_
  obtain ⟨F, ow, env, l, o⟩ := q
  refine ⟨F, ow, env, l, ?_⟩
  unfold notM at o
  cases e : m env with
  | bad => rw [e] at o; exact o
  | ex x env' => rw [e] at o; exact o
  | ok b env1 => rw [e] at o; exact o
theorem seqT {m n : M Bool} {Q : Bool → Hp → Prop} {s : Bool} (h : TTv g W (fun env => match m env with
      | .ok b e => if b = s then n e else .ok (!s) e
      | .ex x e => .ex x e
      | .bad => .bad) σ H Q) : TTv g W m σ H fun c H1 => if c = s then TTv g W n σ H1 Q else Q (!s) H1 := by
  obtain ⟨F, ow, env, l, o⟩ := h
  refine ⟨F, ow, env, l, ?_⟩
  dsimp only at o
  cases e : m env with
  | bad => rw [e] at o; exact o
  | ex x env' => rw [e] at o; exact o
  | ok b env1 =>
    rw [e] at o
    intro F1 ow1 H1 p
    dsimp only at o
    by_cases hb : b = s
    · rw [if_pos hb] at o ⊢
      refine ⟨F1, ow1, env1, p.rel, ?_⟩
      cases e2 : n env1 with
      | bad => rw [e2] at o; exact o
      | ex x env' => rw [e2] at o; exact fun F' ow' H' cls d p' x' => o F' ow' H' cls d (p.trans p') x'
      | ok b2 env2 => rw [e2] at o; exact fun F' ow' H' p' => o F' ow' H' (p.trans p')
    · rw [if_neg hb] at o ⊢
      exact o F1 ow1 H1 p
theorem w_and {a b : Expr} {rest : List Expr} {m n : M Bool} {pos : Pos} (h : PT X a (TTv g W m)) (h2 : PW X (.BoolOp .And (b :: rest) pos) (TTv g W n)) : PW X (.BoolOp .And (a :: b :: rest) pos) (TTv g W (andM m n)) := by
  refine ⟨fun wh pins s σ H Q I q => (pw_and h h2).run wh pins s σ H Q I ?_⟩
  exact seqT (s := true) q
theorem w_or {a b : Expr} {rest : List Expr} {m n : M Bool} {pos : Pos} (h : PT X a (TTv g W m)) (h2 : PW X (.BoolOp .Or (b :: rest) pos) (TTv g W n)) : PW X (.BoolOp .Or (a :: b :: rest) pos) (TTv g W (orM m n)) := by
  refine ⟨fun wh pins s σ H Q I q => (pw_or h h2).run wh pins s σ H Q I ?_⟩
  have q' : TTv g W (fun env => match m env with
      | .ok b e => if b = false then n e else .ok (!false) e
      | .ex x e => .ex x e
      | .bad => .bad) σ H Q := by
    obtain ⟨F, ow, env, l, o⟩ := q
    refine ⟨F, ow, env, l, ?_⟩
    unfold orM at o
    dsimp only
    cases e : m env with
    | bad => rw [e] at o; exact o
    | ex x env' => rw [e] at o; exact o
    | ok b env1 => rw [e] at o; cases b <;> exact o
  obtain ⟨F, ow, env, l, o⟩ := seqT (s := false) q'
  refine ⟨F, ow, env, l, ?_⟩
  cases e : m env with
  | bad => rw [e] at o; exact o
  | ex x env' => rw [e] at o; exact o
  | ok b env1 =>
    rw [e] at o
    intro F1 ow1 H1 p
    have := o F1 ow1 H1 p
    cases b <;> exact this
/-- .. as values, all but the last True or False -/
def andV (ma mb : M R) : M R := fun env => match ma env with
  | .ok (.val (.bl b)) e => if b = true then mb e else .ok (.val (.bl false)) e
  | .ok _ _ => .bad
  | .ex x e => .ex x e
  | .bad => .bad
def orV (ma mb : M R) : M R := fun env => match ma env with
  | .ok (.val (.bl b)) e => if b = false then mb e else .ok (.val (.bl true)) e
  | .ok _ _ => .bad
  | .ex x e => .ex x e
  | .bad => .bad
theorem seqV {ma mb : M R} {s : Bool} (h : TEv g W (fun env => match ma env with
  | .ok (.val (.bl b)) e => if b = s then mb e else .ok (.val (.bl (!s))) e
  | .ok _ _ => .bad
  | .ex x e => .ex x e
  | .bad => .bad) σ H Q) : TEv g W ma σ H fun x H1 => ∃ c, x = .bl c ∧ if c = s then TEv g W mb σ H1 Q else Q (.bl (!s)) H1 := by
  obtain ⟨F, ow, env, l, o⟩ := h
  refine ⟨F, ow, env, l, ?_⟩
  dsimp only at o
  cases e : ma env with
  | bad => rw [e] at o; exact o
  | ex x env' => rw [e] at o; exact o
  | ok r env1 =>
    rw [e] at o
    cases r with
    | new _ => exact o.elim
    | «at» _ => exact o.elim
    | val y =>
      cases y <;> first | exact o.elim | skip
      rename_i b
      intro v F1 ow1 H1 p r1 n1
      cases (show gRep g F1 (.bl b) v from r1)
      refine ⟨b, rfl, ?_⟩
      dsimp only at o
      by_cases hb : b = s
      · rw [if_pos hb] at o ⊢
        refine ⟨F1, ow1, env1, p.rel, ?_⟩
        cases e2 : mb env1 with
        | bad => rw [e2] at o; exact o
        | ex x env' => rw [e2] at o; exact fun F' ow' H' cls d p' x' => o F' ow' H' cls d (p.trans p') x'
        | ok b2 env2 => rw [e2] at o; exact fun v F' ow' H' p' rr rn => o v F' ow' H' (p.trans p') rr (rn.back p)
      · rw [if_neg hb] at o ⊢
        exact o _ F1 ow1 H1 p (.bl _) trivial
theorem e_and {a b : Expr} {rest : List Expr} {ma mb : M R} {pos : Pos} (h : PE X a (TEv g W ma)) (h2 : PE X (.BoolOp .And (b :: rest) pos) (TEv g W mb)) : PE X (.BoolOp .And (a :: b :: rest) pos) (TEv g W (andV ma mb)) :=
  PE.imp (pe_and h h2) fun _ _ _ q => seqV (s := true) q
theorem e_or {a b : Expr} {rest : List Expr} {ma mb : M R} {pos : Pos} (h : PE X a (TEv g W ma)) (h2 : PE X (.BoolOp .Or (b :: rest) pos) (TEv g W mb)) : PE X (.BoolOp .Or (a :: b :: rest) pos) (TEv g W (orV ma mb)) :=
  PE.imp (pe_or h h2) fun _ _ _ q => (seqV (s := false) q).mono fun v H1 ⟨c, e, k⟩ => ⟨c, e, by cases c <;> exact k⟩
def notV (t : Gf) (cf : CF) (m : M Bool) : M R := fun env => match m env with
  | .ok b e => .ok (.val (.bl (!b))) e
  | .ex x e => .ex x e
  | .bad => .bad
/-- not e as a value, e True or False -/
def notB (ma : M R) : M R := fun env => match ma env with
  | .ok (.val (.bl b)) e => .ok (.val (.bl (!b))) e
  | .ok _ _ => .bad
  | .ex x e => .ex x e
  | .bad => .bad
theorem e_not {a : Expr} {ma : M R} {pos : Pos} (h : PE X a (TEv g W ma)) : PE X (.UnaryOp .Not a pos) (TEv g W (notB ma)) := by
  refine PE.imp (pe_not h) fun σ H Q q => ?_
  obtain ⟨F, ow, env, l, o⟩ := q
  refine ⟨F, ow, env, l, ?_⟩
  unfold notB at o
  cases e : ma env with
  | bad => rw [e] at o; exact o
  | ex x env' => rw [e] at o; exact o
  | ok r env1 =>
    rw [e] at o
    cases r with
    | new _ => exact o.elim
    | «at» _ => exact o.elim
    | val y =>
      cases y <;> first | exact o.elim | skip
      rename_i b
      intro v F1 ow1 H1 p r1 n1
      cases (show gRep g F1 (.bl b) v from r1)
      exact ⟨b, rfl, o _ F1 ow1 H1 p (.bl _) trivial⟩
def iteM (m : M Bool) (ma mb : M R) : M R := fun env => match m env with
  | .ok b e => if b = true then ma e else mb e
  | .ex x e => .ex x e
  | .bad => .bad
theorem e_ite {c a b : Expr} {m : M Bool} {ma mb : M R} {pos : Pos} (hc : PT X c (TTv g W m)) (ha : PE X a (TEv g W ma)) (hb : PE X b (TEv g W mb)) : PE X (.IfExp c a b pos) (TEv g W (iteM m ma mb)) := by
  refine PE.imp (pe_ifExp hc ha hb) fun σ H Q q => ?_
  obtain ⟨F, ow, env, l, o⟩ := q
  refine ⟨F, ow, env, l, ?_⟩
  unfold iteM at o
  cases e : m env with
  | bad => rw [e] at o; exact o
  | ex x env' => rw [e] at o; exact o
  | ok b env1 =>
    rw [e] at o
    intro F1 ow1 H1 p
    have go : ∀ mx : M R, OutE g W F ow σ env H Q (mx env1) → TEv g W mx σ H1 Q := fun mx o => by
      refine ⟨F1, ow1, env1, p.rel, ?_⟩
      cases e2 : mx env1 with
      | bad => rw [e2] at o; exact o
      | ex x env' => rw [e2] at o; exact fun F' ow' H' cls d p' x' => o F' ow' H' cls d (p.trans p') x'
      | ok b2 env2 => rw [e2] at o; exact fun v F' ow' H' p' rr rn => o v F' ow' H' (p.trans p') rr (rn.back p)
    cases b with
    | true => exact go ma o
    | false => exact go mb o
end
end Pi

/-! Pc10: names stored, things walked, comprehensions. -/
namespace Pi
open PySem PySem.Spec L2 PyProof.Rows
section
variable {g : Gm} {t : Gf} {cf : CF} {X : Cx} {W : WX'} {j : Nat} {F F' F1 F2 : Hp} {ow ow' ow1 ow2 : Ow} {σ σ' σ1 σ2 : L2.St} {env env' env1 env2 : En} {H H' H1 H2 : Hp} {Q : VK}

/-! ### a name is stored -/
/-- slot i may be stored -/
def free1 (env : En) (i : Nat) : Bool := match env[i]? with
  | some s => !s.fix
  | none => false
theorem free1_ok {i : Nat} (h : free1 env i = true) : i < env.length ∧ ∀ s, env[i]? = some s → s.fix = false := by
  unfold free1 at h
  split at h
  · rename_i s hs
    refine ⟨(List.getElem?_eq_some_iff.mp hs).1, fun s' hs' => ?_⟩
    rw [hs] at hs'; cases hs'
    simpa using h
  · cases h
theorem set_other {α : Type} {l : List α} {i k : Nat} {x : α} (h : k ≠ i) : (l.set i x)[k]? = l[k]? := List.getElem?_set_ne (Ne.symm h)
/-- a value, or a thing that nobody holds, goes to slot i -/
theorem Rel.store {i : Nat} {s : Sl} {v : V} (l : gRel g F ow σ env H) (h : free1 env i = true) (hs : (∃ x, s = .val x false ∧ gRep g F x v) ∨ ∃ c p, s = .own c false ∧ v = .ref p ∧ ow p = some c ∧ Foreign σ env p) :
    gRel g F ow (σ.set i (some v)) (env.set i s) H ∧ (∀ q c, ow q = some c → Foreign σ env q → v ≠ .ref q → Foreign (σ.set i (some v)) (env.set i s) q) ∧
      (∀ (k : Nat) (s' : Sl), env[k]? = some s' → s'.fix = true → (σ.set i (some v))[k]? = σ[k]? ∧ (env.set i s)[k]? = some s') := by
  obtain ⟨hi, hf⟩ := free1_ok h
  have hiσ : i < σ.length := by rw [← l.len]; exact hi
  have ownAt : ∀ (k : Nat) (c : C) (f : Bool), (env.set i s)[k]? = some (.own c f) → (k = i ∧ ∃ p, s = .own c false ∧ v = .ref p ∧ Foreign σ env p) ∨ (k ≠ i ∧ env[k]? = some (.own c f)) := by
    intro k c f hk
    rcases get_set hk with ⟨e1, e2, _⟩ | ⟨e1, e2⟩
    · rcases hs with ⟨x, e3, _⟩ | ⟨c', p, e3, e4, _, fo⟩
      · rw [e3] at e2; cases e2
      · rw [e3] at e2; cases e2; exact .inl ⟨e1, p, e3, e4, fo⟩
    · exact .inr ⟨e1, e2⟩
  refine ⟨⟨l.ext, l.own, by simp [l.len], fun k s' hk => ?_, fun a b c c' f f' p ha hb ea eb => ?_⟩, fun q c hq fq hv => ?_, fun k s' hk hfk => ?_⟩
  · rcases get_set hk with ⟨e1, e2, _⟩ | ⟨e1, e2⟩
    · subst e1 e2
      rw [List.getElem?_set_self hiσ]
      rcases hs with ⟨x, rfl, r⟩ | ⟨c', p, rfl, rfl, o, _⟩
      · exact ⟨v, rfl, r⟩
      · exact ⟨p, rfl, o⟩
    · rw [set_other e1]; exact l.slot k s' e2
  · rcases ownAt a c f ha with ⟨e1, p1, _, e2, fo⟩ | ⟨e1, e2⟩
    · rcases ownAt b c' f' hb with ⟨e3, _⟩ | ⟨e3, e4⟩
      · rw [e1, e3]
      · subst e1
        rw [List.getElem?_set_self hiσ] at ea
        cases ea; cases e2
        rw [set_other e3] at eb
        exact (fo b c' f' e4 eb).elim
    · rcases ownAt b c' f' hb with ⟨e3, p1, _, e4, fo⟩ | ⟨e3, e4⟩
      · subst e3
        rw [List.getElem?_set_self hiσ] at eb
        cases eb; cases e4
        rw [set_other e1] at ea
        exact (fo a c f e2 ea).elim
      · rw [set_other e1] at ea
        rw [set_other e3] at eb
        exact l.inj a b c c' f f' p e2 e4 ea eb
  · intro k c' f hk hs'
    rcases ownAt k c' f hk with ⟨e1, p, _, e2, _⟩ | ⟨e1, e2⟩
    · subst e1
      rw [List.getElem?_set_self hiσ] at hs'
      cases hs'
      exact hv rfl
    · rw [set_other e1] at hs'
      exact fq k c' f e2 hs'
  · have : k ≠ i := by rintro rfl; rw [hf _ hk] at hfk; cases hfk
    exact ⟨set_other this, by rw [set_other this]; exact hk⟩
/-- what an expression gave goes to slot i -/
def bindR (i : Nat) (r : R) (env : En) : Option En := match r with
  | .val x => if free1 env i = true then some (env.set i (.val x false)) else none
  | .new c => if free1 env i = true then some (env.set i (.own c false)) else none
  | .at k => match freeze (.at k) env with
    | some (x, e) => if free1 e i = true then some (e.set i (.val x false)) else none
    | none => none
theorem Post.bindV {i : Nat} {x : P} {v : V} (a : gPost g F ow σ env H F1 ow1 σ1 env1 H1) (r : gRep g F1 x v) (h : free1 env1 i = true) : gPost g F ow σ env H F1 ow1 (σ1.set i (some v)) (env1.set i (.val x false)) H1 := by
  obtain ⟨h1, h2, h3⟩ := a.rel.store h (.inl ⟨x, rfl, r⟩)
  refine ⟨a.sub, h1, fun p c ho hf => ?_, fun k s hk hfk => ?_, a.frz⟩
  · obtain ⟨o, f⟩ := a.frame p c ho hf
    refine ⟨o, ?_⟩
    by_cases e : v = .ref p
    · -- a value that stands in F is nobody's own
      subst e
      intro k c' fl hk hs
      rcases get_set hk with ⟨_, z, _⟩ | ⟨e1, e2⟩
      · cases z
      · rw [set_other e1] at hs; exact f k c' fl e2 hs
    · exact h2 p c o f e
  · obtain ⟨e1, s', e2, e3⟩ := a.fix k s hk hfk
    obtain ⟨e4, e5⟩ := h3 k s' e2 e3
    exact ⟨e4.trans e1, s', e5, e3⟩
theorem Post.bindN {i : Nat} {c : C} {v : V} (a : gPost g F ow σ env H F1 ow1 σ1 env1 H1) (r : gRR g F1 ow1 σ1 env1 (.new c) v) (n : RNF ow σ env (.new c) v) (h : free1 env1 i = true) : gPost g F ow σ env H F1 ow1 (σ1.set i (some v)) (env1.set i (.own c false)) H1 := by
  obtain ⟨p, rfl, o, fo⟩ := r
  obtain ⟨h1, h2, h3⟩ := a.rel.store h (.inr ⟨c, p, rfl, rfl, o, fo⟩)
  refine ⟨a.sub, h1, fun q c' ho hf => ?_, fun k s hk hfk => ?_, a.frz⟩
  · obtain ⟨o', f⟩ := a.frame q c' ho hf
    exact ⟨o', h2 q c' o' f fun e => by cases e; exact n p rfl c' ho hf⟩
  · obtain ⟨e1, s', e2, e3⟩ := a.fix k s hk hfk
    obtain ⟨e4, e5⟩ := h3 k s' e2 e3
    exact ⟨e4.trans e1, s', e5, e3⟩
theorem Post.bindR {i : Nat} {r : R} {v : V} (a : gPost g F ow σ env H F1 ow1 σ env1 H1) (rr : gRR g F1 ow1 σ env1 r v) (n : RNF ow σ env r v) (h : Pi.bindR i r env1 = some env2) : ∃ F2 ow2, gPost g F ow σ env H F2 ow2 (σ.set i (some v)) env2 H1 := by
  cases r with
  | val x =>
    unfold Pi.bindR at h
    dsimp only at h
    split at h
    · rename_i hf
      cases h
      exact ⟨F1, ow1, a.bindV rr hf⟩
    · cases h
  | new c =>
    unfold Pi.bindR at h
    dsimp only at h
    split at h
    · rename_i hf
      cases h
      exact ⟨F1, ow1, a.bindN rr n hf⟩
    · cases h
  | «at» k =>
    unfold Pi.bindR at h
    dsimp only at h
    split at h
    · rename_i x e hz
      split at h
      · rename_i hf
        cases h
        obtain ⟨F2, ow2, p2, r2, _⟩ := a.freeze rr n hz
        exact ⟨F2, ow2, p2.bindV r2 hf⟩
      · cases h
    · cases h

/-! ### targets -/
inductive Pat where
  | var (i : Nat) | tup2 (i k : Nat) | tup3 (i k l : Nat)
def bindP (p : Pat) (x : P) (env : En) : Option En := match p with
  | .var i => bindR i (.val x) env
  | .tup2 i k => match x with
    | .tup [a, b] => match bindR i (.val a) env with
      | some e => bindR k (.val b) e
      | none => none
    | _ => none
  | .tup3 i k l => match x with
    | .tup [a, b, c] => match bindR i (.val a) env with
      | some e => match bindR k (.val b) e with
        | some e => bindR l (.val c) e
        | none => none
      | none => none
    | _ => none
def Pat.slots : Pat → List Nat
  | .var i => [i]
  | .tup2 i k => [i, k]
  | .tup3 i k l => [i, k, l]
def gPat (K : PySem.W.Frag) : Pat → TG
  | .var i => gName i
  | .tup2 i k => gTup K 2 (gCons (gName i) (gCons (gName k) gNil))
  | .tup3 i k l => gTup K 3 (gCons (gName i) (gCons (gName k) (gCons (gName l) gNil)))
theorem bindV_some {i : Nat} {x : P} (h : bindR i (.val x) env = some env') : free1 env i = true ∧ env' = env.set i (.val x false) := by
  unfold bindR at h
  dsimp only at h
  split at h
  · rename_i hf; cases h; exact ⟨hf, rfl⟩
  · cases h
theorem pat_ok {p : Pat} {x : P} {v : V} {Q : L2.St → Hp → Prop} (a : gPost g F ow σ env H F1 ow1 σ1 env1 H1) (r : gRep g F1 x v) (h : bindP p x env1 = some env2)
    (q : ∀ σ2, gPost g F ow σ env H F1 ow1 σ2 env2 H1 → (∀ k, k ∉ p.slots → σ2[k]? = σ1[k]?) → σ2.length = σ1.length → Q σ2 H1) : gPat g.K p v σ1 H1 Q := by
  cases p with
  | var i =>
    obtain ⟨hf, rfl⟩ := bindV_some (show bindR i (.val x) env1 = some env2 from h)
    exact q _ (a.bindV r hf) (fun k hk => set_other (by simpa [Pat.slots] using hk)) (by simp)
  | tup2 i k =>
    unfold bindP at h
    dsimp only at h
    split at h
    · rename_i y z
      split at h
      · rename_i e he
        obtain ⟨hf, rfl⟩ := bindV_some he
        obtain ⟨hf2, rfl⟩ := bindV_some h
        cases Shape.mk a.rel.ext r with
        | tup ht rt =>
          rename_i b vs
          cases rt with
          | cons r1 rt =>
            cases rt with
            | cons r2 rt =>
              cases rt
              refine ⟨b, _, rfl, ht, rfl, _, _, rfl, _, _, rfl, rfl, ?_⟩
              exact q _ ((a.bindV r1 hf).bindV r2 hf2) (fun n hn => by simp [Pat.slots] at hn; rw [set_other hn.2, set_other hn.1]) (by simp)
      · cases h
    · cases h
  | tup3 i k l =>
    unfold bindP at h
    dsimp only at h
    split at h
    · rename_i y z w
      split at h
      · rename_i e he
        split at h
        · rename_i e2 he2
          obtain ⟨hf, rfl⟩ := bindV_some he
          obtain ⟨hf2, rfl⟩ := bindV_some he2
          obtain ⟨hf3, rfl⟩ := bindV_some h
          cases Shape.mk a.rel.ext r with
          | tup ht rt =>
            rename_i b vs
            cases rt with
            | cons r1 rt =>
              cases rt with
              | cons r2 rt =>
                cases rt with
                | cons r3 rt =>
                  cases rt
                  refine ⟨b, _, rfl, ht, rfl, _, _, rfl, _, _, rfl, _, _, rfl, rfl, ?_⟩
                  exact q _ (((a.bindV r1 hf).bindV r2 hf2).bindV r3 hf3) (fun n hn => by simp [Pat.slots] at hn; rw [set_other hn.2.2, set_other hn.2.1, set_other hn.1]) (by simp)
        · cases h
      · cases h
    · cases h

/-! ### what is walked -/
def IterOk (g : Gm) (F H0 : Hp) (J : It) (xs : List P) : Prop := ∀ F' H, Ext F F' → (∀ a u, F' a = some u → Has H a u) → (∀ b o u, H0 b = some (.frz o u) → H b = some (.frz o u)) →
  J.stop xs.length H ∧ ∀ i x, xs[i]? = some x → J.go i H ∧ ∀ v H', J.yld i H v H' → ∃ o, O1R g F' H o v H' ∧ o.r = .val x
def OutI (g : Gm) (W : WX') (F : Hp) (ow : Ow) (σ : L2.St) (env : En) (H : Hp) (R : It → Hp → Prop) : Out (List P) → Prop
  | .ok xs env' => ∀ F' ow' H' J, gPost g F ow σ env H F' ow' σ env' H' → IterOk g F' H' J xs → R J H'
  | .ex x env' => ∀ F' ow' H' cls d, gPost g F ow σ env H F' ow' σ env' H' → XR g F' H' x cls d → W cls d σ H'
  | .bad => False
def TIv (g : Gm) (W : WX') (m : M (List P)) : TI := fun σ H R => ∃ F ow env, gRel g F ow σ env H ∧ OutI g W F ow σ env H R (m env)
/-- a list, a tuple, a dict by its keys -/
def iterM (ma : M R) : M (List P) := fun env => match ma env with
  | .ok r e => match freeze r e with
    | some (.lst xs, e2) => .ok xs e2
    | some (.tup xs, e2) => .ok xs e2
    | some (.dic kvs, e2) => .ok (kvs.map fun kv => pKey kv.1) e2
    | _ => .bad
  | .ex x e => .ex x e
  | .bad => .bad
def itemsM (ma : M R) : M (List P) := fun env => match ma env with
  | .ok r e => match freeze r e with
    | some (.dic kvs, e2) => .ok (kvs.map fun kv => .tup [pKey kv.1, kv.2]) e2
    | _ => .bad
  | .ex x e => .ex x e
  | .bad => .bad
theorem rep_lst {xs : List P} {v : V} (h : gRep g F (.lst xs) v) : ∃ a vs, v = .ref a ∧ Reps g.K g.cl F xs vs ∧ ∀ F' H, Ext F F' → (∀ a u, F' a = some u → Has H a u) → SqL g.K H a vs := by
  cases h with
  | lst h r => exact ⟨_, _, rfl, r, fun F' H e hF => h.elim (fun h => .inl (hF _ _ (e _ _ h))) fun h => h.elim (fun z => (not_rd_none z).elim) .inr⟩
theorem rep_tup {xs : List P} {v : V} (h : gRep g F (.tup xs) v) : ∃ a vs, v = .ref a ∧ Reps g.K g.cl F xs vs ∧ ∀ F' H, Ext F F' → (∀ a u, F' a = some u → Has H a u) → SqT g.K H a vs := by
  cases h with
  | tup h r => exact ⟨_, _, rfl, r, fun F' H e hF => h.elim (fun h => .inl (hF _ _ (e _ _ h))) fun h => h.elim (fun z => (not_rd_none z).elim) .inr⟩
theorem iter_l {a : Addr} {xs : List P} {vs : List V} (r : Reps g.K g.cl F xs vs) (h : ∀ F' H, Ext F F' → (∀ a u, F' a = some u → Has H a u) → SqL g.K H a vs) : IterOk g F H (Itl g.K a) xs := by
  intro F' H1 e hF _
  have q := h F' H1 e hF
  refine ⟨⟨vs, q, Nat.le_of_eq r.len.symm⟩, fun i x hx => ?_⟩
  obtain ⟨v, hv, rv⟩ := r.get hx
  refine ⟨⟨vs, v, q, hv⟩, fun w H' y => ?_⟩
  obtain ⟨rfl, y⟩ := y
  have := y vs q
  rw [hv] at this; cases this
  exact ⟨.sc x, ⟨rfl, Rep.mono e rv⟩, rfl⟩
theorem iter_t {a : Addr} {xs : List P} {vs : List V} (r : Reps g.K g.cl F xs vs) (h : ∀ F' H, Ext F F' → (∀ a u, F' a = some u → Has H a u) → SqT g.K H a vs) : IterOk g F H (Itt g.K a) xs := by
  intro F' H1 e hF _
  have q := h F' H1 e hF
  refine ⟨⟨vs, q, Nat.le_of_eq r.len.symm⟩, fun i x hx => ?_⟩
  obtain ⟨v, hv, rv⟩ := r.get hx
  refine ⟨⟨vs, v, q, hv⟩, fun w H' y => ?_⟩
  obtain ⟨rfl, y⟩ := y
  have := y vs q
  rw [hv] at this; cases this
  exact ⟨.sc x, ⟨rfl, Rep.mono e rv⟩, rfl⟩
theorem RepK.at {kvs : List (Key × P)} {ws : List (Key × V)} (r : RepK g.K g.cl F kvs ws) {i : Nat} {k : Key} {x : P} (h : kvs[i]? = some (k, x)) : ∃ v, ws[i]? = some (k, v) ∧ gRep g F x v := by
  match r, i, h with
  | .cons r1 _, 0, h => simp at h; obtain ⟨rfl, rfl⟩ := h; exact ⟨_, rfl, r1⟩
  | .cons _ q, i + 1, h =>
    obtain ⟨v, h1, h2⟩ := RepK.at q (i := i) (k := k) (x := x) (by simpa using h)
    exact ⟨v, by simpa using h1, h2⟩
theorem iter_k {d : Addr} {od : Obj} {kvs : List (Key × P)} {ws : List (Key × V)} (r : RepK g.K g.cl F kvs ws) (h : H d = some (.frz od (.dK ws))) : IterOk g F H (Itk d od ws) (kvs.map fun kv => pKey kv.1) := by
  intro F' H1 e hF hz
  have q := hz _ _ _ h
  refine ⟨⟨q, by rw [List.length_map, r.len]; exact Nat.le_refl _⟩, fun i x hx => ?_⟩
  rw [List.getElem?_map] at hx
  cases e1 : kvs[i]? with
  | none => rw [e1] at hx; cases hx
  | some kv =>
    rw [e1] at hx
    cases hx
    obtain ⟨k, y⟩ := kv
    obtain ⟨v, hv, rv⟩ := r.at e1
    refine ⟨⟨q, (List.getElem?_eq_some_iff.mp hv).1⟩, fun w H' yy => ?_⟩
    obtain ⟨rfl, k', v', h1, rfl⟩ := yy
    rw [hv] at h1; cases h1
    exact ⟨.sc (pKey k), ⟨rfl, rep_key⟩, rfl⟩
theorem iter_i {d : Addr} {od : Obj} {kvs : List (Key × P)} {ws : List (Key × V)} (r : RepK g.K g.cl F kvs ws) (h : H d = some (.frz od (.dK ws))) : IterOk g F H (Iti d od ws) (kvs.map fun kv => .tup [pKey kv.1, kv.2]) := by
  intro F' H1 e hF hz
  have q := hz _ _ _ h
  refine ⟨⟨q, by rw [List.length_map, r.len]; exact Nat.le_refl _⟩, fun i x hx => ?_⟩
  rw [List.getElem?_map] at hx
  cases e1 : kvs[i]? with
  | none => rw [e1] at hx; cases hx
  | some kv =>
    rw [e1] at hx
    cases hx
    obtain ⟨k, y⟩ := kv
    obtain ⟨v, hv, rv⟩ := r.at e1
    refine ⟨⟨q, (List.getElem?_eq_some_iff.mp hv).1⟩, fun w H' yy => ?_⟩
    obtain ⟨T, k', v', h1, rfl, hn, rfl⟩ := yy
    rw [hv] at h1; cases h1
    exact ⟨.tp [pKey k, y], ⟨T, _, hn, rfl, rfl, .cons rep_key (.cons (Rep.mono e rv) .nil)⟩, rfl⟩
/-- a dict is locked: nothing else changes -/
theorem Post.lock {d : Addr} {od : Obj} {ws : List (Key × V)} (a : gPost g F ow σ env H F1 ow1 σ1 env1 H1) (hF : F1 d = some (.dK ws)) (h : H1 d = some (.dK ws)) : gPost g F ow σ env H F1 ow1 σ1 env1 (upd H1 d (.frz od (.dK ws))) := by
  have l := a.rel
  refine ⟨a.sub, ⟨fun b u hb => ?_, fun p c hp => ?_, l.len, l.slot, l.inj⟩, a.frame, a.fix, fun b o u hb => ?_⟩
  · by_cases z : b = d
    · subst z
      rw [hF] at hb; cases hb
      exact .inr ⟨od, upd_same⟩
    · exact (l.ext b u hb).upd z
  · obtain ⟨h1, h2⟩ := l.own p c hp
    exact ⟨h1, h2.upd (by rintro rfl; rw [hF] at h1; cases h1)⟩
  · have q := a.frz b o u hb
    have : b ≠ d := by rintro rfl; rw [h] at q; cases q
    rw [upd_ne this]; exact q
/-- what stands there to be walked -/
def WalkV (g : Gm) (items : Bool) (x : V) (H : Hp) (R : It → Hp → Prop) : Prop :=
  (items = false ∧ ∃ a vs, x = .ref a ∧ SqL g.K H a vs ∧ R (Itl g.K a) H) ∨ (items = false ∧ ∃ a vs, x = .ref a ∧ SqT g.K H a vs ∧ R (Itt g.K a) H) ∨
    ∃ d ws, x = .ref d ∧ ((H d = some (.dK ws) ∧ ∀ od, R (if items = true then Iti d od ws else Itk d od ws) (upd H d (.frz od (.dK ws)))) ∨ ∃ od, H d = some (.frz od (.dK ws)) ∧ R (if items = true then Iti d od ws else Itk d od ws) H)
theorem walk_dic {kvs : List (Key × P)} {v : V} {R : It → Hp → Prop} {items : Bool} (p2 : gPost g F ow σ env H F2 ow2 σ env2 H1) (r2 : gRep g F2 (.dic kvs) v)
    (o : ∀ F' ow' H' J, gPost g F ow σ env H F' ow' σ env2 H' → IterOk g F' H' J (if items = true then kvs.map fun kv => .tup [pKey kv.1, kv.2] else kvs.map fun kv => pKey kv.1) → R J H') : WalkV g items v H1 R := by
  cases r2 with
  | dic hd rk =>
    rename_i d ws
    refine .inr (.inr ⟨d, ws, rfl, ?_⟩)
    rcases p2.rel.ext d _ hd with h | ⟨od, h⟩
    · refine .inl ⟨h, fun od => o F2 ow2 _ _ (p2.lock hd h) ?_⟩
      cases items with
      | true => exact iter_i rk upd_same
      | false => exact iter_k rk upd_same
    · refine .inr ⟨od, h, o F2 ow2 _ _ p2 ?_⟩
      cases items with
      | true => exact iter_i rk h
      | false => exact iter_k rk h
theorem walk_iter {ma : M R} {R : It → Hp → Prop} (h : TIv g W (iterM ma) σ H R) : TEv g W ma σ H fun x H1 => WalkV g false x H1 R := by
  obtain ⟨F, ow, env, l, o⟩ := h
  refine ⟨F, ow, env, l, ?_⟩
  unfold iterM at o
  cases e : ma env with
  | bad => rw [e] at o; exact o
  | ex x env' => rw [e] at o; exact o
  | ok r env1 =>
    rw [e] at o
    intro v F1 ow1 H1 p r1 n1
    dsimp only at o
    split at o
    · rename_i xs e2 hz
      obtain ⟨F2, ow2, p2, r2, _⟩ := p.freeze r1 n1 hz
      obtain ⟨a, vs, rfl, rs, hs⟩ := rep_lst r2
      exact .inl ⟨rfl, a, vs, rfl, hs F2 H1 (Ext.refl _) p2.rel.ext, o F2 ow2 H1 _ p2 (iter_l rs hs)⟩
    · rename_i xs e2 hz
      obtain ⟨F2, ow2, p2, r2, _⟩ := p.freeze r1 n1 hz
      obtain ⟨a, vs, rfl, rs, hs⟩ := rep_tup r2
      exact .inr (.inl ⟨rfl, a, vs, rfl, hs F2 H1 (Ext.refl _) p2.rel.ext, o F2 ow2 H1 _ p2 (iter_t rs hs)⟩)
    · rename_i kvs e2 hz
      obtain ⟨F2, ow2, p2, r2, _⟩ := p.freeze r1 n1 hz
      exact walk_dic p2 r2 o
    · exact o.elim
theorem walk_items {ma : M R} {R : It → Hp → Prop} (h : TIv g W (itemsM ma) σ H R) : TEv g W ma σ H fun x H1 => WalkV g true x H1 R := by
  obtain ⟨F, ow, env, l, o⟩ := h
  refine ⟨F, ow, env, l, ?_⟩
  unfold itemsM at o
  cases e : ma env with
  | bad => rw [e] at o; exact o
  | ex x env' => rw [e] at o; exact o
  | ok r env1 =>
    rw [e] at o
    intro v F1 ow1 H1 p r1 n1
    dsimp only at o
    split at o
    · rename_i kvs e2 hz
      obtain ⟨F2, ow2, p2, r2, _⟩ := p.freeze r1 n1 hz
      exact walk_dic (items := true) p2 r2 o
    · exact o.elim
/-- the locked reading of a dict's expression -/
def tLk (te : TE) : TE := fun σ H Q => te σ H fun x H1 => ∃ d ws, x = .ref d ∧ ((H1 d = some (.dK ws) ∧ ∀ od, Q x (upd H1 d (.frz od (.dK ws)))) ∨ ∃ od, H1 d = some (.frz od (.dK ws)) ∧ Q x H1)
theorem pe_lk {e : Expr} {te : TE} (h : PE X e te) : PE X e (tLk te) := by
  refine ⟨fun pins s σ H Q I q => ?_⟩
  refine thn (h.run pins s σ H _ I q) fun v s1 ⟨x, H1, I1, r1, d, ws, ex, k⟩ => ?_
  rcases k with ⟨hd, k⟩ | ⟨od, hd, k⟩
  · obtain ⟨od, I2⟩ := I1.lock hd True.intro
    exact ⟨x, _, I2, r1, k od⟩
  · exact ⟨x, H1, I1, r1, k⟩
theorem i_any (hK : X.K = g.K) {e tg : Expr} {ma : M R} (h : PE X e (TEv g W ma)) : PI X tg e (TIv g W (iterM ma)) := by
  refine ⟨fun pins s σ H R I q => ?_⟩
  refine thn (h.run pins s σ H _ I (walk_iter q)) fun v s1 ⟨x, H1, I1, r1, k⟩ => ?_
  rcases k with ⟨_, a, vs, rfl, hs, k⟩ | ⟨_, a, vs, rfl, hs, k⟩ | ⟨d, ws, rfl, k⟩
  · cases r1
    rw [← hK] at hs k
    obtain ⟨its, rv, p, hz⟩ := I1.list hs
    exact wpAny_pyIter_list p.isList (pi_one (tk := s1.toks) I1 _ (turn_list a _) ⟨_, Heap.get?_push_size _ rfl, rfl, rfl⟩ k)
  · cases r1
    rw [← hK] at hs k
    obtain ⟨its, rv, p, hz⟩ := I1.tuple hs
    exact wpAny_pyIter_tuple (show s1.heap.IsTuple a its.toArray from p) (pi_one (tk := s1.toks) I1 _ (turn_tuple a _) ⟨_, Heap.get?_push_size _ rfl, rfl, rfl⟩ k)
  · cases r1
    have go : ∀ H2 od, L2.Inv X pins σ H2 s1 → H2 d = some (.frz od (.dK ws)) → R (Itk d od ws) H2 → wpAny (model X.prog X.w) X.A (pyIter (.ref d)) (PIE X pins σ tg R) X.xe s1 := fun H2 od I2 hd k => by
      obtain ⟨hs, hgd, hx, es, ep, vs, hdt, hsz, kv, hm⟩ := I2.frzK hd
      refine iter_keys hs hgd hx hdt (pi_one (tk := s1.toks) I2 _ (turn_keys _ hdt) ⟨_, Heap.get?_push_size _ rfl, rfl, ?_⟩ k)
      rw [hsz]; rfl
    rcases k with ⟨hd, k⟩ | ⟨od, hd, k⟩
    · obtain ⟨od, I2⟩ := I1.lock hd True.intro
      exact go _ od I2 upd_same (k od)
    · exact go H1 od I1 hd k
theorem i_items {e : Expr} {ma : M R} {elts : List Expr} {kk : Nat} {tpos apos cpos : Pos} (h : PE X e (TEv g W ma)) (hbase : attributeBase e "items" X.env (eval e X.env) = eval e X.env := by rfl) (hline : (apos.endLine == cpos.line) = true := by rfl) :
    PI X (.Tuple elts kk tpos) (.Call (.Attribute e "items" apos) [] [] cpos) (TIv g W (itemsM ma)) := by
  refine ⟨fun pins s σ H R I q => ?_⟩
  refine (pi_items (elts := elts) (kk := kk) (tpos := tpos) (pe_lk h) hbase hline).run pins s σ H R I ?_
  refine (walk_items q).mono fun x H1 k => ?_
  rcases k with ⟨z, _⟩ | ⟨z, _⟩ | ⟨d, ws, rfl, k⟩
  · cases z
  · cases z
  · refine ⟨d, ws, rfl, ?_⟩
    rcases k with ⟨hd, k⟩ | ⟨od, hd, k⟩
    · exact .inl ⟨hd, fun od => ⟨d, od, ws, rfl, upd_same, k od⟩⟩
    · exact .inr ⟨od, hd, d, od, ws, rfl, hd, k⟩
/-- range -/
def rngL (lo c : Int) (n : Nat) : List P := (List.range n).map fun (i : Nat) => .int (lo + (i : Int) * c)
abbrev b62 (i : Int) : Prop := -(2 ^ 62) ≤ i ∧ i < 2 ^ 62
def rangeM (ms : M (List R)) : M (List P) := fun env => match ms env with
  | .ok rs e => match peeks e rs with
    | some [.int j] => if b62 j then .ok (rngL 0 1 j.toNat) e else .bad
    | some [.int i, .int j] => if b62 i ∧ b62 j then .ok (rngL i 1 (j - i).toNat) e else .bad
    | some [.int i, .int j, .int c] => if c ≠ 0 ∧ c.natAbs < 1073741824 ∧ Builtin.Range.small i j c = true ∧ 0 ≤ Builtin.Range.rangeSize i j c then .ok (rngL i c (Builtin.Range.rangeSize i j c).toNat) e else .bad
    | _ => .bad
  | .ex x e => .ex x e
  | .bad => .bad
theorem rngL_get {lo c : Int} {n i : Nat} {x : P} (h : (rngL lo c n)[i]? = some x) : i < n ∧ x = .int (lo + (i : Int) * c) := by
  unfold rngL at h
  rw [List.getElem?_map] at h
  by_cases hi : i < n
  · rw [List.getElem?_range hi] at h
    cases h
    exact ⟨hi, rfl⟩
  · rw [List.getElem?_eq_none (by simpa using hi)] at h
    cases h
theorem iter_r {lo : Int} {n : Nat} : IterOk g F H (Itr lo n) (rngL lo 1 n) := by
  intro F' H1 e hF _
  refine ⟨by show n ≤ _; simp [rngL], fun i x hx => ?_⟩
  obtain ⟨hi, rfl⟩ := rngL_get hx
  refine ⟨hi, fun w H' y => ?_⟩
  obtain ⟨rfl, rfl⟩ := y
  exact ⟨.sc (.int (lo + (i : Int))), ⟨rfl, .int _⟩, by rw [Int.mul_one]; rfl⟩
theorem iter_c {lo c : Int} {n : Nat} : IterOk g F H (Itc lo c n) (rngL lo c n) := by
  intro F' H1 e hF _
  refine ⟨by show n ≤ _; simp [rngL], fun i x hx => ?_⟩
  obtain ⟨hi, rfl⟩ := rngL_get hx
  refine ⟨hi, fun w H' y => ?_⟩
  obtain ⟨rfl, rfl⟩ := y
  exact ⟨.sc (.int (lo + (i : Int) * c)), ⟨rfl, .int _⟩, rfl⟩
/-- what the bounds are -/
def RngV (vs : List V) (H : Hp) (R : It → Hp → Prop) : Prop :=
  (∃ j, vs = [.int j] ∧ b62 j ∧ R (Itr 0 j.toNat) H) ∨ (∃ i j, vs = [.int i, .int j] ∧ (b62 i ∧ b62 j) ∧ R (Itr i (j - i).toNat) H) ∨
    ∃ i j c, vs = [.int i, .int j, .int c] ∧ RgC i j c (Builtin.Range.rangeSize i j c).toNat ∧ R (Itc i c (Builtin.Range.rangeSize i j c).toNat) H
theorem walk_range {ms : M (List R)} {R : It → Hp → Prop} (h : TIv g W (rangeM ms) σ H R) : TAv g W ms σ H fun vs H1 => RngV vs H1 R := by
  obtain ⟨F, ow, env, l, o⟩ := h
  refine ⟨F, ow, env, l, ?_⟩
  unfold rangeM at o
  cases e : ms env with
  | bad => rw [e] at o; exact o
  | ex x env' => rw [e] at o; exact o
  | ok rs env1 =>
    rw [e] at o
    intro vs F1 ow1 H1 p r1 n1
    dsimp only at o
    have sh : ∀ xs, peeks env1 rs = some xs → Shs g F1 H1 xs vs := fun xs e => r1.shapes p.rel e
    split at o
    · rename_i j hz
      have s := sh _ hz
      match vs, s with
      | [v], ⟨s1, _⟩ =>
        cases s1
        split at o
        · rename_i hb; exact .inl ⟨j, rfl, hb, o F1 ow1 H1 _ p iter_r⟩
        · exact o.elim
    · rename_i i j hz
      have s := sh _ hz
      match vs, s with
      | [v, w], ⟨s1, s2, _⟩ =>
        cases s1; cases s2
        split at o
        · rename_i hb; exact .inr (.inl ⟨i, j, rfl, hb, o F1 ow1 H1 _ p iter_r⟩)
        · exact o.elim
    · rename_i i j c hz
      have s := sh _ hz
      match vs, s with
      | [v, w, u], ⟨s1, s2, s3, _⟩ =>
        cases s1; cases s2; cases s3
        split at o
        · rename_i hb; exact .inr (.inr ⟨i, j, c, rfl, ⟨hb.1, hb.2.1, hb.2.2.1, by omega⟩, o F1 ow1 H1 _ p iter_c⟩)
        · exact o.elim
    · exact o.elim
theorem PI.imp {tg e : Expr} {t t' : TI} (h : PI X tg e t) (i : ∀ σ H Q, t' σ H Q → t σ H Q) : PI X tg e t' := ⟨fun pins s σ H Q I q => h.run pins s σ H Q I (i σ H Q q)⟩
theorem i_range1 {a tg : Expr} {ma : M R} {p pos : Pos} (hg : Gl X "range") (hm : X.mg "range" = none) (ha : PE X a (TEv g W ma)) (hs : starEach [a] X.env = [(false, eval a X.env)] := by rfl) : PI X tg (.Call (.Name "range" p) [a] [] pos) (TIv g W (rangeM (M.cons ma (M.pure [])))) := by
  refine PI.imp (pi_range1 hg hm (PA.imp (pa_cons ha pa_nil hs) fun _ _ _ q => q) hs) fun σ H R q => ?_
  refine (tav1 (walk_range q)).mono fun x H1 k => ?_
  rcases k with ⟨j, e, hb, k⟩ | ⟨i, j, e, _⟩ | ⟨i, j, c, e, _⟩
  · exact ⟨j, e, hb.1, hb.2, k⟩
  · cases e
  · cases e
theorem i_range2 {a b tg : Expr} {ma mb : M R} {p pos : Pos} (hg : Gl X "range") (hm : X.mg "range" = none) (ha : PE X a (TEv g W ma)) (hb : PE X b (TEv g W mb)) (hs : starEach [a, b] X.env = [(false, eval a X.env), (false, eval b X.env)] := by rfl) (hs2 : starEach [b] X.env = [(false, eval b X.env)] := by rfl) :
    PI X tg (.Call (.Name "range" p) [a, b] [] pos) (TIv g W (rangeM (M.cons ma (M.cons mb (M.pure []))))) := by
  refine PI.imp (pi_range2 hg hm (PA.imp (pa_cons ha (pa_cons hb pa_nil hs2) (by rw [hs, hs2])) fun _ _ _ q => q) hs hs2) fun σ H R q => ?_
  refine (tav2 (walk_range q)).mono fun x H1 k => k.mono fun y H2 k => ?_
  rcases k with ⟨j, e, _⟩ | ⟨i, j, e, hb, k⟩ | ⟨i, j, c, e, _⟩
  · cases e
  · exact ⟨i, j, e, ⟨hb.1.1, hb.1.2, hb.2.1, hb.2.2⟩, k⟩
  · cases e
end
end Pi

/-! Pc11: things changed; statements. -/
namespace Pi
open PySem PySem.Spec L2 PyProof.Rows
abbrev MS := En → SO
section
variable {g : Gm} {t : Gf} {cf : CF} {X : Cx} {W : WX'} {j : Nat} {F F' F1 F2 : Hp} {ow ow' ow1 ow2 : Ow} {σ σ' σ1 σ2 : L2.St} {env env' env1 env2 : En} {H H' H1 H2 : Hp} {Q : VK} {D : Ends}

/-! ### a thing is changed -/
/-- a thing that nobody else holds -/
def heldC (env : En) : R → Option C
  | .val _ => none
  | .new c => some c
  | .at i => match env[i]? with
    | some (.own c _) => some c
    | _ => none
def putC (env : En) (r : R) (c' : C) : En := match r with
  | .at i => match env[i]? with
    | some (.own _ f) => env.set i (.own c' f)
    | _ => env
  | _ => env
/-- the thing at p, held as told, becomes another -/
theorem Post.mutate {r : R} {v : V} {c : C} (a : gPost g F ow σ env H F1 ow1 σ1 env1 H1) (h : gRR g F1 ow1 σ1 env1 r v) (n : RNF ow σ env r v) (e : heldC env1 r = some c) :
    ∃ p, v = .ref p ∧ HasC g.K g.cl F1 H1 p c ∧ ∀ c' o', HasC g.K g.cl F1 (upd H1 p o') p c' → gPost g F ow σ env H F1 (setO ow1 p c') σ1 (putC env1 r c') (upd H1 p o') := by
  have l := a.rel
  have fin : ∀ (p : Addr), ow1 p = some c → (∀ q c', ow q = some c' → Foreign σ env q → q ≠ p) → ∀ c' o', HasC g.K g.cl F1 (upd H1 p o') p c' →
      (∀ (k : Nat) (s : Sl), (putC env1 r c')[k]? = some s → (env1[k]? = some s ∧ ∀ c2 f2, s = .own c2 f2 → σ1[k]? ≠ some (some (.ref p))) ∨ ∃ f c2, s = .own c' f ∧ env1[k]? = some (.own c2 f) ∧ σ1[k]? = some (some (.ref p))) →
      (putC env1 r c').length = env1.length → gPost g F ow σ env H F1 (setO ow1 p c') σ1 (putC env1 r c') (upd H1 p o') := by
    intro p hp hq c' o' hc' hs hl
    obtain ⟨np, hc⟩ := l.own p c hp
    have ownK : ∀ (k : Nat) (c2 : C) (f2 : Bool), (putC env1 r c')[k]? = some (.own c2 f2) → ∃ c3, env1[k]? = some (.own c3 f2) := fun k c2 f2 hk => by
      rcases hs k _ hk with ⟨h1, _⟩ | ⟨f, c3, h1, h2, _⟩
      · exact ⟨_, h1⟩
      · cases h1; exact ⟨_, h2⟩
    refine ⟨a.sub, ⟨fun b u hb => (l.ext b u hb).upd (by rintro rfl; rw [np] at hb; cases hb), fun q c2 hq2 => ?_, by rw [hl]; exact l.len, fun k s hk => ?_, fun i k c1 c2 f1 f2 q hi hk h1 h2 => ?_⟩, fun q c2 ho hf => ?_, fun k s hk hf => ?_, fun b o u hb => ?_⟩
    · by_cases z : q = p
      · subst z; rw [setO_same] at hq2; cases hq2; exact ⟨np, hc'⟩
      · rw [setO_ne z] at hq2
        obtain ⟨h1, h2⟩ := l.own q c2 hq2
        exact ⟨h1, h2.upd z⟩
    · rcases hs k s hk with ⟨h1, h2⟩ | ⟨f, c2, rfl, h1, h2⟩
      · have q := l.slot k s h1
        cases s with
        | no => trivial
        | val x f => exact q
        | own c2 f2 =>
          obtain ⟨q1, hq1, hq2⟩ := q
          exact ⟨q1, hq1, by rw [setO_ne (by rintro rfl; exact h2 c2 f2 rfl hq1)]; exact hq2⟩
      · exact ⟨p, h2, setO_same⟩
    · obtain ⟨c3, h3⟩ := ownK i c1 f1 hi
      obtain ⟨c4, h4⟩ := ownK k c2 f2 hk
      exact l.inj i k c3 c4 f1 f2 q h3 h4 h1 h2
    · obtain ⟨h1, h2⟩ := a.frame q c2 ho hf
      have : q ≠ p := hq q c2 ho hf
      refine ⟨by rw [setO_ne this]; exact h1, fun k c3 f3 hk => ?_⟩
      obtain ⟨c4, h4⟩ := ownK k c3 f3 hk
      exact h2 k c4 f3 h4
    · obtain ⟨h1, s', h2, h3⟩ := a.fix k s hk hf
      refine ⟨h1, ?_⟩
      have hk2 : k < (putC env1 r c').length := by rw [hl]; exact (List.getElem?_eq_some_iff.mp h2).1
      refine ⟨_, List.getElem?_eq_getElem hk2, ?_⟩
      rcases hs k _ (List.getElem?_eq_getElem hk2) with ⟨h5, _⟩ | ⟨f, c2, h5, h6, _⟩
      · rw [h2] at h5; cases h5; exact h3
      · rw [h5]; rw [h2] at h6; cases h6; exact h3
    · have q := a.frz b o u hb
      have : b ≠ p := by
        rintro rfl
        cases c with
        | lst xs => obtain ⟨vs, h1, _⟩ := hc; rw [h1] at q; cases q
        | dic xs => obtain ⟨vs, h1, _⟩ := hc; rw [h1] at q; cases q
        | obj c2 fs => obtain ⟨dx, vs, h1, _⟩ := hc; rw [h1] at q; cases q
      rw [upd_ne this]; exact q
  cases r with
  | val x => cases e
  | new c0 =>
    cases e
    obtain ⟨p, rfl, o, f⟩ := h
    refine ⟨p, rfl, (l.own p c o).2, fun c' o' hc' => fin p o (fun q c2 ho hf z => n p rfl c2 (z ▸ ho) (z ▸ hf)) c' o' hc' (fun k s hk => .inl ⟨hk, fun c2 f2 hs => ?_⟩) rfl⟩
    subst hs
    exact f k c2 f2 hk
  | «at» i =>
    obtain ⟨hs, p, rfl⟩ := h
    unfold heldC at e
    dsimp only at e
    split at e
    · rename_i c0 f0 hc0
      cases e
      obtain ⟨p', hp', o⟩ := l.slot i _ hc0
      rw [hs] at hp'; cases hp'
      have hput : ∀ c', putC env1 (.at i) c' = env1.set i (.own c' f0) := fun c' => by unfold putC; simp only [hc0]
      refine ⟨p, rfl, (l.own p c o).2, fun c' o' hc' => fin p o (fun q c2 ho hf z => ?_) c' o' hc' (fun k s hk => ?_) (by rw [hput, List.length_set])⟩
      · subst z
        exact (a.frame _ c2 ho hf).2 i c f0 hc0 hs
      · rw [hput] at hk
        rcases get_set hk with ⟨rfl, rfl, _⟩ | ⟨hne, hk'⟩
        · exact .inr ⟨f0, c, rfl, hc0, hs⟩
        · refine .inl ⟨hk', fun c2 f2 hss hz => ?_⟩
          subst hss
          exact hne (l.inj k i c2 c f2 f0 p hk' hc0 hz hs)
    · cases e

/-! ### small statements -/
theorem outS_post {out : SO} (p : gPost g F ow σ env H F1 ow1 σ1 env1 H1) (o : OutS g W F ow σ env H D out) : OutS g W F1 ow1 σ1 env1 H1 D out := by
  cases out with
  | nx e => exact fun F' ow' σ' H' q => o F' ow' σ' H' (p.trans q)
  | bk e => exact fun F' ow' σ' H' q => o F' ow' σ' H' (p.trans q)
  | ct e => exact fun F' ow' σ' H' q => o F' ow' σ' H' (p.trans q)
  | rt r e => exact fun v F' ow' σ' H' q r1 n => o v F' ow' σ' H' (p.trans q) r1 (n.back p)
  | ex x e => exact fun F' ow' σ' H' cls d q x => o F' ow' σ' H' cls d (p.trans q) x
  | bad => exact o
def nextM : MS := .nx
def seqM (a b : MS) : MS := fun env => match a env with
  | .nx e => b e
  | o => o
theorem s_nil : PSs X [] (TSv g W nextM) := PSs.imp pss_nil fun D σ H h => by
  obtain ⟨F, ow, env, l, o⟩ := h
  exact o F ow σ H (Post.refl l)
theorem s_pass {pos : Pos} : PS X (.Pass pos) (TSv g W nextM) := PS.imp ps_pass fun D σ H h => by
  obtain ⟨F, ow, env, l, o⟩ := h
  exact o F ow σ H (Post.refl l)
theorem s_doc {x : Str} {k : Nat} {pos pos' : Pos} : PS X (.Expr (.Constant (.str x) k pos) pos') (TSv g W nextM) := PS.imp ps_doc fun D σ H h => by
  obtain ⟨F, ow, env, l, o⟩ := h
  exact o F ow σ H (Post.refl l)
def breakM : MS := .bk
def contM : MS := .ct
theorem s_break {pos : Pos} : PS X (.Break pos) (TSv g W breakM) := PS.imp ps_break fun D σ H h => by
  obtain ⟨F, ow, env, l, o⟩ := h
  exact o F ow σ H (Post.refl l)
theorem s_cont {pos : Pos} : PS X (.Continue pos) (TSv g W contM) := PS.imp ps_continue fun D σ H h => by
  obtain ⟨F, ow, env, l, o⟩ := h
  exact o F ow σ H (Post.refl l)
def neverM : MS := fun _ => .bad
theorem s_never {st : Stmt} : PS X st (TSv g W neverM) := PS.imp ps_never fun D σ H h => by
  obtain ⟨F, ow, env, l, o⟩ := h
  exact o
theorem s_cons {st : Stmt} {rest : List Stmt} {a b : MS} (h1 : PS X st (TSv g W a)) (h2 : PSs X rest (TSv g W b)) : PSs X (st :: rest) (TSv g W (seqM a b)) := PSs.imp (pss_cons h1 h2) fun D σ H h => by
  obtain ⟨F, ow, env, l, o⟩ := h
  refine ⟨F, ow, env, l, ?_⟩
  unfold seqM at o
  cases e : a env with
  | nx e1 =>
    rw [e] at o
    exact fun F' ow' σ' H' p => ⟨F', ow', e1, p.rel, outS_post p o⟩
  | bk e1 => rw [e] at o; exact o
  | ct e1 => rw [e] at o; exact o
  | rt r e1 => rw [e] at o; exact o
  | ex x e1 => rw [e] at o; exact o
  | bad => rw [e] at o; exact o
theorem s_one {st : Stmt} {a : MS} (h1 : PS X st (TSv g W a)) : PSs X [st] (TSv g W a) := pss_one h1
def exprM (ma : M R) : MS := fun env => match ma env with
  | .ok _ e => .nx e
  | .ex x e => .ex x e
  | .bad => .bad
theorem s_expr {e : Expr} {ma : M R} {pos : Pos} (he : PE X e (TEv g W ma)) (hs : swapsWith e none pos.line X.env = pure false := by rfl) : PS X (.Expr e pos) (TSv g W (exprM ma)) := PS.imp (ps_expr he hs) fun D σ H h => by
  obtain ⟨F, ow, env, l, o⟩ := h
  refine ⟨F, ow, env, l, ?_⟩
  unfold exprM at o
  cases e : ma env with
  | bad => rw [e] at o; exact o
  | ex x e1 => rw [e] at o; exact fun F' ow' H' cls d p x => o F' ow' σ H' cls d p x
  | ok r e1 => rw [e] at o; exact fun v F' ow' H' p _ _ => o F' ow' σ H' p
def retM (ma : M R) : MS := fun env => match ma env with
  | .ok r e => .rt r e
  | .ex x e => .ex x e
  | .bad => .bad
theorem s_ret {e : Expr} {ma : M R} {pos : Pos} (he : PE X e (TEv g W ma)) : PS X (.Return (some e) pos) (TSv g W (retM ma)) := PS.imp (ps_ret he) fun D σ H h => by
  obtain ⟨F, ow, env, l, o⟩ := h
  refine ⟨F, ow, env, l, ?_⟩
  unfold retM at o
  cases e : ma env with
  | bad => rw [e] at o; exact o
  | ex x e1 => rw [e] at o; exact fun F' ow' H' cls d p x => o F' ow' σ H' cls d p x
  | ok r e1 => rw [e] at o; exact fun v F' ow' H' p r n => o v F' ow' σ H' p r n
def retNM : MS := fun env => .rt (.val .non) env
theorem s_retN {pos : Pos} : PS X (.Return none pos) (TSv g W retNM) := PS.imp ps_retN fun D σ H h => by
  obtain ⟨F, ow, env, l, o⟩ := h
  exact o .non F ow σ H (Post.refl l) .non trivial
def setM (i : Nat) (ma : M R) : MS := fun env => match ma env with
  | .ok r e => match bindR i r e with
    | some e' => .nx e'
    | none => .bad
  | .ex x e => .ex x e
  | .bad => .bad
theorem set_ok {i : Nat} {ma : M R} (h : TSv g W (setM i ma) D σ H) : TEv g W ma σ H fun x H1 => D.nx (σ.set i (some x)) H1 := by
  obtain ⟨F, ow, env, l, o⟩ := h
  refine ⟨F, ow, env, l, ?_⟩
  unfold setM at o
  cases e : ma env with
  | bad => rw [e] at o; exact o
  | ex x e1 => rw [e] at o; exact fun F' ow' H' cls d p x => o F' ow' σ H' cls d p x
  | ok r e1 =>
    rw [e] at o
    dsimp only at o
    intro v F' ow' H' p r1 n1
    cases e2 : bindR i r e1 with
    | none => rw [e2] at o; exact o.elim
    | some e3 =>
      rw [e2] at o
      obtain ⟨F2, ow2, p2⟩ := p.bindR r1 n1 e2
      exact o F2 ow2 _ H' p2
theorem s_set (c : Cc g t cf X W j) (i : Nat) {x : Str} {e : Expr} {ma : M R} {pos pos' : Pos} (he : PE X e (TEv g W ma)) (hN : X.N[i]? = some x := by rfl) (hx : Loc X.env.scope x := by first | exact Or.inl rfl | exact Or.inr rfl) (hs : swapsWith e (some (.Name x pos')) pos.line X.env = pure false := by rfl) (hf : X.fn x = true ∨ X.env.scope.names.lookup x = some .local := by first | exact .inl rfl | exact .inr rfl) :
    PS X (.Assign [.Name x pos'] e pos) (TSv g W (setM i ma)) := PS.imp (ps_set c.nd hN hx he hs hf) fun D σ H h => set_ok h
def asgM (p : Pat) (ma : M R) : MS := fun env => match ma env with
  | .ok r e => match freeze r e with
    | some (x, e1) => match bindP p x e1 with
      | some e2 => .nx e2
      | none => .bad
    | none => .bad
  | .ex x e => .ex x e
  | .bad => .bad
theorem s_asg {tg e : Expr} {p : Pat} {ma : M R} {pos : Pos} (he : PE X e (TEv g W ma)) (hg : PG X tg (gPat g.K p)) (hs : swapsWithSole [tg] e pos.line X.env = pure false := by rfl) (hw : swappedStores [tg] e X.env = pure none := by rfl)
    (h1 : (assignEach [tg] X.env).map (·.2) = [assign tg X.env] := by rfl) : PS X (.Assign [tg] e pos) (TSv g W (asgM p ma)) := PS.imp (ps_asg he hg hs hw h1) fun D σ H h => by
  obtain ⟨F, ow, env, l, o⟩ := h
  refine ⟨F, ow, env, l, ?_⟩
  unfold asgM at o
  cases e : ma env with
  | bad => rw [e] at o; exact o
  | ex x e1 => rw [e] at o; exact fun F' ow' H' cls d p x => o F' ow' σ H' cls d p x
  | ok r e1 =>
    rw [e] at o
    dsimp only at o
    intro v F' ow' H' q r1 n1
    split at o
    · rename_i x e2 hz
      obtain ⟨F2, ow2, p2, r2, _⟩ := q.freeze r1 n1 hz
      split at o
      · rename_i e3 he3
        exact pat_ok p2 r2 he3 fun σ2 p3 _ _ => o F2 ow2 σ2 H' p3
      · exact o.elim
    · exact o.elim

/-! ### several names at once -/
def bindNs : List Nat → List R → En → Option En
  | [], [], e => some e
  | i :: is, .val x :: rs, e => match bindR i (.val x) e with
    | some e' => bindNs is rs e'
    | none => none
  | i :: is, .new c :: rs, e => match bindR i (.new c) e with
    | some e' => bindNs is rs e'
    | none => none
  | _, _, _ => none
def setNs : L2.St → List Nat → List V → L2.St
  | σ, i :: is, v :: vs => setNs (σ.set i (some v)) is vs
  | σ, _, _ => σ
theorem foreign_val {i : Nat} {x : P} {v : V} {p : Addr} (f : Foreign σ env p) : Foreign (σ.set i (some v)) (env.set i (.val x false)) p := by
  intro k c fl hk hs
  rcases get_set hk with ⟨_, z, _⟩ | ⟨e1, e2⟩
  · cases z
  · rw [set_other e1] at hs; exact f k c fl e2 hs
theorem bind_ns : ∀ (is : List Nat) (rs : List R) (vs : List V) {σ1 : L2.St} {env1 : En}, gPost g F ow σ env H F1 ow1 σ1 env1 H1 → RRs g F1 ow1 σ1 env1 rs vs → RNFs ow σ env rs vs → bindNs is rs env1 = some env2 → gPost g F ow σ env H F1 ow1 (setNs σ1 is vs) env2 H1
  | [], [], [], _, _, a, _, _, e => by cases e; exact a
  | [], [], _ :: _, _, _, a, r, _, e => r.elim
  | [], _ :: _, _, _, _, a, _, _, e => by cases e
  | _ :: _, [], _, _, _, a, _, _, e => by cases e
  | i :: is, r :: rs, [], _, _, a, h, _, e => h.elim
  | i :: is, .val x :: rs, v :: vs, σ1, env1, a, h, n, e => by
    unfold bindNs at e
    split at e
    · rename_i e2 he
      obtain ⟨hf, rfl⟩ := bindV_some he
      refine bind_ns is rs vs (a.bindV h.1 hf) ?_ n.2.2 e
      have keep : ∀ (rs : List R) (vs : List V), RRs g F1 ow1 σ1 env1 rs vs → RNFs ow σ env rs vs → (∀ k : Nat, ∀ m : Nat, rs[k]? ≠ some (.at m)) → RRs g F1 ow1 (σ1.set i (some v)) (env1.set i (.val x false)) rs vs := by
        intro rs
        induction rs with
        | nil => intro vs h _ _; cases vs with
          | nil => trivial
          | cons _ _ => exact h.elim
        | cons r rs ih =>
          intro vs h n hn
          cases vs with
          | nil => exact h.elim
          | cons w vs =>
            refine ⟨?_, ih vs h.2 n.2.2 fun k m => by simpa using hn (k + 1) m⟩
            cases r with
            | val y => exact h.1
            | new c => obtain ⟨p, e1, e2, e3⟩ := h.1; exact ⟨p, e1, e2, foreign_val e3⟩
            | «at» m => exact (hn 0 m rfl).elim
      refine keep rs vs h.2 n.2.2 fun k m hk => ?_
      exact noAt is rs _ e k m hk
    · cases e
  | i :: is, .new c :: rs, v :: vs, σ1, env1, a, h, n, e => by
    unfold bindNs at e
    split at e
    · rename_i e2 he
      have he' : free1 env1 i = true ∧ e2 = env1.set i (.own c false) := by
        unfold bindR at he
        dsimp only at he
        split at he
        · rename_i hf; cases he; exact ⟨hf, rfl⟩
        · cases he
      obtain ⟨hf, rfl⟩ := he'
      refine bind_ns is rs vs (a.bindN h.1 n.1 hf) ?_ n.2.2 e
      obtain ⟨p, rfl, o, fo⟩ := h.1
      have h2 := (a.rel.store (v := .ref p) hf (.inr ⟨c, p, rfl, rfl, o, fo⟩)).2.1
      have keep : ∀ (rs : List R) (vs : List V), RRs g F1 ow1 σ1 env1 rs vs → (∀ k : Nat, ∀ m : Nat, rs[k]? ≠ some (.at m)) → (∀ (k : Nat) (c' : C), rs[k]? = some (.new c') → vs[k]? ≠ some (.ref p)) → RRs g F1 ow1 (σ1.set i (some (.ref p))) (env1.set i (.own c false)) rs vs := by
        intro rs
        induction rs with
        | nil => intro vs h _ _; cases vs with
          | nil => trivial
          | cons _ _ => exact h.elim
        | cons r rs ih =>
          intro vs h hn hd
          cases vs with
          | nil => exact h.elim
          | cons w vs =>
            refine ⟨?_, ih vs h.2 (fun k m => by simpa using hn (k + 1) m) fun k c' hk hv => hd (k + 1) c' (by simpa using hk) (by simpa using hv)⟩
            cases r with
            | val y => exact h.1
            | new c' =>
              obtain ⟨q, e1, e2, e3⟩ := h.1
              subst e1
              exact ⟨q, rfl, e2, h2 q c' e2 e3 fun z => by cases z; exact hd 0 c' rfl rfl⟩
            | «at» m => exact (hn 0 m rfl).elim
      exact keep rs vs h.2 (fun k m hk => noAt is rs _ e k m hk) (n.2.1 c p rfl rfl)
    · cases e
  | i :: is, .at k :: rs, v :: vs, _, _, a, h, n, e => by cases e
where
  noAt : ∀ (is : List Nat) (rs : List R) (e : En) {e' : En}, bindNs is rs e = some e' → ∀ (k m : Nat), rs[k]? = some (.at m) → False
  | [], [], _, _, _, k, m, hk => by simp at hk
  | [], _ :: _, _, _, e, _, _, _ => by cases e
  | _ :: _, [], _, _, e, _, _, _ => by cases e
  | i :: is, .val x :: rs, e, e', h, k, m, hk => by
    unfold bindNs at h
    split at h
    · cases k with
      | zero => simp at hk
      | succ k => exact noAt is rs _ h k m (by simpa using hk)
    · cases h
  | i :: is, .new x :: rs, e, e', h, k, m, hk => by
    unfold bindNs at h
    split at h
    · cases k with
      | zero => simp at hk
      | succ k => exact noAt is rs _ h k m (by simpa using hk)
    · cases h
  | i :: is, .at x :: rs, e, e', h, k, m, hk => by cases h
def parM (is : List Nat) (ms : M (List R)) : MS := fun env => match ms env with
  | .ok rs e => match bindNs is rs e with
    | some e' => .nx e'
    | none => .bad
  | .ex x e => .ex x e
  | .bad => .bad
theorem par_ok {is : List Nat} {ms : M (List R)} (h : TSv g W (parM is ms) D σ H) : TAv g W ms σ H fun vs H1 => D.nx (setNs σ is vs) H1 := by
  obtain ⟨F, ow, env, l, o⟩ := h
  refine ⟨F, ow, env, l, ?_⟩
  unfold parM at o
  cases e : ms env with
  | bad => rw [e] at o; exact o
  | ex x e1 => rw [e] at o; exact fun F' ow' H' cls d p x => o F' ow' σ H' cls d p x
  | ok rs e1 =>
    rw [e] at o
    dsimp only at o
    intro vs F' ow' H' p r1 n1
    cases e2 : bindNs is rs e1 with
    | none => rw [e2] at o; exact o.elim
    | some e3 =>
      rw [e2] at o
      exact o F' ow' _ H' (bind_ns is rs vs p r1 n1 e2)
end
end Pi

/-! Pc12: statements that change things, choices, loops. -/
namespace Pi
open PySem PySem.Spec L2 PyProof.Rows
section
variable {g : Gm} {t : Gf} {cf : CF} {X : Cx} {W : WX'} {j : Nat} {F F' F1 F2 : Hp} {ow ow' ow1 ow2 : Ow} {σ σ' σ1 σ2 : L2.St} {env env' env1 env2 : En} {H H' H1 H2 : Hp} {Q : VK} {D : Ends}

theorem s_par2 (c : Cc g t cf X W j) (i k : Nat) {x y : Str} {a b : Expr} {ma mb : M R} {px py pt pos : Pos} {kt k2 : Nat} {pt2 : Pos} (hij : i ≠ k) (ha : PE X a (TEv g W ma)) (hb : PE X b (TEv g W mb)) (hi : X.N[i]? = some x := by rfl) (hj : X.N[k]? = some y := by rfl)
    (hx : X.env.scope.names.lookup x = some .local := by rfl) (hy : X.env.scope.names.lookup y = some .local := by rfl)
    (hw : swappedStores [.Tuple [.Name x px, .Name y py] kt pt] (.Tuple [a, b] k2 pt2) X.env = pure (some [x, y]) := by rfl)
    (hs : swapsWithSole [.Tuple [.Name x px, .Name y py] kt pt] (.Tuple [a, b] k2 pt2) pos.line X.env = pure false := by rfl)
    (hs1 : starEach [a, b] X.env = (false, eval a X.env) :: starEach [b] X.env := by rfl) (hs2 : starEach [b] X.env = (false, eval b X.env) :: starEach [] X.env := by rfl) :
    PS X (.Assign [.Tuple [.Name x px, .Name y py] kt pt] (.Tuple [a, b] k2 pt2) pos) (TSv g W (parM [i, k] (M.cons ma (M.cons mb (M.pure []))))) :=
  PS.imp (ps_par c.calm c.nd hi hj hij hx hy (pa_cons ha (pa_cons hb pa_nil hs2) hs1) hw hs) fun D σ H h =>
    (tav2 (par_ok h)).mono fun v H1 q => q.mono fun w H2 q => ⟨v, w, rfl, q⟩
theorem s_par3 (c : Cc g t cf X W j) (i k l : Nat) {x y z : Str} {a b d : Expr} {ma mb md : M R} {px py pz pt pos : Pos} {kt k2 : Nat} {pt2 : Pos} (hij : i ≠ k) (hil : i ≠ l) (hkl : k ≠ l) (ha : PE X a (TEv g W ma)) (hb : PE X b (TEv g W mb)) (hd : PE X d (TEv g W md))
    (hi : X.N[i]? = some x := by rfl) (hj : X.N[k]? = some y := by rfl) (hl : X.N[l]? = some z := by rfl)
    (hx : X.env.scope.names.lookup x = some .local := by rfl) (hy : X.env.scope.names.lookup y = some .local := by rfl) (hz : X.env.scope.names.lookup z = some .local := by rfl)
    (hw : swappedStores [.Tuple [.Name x px, .Name y py, .Name z pz] kt pt] (.Tuple [a, b, d] k2 pt2) X.env = pure (some [x, y, z]) := by rfl)
    (hs : swapsWithSole [.Tuple [.Name x px, .Name y py, .Name z pz] kt pt] (.Tuple [a, b, d] k2 pt2) pos.line X.env = pure false := by rfl)
    (hs1 : starEach [a, b, d] X.env = (false, eval a X.env) :: starEach [b, d] X.env := by rfl) (hs2 : starEach [b, d] X.env = (false, eval b X.env) :: starEach [d] X.env := by rfl) (hs3 : starEach [d] X.env = (false, eval d X.env) :: starEach [] X.env := by rfl) :
    PS X (.Assign [.Tuple [.Name x px, .Name y py, .Name z pz] kt pt] (.Tuple [a, b, d] k2 pt2) pos) (TSv g W (parM [i, k, l] (M.cons ma (M.cons mb (M.cons md (M.pure [])))))) :=
  PS.imp (ps_par3 c.calm c.nd hi hj hl hij hil hkl hx hy hz (pa_cons ha (pa_cons hb (pa_cons hd pa_nil hs3) hs2) hs1) hw hs) fun D σ H h =>
    (tav3 (par_ok h)).mono fun v H1 q => q.mono fun w H2 q => q.mono fun u H3 q => ⟨v, w, u, rfl, q⟩

/-! ### o[i] = v -/
def itemPut (e : En) (x : P) (s : Nat) (k : P) : Option En := match heldC e (.at s) with
  | some (.dic kvs) => match keyP k with
    | some kk => if kvs.length < lim then some (putC e (.at s) (.dic (putP kvs kk x))) else none
    | none => none
  | some (.lst xs) => match k with
    | .int n => match ixN xs.length n with
      | some m => some (putC e (.at s) (.lst (xs.set m x)))
      | none => none
    | _ => none
  | _ => none
def itemM (mv mo mi : M R) : MS := fun env => match mv env with
  | .ok rv e1 => match mo e1 with
    | .ok ro e2 => match mi e2 with
      | .ok ri e3 => match freeze rv e3, ro, ri with
        | some (x, e4), .at s, .val k => match itemPut e4 x s k with
          | some e5 => .nx e5
          | none => .bad
        | _, _, _ => .bad
      | .ex x e => .ex x e
      | .bad => .bad
    | .ex x e => .ex x e
    | .bad => .bad
  | .ex x e => .ex x e
  | .bad => .bad
theorem ixN_len {n : Nat} {i : Int} {m : Nat} (h : ixN n i = some m) : ∀ k : Nat, k = n → ixN k i = some m := fun k e => e ▸ h
theorem item_ok {mv mo mi : M R} (h : TSv g W (itemM mv mo mi) D σ H) :
    TEv g W mv σ H fun v H1 => TEv g W mo σ H1 fun o H2 => TEv g W mi σ H2 fun i H3 => ∃ p, o = .ref p ∧
      ((∃ ws k, H3 p = some (.dK ws) ∧ i = kV k ∧ ws.length < sizeLine ∧ D.nx σ (upd H3 p (.dK (putK ws k v)))) ∨ ∃ vs n m, H3 p = some (.lst vs) ∧ i = .int n ∧ ixN vs.length n = some m ∧ D.nx σ (upd H3 p (.lst (vs.set m v)))) := by
  obtain ⟨F, ow, env, l, o⟩ := h
  refine ⟨F, ow, env, l, ?_⟩
  unfold itemM at o
  cases e : mv env with
  | bad => rw [e] at o; exact o
  | ex x e1 => rw [e] at o; exact fun F' ow' H' cls d p x => o F' ow' σ H' cls d p x
  | ok rv e1 =>
    rw [e] at o
    intro v F1 ow1 H1 p1 r1 n1
    refine ⟨F1, ow1, e1, p1.rel, ?_⟩
    dsimp only at o
    cases e' : mo e1 with
    | bad => rw [e'] at o; exact o
    | ex x e2 => rw [e'] at o; exact fun F' ow' H' cls d p x => o F' ow' σ H' cls d (p1.trans p) x
    | ok ro e2 =>
      rw [e'] at o
      intro ov F2 ow2 H2 p2 r2 n2
      refine ⟨F2, ow2, e2, p2.rel, ?_⟩
      dsimp only at o
      cases e'' : mi e2 with
      | bad => rw [e''] at o; exact o
      | ex x e3 => rw [e''] at o; exact fun F' ow' H' cls d p x => o F' ow' σ H' cls d ((p1.trans p2).trans p) x
      | ok ri e3 =>
        rw [e''] at o
        intro iv F3 ow3 H3 p3 r3 n3
        dsimp only at o
        split at o
        · rename_i x e4 s k hz
          have p123 := (p1.trans p2).trans p3
          have rv3 := (r1.post p2).post p3
          obtain ⟨F4, ow4, p4, r4, x4, _⟩ := p123.freeze rv3 n1 hz
          have rs : gRR g F4 ow4 σ e4 (.at s) ov := r2
          have rk : gRep g F4 k iv := Rep.mono x4 r3
          split at o
          · rename_i e5 he5
            unfold itemPut at he5
            split at he5
            · rename_i kvs hc
              split at he5
              · rename_i kk hk
                split at he5
                · rename_i hl
                  cases he5
                  obtain ⟨p, rfl, ⟨ws, hp, rw'⟩, go⟩ := p4.mutate rs trivial hc
                  have sk : Shape g.K g.cl F4 H3 k iv := Rep.shape p4.rel.ext rk
                  refine ⟨p, rfl, .inl ⟨ws, kk, hp, keyP_rep hk sk, ?_, ?_⟩⟩
                  · rw [← rw'.len]; have := lim_line (Nat.le_of_lt hl); have h2 := lim_line (n := lim) (Nat.le_refl _); omega
                  · exact o F4 _ σ _ (go _ _ ⟨_, upd_same, rw'.put r4⟩)
                · cases he5
              · cases he5
            · rename_i xs hc
              split at he5
              · rename_i n
                split at he5
                · rename_i m hm
                  cases he5
                  obtain ⟨p, rfl, ⟨vs, hp, rw'⟩, go⟩ := p4.mutate rs trivial hc
                  cases rk
                  refine ⟨p, rfl, .inr ⟨vs, n, m, hp, rfl, by rw [← rw'.len]; exact hm, ?_⟩⟩
                  exact o F4 _ σ _ (go _ _ ⟨_, upd_same, rw'.set m r4⟩)
                · cases he5
              · cases he5
            · cases he5
          · exact o.elim
        · exact o.elim
theorem s_item (c : Cc g t cf X W j) {o i value : Expr} {mv mo mi : M R} {pos pos' : Pos} (hv : PE X value (TEv g W mv)) (ho : PE X o (TEv g W mo)) (hi : PE X i (TEv g W mi)) (hs : swapsWith value (some (.Subscript o i pos')) pos.line X.env = pure false := by rfl) :
    PS X (.Assign [.Subscript o i pos'] value pos) (TSv g W (itemM mv mo mi)) := by
  refine ⟨fun pins s σ H D I h => ?_⟩
  refine wpAny_Assign_Subscript (thn (hv.run pins s σ H _ I (item_ok h)) fun r s1 ⟨v, H1, I1, rv, q1⟩ => thn (ho.run pins s1 σ H1 _ I1 q1) fun u s2 ⟨x, H2, I2, rx, q2⟩ => thn (hi.run pins s2 σ H2 _ I2 q2) fun iv s3 ⟨y, H3, I3, ry, p, ex, q3⟩ => ?_) hs
  subst ex
  obtain rfl : u = Value.ref p := rx
  rcases q3 with ⟨ws, k, hp, ey, hl, q⟩ | ⟨vs, n, m, hp, ey, hm, q⟩
  · subst ey
    exact d_setItem c.hu I3 (DPut.k hp hl) ry rv fun s4 I4 => ⟨σ, _, I4, q⟩
  · exact thn (set_list pins s3 σ H3 (.ref p) y v (.ref p) iv r (fun H4 => D.nx σ H4) I3 rfl ry rv ⟨p, vs, n, m, rfl, ey, hp, hm, q⟩) fun _ s4 ⟨H4, I4, q4⟩ => ⟨σ, H4, I4, q4⟩

/-! ### o.f = v -/
def putS (f : Str) (x : P) : List (Str × P) → List (Str × P)
  | [] => [(f, x)]
  | (k, y) :: r => if k = f then (k, x) :: r else (k, y) :: putS f x r
theorem RepF.putS {f : Str} {x : P} {v : V} (h : gRep g F x v) : ∀ {fs : List (Str × P)} {ws : List (Str × V)}, RepF g.K g.cl F fs ws → RepF g.K g.cl F (Pi.putS f x fs) (putF f v ws)
  | _, _, .nil => .cons h .nil
  | _, _, .cons (k := k) h1 q => by
    unfold Pi.putS putF
    by_cases e : k = f
    · rw [if_pos e, if_pos e]; exact .cons h q
    · rw [if_neg e, if_neg e]; exact .cons h1 (RepF.putS h q)
theorem RepF.len {fs : List (Str × P)} {ws : List (Str × V)} (r : RepF g.K g.cl F fs ws) : fs.length = ws.length := by
  match r with
  | .nil => rfl
  | .cons _ q => simp [RepF.len q]
def fldM (t : Gf) (f : Str) (mv mo : M R) : MS := fun env => match mv env with
  | .ok rv e1 => match mo e1 with
    | .ok ro e2 => match freeze rv e2, ro with
      | some (x, e3), .at s => match heldC e3 (.at s) with
        | some (.obj c fs) => match t.att c f with
          | some .fld => if fs.length < 1000 then .nx (putC e3 (.at s) (.obj c (putS f x fs))) else .bad
          | _ => .bad
        | _ => .bad
      | _, _ => .bad
    | .ex x e => .ex x e
    | .bad => .bad
  | .ex x e => .ex x e
  | .bad => .bad
theorem s_fld (c : Cc g t cf X W j) {o value : Expr} {f : Str} {mv mo : M R} {pos pos' : Pos} (hv : PE X value (TEv g W mv)) (ho : PE X o (TEv g W mo)) (hs : swapsWith value (some (.Attribute o f pos')) pos.line X.env = pure false := by rfl) :
    PS X (.Assign [.Attribute o f pos'] value pos) (TSv g W (fldM t f mv mo)) := by
  refine PS.imp (ps_fld ho hv hs) fun D σ H h => ?_
  obtain ⟨F, ow, env, l, o⟩ := h
  refine ⟨F, ow, env, l, ?_⟩
  unfold fldM at o
  cases e : mv env with
  | bad => rw [e] at o; exact o
  | ex x e1 => rw [e] at o; exact fun F' ow' H' cls d p x => o F' ow' σ H' cls d p x
  | ok rv e1 =>
    rw [e] at o
    intro v F1 ow1 H1 p1 r1 n1
    refine ⟨F1, ow1, e1, p1.rel, ?_⟩
    dsimp only at o
    cases e' : mo e1 with
    | bad => rw [e'] at o; exact o
    | ex x e2 => rw [e'] at o; exact fun F' ow' H' cls d p x => o F' ow' σ H' cls d (p1.trans p) x
    | ok ro e2 =>
      rw [e'] at o
      intro ov F2 ow2 H2 p2 r2 n2
      dsimp only at o
      split at o
      · rename_i x e3 s hz
        obtain ⟨F3, ow3, p3, r3, x3, _⟩ := (p1.trans p2).freeze (r1.post p2) n1 hz
        have rs : gRR g F3 ow3 σ e3 (.at s) ov := r2
        split at o
        · rename_i cc fs hc
          split at o
          · rename_i hat
            split at o
            · rename_i hl
              obtain ⟨p, rfl, ⟨dx, ws, hp, rw'⟩, go⟩ := p3.mutate rs trivial hc
              have k1 := (c.st.cls cc f _ hat).1
              have k2 := c.st.fld cc f hat
              rw [← c.K] at k1 k2
              refine ⟨p, g.cl cc, dx, ws, rfl, hp, k1, k2, by rw [← rw'.len]; exact hl, ?_⟩
              exact o F3 _ σ _ (go _ _ ⟨dx, _, upd_same, RepF.putS r3 rw'⟩)
            · exact o.elim
          · exact o.elim
        · exact o.elim
      · exact o.elim

/-! ### d.clear() -/
def clearM (ma : M R) : M R := fun env => match ma env with
  | .ok r e => match heldC e r with
    | some (.dic _) => .ok (.val .non) (putC e r (.dic []))
    | _ => .bad
  | .ex x e => .ex x e
  | .bad => .bad
theorem e_clear {o : Expr} {ma : M R} {apos cpos : Pos} (ho : PE X o (TEv g W ma)) (hbase : attributeBase o "clear" X.env (eval o X.env) = eval o X.env := by rfl) (hline : (apos.endLine == cpos.line) = true := by rfl) :
    PE X (.Call (.Attribute o "clear" apos) [] [] cpos) (TEv g W (clearM ma)) := by
  refine PE.imp (pe_dclear ho hbase hline) fun σ H Q h => ?_
  obtain ⟨F, ow, env, l, o⟩ := h
  refine ⟨F, ow, env, l, ?_⟩
  unfold clearM at o
  cases e : ma env with
  | bad => rw [e] at o; exact o
  | ex x e1 => rw [e] at o; exact o
  | ok r e1 =>
    rw [e] at o
    intro v F1 ow1 H1 p1 r1 n1
    dsimp only at o
    split at o
    · rename_i kvs hc
      obtain ⟨p, rfl, ⟨ws, hp, rw'⟩, go⟩ := p1.mutate r1 n1 hc
      exact ⟨.inr (.inr (.inl ⟨rfl, .inl ⟨ws, hp⟩⟩)), p, ws, rfl, rfl, hp, o _ _ _ _ (go (.dic []) _ ⟨[], upd_same, .nil⟩) .non trivial⟩
    · exact o.elim

/-! ### choices -/
def ifM (m : M Bool) (a b : MS) : MS := fun env => match m env with
  | .ok c e => if c = true then a e else b e
  | .ex x e => .ex x e
  | .bad => .bad
theorem s_if {c : Expr} {p q : List Stmt} {m : M Bool} {a b : MS} {pos : Pos} (hc : PT X c (TTv g W m)) (ha : PSs X p (TSv g W a)) (hb : PSs X q (TSv g W b)) : PS X (.If c p q pos) (TSv g W (ifM m a b)) := PS.imp (ps_if hc ha hb) fun D σ H h => by
  obtain ⟨F, ow, env, l, o⟩ := h
  refine ⟨F, ow, env, l, ?_⟩
  unfold ifM at o
  cases e : m env with
  | bad => rw [e] at o; exact o
  | ex x e1 => rw [e] at o; exact fun F' ow' H' cls d p x => o F' ow' σ H' cls d p x
  | ok d e1 =>
    rw [e] at o
    intro F1 ow1 H1 p1
    dsimp only at o
    cases d with
    | true =>
      rw [if_pos rfl] at o ⊢
      exact ⟨F1, ow1, e1, p1.rel, outS_post p1 o⟩
    | false =>
      rw [if_neg Bool.false_ne_true] at o ⊢
      exact ⟨F1, ow1, e1, p1.rel, outS_post p1 o⟩

/-! ### for -/
def loopM (p : Pat) (body : MS) : List P → MS
  | [], env => .nx env
  | x :: xs, env => match bindP p x env with
    | some e => match body e with
      | .nx e' => loopM p body xs e'
      | .ct e' => loopM p body xs e'
      | .bk e' => .nx e'
      | .rt r e' => .rt r e'
      | .ex y e' => .ex y e'
      | .bad => .bad
    | none => .bad
def forM (m : M (List P)) (p : Pat) (body : MS) : MS := fun env => match m env with
  | .ok xs e => loopM p body xs e
  | .ex x e => .ex x e
  | .bad => .bad
theorem s_for (c : Cc g t cf X W j) {iter tg : Expr} {body : List Stmt} {m : M (List P)} {p : Pat} {b : MS} {pos : Pos} (hi : PI X tg iter (TIv g W m)) (hg : PG X tg (gPat g.K p)) (hb : PSs X body (TSv g W b))
    (hs : ∀ x, foldedSetIterable iter X.env x = pure x := by intro _; rfl) : PS X (.For tg iter body [] pos) (TSv g W (forM m p b)) := PS.imp (ps_for c.po c.calm hi hg hb hs) fun D σ H h => by
  obtain ⟨F, ow, env, l, o⟩ := h
  refine ⟨F, ow, env, l, ?_⟩
  unfold forM at o
  cases e : m env with
  | bad => rw [e] at o; exact o
  | ex x e1 => rw [e] at o; exact fun F' ow' H' cls d p x => o F' ow' σ H' cls d p x
  | ok xs e1 =>
    rw [e] at o
    intro F1 ow1 H1 J p1 it
    refine ⟨fun i m σ' H' => m = xs.length - i ∧ i ≤ xs.length ∧ ∃ F' ow' env', gPost g F1 ow1 σ e1 H1 F' ow' σ' env' H' ∧ OutS g W F ow σ env H D (loopM p b (xs.drop i) env'), ⟨xs.length, by simp, Nat.zero_le _, F1, ow1, e1, Post.refl p1.rel, by simpa using o⟩, ?_⟩
    rintro i m σ' H' ⟨rfl, hle, F', ow', env', q, oo⟩
    obtain ⟨stop, step⟩ := it F' H' q.sub q.rel.ext q.frz
    by_cases hlt : i < xs.length
    · have hx : xs[i]? = some xs[i] := List.getElem?_eq_getElem hlt
      obtain ⟨go, yld⟩ := step i _ hx
      refine .inr ⟨go, fun σ3 H3 => ∃ F3 ow3 env3, gPost g F1 ow1 σ e1 H1 F3 ow3 σ3 env3 H3 ∧ OutS g W F ow σ env H D (loopM p b (xs.drop (i + 1)) env3), fun σ3 H3 n3 => ⟨xs.length - (i + 1), by omega, rfl, hlt, n3⟩, fun v H2 y => ?_⟩
      obtain ⟨out, ho, hr⟩ := yld v H2 y
      obtain ⟨F2, ow2, p2, r2, n2⟩ := out_post q ho
      rw [hr] at r2
      rw [List.drop_eq_getElem_cons hlt] at oo
      unfold loopM at oo
      split at oo
      · rename_i e2 he2
        refine pat_ok p2 r2 he2 fun σ3 p3 _ _ => ⟨F2, ow2, e2, p3.rel, ?_⟩
        have pb := p1.trans p3
        cases e4 : b e2 with
        | nx e5 => rw [e4] at oo; exact fun F5 ow5 σ5 H5 p5 => ⟨F5, ow5, e5, p3.trans p5, oo⟩
        | ct e5 => rw [e4] at oo; exact fun F5 ow5 σ5 H5 p5 => ⟨F5, ow5, e5, p3.trans p5, oo⟩
        | bk e5 => rw [e4] at oo; exact fun F5 ow5 σ5 H5 p5 => oo F5 ow5 σ5 H5 (pb.trans p5)
        | rt r e5 => rw [e4] at oo; exact fun v F5 ow5 σ5 H5 p5 r5 n5 => oo v F5 ow5 σ5 H5 (pb.trans p5) r5 (n5.back pb)
        | ex x e5 => rw [e4] at oo; exact fun F5 ow5 σ5 H5 cls d p5 x5 => oo F5 ow5 σ5 H5 cls d (pb.trans p5) x5
        | bad => rw [e4] at oo; exact oo
      · exact oo.elim
    · have hi : i = xs.length := by omega
      subst hi
      refine .inl ⟨stop, ?_⟩
      rw [List.drop_length] at oo
      exact oo F' ow' σ' H' (p1.trans q)
end
end Pi

/-! Pc13: comprehensions. -/
namespace Pi
open PySem PySem.Spec L2 PyProof.Rows
abbrev W0 : WX' := fun _ _ _ _ => False
def hasN (vs : List Nat) (k : Nat) : Bool := vs.any fun v => v == k
def wipeE (env : En) (vs : List Nat) : En := env.mapIdx fun k s => if hasN vs k = true then .no else s
def backV (env envO : En) (vs : List Nat) : En := env.mapIdx fun k s => if hasN vs k = true then (envO[k]?).getD .no else s
def noOwn (env : En) (vs : List Nat) : Bool := vs.all fun k => match env[k]? with
  | some (.own _ _) => false
  | _ => true
section
variable {g : Gm} {t : Gf} {cf : CF} {X : Cx} {W : WX'} {j : Nat} {F F' F1 F2 : Hp} {ow ow' ow1 ow2 : Ow} {σ σ' σ1 σ2 : L2.St} {env env' env1 env2 : En} {H H' H1 H2 : Hp} {Q : VK} {D : Ends} {vs : List Nat}
theorem hasN_iff {k : Nat} : hasN vs k = true ↔ k ∈ vs := by
  unfold hasN
  rw [List.any_eq_true]
  exact ⟨fun ⟨v, h1, h2⟩ => by rw [beq_iff_eq] at h2; exact h2 ▸ h1, fun h => ⟨k, h, by simp⟩⟩
theorem wipeE_get (k : Nat) : (wipeE env vs)[k]? = (env[k]?).map fun s => if hasN vs k = true then .no else s := by
  unfold wipeE; rw [List.getElem?_mapIdx]
theorem backV_get (k : Nat) : (backV env env1 vs)[k]? = (env[k]?).map fun s => if hasN vs k = true then (env1[k]?).getD .no else s := by
  unfold backV; rw [List.getElem?_mapIdx]
theorem wipeE_some {k : Nat} {s : Sl} (h : (wipeE env vs)[k]? = some s) : (k ∈ vs ∧ s = .no) ∨ (k ∉ vs ∧ env[k]? = some s) := by
  rw [wipeE_get] at h
  obtain ⟨s0, h1, h2⟩ := Option.map_eq_some_iff.mp h
  by_cases hk : k ∈ vs
  · rw [if_pos (hasN_iff.mpr hk)] at h2; exact .inl ⟨hk, h2.symm⟩
  · rw [if_neg (fun z => hk (hasN_iff.mp z))] at h2; exact .inr ⟨hk, h2 ▸ h1⟩
theorem backV_some {k : Nat} {s : Sl} (hl : env.length = env1.length) (h : (backV env env1 vs)[k]? = some s) : (k ∈ vs ∧ env1[k]? = some s) ∨ (k ∉ vs ∧ env[k]? = some s) := by
  rw [backV_get] at h
  obtain ⟨s0, h1, h2⟩ := Option.map_eq_some_iff.mp h
  by_cases hk : k ∈ vs
  · rw [if_pos (hasN_iff.mpr hk)] at h2
    have : k < env1.length := by rw [← hl]; exact (List.getElem?_eq_some_iff.mp h1).1
    rw [List.getElem?_eq_getElem this] at h2 ⊢
    exact .inl ⟨hk, by rw [← h2]; rfl⟩
  · rw [if_neg (fun z => hk (hasN_iff.mp z))] at h2; exact .inr ⟨hk, h2 ▸ h1⟩
theorem noOwn_not {k : Nat} {c : C} {f : Bool} (h : noOwn env vs = true) (hk : k ∈ vs) : env[k]? ≠ some (.own c f) := by
  intro e
  unfold noOwn at h
  rw [List.all_eq_true] at h
  have := h k hk
  rw [e] at this
  cases this
theorem noOwn_back (hl : env.length = env1.length) (h : noOwn env1 vs = true) : noOwn (backV env env1 vs) vs = true := by
  unfold noOwn
  rw [List.all_eq_true]
  intro k hk
  cases e : (backV env env1 vs)[k]? with
  | none => rfl
  | some s =>
    rcases backV_some hl e with ⟨_, h2⟩ | ⟨h2, _⟩
    · cases s with
      | own c f => exact (noOwn_not h hk h2).elim
      | no => rfl
      | val x f => rfl
    · exact (h2 hk).elim
theorem blk_rel (l : gRel g F ow σ env H) : gRel g F ow (wipe σ vs) (wipeE env vs) H := by
  refine ⟨l.ext, l.own, by unfold wipeE; rw [List.length_mapIdx, wipe_length]; exact l.len, fun k s hk => ?_, fun i k c c' f f' p hi hk h1 h2 => ?_⟩
  · rcases wipeE_some hk with ⟨_, rfl⟩ | ⟨hn, h⟩
    · trivial
    · rw [wipe_out hn]; exact l.slot k s h
  · rcases wipeE_some hi with ⟨_, z⟩ | ⟨hn, h⟩
    · cases z
    · rcases wipeE_some hk with ⟨_, z⟩ | ⟨hn', h'⟩
      · cases z
      · rw [wipe_out hn] at h1
        rw [wipe_out hn'] at h2
        exact l.inj i k c c' f f' p h h' h1 h2
theorem blk_foreign {p : Addr} (f : Foreign σ env p) : Foreign (wipe σ vs) (wipeE env vs) p := by
  intro k c fl hk hs
  rcases wipeE_some hk with ⟨_, z⟩ | ⟨hn, h⟩
  · cases z
  · rw [wipe_out hn] at hs; exact f k c fl h hs
theorem wipe_eq_out (h : wipe σ2 vs = wipe σ vs) {k : Nat} (hk : k ∉ vs) : σ2[k]? = σ[k]? := by
  rw [← wipe_out (σ := σ2) hk, h, wipe_out hk]
theorem wipe_eq_len (h : wipe σ2 vs = wipe σ vs) : σ2.length = σ.length := by
  rw [← wipe_length σ2 vs, h, wipe_length]
theorem back_foreign {p : Addr} (hw : wipe σ2 vs = wipe σ vs) (hl : env2.length = env.length) (hn : noOwn env vs = true) (f : Foreign σ2 env2 p) : Foreign σ (backV env2 env vs) p := by
  intro k c fl hk hs
  rcases backV_some hl hk with ⟨h1, h2⟩ | ⟨h1, h2⟩
  · exact noOwn_not hn h1 h2
  · rw [← wipe_eq_out hw h1] at hs; exact f k c fl h2 hs
theorem blk_back (l : gRel g F ow σ env H) (hn : noOwn env vs = true) (q : gPost g F ow (wipe σ vs) (wipeE env vs) H F2 ow2 σ2 env2 H2) (hw : wipe σ2 vs = wipe σ vs) : env2.length = env.length ∧ gPost g F ow σ env H F2 ow2 σ (backV env2 env vs) H2 := by
  have hl : env2.length = env.length := by rw [q.rel.len, wipe_eq_len hw, l.len]
  have l2 := q.rel
  refine ⟨hl, q.sub, ⟨l2.ext, l2.own, by unfold backV; rw [List.length_mapIdx, hl]; exact l.len, fun k s hk => ?_, fun i k c c' f f' p hi hk h1 h2 => ?_⟩, fun p c ho hf => ?_, fun k s hk hf => ?_, q.frz⟩
  · rcases backV_some hl hk with ⟨h1, h2⟩ | ⟨h1, h2⟩
    · have qq := l.slot k s h2
      cases s with
      | no => trivial
      | val x f => obtain ⟨v, e1, e2⟩ := qq; exact ⟨v, e1, Rep.mono q.sub e2⟩
      | own c f => exact (noOwn_not hn h1 h2).elim
    · rw [← wipe_eq_out hw h1]; exact l2.slot k s h2
  · rcases backV_some hl hi with ⟨h3, h4⟩ | ⟨h3, h4⟩
    · exact (noOwn_not hn h3 h4).elim
    · rcases backV_some hl hk with ⟨h5, h6⟩ | ⟨h5, h6⟩
      · exact (noOwn_not hn h5 h6).elim
      · rw [← wipe_eq_out hw h3] at h1
        rw [← wipe_eq_out hw h5] at h2
        exact l2.inj i k c c' f f' p h4 h6 h1 h2
  · obtain ⟨h1, h2⟩ := q.frame p c ho (blk_foreign hf)
    exact ⟨h1, back_foreign hw hl hn h2⟩
  · refine ⟨rfl, ?_⟩
    by_cases hv : k ∈ vs
    · refine ⟨s, ?_, hf⟩
      rw [backV_get]
      have : k < env2.length := by rw [hl]; exact (List.getElem?_eq_some_iff.mp hk).1
      rw [List.getElem?_eq_getElem this, hk]
      simp [hasN_iff.mpr hv]
    · have hk2 : (wipeE env vs)[k]? = some s := by
        have nv : hasN vs k = false := Bool.eq_false_iff.mpr fun z => hv (hasN_iff.mp z)
        rw [wipeE_get, hk]
        simp [nv]
      obtain ⟨_, s', h2, h3⟩ := q.fix k s hk2 hf
      refine ⟨s', ?_, h3⟩
      have nv : hasN vs k = false := Bool.eq_false_iff.mpr fun z => hv (hasN_iff.mp z)
      rw [backV_get, h2]
      simp [nv]
theorem wipe_in {k : Nat} (hk : k ∈ vs) (hl : k < σ.length) : (wipe σ vs)[k]? = some none := by
  induction vs with
  | nil => cases hk
  | cons v vs ih =>
    unfold wipe
    by_cases e : v = k
    · subst e
      rw [List.getElem?_set_self (by rw [wipe_length]; exact hl)]
    · rw [List.getElem?_set_ne e]
      exact ih ((List.mem_cons.mp hk).elim (fun z => (e z.symm).elim) id)
/-- a target's store touches the block's own names only -/
theorem wipe_stored {p : Pat} (hs : (p.slots.all fun k => hasN vs k) = true) (h1 : ∀ k, k ∉ p.slots → σ2[k]? = (wipe σ vs)[k]?) (h2 : σ2.length = (wipe σ vs).length) : wipe σ2 vs = wipe σ vs := by
  rw [wipe_length] at h2
  refine List.ext_getElem? fun k => ?_
  by_cases hk : k ∈ vs
  · by_cases hl : k < σ.length
    · rw [wipe_in hk hl, wipe_in hk (by rw [h2]; exact hl)]
    · rw [List.getElem?_eq_none (by rw [wipe_length, h2]; omega), List.getElem?_eq_none (by rw [wipe_length]; omega)]
  · have : k ∉ p.slots := fun z => by
      rw [List.all_eq_true] at hs
      exact hk (hasN_iff.mp (hs k z))
    rw [wipe_out hk, h1 k this]
/-- the block's own context -/
theorem Cc.blk (c : Cc g t cf X W j) (s : Shared) (H : Hp) (scope : Scope) (cenv : Env) (fp : List Addr) : Cc g t cf (X.blk s H scope cenv fp) W0 j :=
  ⟨c.K, c.calm, c.nd, c.room3, LamX.takes0, PassesOwn.never, c.fn, c.st⟩

/-! ### lists -/
def lcLoop (p : Pat) (vs : List Nat) (mt : M Bool) (me : M R) : List P → List P → M R
  | [], acc, env => .ok (.new (.lst acc)) env
  | x :: xs, acc, env => match bindP p x (wipeE env vs) with
    | some e1 => match mt e1 with
      | .ok b e2 => if b = true then (match me e2 with
          | .ok r e3 => match freeze r e3 with
            | some (y, e4) => if acc.length < lim then lcLoop p vs mt me xs (acc ++ [y]) (backV e4 env vs) else .bad
            | none => .bad
          | _ => .bad) else lcLoop p vs mt me xs acc (backV e2 env vs)
      | _ => .bad
    | none => .bad
def lcM (m : M (List P)) (p : Pat) (vs : List Nat) (mt : M Bool) (me : M R) : M R := fun env => match m env with
  | .ok xs e => if noOwn e vs = true ∧ (p.slots.all fun k => hasN vs k) = true then lcLoop p vs mt me xs [] e else .bad
  | .ex x e => .ex x e
  | .bad => .bad
theorem lim_lt {n : Nat} (h : n < lim) : n < sizeLine := Nat.lt_of_lt_of_le h (lim_line (Nat.le_refl _))
theorem lc_ok {m : M (List P)} {p : Pat} {mt : M Bool} {me : M R} (h : TEv g W (lcM m p vs mt me) σ H Q) : tLc (TIv g W m) (gPat g.K p) (TTv g W0 mt) (TEv g W0 me) vs σ H Q := by
  obtain ⟨F, ow, env, l, o⟩ := h
  refine ⟨F, ow, env, l, ?_⟩
  unfold lcM at o
  cases e : m env with
  | bad => rw [e] at o; exact o
  | ex x e1 => rw [e] at o; exact o
  | ok xs e1 =>
    rw [e] at o
    intro F1 ow1 H1 J p1 it D hD
    dsimp only at o
    split at o
    · rename_i hh
      obtain ⟨hno, hsl⟩ := hh
      have fD := p1.rel.free hD
      have nfD : NF ow1 σ e1 D := fun c hc _ => by rw [fD.2] at hc; cases hc
      refine ⟨fun i mm H' => mm = xs.length - i ∧ i ≤ xs.length ∧ ∃ F' ow' env' acc, gPost g F1 ow1 σ e1 H1 F' ow' σ env' H' ∧ ow' D = some (.lst acc) ∧ Foreign σ env' D ∧ noOwn env' vs = true ∧ OutE g W F ow σ env H Q (lcLoop p vs mt me (xs.drop i) acc env'), ⟨xs.length, by simp, Nat.zero_le _, ?_⟩, ?_⟩
      · obtain ⟨F2, ow2, p2, ⟨q, eq, h1, h2⟩, _⟩ := out_post (o := .mk (.lst [])) (Post.refl p1.rel) ⟨D, .lst [], hD, rfl, rfl, [], rfl, .nil⟩
        cases eq
        exact ⟨F2, ow2, e1, [], p2, h1, h2, hno, by simpa using o⟩
      · rintro i mm H' ⟨rfl, hle, F', ow', env', acc, q, oD, fo, hn, oo⟩
        obtain ⟨stop, step⟩ := it F' H' q.sub q.rel.ext q.frz
        by_cases hlt : i < xs.length
        · have hx : xs[i]? = some xs[i] := List.getElem?_eq_getElem hlt
          obtain ⟨go, yld⟩ := step i _ hx
          refine .inr ⟨go, fun H3 => ∃ F3 ow3 env3 acc3, gPost g F1 ow1 σ e1 H1 F3 ow3 σ env3 H3 ∧ ow3 D = some (.lst acc3) ∧ Foreign σ env3 D ∧ noOwn env3 vs = true ∧ OutE g W F ow σ env H Q (lcLoop p vs mt me (xs.drop (i + 1)) acc3 env3), fun H3 n3 => ⟨xs.length - (i + 1), by omega, rfl, hlt, n3⟩, fun v H2 y => ?_⟩
          obtain ⟨out, ho, hr⟩ := yld v H2 y
          obtain ⟨F2, ow2, pc, r2, n2⟩ := out_post (Post.refl q.rel) ho
          rw [hr] at r2
          obtain ⟨oD2, fo2⟩ := pc.frame D _ oD fo
          rw [List.drop_eq_getElem_cons hlt] at oo
          unfold lcLoop at oo
          split at oo
          · rename_i e2 he2
            refine pat_ok (Post.refl (blk_rel (vs := vs) pc.rel)) r2 he2 fun σ2 p3 hs2 hl2 => ?_
            have hw : wipe σ2 vs = wipe σ vs := wipe_stored hsl hs2 hl2
            refine ⟨hw, F2, ow2, e2, p3.rel, ?_⟩
            cases e4 : mt e2 with
            | bad => rw [e4] at oo; exact oo
            | ex x e5 => rw [e4] at oo; exact oo.elim
            | ok b e5 =>
              rw [e4] at oo
              intro F3 ow3 H3 p4
              dsimp only at oo
              cases b with
              | false =>
                rw [if_neg Bool.false_ne_true] at oo
                rw [if_neg Bool.false_ne_true]
                obtain ⟨hl, pb⟩ := blk_back pc.rel hn (p3.trans p4) hw
                obtain ⟨h1, h2⟩ := (p3.trans p4).frame D _ oD2 (blk_foreign fo2)
                exact ⟨F3, ow3, _, acc, (q.trans pc).trans pb, h1, back_foreign hw hl hn h2, noOwn_back hl hn, oo⟩
              | true =>
                rw [if_pos rfl] at oo ⊢
                refine ⟨F3, ow3, e5, p4.rel, ?_⟩
                cases e6 : me e5 with
                | bad => rw [e6] at oo; exact oo
                | ex x e7 => rw [e6] at oo; exact oo.elim
                | ok r e7 =>
                  rw [e6] at oo
                  intro yv F4 ow4 H4 p5 r5 n5
                  dsimp only at oo
                  split at oo
                  · rename_i y e8 hz
                    split at oo
                    · rename_i hlim
                      obtain ⟨F5, ow5, p6, r6, _, _⟩ := p5.freeze r5 n5 hz
                      obtain ⟨hl, pb⟩ := blk_back pc.rel hn ((p3.trans p4).trans p6) hw
                      obtain ⟨h1, h2⟩ := ((p3.trans p4).trans p6).frame D _ oD2 (blk_foreign fo2)
                      have h3 := back_foreign hw hl hn h2
                      obtain ⟨D', eD, ⟨ws, hH, rw'⟩, go5⟩ := ((q.trans pc).trans pb).mutate (r := .new (.lst acc)) (v := .ref D) ⟨D, rfl, h1, h3⟩ (fun p e => by cases e; exact nfD) rfl
                      cases eD
                      refine ⟨ws, hH, by rw [← rw'.len]; exact lim_lt hlim, F5, _, _, _, go5 (.lst (acc ++ [y])) _ ⟨_, upd_same, rw'.app (.cons r6 .nil)⟩, setO_same, h3, noOwn_back hl hn, oo⟩
                    · exact oo.elim
                  · exact oo.elim
          · exact oo.elim
        · have hi : i = xs.length := by omega
          subst hi
          rw [List.drop_length] at oo
          exact .inl ⟨stop, oo (.ref D) F' ow' H' (p1.trans q) ⟨D, rfl, oD, fo⟩ (RNF.back (r := .new (.lst acc)) p1 fun p e => by cases e; exact nfD)⟩
    · exact o.elim
theorem e_lc (c : Cc g t cf X W j) {elt tg iter : Expr} {ifs : List Expr} {scope : Scope} {own : List (Str × Nat)} {pos : Pos} {m : M (List P)} {p : Pat} {mt : M Bool} {me : M R} (hi : PI X tg iter (TIv g W m)) (ok : BlkOk X.N X.env.scope scope own)
    (hg : ∀ (s : Shared) (H : Hp) (C : Addr) (cl : List (Str × Addr)) (fp : List Addr), PG (X.blk s H scope (compEnvC scope cl C X.env) fp) tg (gPat g.K p))
    (ht : ∀ (s : Shared) (H : Hp) (C : Addr) (cl : List (Str × Addr)) (fp : List Addr), PTs (X.blk s H scope (compEnvC scope cl C X.env) fp) ifs (TTv g W0 mt))
    (he : ∀ (s : Shared) (H : Hp) (C : Addr) (cl : List (Str × Addr)) (fp : List Addr), PE (X.blk s H scope (compEnvC scope cl C X.env) fp) elt (TEv g W0 me)) (hs : ∀ x, foldedSetIterable iter X.env x = pure x := by intro _; rfl) :
    PE X (.ListComp elt [⟨tg, iter, ifs, 0⟩] scope pos) (TEv g W (lcM m p (own.map (·.2)) mt me)) := PE.imp (pe_lc c.calm c.nd hi ok hg ht he hs) fun _ _ _ h => lc_ok h
theorem s_setLc (c : Cc g t cf X W j) (i : Nat) {y : Str} {py : Pos} {elt tg iter : Expr} {ifs : List Expr} {scope : Scope} {own : List (Str × Nat)} {pos spos : Pos} {m : M (List P)} {p : Pat} {mt : M Bool} {me : M R}
    (hsw : swapsWith (.ListComp elt [⟨tg, iter, ifs, 0⟩] scope pos) (some (.Name y py)) spos.line X.env = pure true) (hi : PI X tg iter (TIv g W m)) (ok : BlkOk X.N X.env.scope scope own)
    (hg : ∀ (s : Shared) (H : Hp) (C : Addr) (cl : List (Str × Addr)) (fp : List Addr), PG (X.blk s H scope (compEnvC scope cl C X.env) fp) tg (gPat g.K p))
    (ht : ∀ (s : Shared) (H : Hp) (C : Addr) (cl : List (Str × Addr)) (fp : List Addr), PTs (X.blk s H scope (compEnvC scope cl C X.env) fp) ifs (TTv g W0 mt))
    (he : ∀ (s : Shared) (H : Hp) (C : Addr) (cl : List (Str × Addr)) (fp : List Addr), PE (X.blk s H scope (compEnvC scope cl C X.env) fp) elt (TEv g W0 me)) (hs : ∀ x, foldedSetIterable iter X.env x = pure x := by intro _; rfl)
    (hy : X.N[i]? = some y := by rfl) (hyl : X.env.scope.names.lookup y = some .local := by rfl) :
    PS X (.Assign [.Name y py] (.ListComp elt [⟨tg, iter, ifs, 0⟩] scope pos) spos) (TSv g W (setM i (lcM m p (own.map (·.2)) mt me))) := PS.imp (ps_setLc c.calm c.nd hy hyl hsw hi ok hg ht he hs) fun D σ H h => lc_ok (set_ok h)
theorem yes_pts : PTs X [] (TTv g W (M.pure true)) := ⟨fun pins s σ H Q I h => pts_nil.run pins s σ H Q I (by
  obtain ⟨F, ow, env, l, o⟩ := h
  exact o F ow H (Post.refl l))⟩

/-! ### dicts -/
def dcLoop (p : Pat) (vs : List Nat) (mt : M Bool) (mk mv : M R) : List P → List (Key × P) → M R
  | [], acc, env => .ok (.new (.dic acc)) env
  | x :: xs, acc, env => match bindP p x (wipeE env vs) with
    | some e1 => match mt e1 with
      | .ok b e2 => if b = true then (match mk e2 with
          | .ok (.val k) e3 => match keyP k with
            | some kk => match mv e3 with
              | .ok r e4 => match freeze r e4 with
                | some (y, e5) => if acc.length < lim then dcLoop p vs mt mk mv xs (putP acc kk y) (backV e5 env vs) else .bad
                | none => .bad
              | _ => .bad
            | none => .bad
          | _ => .bad) else dcLoop p vs mt mk mv xs acc (backV e2 env vs)
      | _ => .bad
    | none => .bad
def dcM (m : M (List P)) (p : Pat) (vs : List Nat) (mt : M Bool) (mk mv : M R) : M R := fun env => match m env with
  | .ok xs e => if noOwn e vs = true ∧ (p.slots.all fun k => hasN vs k) = true then dcLoop p vs mt mk mv xs [] e else .bad
  | .ex x e => .ex x e
  | .bad => .bad
theorem dc_ok {m : M (List P)} {p : Pat} {mt : M Bool} {mk mv : M R} (h : TEv g W (dcM m p vs mt mk mv) σ H Q) : tDc (TIv g W m) (gPat g.K p) (TTv g W0 mt) (TEv g W0 mk) (TEv g W0 mv) vs σ H Q := by
  obtain ⟨F, ow, env, l, o⟩ := h
  refine ⟨F, ow, env, l, ?_⟩
  unfold dcM at o
  cases e : m env with
  | bad => rw [e] at o; exact o
  | ex x e1 => rw [e] at o; exact o
  | ok xs e1 =>
    rw [e] at o
    intro F1 ow1 H1 J p1 it D hD
    dsimp only at o
    split at o
    · rename_i hh
      obtain ⟨hno, hsl⟩ := hh
      have fD := p1.rel.free hD
      have nfD : NF ow1 σ e1 D := fun c hc _ => by rw [fD.2] at hc; cases hc
      refine ⟨fun i mm H' => mm = xs.length - i ∧ i ≤ xs.length ∧ ∃ F' ow' env' acc, gPost g F1 ow1 σ e1 H1 F' ow' σ env' H' ∧ ow' D = some (.dic acc) ∧ Foreign σ env' D ∧ noOwn env' vs = true ∧ OutE g W F ow σ env H Q (dcLoop p vs mt mk mv (xs.drop i) acc env'), ⟨xs.length, by simp, Nat.zero_le _, ?_⟩, ?_⟩
      · obtain ⟨F2, ow2, p2, ⟨q, eq, h1, h2⟩, _⟩ := out_post (o := .mk (.dic [])) (Post.refl p1.rel) ⟨D, .dK [], hD, rfl, rfl, [], rfl, .nil⟩
        cases eq
        exact ⟨F2, ow2, e1, [], p2, h1, h2, hno, by simpa using o⟩
      · rintro i mm H' ⟨rfl, hle, F', ow', env', acc, q, oD, fo, hn, oo⟩
        obtain ⟨stop, step⟩ := it F' H' q.sub q.rel.ext q.frz
        by_cases hlt : i < xs.length
        · have hx : xs[i]? = some xs[i] := List.getElem?_eq_getElem hlt
          obtain ⟨go, yld⟩ := step i _ hx
          refine .inr ⟨go, fun H3 => ∃ F3 ow3 env3 acc3, gPost g F1 ow1 σ e1 H1 F3 ow3 σ env3 H3 ∧ ow3 D = some (.dic acc3) ∧ Foreign σ env3 D ∧ noOwn env3 vs = true ∧ OutE g W F ow σ env H Q (dcLoop p vs mt mk mv (xs.drop (i + 1)) acc3 env3), fun H3 n3 => ⟨xs.length - (i + 1), by omega, rfl, hlt, n3⟩, fun v H2 y => ?_⟩
          obtain ⟨out, ho, hr⟩ := yld v H2 y
          obtain ⟨F2, ow2, pc, r2, n2⟩ := out_post (Post.refl q.rel) ho
          rw [hr] at r2
          obtain ⟨oD2, fo2⟩ := pc.frame D _ oD fo
          rw [List.drop_eq_getElem_cons hlt] at oo
          unfold dcLoop at oo
          split at oo
          · rename_i e2 he2
            refine pat_ok (Post.refl (blk_rel (vs := vs) pc.rel)) r2 he2 fun σ2 p3 hs2 hl2 => ?_
            have hw : wipe σ2 vs = wipe σ vs := wipe_stored hsl hs2 hl2
            refine ⟨hw, F2, ow2, e2, p3.rel, ?_⟩
            cases e4 : mt e2 with
            | bad => rw [e4] at oo; exact oo
            | ex x e5 => rw [e4] at oo; exact oo.elim
            | ok b e5 =>
              rw [e4] at oo
              intro F3 ow3 H3 p4
              dsimp only at oo
              cases b with
              | false =>
                rw [if_neg Bool.false_ne_true] at oo
                rw [if_neg Bool.false_ne_true]
                obtain ⟨hl, pb⟩ := blk_back pc.rel hn (p3.trans p4) hw
                obtain ⟨h1, h2⟩ := (p3.trans p4).frame D _ oD2 (blk_foreign fo2)
                exact ⟨F3, ow3, _, acc, (q.trans pc).trans pb, h1, back_foreign hw hl hn h2, noOwn_back hl hn, oo⟩
              | true =>
                rw [if_pos rfl] at oo ⊢
                refine ⟨F3, ow3, e5, p4.rel, ?_⟩
                cases e6 : mk e5 with
                | bad => rw [e6] at oo; exact oo
                | ex x e7 => rw [e6] at oo; exact oo.elim
                | ok rk e7 =>
                  rw [e6] at oo
                  cases rk with
                  | new c => exact oo.elim
                  | «at» s => exact oo.elim
                  | val k =>
                    intro kv F4 ow4 H4 p5 r5 n5
                    refine ⟨F4, ow4, e7, p5.rel, ?_⟩
                    dsimp only at oo
                    split at oo
                    · rename_i kk hkk
                      cases e9 : mv e7 with
                      | bad => rw [e9] at oo; exact oo
                      | ex x e8 => rw [e9] at oo; exact oo.elim
                      | ok r e8 =>
                        rw [e9] at oo
                        intro yv F5 ow5 H5 p6 r6 n6
                        dsimp only at oo
                        split at oo
                        · rename_i y e10 hz
                          split at oo
                          · rename_i hlim
                            obtain ⟨F6, ow6, p7, r7, _, _⟩ := p6.freeze r6 n6 hz
                            have pall := ((p3.trans p4).trans p5).trans p7
                            obtain ⟨hl, pb⟩ := blk_back pc.rel hn pall hw
                            obtain ⟨h1, h2⟩ := pall.frame D _ oD2 (blk_foreign fo2)
                            have h3 := back_foreign hw hl hn h2
                            have hk : kv = kV kk := keyP_rep hkk (Rep.shape p5.rel.ext r5)
                            obtain ⟨D', eD, ⟨ws, hH, rw'⟩, go5⟩ := ((q.trans pc).trans pb).mutate (r := .new (.dic acc)) (v := .ref D) ⟨D, rfl, h1, h3⟩ (fun p e => by cases e; exact nfD) rfl
                            cases eD
                            exact ⟨ws, kk, hk, hH, by rw [← rw'.len]; exact lim_lt hlim, F6, _, _, _, go5 (.dic (putP acc kk y)) _ ⟨_, upd_same, rw'.put r7⟩, setO_same, h3, noOwn_back hl hn, oo⟩
                          · exact oo.elim
                        · exact oo.elim
                    · exact oo.elim
          · exact oo.elim
        · have hi : i = xs.length := by omega
          subst hi
          rw [List.drop_length] at oo
          exact .inl ⟨stop, oo (.ref D) F' ow' H' (p1.trans q) ⟨D, rfl, oD, fo⟩ (RNF.back (r := .new (.dic acc)) p1 fun p e => by cases e; exact nfD)⟩
    · exact o.elim
theorem e_dc (c : Cc g t cf X W j) {kx vx tg iter : Expr} {ifs : List Expr} {scope : Scope} {own : List (Str × Nat)} {pos : Pos} {m : M (List P)} {p : Pat} {mt : M Bool} {mk mv : M R} (hi : PI X tg iter (TIv g W m)) (ok : BlkOk X.N X.env.scope scope own)
    (hg : ∀ (s : Shared) (H : Hp) (C : Addr) (cl : List (Str × Addr)) (fp : List Addr), PG (X.blk s H scope (compEnvC scope cl C X.env) fp) tg (gPat g.K p))
    (ht : ∀ (s : Shared) (H : Hp) (C : Addr) (cl : List (Str × Addr)) (fp : List Addr), PTs (X.blk s H scope (compEnvC scope cl C X.env) fp) ifs (TTv g W0 mt))
    (hk : ∀ (s : Shared) (H : Hp) (C : Addr) (cl : List (Str × Addr)) (fp : List Addr), PE (X.blk s H scope (compEnvC scope cl C X.env) fp) kx (TEv g W0 mk))
    (he : ∀ (s : Shared) (H : Hp) (C : Addr) (cl : List (Str × Addr)) (fp : List Addr), PE (X.blk s H scope (compEnvC scope cl C X.env) fp) vx (TEv g W0 mv)) (hs : ∀ x, foldedSetIterable iter X.env x = pure x := by intro _; rfl) :
    PE X (.DictComp kx vx [⟨tg, iter, ifs, 0⟩] scope pos) (TEv g W (dcM m p (own.map (·.2)) mt mk mv)) := PE.imp (pe_dc c.calm c.nd hi ok hg ht hk he hs) fun _ _ _ h => dc_ok h
end
end Pi

/-! Pc14: defs. -/
namespace Pi
open PySem PySem.Spec L2 PyProof.Rows
/-- what a def's parameters come to -/
def backP (ss env : En) : En := ss.mapIdx fun i s => match s with
  | .own _ _ => (env[i]?).getD .no
  | s => s
def lentFix (ss : En) : Bool := ss.all fun s => match s with
  | .own _ f => f
  | _ => true
/-- a body's end as the caller sees it -/
def finS (ss : En) : SO → Out R
  | .nx e => .ok (.val .non) (backP ss e)
  | .rt (.val x) e => .ok (.val x) (backP ss e)
  | .rt (.new c) e => .ok (.new c) (backP ss e)
  | .rt (.at i) e => match e[i]? with
    | some (.own c f) => if f = true then .ok (.val c.p) (backP ss (e.set i (.val c.p f))) else if i < ss.length then .bad else .ok (.new c) (backP ss e)
    | some (.val x _) => .ok (.val x) (backP ss e)
    | _ => .bad
  | .ex x e => .ex x (backP ss e)
  | _ => .bad
/-- a def: its number of names, of parameters, its body over its callees -/
structure Df where
  nn : Nat
  np : Nat
  bd : CF → MS
def runF (ds : Nat → Df) : Nat → CF
  | 0, _, _ => .bad
  | n + 1, k, ss => if ss.length = (ds k).np ∧ (ds k).np ≤ (ds k).nn ∧ lentFix ss = true then finS ss ((ds k).bd (runF ds n) (ss ++ List.replicate ((ds k).nn - (ds k).np) .no)) else .bad
section
variable {g : Gm} {t : Gf} {cf : CF} {X : Cx} {W : WX'} {j : Nat} {F F' F1 F2 : Hp} {ow ow' ow1 ow2 : Ow} {σ σ' σ1 σ2 : L2.St} {env env' env1 env2 ss : En} {H H' H1 H2 : Hp} {Q : VK} {D : Ends} {vs : List V} {n : Nat}
theorem backP_get (i : Nat) : (backP ss env)[i]? = (ss[i]?).map fun s => match s with
  | .own _ _ => (env[i]?).getD .no
  | s => s := by unfold backP; rw [List.getElem?_mapIdx]
theorem ext_get {i : Nat} {s : Sl} (h : ss[i]? = some s) : (ss ++ List.replicate n Sl.no)[i]? = some s := by
  rw [List.getElem?_append_left (List.getElem?_eq_some_iff.mp h).1]; exact h
theorem ext_some {i : Nat} {s : Sl} (h : (ss ++ List.replicate n Sl.no)[i]? = some s) : ss[i]? = some s ∨ s = .no := by
  by_cases hi : i < ss.length
  · rw [List.getElem?_append_left hi] at h; exact .inl h
  · rw [List.getElem?_append_right (by omega)] at h
    exact .inr (List.eq_of_mem_replicate (List.mem_of_getElem? h))
theorem st_get {i : Nat} (h : i < vs.length) : (vs.map some ++ List.replicate n none)[i]? = (vs.map some)[i]? := List.getElem?_append_left (by simpa using h)
theorem lentFix_get {i : Nat} {c : C} {f : Bool} (h : lentFix ss = true) (hi : ss[i]? = some (.own c f)) : f = true := by
  unfold lentFix at h
  rw [List.all_eq_true] at h
  exact h _ (List.mem_of_getElem? hi)
theorem enter (l : gRel g F ow (vs.map some) ss H) : gRel g F ow (vs.map some ++ List.replicate n none) (ss ++ List.replicate n .no) H := by
  have hl : ss.length = vs.length := by have := l.len; simpa using this
  refine ⟨l.ext, l.own, by simp [hl], fun i s hi => ?_, fun i k c c' f f' p hi hk h1 h2 => ?_⟩
  · rcases ext_some hi with h | rfl
    · rw [st_get (by rw [← hl]; exact (List.getElem?_eq_some_iff.mp h).1)]; exact l.slot i s h
    · trivial
  · rcases ext_some hi with h | z
    · rcases ext_some hk with h' | z
      · rw [st_get (by rw [← hl]; exact (List.getElem?_eq_some_iff.mp h).1)] at h1
        rw [st_get (by rw [← hl]; exact (List.getElem?_eq_some_iff.mp h').1)] at h2
        exact l.inj i k c c' f f' p h h' h1 h2
      · cases z
    · cases z
theorem enter_foreign {p : Addr} (hl : ss.length = vs.length) (f : Foreign (vs.map some) ss p) : Foreign (vs.map some ++ List.replicate n none) (ss ++ List.replicate n .no) p := by
  intro i c fl hi hs
  rcases ext_some hi with h | z
  · rw [st_get (by rw [← hl]; exact (List.getElem?_eq_some_iff.mp h).1)] at hs; exact f i c fl h hs
  · cases z
/-- from inside to outside -/
theorem leave (l : gRel g F ow (vs.map some) ss H) (hf : lentFix ss = true) (q : gPost g F ow (vs.map some ++ List.replicate n none) (ss ++ List.replicate n .no) H F2 ow2 σ2 env2 H2) :
    gPost g F ow (vs.map some) ss H F2 ow2 (vs.map some) (backP ss env2) H2 ∧ (∀ p, Foreign σ2 env2 p → Foreign (vs.map some) (backP ss env2) p) ∧
    ∀ (i : Nat) (c : C) (f : Bool), (backP ss env2)[i]? = some (.own c f) → i < ss.length ∧ env2[i]? = some (.own c f) ∧ σ2[i]? = (vs.map some)[i]? := by
  have hl : ss.length = vs.length := by have := l.len; simpa using this
  have l2 := q.rel
  have key : ∀ (i : Nat) (c : C) (f : Bool), ss[i]? = some (.own c f) → σ2[i]? = (vs.map some)[i]? ∧ ∃ s', env2[i]? = some s' ∧ s'.fix = true ∧ (backP ss env2)[i]? = some s' := by
    intro i c f hi
    obtain rfl := lentFix_get hf hi
    obtain ⟨h1, s', h2, h3⟩ := q.fix i _ (ext_get hi) rfl
    refine ⟨by rw [h1, st_get (by rw [← hl]; exact (List.getElem?_eq_some_iff.mp hi).1)], s', h2, h3, ?_⟩
    rw [backP_get, hi]
    simp [h2]
  have cases' : ∀ (i : Nat) (s : Sl), (backP ss env2)[i]? = some s → (∃ c f, ss[i]? = some (.own c f) ∧ env2[i]? = some s ∧ σ2[i]? = (vs.map some)[i]?) ∨ (ss[i]? = some s ∧ ∀ c f, s ≠ .own c f) := by
    intro i s hi
    have hb := hi
    rw [backP_get] at hi
    obtain ⟨s0, h1, h2⟩ := Option.map_eq_some_iff.mp hi
    cases s0 with
    | own c f =>
      obtain ⟨k1, s', k2, k3, k4⟩ := key i c f h1
      rw [hb] at k4; cases k4
      exact .inl ⟨c, f, h1, k2, k1⟩
    | no => subst h2; exact .inr ⟨h1, fun _ _ z => nomatch z⟩
    | val x f => subst h2; exact .inr ⟨h1, fun _ _ z => nomatch z⟩
  have own3 : ∀ (i : Nat) (c : C) (f : Bool), (backP ss env2)[i]? = some (.own c f) → i < ss.length ∧ env2[i]? = some (.own c f) ∧ σ2[i]? = (vs.map some)[i]? := by
    intro i c f hi
    rcases cases' i _ hi with ⟨c0, f0, h1, h2, h3⟩ | ⟨_, h⟩
    · exact ⟨(List.getElem?_eq_some_iff.mp h1).1, h2, h3⟩
    · exact (h c f rfl).elim
  refine ⟨⟨q.sub, ⟨l2.ext, l2.own, by unfold backP; rw [List.length_mapIdx]; exact l.len, fun i s hi => ?_, fun i k c c' f f' p hi hk h1 h2 => ?_⟩, fun p c ho hfo => ?_, fun i s hi hfx => ?_, q.frz⟩, fun p f i c fl hi hs => ?_, own3⟩
  · rcases cases' i s hi with ⟨c, f, h1, h2, h3⟩ | ⟨h1, h2⟩
    · rw [← h3]; exact l2.slot i s h2
    · have qq := l.slot i s h1
      cases s with
      | no => trivial
      | val x f => obtain ⟨v, e1, e2⟩ := qq; exact ⟨v, e1, Rep.mono q.sub e2⟩
      | own c f => exact (h2 c f rfl).elim
  · obtain ⟨_, a1, a2⟩ := own3 i c f hi
    obtain ⟨_, b1, b2⟩ := own3 k c' f' hk
    rw [← a2] at h1
    rw [← b2] at h2
    exact l2.inj i k c c' f f' p a1 b1 h1 h2
  · obtain ⟨h1, h2⟩ := q.frame p c ho (enter_foreign hl hfo)
    refine ⟨h1, fun i c2 fl hi hs => ?_⟩
    obtain ⟨_, a1, a2⟩ := own3 i c2 fl hi
    rw [← a2] at hs
    exact h2 i c2 fl a1 hs
  · refine ⟨rfl, ?_⟩
    cases s with
    | own c f => obtain ⟨_, s', _, h3, h4⟩ := key i c f hi; exact ⟨s', h4, h3⟩
    | no => cases hfx
    | val x f => exact ⟨.val x f, by rw [backP_get, hi]; rfl, hfx⟩
  · obtain ⟨_, a1, a2⟩ := own3 i c fl hi
    rw [← a2] at hs
    exact f i c fl a1 hs
/-- the body's reading, entered with the caller's promise -/
theorem body_ok {b : MS} {E : XK} (l : gRel g F ow (vs.map some) ss H) (hf : lentFix ss = true) (o : OutE g (fun cls d _ H' => E cls d H') F ow (vs.map some) ss H Q (finS ss (b (ss ++ List.replicate n .no)))) :
    TSv g (fun cls d _ H' => E cls d H') b { nx := fun _ H' => Q .non H', rt := Q } (vs.map some ++ List.replicate n none) H := by
  refine ⟨F, ow, _, enter l, ?_⟩
  have hl : ss.length = vs.length := by have := l.len; simpa using this
  cases e : b (ss ++ List.replicate n .no) with
  | nx e1 => rw [e] at o; exact fun F' ow' σ' H' p => o .non F' ow' H' (leave l hf p).1 .non trivial
  | bk e1 => rw [e] at o; exact o.elim
  | ct e1 => rw [e] at o; exact o.elim
  | bad => rw [e] at o; exact o.elim
  | ex x e1 => rw [e] at o; exact fun F' ow' σ' H' cls d p xr => o F' ow' H' cls d (leave l hf p).1 xr
  | rt r e1 =>
    rw [e] at o
    intro v F' ow' σ' H' p rr nn
    obtain ⟨pl, fo, own3⟩ := leave l hf p
    cases r with
    | val x => exact o v F' ow' H' pl rr trivial
    | new c =>
      obtain ⟨q, rfl, h1, h2⟩ := rr
      refine o _ F' ow' H' pl ⟨q, rfl, h1, fo q h2⟩ fun q' eq c' ho hfo => ?_
      cases eq
      exact nn q rfl c' ho (enter_foreign hl hfo)
    | «at» i =>
      unfold finS at o
      dsimp only at o
      obtain ⟨hs, q, rfl⟩ := rr
      split at o
      · rename_i c f hc
        split at o
        · rename_i hfx
          have hz : freeze (.at i) e1 = some (c.p, e1.set i (.val c.p f)) := by unfold freeze; simp only [hc]
          obtain ⟨F3, ow3, p3, r3, _, _⟩ := p.freeze (r := .at i) ⟨hs, q, rfl⟩ trivial hz
          exact o _ F3 ow3 H' (leave l hf p3).1 r3 trivial
        · split at o
          · exact o.elim
          · rename_i hnf hi
            obtain ⟨q', hq', hoq⟩ := p.rel.slot i _ hc
            rw [hs] at hq'; cases hq'
            refine o _ F' ow' H' pl ⟨q, rfl, hoq, fun k c2 f2 hk hkv => ?_⟩ fun q' eq c' ho hfo => ?_
            · obtain ⟨a0, a1, a2⟩ := own3 k c2 f2 hk
              rw [← a2] at hkv
              have := p.rel.inj i k c c2 f f2 q hc a1 hs hkv
              omega
            · cases eq
              exact (p.frame q c' ho (enter_foreign hl hfo)).2 i c f hc hs
      · rename_i x f hc
        obtain ⟨w, hw, r⟩ := p.rel.slot i _ hc
        rw [hs] at hw; cases hw
        exact o _ F' ow' H' pl r trivial
      · exact o.elim

/-! ### a def keeps its reading -/
theorem fn_bad {P : Program} {w : World} {K : PySem.W.Frag} {mg : Str → Option Value} {base : Heap} {k m : Nat} {f : Addr} {fd : FuncData} {ps : List Str} (h : ∀ ss, cf m ss = .bad) : FnOk P w K mg base (L2.CX P w) k f fd ps (spF g cf m) := by
  have no : ∀ vs H Q E, ¬ spF g cf m vs H Q E := fun vs H Q E q => by
    obtain ⟨F, ow, env, l, o⟩ := q
    rw [h] at o
    exact o
  exact ⟨fun vs H Q E q => (no _ _ _ _ q).elim, fun A outer s H args us vs Q E _ _ _ _ q => (no _ _ _ _ q).elim⟩
theorem fn_def {P : Program} {w : World} {mg : Str → Option Value} {base : Heap} {ds : Nat → Df} {m k : Nat} {x qual : Str} {st : Stmt} {N ps : List Str} (hnn : N.length = (ds k).nn) (hnp : ps.length = (ds k).np) (F : Fun g.K x qual st (t.adr k) (t.fd k)) (S : FnScope N ps (defScope st))
    (sg : GSt g t) (ih : ∀ k, FnOk P w g.K mg base (L2.CX P w) j (t.adr k) (t.fd k) (t.ps k) (spF g (runF ds m) k))
    (hb : ∀ (cdv : Value) (A : Around) (outer : List Env) (s : Shared) (H : Hp) (E : XK), Cc g t (runF ds m) (cxOf (L2.CX P w) P w g.K mg base N qual (defScope st) (t.adr k) cdv A outer s H E) (fun cls d _ H' => E cls d H') j →
      PSs (cxOf (L2.CX P w) P w g.K mg base N qual (defScope st) (t.adr k) cdv A outer s H E) (defBody st) (TSv g (fun cls d _ H' => E cls d H') ((ds k).bd (runF ds m)))) :
    FnOk P w g.K mg base (L2.CX P w) (j + 4) (t.adr k) (t.fd k) ps (spF g (runF ds (m + 1)) k) := by
  refine F.okX S (fun vs H Q E h => ?_) (fun cdv A outer s H vs Q E hr h => ?_)
  · obtain ⟨F0, ow, ss, l, o⟩ := h
    unfold runF at o
    split at o
    · rename_i hh
      have := l.len
      rw [hnp, ← hh.1, this, List.length_map]
    · exact o.elim
  · obtain ⟨F0, ow, ss, l, o⟩ := h
    unfold runF at o
    split at o
    · rename_i hh
      have hlv : vs.length = (ds k).np := by have := l.len; rw [List.length_map] at this; rw [← this, hh.1]
      have e : L2.start N vs = vs.map some ++ List.replicate ((ds k).nn - (ds k).np) none := by unfold L2.start; rw [hnn, hlv]
      refine ⟨_, hb cdv A outer s H E ⟨rfl, rfl, S.nd, hr, takes_of rfl rfl rfl rfl, passes_of rfl, ih, sg⟩, ?_⟩
      rw [e]
      exact body_ok l hh.2.2 o
    · exact o.elim
end
end Pi

/-! Pc15: more expressions. -/
namespace Pi
open PySem PySem.Spec L2 PyProof.Rows
section
variable {g : Gm} {t : Gf} {cf : CF} {X : Cx} {W : WX'} {j : Nat} {F F' F1 F2 : Hp} {ow ow' ow1 ow2 : Ow} {σ σ' σ1 σ2 : L2.St} {env env' env1 env2 : En} {H H' H1 H2 : Hp} {Q : VK} {D : Ends}
theorem i_range3 {a b d tg : Expr} {ma mb md : M R} {p pos : Pos} (hg : Gl X "range") (hm : X.mg "range" = none) (ha : PE X a (TEv g W ma)) (hb : PE X b (TEv g W mb)) (hd : PE X d (TEv g W md))
    (hs : starEach [a, b, d] X.env = (false, eval a X.env) :: starEach [b, d] X.env := by rfl) (hs2 : starEach [b, d] X.env = (false, eval b X.env) :: starEach [d] X.env := by rfl) (hs3 : starEach [d] X.env = (false, eval d X.env) :: starEach [] X.env := by rfl)
    (hpl : (backTo pos (starEach [b, d] X.env)).any (·.1) = false := by rfl) :
    PI X tg (.Call (.Name "range" p) [a, b, d] [] pos) (TIv g W (rangeM (M.cons ma (M.cons mb (M.cons md (M.pure [])))))) := by
  refine PI.imp (pi_range3 hg hm (PA.imp (pa_cons ha (pa_cons hb (pa_cons hd pa_nil hs3) hs2) hs) fun _ _ _ q => q) hs hpl) fun σ H R q => ?_
  refine (tav3 (walk_range q)).mono fun x H1 k => k.mono fun y H2 k => k.mono fun z H3 k => ?_
  rcases k with ⟨j, e, _⟩ | ⟨i, j, e, _⟩ | ⟨i, j, c, e, hb, k⟩
  · cases e
  · cases e
  · exact ⟨i, j, c, _, e, hb, k⟩

/-! ### own operators, the other one of a built-in type -/
structure BinT (K : PySem.W.Frag) (op : Operator) (C : Addr) (T : String) : Prop where
  all : ∃ rc fo ro, PySem.W.findIn K (.ref C) (dunderR op.info.2) = some rc ∧ (rc = none ∨ ∃ g : Addr, rc = some (.ref g)) ∧ PySem.W.findIn K (.type T) (PySem.dunder op.info.2) = some fo ∧
    PySem.W.findIn K (.type T) (dunderR op.info.2) = some ro ∧ PySem.W.subIn K (.type T) (.ref C) = some false
theorem own_binT (op : Operator) (hK : X.K = g.K) (h : ∀ c k, t.att c (PySem.dunder op.info.2) = some (.meth k) → BinT g.K op (g.cl c) "int" ∧ BinT g.K op (g.cl c) "str") : OwnOp g t X (binaryOp op) (PySem.dunder op.info.2) true := by
  intro pins s σ H a C dx fa ws y u Q I hcc ha kc sf me ry hy hh
  obtain ⟨c, k, rfl, e⟩ := hcc
  obtain ⟨hi, hs⟩ := h c k e
  rw [← hK] at hi hs
  have hh' := wpAny_mono hh (fun _ _ q => ep_back q) fun _ _ z => z
  obtain ⟨mA, O, _⟩ := ins_get I.hok ha
  obtain ⟨od, J, _⟩ := O.look
  obtain ⟨m, hF⟩ := I.fr
  rcases hy with ⟨b, dy, us, rfl, hb⟩ | ⟨_, ⟨i, rfl⟩ | ⟨z, rfl⟩⟩
  · cases ry
    obtain ⟨mB, O', _⟩ := ins_get I.hok hb
    obtain ⟨od', J', _⟩ := O'.look
    exact PySem.W.binop_K hF I.ok.mod.kin J J'.type sf me.at_ me.fn hh'
  · obtain ⟨rc, fo, ro, q1, q2, q3, q4, q5⟩ := hi.all
    obtain ⟨tk, rfl⟩ := ry
    exact PySem.W.ksp_binT hF I.ok.mod.kin J rfl sf me.at_ me.fn q1 q2 q3 q4 q5 hh'
  · obtain ⟨rc, fo, ro, q1, q2, q3, q4, q5⟩ := hs.all
    obtain ⟨tk, rfl⟩ := ry
    exact PySem.W.ksp_binT hF I.ok.mod.kin J rfl sf me.at_ me.fn q1 q2 q3 q4 q5 hh'

/-! ### operations that are no class's own -/
def bin0 (o : Op) (ma mb : M R) : M R := opM (opP o) (M.cons ma (M.cons mb (M.pure [])))
theorem tev_op2 {o : Op} {ma mb : M R} (h : TEv g W (bin0 o ma mb) σ H Q) : TEv g W ma σ H fun x H1 => TEv g W mb σ H1 fun y H2 => r2 g o x y H2 Q := tav2 (tev_op h)
theorem e_bin0 {op : Operator} {o : Op} {a b : Expr} {ma mb : M R} {pos : Pos} (ho : OpR X (binaryOp op) (r2 g o)) (ha : PE X a (TEv g W ma)) (hb : PE X b (TEv g W mb)) : PE X (.BinOp a op b pos) (TEv g W (bin0 o ma mb)) :=
  PE.imp (pe_op ho ha hb) fun _ _ _ h => tev_op2 h
theorem e_cmp0 {op : CmpOp} {o : Op} {a b : Expr} {ma mb : M R} {pos : Pos} (ho : OpR X (compareOp op) (r2 g o)) (ha : PE X a (TEv g W ma)) (hb : PE X b (TEv g W mb)) (hm : behindInMarks op b = false) : PE X (.Compare a [op] [b] pos) (TEv g W (bin0 o ma mb)) :=
  PE.imp (pe_cmpR ho ha hb hm) fun _ _ _ h => tev_op2 h
theorem t_cmp0 (c : Cc g t cf X W j) {op : CmpOp} {o : Op} {a b : Expr} {ma mb : M R} {pos : Pos} (ho : OpR X (compareOp op) (r2 g o)) (ha : PE X a (TEv g W ma)) (hb : PE X b (TEv g W mb)) (hm : behindInMarks op b = false) :
    PT X (.Compare a [op] [b] pos) (TTv g W (tM t cf (bin0 o ma mb))) := by
  refine ⟨fun pins s σ H Q I h => ?_⟩
  refine wpAny_isTrue_Compare1 (binT ha hb I (tev_op2 (tev_t c h)) fun v u s2 x y H2 I2 rx ry q => ?_) hm
  exact thn (ho pins s2 σ H2 x y v u _ I2 rx ry q) fun z s3 ⟨zv, H3, I3, r3, q3⟩ => q3 pins s3 z I3 r3

/-! ### bool(x) -/
def boolM (t : Gf) (cf : CF) (ma : M R) : M R := fun env => match ma env with
  | .ok r e => match peek e r with
    | some (.bl b) => .ok (.val (.bl b)) e
    | some (.int i) => .ok (.val (.bl (i != 0))) e
    | some (.dic kvs) => .ok (.val (.bl (!kvs.isEmpty))) e
    | some (.obj c _) => match t.att c "__bool__" with
      | some (.meth k) => blOnly false (applyM cf k [r] e)
      | _ => .bad
    | _ => .bad
  | .ex x e => .ex x e
  | .bad => .bad
def BoolW (X : Cx) (σ : L2.St) (x : V) (H : Hp) (Q : VK) : Prop :=
  ∀ (pins : List (Addr × Obj)) (s : Shared) (v : Value), Inv X pins σ H s → RelV x v → wpAny (model X.prog X.w) X.A (call (.type "bool") [v]) (EP X pins σ Q) X.xe s
theorem tev_bool (c : Cc g t cf X W j) {ma : M R} (h : TEv g W (boolM t cf ma) σ H Q) : TEv g W ma σ H fun x H1 => BoolW X σ x H1 Q := by
  obtain ⟨F, ow, env, l, o⟩ := h
  refine ⟨F, ow, env, l, ?_⟩
  unfold boolM at o
  cases e : ma env with
  | bad => rw [e] at o; exact o
  | ex x env' => rw [e] at o; exact o
  | ok r env1 =>
    rw [e] at o
    intro v F1 ow1 H1 p r1 n1 pins s u I ru
    dsimp only at o
    split at o
    · rename_i b hz
      cases r1.shape p.rel hz
      exact call_bool1 pins s σ H1 _ [u] Q I (.cons ru .nil) (.inr ⟨b, rfl, o _ F1 ow1 H1 p (.bl b) trivial⟩)
    · rename_i i hz
      cases r1.shape p.rel hz
      exact call_bool1 pins s σ H1 _ [u] Q I (.cons ru .nil) (.inl ⟨i, rfl, o _ F1 ow1 H1 p (.bl _) trivial⟩)
    · rename_i kvs hz
      cases r1.shape p.rel hz with
      | dic h q =>
        cases ru
        refine bool_any (d_truth I h fun s' I' => ⟨.bl _, H1, I', rfl, ?_⟩)
        have : ∀ {as : List (Key × P)} {ws : List (Key × V)}, RepK g.K g.cl F1 as ws → (!ws.isEmpty) = !as.isEmpty := fun r => by cases r <;> rfl
        rw [this q]
        exact o _ F1 ow1 H1 p (.bl _) trivial
    · rename_i cc fs hz
      split at o
      · rename_i k hk
        cases r1.shape p.rel hz with
        | obj ha _ =>
          cases ru
          have me := c.st.meth cc _ k hk
          rw [← c.K] at me
          obtain ⟨mA, O, _⟩ := ins_get I.hok ha
          obtain ⟨od, J, _⟩ := O.look
          obtain ⟨m, hF⟩ := I.fr
          have o2 : OutE g W F ow σ env H (fun v H' => ∃ b, v = .bl b ∧ Q (.bl b) H') (applyM cf k [r] env1) := by
            cases e2 : applyM cf k [r] env1 with
            | bad => rw [e2] at o; exact o
            | ex x e' => rw [e2] at o; exact o
            | ok q e' =>
              rw [e2] at o
              cases q with
              | new _ => exact o.elim
              | «at» _ => exact o.elim
              | val y =>
                cases y <;> first | exact o.elim | skip
                rename_i b
                intro v F' ow' H' pp rr rn
                cases (show gRep g F' (.bl b) v from rr)
                exact ⟨b, rfl, o _ F' ow' H' pp (.bl b) trivial⟩
          have sp := apply_sp (rs := [r]) (vs := [_]) p ⟨r1, trivial⟩ ⟨n1, fun _ _ _ _ i c' hi _ => by simp at hi, trivial⟩ o2
          refine bool_any (PySem.W.truthy_K hF I.ok.mod.kin J me.at_ me.fn (thn (call_run2 c I (by exact .cons rfl .nil) sp) fun u s1 ⟨z, H2, I2, rz, b, eb, q⟩ => ?_))
          subst eb
          cases rz
          exact ⟨.bl b, H2, I2, rfl, q⟩
      · exact o.elim
    · exact o.elim
theorem e_bool (c : Cc g t cf X W j) {e : Expr} {ma : M R} {p pos : Pos} (he : PE X e (TEv g W ma)) (hg : Gl X "bool") (hm : X.mg "bool" = none)
    (hs : starEach [e] X.env = (false, eval e X.env) :: starEach [] X.env := by rfl) (hpl : (backTo pos (starEach [] X.env)).any (·.1) = false := by rfl) :
    PE X (.Call (.Name "bool" p) [e] [] pos) (TEv g W (boolM t cf ma)) := by
  refine ⟨fun pins s σ H Q I h => ?_⟩
  have ha : PA X [e] (tCons (TEv g W ma) tNil) := pa_cons he pa_nil hs
  have h2 : tCons (TEv g W ma) tNil σ H fun vs H1 => ∃ v, vs = [v] ∧ BoolW X σ v H1 Q := (tev_bool c h).mono fun v H1 q => ⟨v, rfl, q⟩
  refine wpAny_Call_Name_kw (ld_blt I hg hm (by decide +kernel) (PyProof.Rows.callWith_type1 (T := "bool") (thn (ha.run pos pins s σ H _ I h2) fun us s1 ⟨vs, H1, I1, r1, v, ev, q1⟩ => ?_) hs hpl))
  subst ev
  obtain ⟨u, rfl, ru⟩ := r1.one
  exact q1 pins s1 u I1 ru

/-! ### xs[::-1] -/
theorem Reps.rev : ∀ {xs : List P} {vs : List V}, Reps g.K g.cl F xs vs → Reps g.K g.cl F xs.reverse vs.reverse
  | _, _, .nil => .nil
  | _, _, .cons h q => by
    rw [List.reverse_cons, List.reverse_cons]
    exact (Reps.rev q).app (.cons h .nil)
theorem e_rev (hK : X.K = g.K) {e : Expr} {ma : M R} {k : Nat} {p1 p2 p3 pos : Pos} (he : PE X e (TEv g W ma)) : PE X (.Subscript e (.Slice none none (some (.UnaryOp .USub (.Constant (.int 1) k p1) p2)) p3) pos) (TEv g W (opM1 .revl ma)) := by
  refine PE.imp (pe_revL he) fun σ H Q h => ?_
  refine (tev_op1 h).mono fun x H1 q => ?_
  obtain ⟨F, xs, o, hF, sh, eo, q⟩ := q
  match xs, sh, eo with
  | [], sh, _ => exact sh.elim
  | _ :: _ :: _, sh, _ => exact sh.2.elim
  | [a], sh, eo =>
    obtain ⟨s1, _⟩ := sh
    cases a <;> simp only [opP, p_revl, reduceCtorEq, Option.some.injEq] at eo
    subst eo
    cases s1 with
    | lst hh r =>
      rw [hK]
      exact ⟨_, _, rfl, hh, fun p hp => q _ _ ⟨p, _, hp, rfl, rfl, _, rfl, r.rev⟩⟩

/-! ### list(d.items()) -/
theorem hasC_grow {p : Addr} {c : C} (hx : ∀ b o, H1 b = some o → H' b = some o) (h : HasC g.K g.cl F H1 p c) : HasC g.K g.cl F H' p c := by
  cases c with
  | lst xs => obtain ⟨vs, a, r⟩ := h; exact ⟨vs, hx _ _ a, r⟩
  | dic kvs => obtain ⟨vs, a, r⟩ := h; exact ⟨vs, hx _ _ a, r⟩
  | obj c fs => obtain ⟨dx, vs, a, r⟩ := h; exact ⟨dx, vs, hx _ _ a, r⟩
theorem has_grow {a : Addr} {o : HO} (hx : ∀ b o, H1 b = some o → H' b = some o) (h : Has H1 a o) : Has H' a o := by
  have rd : ∀ u, Rd H1 a u → Rd H' a u := fun u h => h.elim (fun h => .inl (hx _ _ h)) fun ⟨ob, h⟩ => .inr ⟨ob, hx _ _ h⟩
  cases o <;> first | exact rd _ h | exact hx _ _ h
theorem Post.grow {c : C} {p : Addr} (a : gPost g F ow σ env H F1 ow1 σ1 env1 H1) (hx : ∀ b o, H1 b = some o → H' b = some o) (e : Ext F1 F2) (hF : ∀ b o, F2 b = some o → F1 b = some o ∨ (H1 b = none ∧ H' b = some o)) (np : H1 p = none) (nF : F2 p = none)
    (hc : HasC g.K g.cl F2 H' p c) : gPost g F ow σ env H F2 (setO ow1 p c) σ1 env1 H' ∧ gRR g F2 (setO ow1 p c) σ1 env1 (.new c) (.ref p) ∧ RNF ow σ env (.new c) (.ref p) := by
  have l := a.rel
  obtain ⟨fF, fo⟩ := l.free np
  refine ⟨⟨a.sub.trans e, ⟨fun b o hb => ?_, fun q c' hq => ?_, l.len, fun i s hs => ?_, l.inj⟩, fun q c' hq fq => ?_, a.fix, fun b o u hb => hx _ _ (a.frz b o u hb)⟩, ⟨p, rfl, setO_same, l.notHeld np⟩, fun q eq c' hq fq => ?_⟩
  · rcases hF b o hb with h | ⟨_, h⟩
    · exact has_grow hx (l.ext b o h)
    · exact Has.of h
  · by_cases z : q = p
    · subst z; rw [setO_same] at hq; cases hq; exact ⟨nF, hc⟩
    · rw [setO_ne z] at hq
      obtain ⟨h1, h2⟩ := l.own q c' hq
      refine ⟨?_, hasC_grow hx (h2.mono e)⟩
      cases q3 : F2 q with
      | none => rfl
      | some o =>
        rcases hF q o q3 with h | ⟨h, _⟩
        · rw [h1] at h; cases h
        · obtain ⟨z, hz, _⟩ := h2.some; rw [h] at hz; cases hz
  · have q := l.slot i s hs
    cases s with
    | no => trivial
    | val x f => obtain ⟨v, hv, r⟩ := q; exact ⟨v, hv, Rep.mono e r⟩
    | own c' f =>
      obtain ⟨p', hp', o'⟩ := q
      have : p' ≠ p := by rintro rfl; rw [fo] at o'; cases o'
      exact ⟨p', hp', by rw [setO_ne this]; exact o'⟩
  · obtain ⟨h1, h2⟩ := a.frame q c' hq fq
    have : q ≠ p := by rintro rfl; rw [fo] at h1; cases h1
    exact ⟨by rw [setO_ne this]; exact h1, h2⟩
  · cases eq
    obtain ⟨h1, _⟩ := a.frame p c' hq fq
    rw [fo] at h1; cases h1
def litemsM (ma : M R) : M R := fun env => match ma env with
  | .ok r e => match peek e r with
    | some (.dic kvs) => .ok (.new (.lst (kvs.map fun kv => .tup [pKey kv.1, kv.2]))) e
    | _ => .bad
  | .ex x e => .ex x e
  | .bad => .bad
def rLit : V → Hp → VK → Prop := fun x H Q => ∃ (d : Addr) (ws : List (Key × V)), x = .ref d ∧ Rd H d (.dK ws) ∧
  ∀ (H' : Hp) (p : Addr) (ts : List Addr), (∀ b o, H b = some o → H' b = some o) → H p = none → (∀ t ∈ ts, H t = none) → p ∉ ts → H' p = some (.lst (ts.map V.ref)) → Paired (fun (t : Addr) (q : Key × V) => H' t = some (.tup [kV q.1, q.2])) ts ws → Q (.ref p) H'
theorem tuples_rep {H' : Hp} : ∀ {ts : List Addr} {ws : List (Key × V)} {kvs : List (Key × P)}, Paired (fun (t : Addr) (q : Key × V) => F2 t = some (.tup [kV q.1, q.2])) ts ws → RepK g.K g.cl F2 kvs ws → Reps g.K g.cl F2 (kvs.map fun kv => .tup [pKey kv.1, kv.2]) (ts.map V.ref)
  | _, _, _, .nil, .nil => .nil
  | _, _, _, .cons h q, .cons r rs => .cons (.tup (.inl h) (.cons rep_key (.cons r .nil))) (tuples_rep (H' := H') q rs)
theorem paired_mono {A B : Type} {f f' : A → B → Prop} : ∀ {xs : List A} {ys : List B}, (∀ x y, x ∈ xs → f x y → f' x y) → Paired f xs ys → Paired f' xs ys
  | _, _, _, .nil => .nil
  | _, _, h, .cons a q => .cons (h _ _ List.mem_cons_self a) (paired_mono (fun x y hx => h x y (List.mem_cons_of_mem _ hx)) q)
theorem tev_lit {ma : M R} (h : TEv g W (litemsM ma) σ H Q) : TEv g W ma σ H fun x H1 => rLit x H1 Q := by
  obtain ⟨F, ow, env, l, o⟩ := h
  refine ⟨F, ow, env, l, ?_⟩
  unfold litemsM at o
  cases e : ma env with
  | bad => rw [e] at o; exact o
  | ex x env' => rw [e] at o; exact o
  | ok r env1 =>
    rw [e] at o
    intro v F1 ow1 H1 p r1 n1
    dsimp only at o
    split at o
    · rename_i kvs hz
      cases r1.shape p.rel hz with
      | dic hd rk =>
        rename_i d ws
        refine ⟨d, ws, rfl, hd, fun H' q ts hx nq nt hnt hq hp => ?_⟩
        have e1 : Ext F1 (fun b => if b ∈ ts then H' b else F1 b) := fun b u hb => by
          have : b ∉ ts := fun z => by rw [(p.rel.free (nt b z)).1] at hb; cases hb
          show (if b ∈ ts then H' b else F1 b) = some u
          rw [if_neg this]; exact hb
        have fq : (fun b => if b ∈ ts then H' b else F1 b) q = none := by
          show (if q ∈ ts then H' q else F1 q) = none
          rw [if_neg hnt]; exact (p.rel.free nq).1
        have tp : Paired (fun (t : Addr) (q : Key × V) => (fun b => if b ∈ ts then H' b else F1 b) t = some (.tup [kV q.1, q.2])) ts ws := paired_mono (fun x y hxm h => by
          show (if x ∈ ts then H' x else F1 x) = _
          rw [if_pos hxm]; exact h) hp
        obtain ⟨p2, r2, n2⟩ := p.grow (F2 := fun b => if b ∈ ts then H' b else F1 b) (c := .lst (kvs.map fun kv => .tup [pKey kv.1, kv.2])) (p := q) hx e1 (fun b u hb => by
          have hb : (if b ∈ ts then H' b else F1 b) = some u := hb
          by_cases z : b ∈ ts
          · rw [if_pos z] at hb; exact .inr ⟨nt b z, hb⟩
          · rw [if_neg z] at hb; exact .inl hb) nq fq ⟨_, hq, tuples_rep (H' := H') tp (rk.mono e1)⟩
        exact o _ _ _ H' p2 r2 n2
    · exact o.elim
theorem e_litems (c : Cc g t cf X W j) {e : Expr} {ma : M R} {p apos cpos pos : Pos} (he : PE X e (TEv g W ma)) (hg : Gl X "list") (hm : X.mg "list" = none) (hbase : attributeBase e "items" X.env (eval e X.env) = eval e X.env := by rfl) (hline : (apos.endLine == cpos.line) = true := by rfl)
    (hs : starEach [.Call (.Attribute e "items" apos) [] [] cpos] X.env = (false, eval (.Call (.Attribute e "items" apos) [] [] cpos) X.env) :: starEach [] X.env := by rfl) :
    PE X (.Call (.Name "list" p) [.Call (.Attribute e "items" apos) [] [] cpos] [] pos) (TEv g W (litemsM ma)) := by
  refine ⟨fun pins s σ H Q I h => ?_⟩
  have hq := tev_lit h
  refine wpAny_Call_Name_kw (ld_blt I hg hm (by decide +kernel) (PyProof.Rows.callWith_type1 (T := "list") ?_ hs rfl))
  rw [hs]
  refine Calls.spliced_cons (wpAny_Call_method (T := "dict") (id := "dict.items") hbase rfl hline F.plainAttrs_dict F.slot_dict_items F.type_dict_items (thn (he.run pins s σ H _ I hq) fun u s1 ⟨x, H1, I1, rx, d, ws, ex, hd, q⟩ => ?_))
  subst ex
  cases rx
  obtain ⟨hz, hs0, vs, kv, hdo⟩ := dk_rd I1.hok hd
  obtain ⟨ep, hat⟩ := hdo.dictAt
  have lk : ws.length = vs.length := Paired.length kv
  have I2 : Inv X pins σ H1 { s1 with heap := s1.heap.push { cls := .type "dict_items", data := .fields #[.ref d] } } := I1.kept (t' := s1.toks) fun b ob e => Heap.get?_push_of_some _ e
  refine ⟨hdo.typeIs, hdo.mapOf.noDict, method_meetsIn F.slot_dict_items F.entry_dict_items rfl (PySem.evalArgs_none ⟨rfl, hdo.typeIs, F.args_dict_items_1 _, _, meets_dict_items (mixKind X.prog X.w) d hs0, ⟨vs, hdo⟩, Calls.spliced_nil ?_⟩)⟩
  refine PySem.W.kdx_call (knd := mixKind X.prog X.w) (kvs := vs) (ep := ep) (I1.ok.hd c.calm) ⟨_, Heap.get?_push_size _ rfl, rfl, rfl⟩ (hat.push _) (by omega) fun h' tk acc cc as hk hS hl hG hacc => ?_
  obtain ⟨H', k1, k2, k3, k4, k5, k6, J⟩ := LiI.items_laid (tk := tk) I2 hz kv hk hS hl hG hacc
  exact ⟨.ref _, H', J, rfl, q H' _ as k1 k2 k3 k4 k5 k6⟩
end
end Pi

/-! Pg: the program's defs as they are read. -/
namespace Pi
open PySem PySem.Spec L2 PyProof.Rows
def top (i : Nat) : Stmt := PySem.Challenge.pw_fewlabels_k31_whole_units.main.body.getD i (.Pass ⟨0, 0, 0, 0⟩)
def ty_bool : Ty := .b .bool []
theorem ok_bool {g : Gm} : TyOk g ty_bool := fun d h => by cases h
def ty_dict : Ty := .b .dict []
theorem ok_dict {g : Gm} : TyOk g ty_dict := fun d h => by cases h
def ty_int : Ty := .b .int []
theorem ok_int {g : Gm} : TyOk g ty_int := fun d h => by cases h
def ty_list : Ty := .b .list []
theorem ok_list {g : Gm} : TyOk g ty_list := fun d h => by cases h
def ty_str : Ty := .b .str []
theorem ok_str {g : Gm} : TyOk g ty_str := fun d h => by cases h
def ty_Unit : Ty := .own 0 [0] []
theorem bt_all : bootBuiltins "all" = some (.builtin "all") := by decide +kernel
theorem bt_bool : bootBuiltins "bool" = some (.type "bool") := by decide +kernel
theorem bt_dict : bootBuiltins "dict" = some (.type "dict") := by decide +kernel
theorem bt_int : bootBuiltins "int" = some (.type "int") := by decide +kernel
theorem bt_isinstance : bootBuiltins "isinstance" = some (.builtin "isinstance") := by decide +kernel
theorem bt_len : bootBuiltins "len" = some (.builtin "len") := by decide +kernel
theorem bt_list : bootBuiltins "list" = some (.type "list") := by decide +kernel
theorem bt_max : bootBuiltins "max" = some (.builtin "max") := by decide +kernel
theorem bt_min : bootBuiltins "min" = some (.builtin "min") := by decide +kernel
theorem bt_range : bootBuiltins "range" = some (.type "range") := by decide +kernel
theorem bt_sorted : bootBuiltins "sorted" = some (.builtin "sorted") := by decide +kernel
theorem bt_str : bootBuiltins "str" = some (.type "str") := by decide +kernel
theorem d_mul : PySem.dunder Operator.Mult.info.2 = ("__mul__" : Str) := by decide +kernel
theorem d_fdiv : PySem.dunder Operator.FloorDiv.info.2 = ("__floordiv__" : Str) := by decide +kernel
theorem d_pow : PySem.dunder Operator.Pow.info.2 = ("__pow__" : Str) := by decide +kernel
theorem own_mul {g : Gm} {t : Gf} {X : Cx} : OwnOp g t X (binaryOp .Mult) "__mul__" false := d_mul ▸ own_bin .Mult
theorem own_fdiv {g : Gm} {t : Gf} {X : Cx} : OwnOp g t X (binaryOp .FloorDiv) "__floordiv__" false := d_fdiv ▸ own_bin .FloorDiv
theorem own_pow {g : Gm} {t : Gf} {X : Cx} (hK : X.K = g.K) (h : ∀ c k, t.att c ("__pow__" : Str) = some (.meth k) → BinT g.K .Pow (g.cl c) "int" ∧ BinT g.K .Pow (g.cl c) "str") : OwnOp g t X (binaryOp .Pow) "__pow__" true :=
  d_pow ▸ own_binT .Pow hK fun c k e => h c k (d_pow ▸ e)
/-- what the text's head has written -/
structure Txt (g : Gm) (t : Gf) (mg : Str → Option Value) : Prop where
  f_is_name : mg "is_name" = some (.ref (t.adr 0))
  k_is_name : PySem.W.keepIn g.K (.ref (t.adr 0)) = true
  f_is_whole : mg "is_whole" = some (.ref (t.adr 1))
  k_is_whole : PySem.W.keepIn g.K (.ref (t.adr 1)) = true
  f_is_powers : mg "is_powers" = some (.ref (t.adr 12))
  k_is_powers : PySem.W.keepIn g.K (.ref (t.adr 12)) = true
  f_added : mg "added" = some (.ref (t.adr 13))
  k_added : PySem.W.keepIn g.K (.ref (t.adr 13)) = true
  f__law_cell_at : mg "_law_cell_at" = some (.ref (t.adr 14))
  k__law_cell_at : PySem.W.keepIn g.K (.ref (t.adr 14)) = true
  f__law_draw : mg "_law_draw" = some (.ref (t.adr 15))
  k__law_draw : PySem.W.keepIn g.K (.ref (t.adr 15)) = true
  f__law_number : mg "_law_number" = some (.ref (t.adr 16))
  k__law_number : PySem.W.keepIn g.K (.ref (t.adr 16)) = true
  f__law_next : mg "_law_next" = some (.ref (t.adr 17))
  k__law_next : PySem.W.keepIn g.K (.ref (t.adr 17)) = true
  f__law_powers : mg "_law_powers" = some (.ref (t.adr 18))
  k__law_powers : PySem.W.keepIn g.K (.ref (t.adr 18)) = true
  f__law_plain : mg "_law_plain" = some (.ref (t.adr 19))
  k__law_plain : PySem.W.keepIn g.K (.ref (t.adr 19)) = true
  f__law_stands : mg "_law_stands" = some (.ref (t.adr 20))
  k__law_stands : PySem.W.keepIn g.K (.ref (t.adr 20)) = true
  f__law_power : mg "_law_power" = some (.ref (t.adr 21))
  k__law_power : PySem.W.keepIn g.K (.ref (t.adr 21)) = true
  f__law_one_right : mg "_law_one_right" = some (.ref (t.adr 22))
  k__law_one_right : PySem.W.keepIn g.K (.ref (t.adr 22)) = true
  f_law : mg "law" = some (.ref (t.adr 23))
  k_law : PySem.W.keepIn g.K (.ref (t.adr 23)) = true
  c_Unit : mg "Unit" = some (.ref (g.cl 0))
  k_Unit : PySem.W.keepIn g.K (.ref (g.cl 0)) = true
  i_Unit : TyOk g ty_Unit
  b_all : mg "all" = none
  b_bool : mg "bool" = none
  b_dict : mg "dict" = none
  b_int : mg "int" = none
  b_isinstance : mg "isinstance" = none
  b_len : mg "len" = none
  b_list : mg "list" = none
  b_max : mg "max" = none
  b_min : mg "min" = none
  b_range : mg "range" = none
  b_sorted : mg "sorted" = none
  b_str : mg "str" = none
  pow : ∀ c k, t.att c ("__pow__" : Str) = some (.meth k) → BinT g.K .Pow (g.cl c) "int" ∧ BinT g.K .Pow (g.cl c) "str"
/-- is_name -/
def bd0 (t : Gf) (cf : CF) : MS :=
    (seqM (ifM ((orM (notM (tM t cf (opM1 (.isa ty_str) (varM 0)))) (tM t cf (bin0 .gt (opM (opP .len) (M.cons (varM 0) (M.pure []))) (conM (.int 8)))))) (retM (conM (.bl false))) nextM)
    (retM ((andV (strM .isascii (varM 0)) (andV (strM .isalpha (varM 0)) (strM .islower (varM 0)))))))
abbrev st0 : Stmt := top 1
/-- is_whole -/
def bd1 (t : Gf) (cf : CF) : MS :=
    (retM ((andV (opM1 (.isa ty_int) (varM 0)) (notB (opM1 (.isa ty_bool) (varM 0))))))
abbrev st1 : Stmt := top 2
/-- Unit.__init__ -/
def bd2 (t : Gf) (cf : CF) : MS :=
    (seqM (ifM (notM (tM t cf (callM cf 12 [] (M.cons (varM 1) (M.pure []))))) (neverM) nextM)
    (fldM t "_powers" (dcM (iterM (opM (opP .sorted) (M.cons (varM 1) (M.pure [])))) (.var 2) [2] (tM t cf (bin0 .ne (binM t cf .ix "__getitem__" true (varM 1) (varM 2)) (conM (.int 0)))) (varM 2) (binM t cf .ix "__getitem__" true (varM 1) (varM 2))) (varM 0)))
abbrev st2 : Stmt := inClass (top 7) 0
/-- Unit.powers -/
def bd3 (t : Gf) (cf : CF) : MS :=
    (retM (opM (opP .dict1) (M.cons (attrM t cf "_powers" (varM 0)) (M.pure []))))
abbrev st3 : Stmt := inClass (top 7) 2
/-- Unit.__eq__ -/
def bd4 (t : Gf) (cf : CF) : MS :=
    (retM ((andV (opM1 (.isa ty_Unit) (varM 1)) (binM t cf .eq "__eq__" false (attrM t cf "_powers" (varM 0)) (attrM t cf "_powers" (varM 1))))))
abbrev st4 : Stmt := inClass (top 7) 3
/-- Unit.__mul__ -/
def bd5 (t : Gf) (cf : CF) : MS :=
    (seqM (ifM (notM (tM t cf (opM1 (.isa ty_Unit) (varM 1)))) (neverM) nextM)
    (retM (newM t cf 0 (M.cons (callM cf 13 [] (M.cons (attrM t cf "_powers" (varM 0)) (M.cons (attrM t cf "_powers" (varM 1)) (M.cons (conM (.int 1)) (M.pure []))))) (M.pure [])))))
abbrev st5 : Stmt := inClass (top 7) 4
/-- Unit.__floordiv__ -/
def bd6 (t : Gf) (cf : CF) : MS :=
    (seqM (ifM (notM (tM t cf (opM1 (.isa ty_Unit) (varM 1)))) (neverM) nextM)
    (retM (newM t cf 0 (M.cons (callM cf 13 [] (M.cons (attrM t cf "_powers" (varM 0)) (M.cons (attrM t cf "_powers" (varM 1)) (M.cons (opM1 .neg (conM (.int 1))) (M.pure []))))) (M.pure [])))))
abbrev st6 : Stmt := inClass (top 7) 5
/-- Unit.__pow__ -/
def bd7 (t : Gf) (cf : CF) : MS :=
    (retM (methM t cf "to_power" (varM 0) (M.cons (varM 1) (M.pure []))))
abbrev st7 : Stmt := inClass (top 7) 6
/-- Unit.to_power -/
def bd8 (t : Gf) (cf : CF) : MS :=
    (seqM (ifM (notM (tM t cf (callM cf 1 [] (M.cons (varM 1) (M.pure []))))) (neverM) nextM)
    (retM (newM t cf 0 (M.cons (dcM (iterM (attrM t cf "_powers" (varM 0))) (.var 2) [2] (M.pure true) (varM 2) (binM t cf .mul "__mul__" false (binM t cf .ix "__getitem__" true (attrM t cf "_powers" (varM 0)) (varM 2)) (varM 1))) (M.pure [])))))
abbrev st8 : Stmt := inClass (top 7) 7
/-- Unit.__bool__ -/
def bd9 (t : Gf) (cf : CF) : MS :=
    (retM (boolM t cf (attrM t cf "_powers" (varM 0))))
abbrev st9 : Stmt := inClass (top 7) 8
/-- Unit.__contains__ -/
def bd10 (t : Gf) (cf : CF) : MS :=
    (retM (inM t cf false (varM 1) (attrM t cf "_powers" (varM 0))))
abbrev st10 : Stmt := inClass (top 7) 9
/-- Unit.__getitem__ -/
def bd11 (t : Gf) (cf : CF) : MS :=
    (retM (get2M (attrM t cf "_powers" (varM 0)) (varM 1) (conM (.int 0))))
abbrev st11 : Stmt := inClass (top 7) 10
/-- is_powers -/
def bd12 (t : Gf) (cf : CF) : MS :=
    (seqM (ifM (notM (tM t cf (opM1 (.isa ty_dict) (varM 0)))) (retM (conM (.bl false))) nextM)
    (retM (opM (opP .all1) (M.cons (lcM (itemsM (varM 0)) (.tup2 1 2) [1, 2] (M.pure true) ((andV (callM cf 0 [] (M.cons (varM 1) (M.pure []))) (callM cf 1 [] (M.cons (varM 2) (M.pure [])))))) (M.pure [])))))
abbrev st12 : Stmt := top 8
/-- added -/
def bd13 (t : Gf) (cf : CF) : MS :=
    (seqM (setM 3 (opM (opP .dict1) (M.cons (varM 0) (M.pure []))))
    (seqM (forM (iterM (varM 1)) (.var 4) (itemM (bin0 .add (get2M (varM 3) (varM 4) (conM (.int 0))) (binM t cf .mul "__mul__" false (varM 2) (binM t cf .ix "__getitem__" true (varM 1) (varM 4)))) (varM 3) (varM 4)))
    (retM (varM 3))))
abbrev st13 : Stmt := top 9
/-- _law_cell_at -/
def bd14 (t : Gf) (cf : CF) : MS :=
    (seqM (ifM (tM t cf (bin0 .lt (varM 1) (opM (opP .len) (M.cons (varM 0) (M.pure []))))) (retM (binM t cf .ix "__getitem__" true (varM 0) (varM 1))) nextM)
    (retM (conM (.int 0))))
abbrev st14 : Stmt := top 11
/-- _law_draw -/
def bd15 (t : Gf) (cf : CF) : MS :=
    (seqM (setM 3 (dispM .tp (M.cons (conM (.int 1000003)) (M.cons (conM (.int 1000033)) (M.cons (conM (.int 1000037)) (M.cons (conM (.int 1000039)) (M.cons (conM (.int 1000081)) (M.cons (conM (.int 1000099)) (M.cons (conM (.int 1000117)) (M.cons (conM (.int 1000121)) (M.cons (conM (.int 1000133)) (M.cons (conM (.int 1000151)) (M.cons (conM (.int 1000159)) (M.cons (conM (.int 1000171)) (M.cons (conM (.int 1000183)) (M.cons (conM (.int 1000187)) (M.cons (conM (.int 1000193)) (M.cons (conM (.int 1000199)) (M.pure [])))))))))))))))))))
    (retM (bin0 .mod (bin0 .mod (bin0 .add (binM t cf .mul "__mul__" false (varM 0) (conM (.int 48271))) (binM t cf .mul "__mul__" false (varM 1) (conM (.int 69621)))) (binM t cf .ix "__getitem__" true (varM 3) (bin0 .mod (varM 1) (conM (.int 16))))) (varM 2))))
abbrev st15 : Stmt := top 12
/-- _law_number -/
def bd16 (t : Gf) (cf : CF) : MS :=
    (seqM (setM 3 (conM (.int 1)))
    (seqM (forM (rangeM (M.cons (bin0 .mod (varM 1) (conM (.int 24))) (M.pure []))) (.var 4) (setM 3 (binM t cf .mul "__mul__" false (varM 3) (conM (.int 1009)))))
    (seqM (setM 5 (binM t cf .fdiv "__floordiv__" false (bin0 .sub (varM 0) (binM t cf .pow "__pow__" true (conM (.int 10)) (conM (.int 18)))) (varM 3)))
    (seqM (ifM (tM t cf (bin0 .gt (varM 5) (conM (.int 0)))) (retM (bin0 .mod (bin0 .mod (varM 5) (conM (.int 1009))) (varM 2))) nextM)
    (seqM (setM 6 (bin0 .mod (varM 0) (conM (.int 1000003))))
    (retM (bin0 .mod (callM cf 15 [] (M.cons (binM t cf .mul "__mul__" false (bin0 .add (varM 6) (binM t cf .mul "__mul__" false (conM (.int 977)) (varM 1))) (bin0 .add (bin0 .add (varM 6) (binM t cf .mul "__mul__" false (conM (.int 31)) (varM 1))) (conM (.int 5)))) (M.cons (bin0 .add (bin0 .mod (varM 1) (conM (.int 9))) (conM (.int 1))) (M.cons (conM (.int 999983)) (M.pure []))))) (varM 2))))))))
abbrev st16 : Stmt := top 13
/-- _law_next -/
def bd17 (t : Gf) (cf : CF) : MS :=
    (seqM (itemM (bin0 .add (binM t cf .ix "__getitem__" true (varM 0) (conM (.int 2))) (conM (.int 1))) (varM 0) (conM (.int 2)))
    (seqM (setM 2 (binM t cf .fdiv "__floordiv__" false (binM t cf .ix "__getitem__" true (varM 0) (conM (.int 2))) (conM (.int 12))))
    (seqM (setM 3 (bin0 .add (callM cf 14 [] (M.cons (binM t cf .ix "__getitem__" true (varM 0) (conM (.int 0))) (M.cons (bin0 .add (binM t cf .ix "__getitem__" true (varM 0) (conM (.int 1))) (varM 2)) (M.pure [])))) (binM t cf .mul "__mul__" false (conM (.int 31)) (varM 2))))
    (retM (callM cf 16 [] (M.cons (varM 3) (M.cons (bin0 .add (bin0 .mod (binM t cf .ix "__getitem__" true (varM 0) (conM (.int 2))) (conM (.int 12))) (conM (.int 1))) (M.cons (varM 1) (M.pure [])))))))))
abbrev st17 : Stmt := top 14
/-- _law_powers -/
def bd18 (t : Gf) (cf : CF) : MS :=
    (seqM (setM 1 (dic0M))
    (seqM (forM (iterM (dispM (fun xs => .mk (.lst xs)) (M.cons (conM (.str "s")) (M.cons (conM (.str "kg")) (M.cons (conM (.str "m")) (M.cons (conM (.str "abcdefgh")) (M.pure []))))))) (.var 2) (ifM (tM t cf (bin0 .gt (callM cf 17 [] (M.cons (varM 0) (M.cons (conM (.int 3)) (M.pure [])))) (conM (.int 0)))) (seqM (itemM (bin0 .sub (callM cf 17 [] (M.cons (varM 0) (M.cons (conM (.int 5)) (M.pure [])))) (conM (.int 2))) (varM 1) (varM 2))
    (ifM (tM t cf (binM t cf .eq "__eq__" false (callM cf 17 [] (M.cons (varM 0) (M.cons (conM (.int 5)) (M.pure [])))) (conM (.int 0)))) (itemM (bin0 .sub (callM cf 17 [] (M.cons (varM 0) (M.cons (conM (.int 2001)) (M.pure [])))) (conM (.int 1000))) (varM 1) (varM 2)) nextM)) nextM))
    (retM (varM 1))))
abbrev st18 : Stmt := top 15
/-- _law_plain -/
def bd19 (t : Gf) (cf : CF) : MS :=
    (retM (opM (opP .dict1) (M.cons (lcM (iterM (opM (opP .sorted) (M.cons (varM 0) (M.pure [])))) (.var 1) [1] (tM t cf (bin0 .ne (binM t cf .ix "__getitem__" true (varM 0) (varM 1)) (conM (.int 0)))) (dispM .tp (M.cons (varM 1) (M.cons (binM t cf .ix "__getitem__" true (varM 0) (varM 1)) (M.pure []))))) (M.pure []))))
abbrev st19 : Stmt := top 16
/-- _law_stands -/
def bd20 (t : Gf) (cf : CF) : MS :=
    (seqM (setM 2 (callM cf 19 [] (M.cons (varM 1) (M.pure []))))
    (seqM (ifM (tM t cf (bin0 .ne (attrM t cf "powers" (varM 0)) (varM 2))) (retM (conM (.bl false))) nextM)
    (seqM (ifM (tM t cf (bin0 .ne (opM (opP .list1) (M.cons (attrM t cf "powers" (varM 0)) (M.pure []))) (opM (opP .list1) (M.cons (varM 2) (M.pure []))))) (retM (conM (.bl false))) nextM)
    (seqM (ifM (notM (tM t cf (binM t cf .eq "__eq__" false (varM 0) (newM t cf 0 (M.cons (varM 1) (M.pure [])))))) (retM (conM (.bl false))) nextM)
    (seqM (ifM (tM t cf (bin0 .ne (boolM t cf (varM 0)) (bin0 .ne (varM 2) (dic0M)))) (retM (conM (.bl false))) nextM)
    (seqM (forM (iterM (dispM (fun xs => .mk (.lst xs)) (M.cons (conM (.str "s")) (M.cons (conM (.str "kg")) (M.cons (conM (.str "m")) (M.cons (conM (.str "abcdefgh")) (M.cons (conM (.str "cd")) (M.pure [])))))))) (.var 3) (ifM ((orM (tM t cf (bin0 .ne (inM t cf false (varM 3) (varM 0)) (inM t cf false (varM 3) (varM 2)))) (tM t cf (bin0 .ne (binM t cf .ix "__getitem__" true (varM 0) (varM 3)) (get2M (varM 2) (varM 3) (conM (.int 0))))))) (retM (conM (.bl false))) nextM))
    (retM (conM (.bl true)))))))))
abbrev st20 : Stmt := top 17
/-- _law_power -/
def bd21 (t : Gf) (cf : CF) : MS :=
    (seqM (ifM (tM t cf (binM t cf .eq "__eq__" false (varM 1) (conM (.int 0)))) (retM (binM t cf .pow "__pow__" true (varM 0) (conM (.int 0)))) nextM)
    (seqM (ifM (tM t cf (binM t cf .eq "__eq__" false (varM 1) (conM (.int 1)))) (retM (binM t cf .pow "__pow__" true (varM 0) (conM (.int 1)))) nextM)
    (retM (iteM (tM t cf (binM t cf .eq "__eq__" false (varM 1) (conM (.int 2)))) (binM t cf .pow "__pow__" true (varM 0) (conM (.int 2))) (binM t cf .pow "__pow__" true (varM 0) (conM (.int 3)))))))
abbrev st21 : Stmt := top 18
/-- _law_one_right -/
def bd22 (t : Gf) (cf : CF) : MS :=
    (seqM (parM [1, 2, 3] (M.cons (callM cf 18 [] (M.cons (varM 0) (M.pure []))) (M.cons (callM cf 18 [] (M.cons (varM 0) (M.pure []))) (M.cons (callM cf 17 [] (M.cons (varM 0) (M.cons (conM (.int 4)) (M.pure [])))) (M.pure [])))))
    (seqM (parM [4, 5, 6] (M.cons (opM (opP .dict1) (M.cons (varM 1) (M.pure []))) (M.cons (opM (opP .dict1) (M.cons (varM 1) (M.pure []))) (M.cons (dic0M) (M.pure [])))))
    (seqM (forM (iterM (varM 2)) (.var 7) (seqM (itemM (bin0 .add (get2M (varM 4) (varM 7) (conM (.int 0))) (binM t cf .ix "__getitem__" true (varM 2) (varM 7))) (varM 4) (varM 7))
    (itemM (bin0 .sub (get2M (varM 5) (varM 7) (conM (.int 0))) (binM t cf .ix "__getitem__" true (varM 2) (varM 7))) (varM 5) (varM 7))))
    (seqM (forM (iterM (varM 1)) (.var 7) (itemM (binM t cf .mul "__mul__" false (binM t cf .ix "__getitem__" true (varM 1) (varM 7)) (varM 3)) (varM 6) (varM 7)))
    (seqM (parM [8, 9] (M.cons (newM t cf 0 (M.cons (varM 1) (M.pure []))) (M.cons (newM t cf 0 (M.cons (opM (opP .dict1) (M.cons (opM1 .revl (litemsM (varM 2))) (M.pure []))) (M.pure []))) (M.pure []))))
    (seqM (ifM (notM (tM t cf (callM cf 20 [] (M.cons (varM 8) (M.cons (varM 1) (M.pure [])))))) (retM (conM (.bl false))) nextM)
    (seqM (ifM (notM (tM t cf (callM cf 20 [] (M.cons (varM 9) (M.cons (varM 2) (M.pure [])))))) (retM (conM (.bl false))) nextM)
    (seqM (ifM (notM (tM t cf (callM cf 20 [] (M.cons (binM t cf .mul "__mul__" false (varM 8) (varM 9)) (M.cons (varM 4) (M.pure [])))))) (retM (conM (.bl false))) nextM)
    (seqM (ifM ((orM (notM (tM t cf (callM cf 20 [] (M.cons (binM t cf .fdiv "__floordiv__" false (varM 8) (varM 9)) (M.cons (varM 5) (M.pure [])))))) (notM (tM t cf (callM cf 20 [] (M.cons (callM cf 21 [] (M.cons (varM 8) (M.cons (varM 3) (M.pure [])))) (M.cons (varM 6) (M.pure [])))))))) (retM (conM (.bl false))) nextM)
    (seqM (ifM (notM (tM t cf (binM t cf .eq "__eq__" false (binM t cf .mul "__mul__" false (varM 8) (varM 9)) (binM t cf .mul "__mul__" false (varM 9) (varM 8))))) (retM (conM (.bl false))) nextM)
    (seqM (ifM (tM t cf (bin0 .ne (binM t cf .eq "__eq__" false (varM 8) (varM 9)) (binM t cf .eq "__eq__" false (callM cf 19 [] (M.cons (varM 1) (M.pure []))) (callM cf 19 [] (M.cons (varM 2) (M.pure [])))))) (retM (conM (.bl false))) nextM)
    (seqM (exprM (clearM (attrM t cf "powers" (varM 8))))
    (retM ((andV (callM cf 20 [] (M.cons (varM 8) (M.cons (varM 1) (M.pure [])))) (andV (callM cf 20 [] (M.cons (binM t cf .fdiv "__floordiv__" false (varM 8) (varM 8)) (M.cons (dic0M) (M.pure [])))) (binM t cf .eq "__eq__" false (binM t cf .mul "__mul__" false (binM t cf .fdiv "__floordiv__" false (varM 8) (varM 9)) (varM 9)) (varM 8))))))))))))))))))
abbrev st22 : Stmt := top 19
/-- law -/
def bd23 (t : Gf) (cf : CF) : MS :=
    (seqM (forM (rangeM (M.cons (conM (.int 0)) (M.cons (opM (opP .max2) (M.cons (conM (.int 1)) (M.cons (opM (opP .min2) (M.cons (conM (.int 24)) (M.cons (opM (opP .len) (M.cons (varM 0) (M.pure []))) (M.pure [])))) (M.pure [])))) (M.cons (conM (.int 2)) (M.pure []))))) (.var 1) (ifM (notM (tM t cf (callM cf 22 [] (M.cons (dispM (fun xs => .mk (.lst xs)) (M.cons (varM 0) (M.cons (varM 1) (M.cons (conM (.int 0)) (M.pure []))))) (M.pure []))))) (retM (conM (.bl false))) nextM))
    (retM (conM (.bl true))))
abbrev st23 : Stmt := top 20
section
variable {P : Program} {w : World} {mg : Str → Option Value} {base : Heap} {g : Gm} {t : Gf} {cf : CF} {W : WX'} {j : Nat}
theorem sc0 : FnScope ["thing"] ["thing"] (defScope st0) := ⟨rfl, rfl, rfl, by decide +kernel, rfl, by decide +kernel, by decide +kernel⟩
theorem b0 (T : Txt g t mg) {cdv : Value} {A : Around} {outer : List Env} {s : Shared} {H : Hp} {E : XK} (c : Cc g t cf (cxOf (L2.CX P w) P w g.K mg base ["thing"] "is_name" (defScope st0) (t.adr 0) cdv A outer s H E) W j) :
    PSs (cxOf (L2.CX P w) P w g.K mg base ["thing"] "is_name" (defScope st0) (t.adr 0) cdv A outer s H E) (defBody st0) (TSv g W (bd0 t cf)) :=
  show PSs _ (defBody st0) (TSv g W (seqM (ifM ((orM (notM (tM t cf (opM1 (.isa ty_str) (varM 0)))) (tM t cf (bin0 .gt (opM (opP .len) (M.cons (varM 0) (M.pure []))) (conM (.int 8)))))) (retM (conM (.bl false))) nextM)
    (retM ((andV (strM .isascii (varM 0)) (andV (strM .isalpha (varM 0)) (strM .islower (varM 0)))))))) from (s_cons (s_if ((w_or (t_not (t_of c (e_isa c.K ok_str (e_var c 0) (pe_bltn (by rfl) T.b_str bt_str (by rfl)) (by rfl) T.b_isinstance))) (pw_or1 (t_cmp0 c o_gt (e_fn (o_len c.K) (by rfl) T.b_len bt_len (tav_pa_cons (e_var c 0) tav_pa_nil rfl)) (e_int) (nomark _)))).pt) (s_one (s_ret (e_bl))) s_nil)
    (s_one (s_ret ((e_and (e_str0 PySem.F.slot_str_isascii PySem.F.type_str_isascii o_isascii (e_var c 0)) (e_and (e_str0 PySem.F.slot_str_isalpha PySem.F.type_str_isalpha o_isalpha (e_var c 0)) (pe_one (e_str0 PySem.F.slot_str_islower PySem.F.type_str_islower o_islower (e_var c 0)))))))))
theorem sc1 : FnScope ["thing"] ["thing"] (defScope st1) := ⟨rfl, rfl, rfl, by decide +kernel, rfl, by decide +kernel, by decide +kernel⟩
theorem b1 (T : Txt g t mg) {cdv : Value} {A : Around} {outer : List Env} {s : Shared} {H : Hp} {E : XK} (c : Cc g t cf (cxOf (L2.CX P w) P w g.K mg base ["thing"] "is_whole" (defScope st1) (t.adr 1) cdv A outer s H E) W j) :
    PSs (cxOf (L2.CX P w) P w g.K mg base ["thing"] "is_whole" (defScope st1) (t.adr 1) cdv A outer s H E) (defBody st1) (TSv g W (bd1 t cf)) :=
  show PSs _ (defBody st1) (TSv g W (retM ((andV (opM1 (.isa ty_int) (varM 0)) (notB (opM1 (.isa ty_bool) (varM 0))))))) from (s_one (s_ret ((e_and (e_isa c.K ok_int (e_var c 0) (pe_bltn (by rfl) T.b_int bt_int (by rfl)) (by rfl) T.b_isinstance) (pe_one (e_not (e_isa c.K ok_bool (e_var c 0) (pe_bltn (by rfl) T.b_bool bt_bool (by rfl)) (by rfl) T.b_isinstance)))))))
theorem sc2 : FnScope ["self", "powers", "name"] ["self", "powers"] (defScope st2) := ⟨rfl, rfl, rfl, by decide +kernel, rfl, by decide +kernel, by decide +kernel⟩
theorem b2 (T : Txt g t mg) {cdv : Value} {A : Around} {outer : List Env} {s : Shared} {H : Hp} {E : XK} (c : Cc g t cf (cxOf (L2.CX P w) P w g.K mg base ["self", "powers", "name"] "Unit.__init__" (defScope st2) (t.adr 2) cdv A outer s H E) W j) :
    PSs (cxOf (L2.CX P w) P w g.K mg base ["self", "powers", "name"] "Unit.__init__" (defScope st2) (t.adr 2) cdv A outer s H E) (defBody st2) (TSv g W (bd2 t cf)) :=
  show PSs _ (defBody st2) (TSv g W (seqM (ifM (notM (tM t cf (callM cf 12 [] (M.cons (varM 1) (M.pure []))))) (neverM) nextM)
    (fldM t "_powers" (dcM (iterM (opM (opP .sorted) (M.cons (varM 1) (M.pure [])))) (.var 2) [2] (tM t cf (bin0 .ne (binM t cf .ix "__getitem__" true (varM 1) (varM 2)) (conM (.int 0)))) (varM 2) (binM t cf .ix "__getitem__" true (varM 1) (varM 2))) (varM 0)))) from (s_cons (s_if (t_not (t_of c (e_call c 12 (by rfl) T.f_is_powers T.k_is_powers (tav_pa_cons (e_var c 1) tav_pa_nil rfl)))) (s_one (s_never)) s_nil)
    (s_one (s_fld c (e_dc c (i_any c.K (e_fn (o_sorted c.calm c.K) (by rfl) T.b_sorted bt_sorted (tav_pa_cons (e_var c 1) tav_pa_nil rfl))) (own := [("name", 2)]) (blkOk_by (show blkC ["self", "powers", "name"] (defScope st2) _ [("name", 2)] = true by decide +kernel)) (fun s0 H0 C0 cl0 fp0 => (pg_name (c.blk s0 H0 _ _ fp0).nd rfl (Or.inl rfl))) (fun s0 H0 C0 cl0 fp0 => pts_one (t_cmp0 (c.blk s0 H0 _ _ fp0) (o_eqne (c.blk s0 H0 _ _ fp0).K (c.blk s0 H0 _ _ fp0).hu64).2 (e_ix (c.blk s0 H0 _ _ fp0) (e_var (c.blk s0 H0 _ _ fp0) 1) (e_var (c.blk s0 H0 _ _ fp0) 2) (by intro _ _; rfl) (by intro _ _; rfl)) (e_int) (nomark _))) (fun s0 H0 C0 cl0 fp0 => (e_var (c.blk s0 H0 _ _ fp0) 2)) (fun s0 H0 C0 cl0 fp0 => (e_ix (c.blk s0 H0 _ _ fp0) (e_var (c.blk s0 H0 _ _ fp0) 1) (e_var (c.blk s0 H0 _ _ fp0) 2) (by intro _ _; rfl) (by intro _ _; rfl)))) (e_var c 0))))
theorem sc3 : FnScope ["self"] ["self"] (defScope st3) := ⟨rfl, rfl, rfl, by decide +kernel, rfl, by decide +kernel, by decide +kernel⟩
theorem b3 (T : Txt g t mg) {cdv : Value} {A : Around} {outer : List Env} {s : Shared} {H : Hp} {E : XK} (c : Cc g t cf (cxOf (L2.CX P w) P w g.K mg base ["self"] "Unit.powers" (defScope st3) (t.adr 3) cdv A outer s H E) W j) :
    PSs (cxOf (L2.CX P w) P w g.K mg base ["self"] "Unit.powers" (defScope st3) (t.adr 3) cdv A outer s H E) (defBody st3) (TSv g W (bd3 t cf)) :=
  show PSs _ (defBody st3) (TSv g W (retM (opM (opP .dict1) (M.cons (attrM t cf "_powers" (varM 0)) (M.pure []))))) from (s_one (s_ret (e_ty (o_dict1 c.calm c.K) (by rfl) T.b_dict bt_dict (tav_pa_cons (e_attr c (e_var c 0)) tav_pa_nil rfl))))
theorem sc4 : FnScope ["self", "other"] ["self", "other"] (defScope st4) := ⟨rfl, rfl, rfl, by decide +kernel, rfl, by decide +kernel, by decide +kernel⟩
theorem b4 (T : Txt g t mg) {cdv : Value} {A : Around} {outer : List Env} {s : Shared} {H : Hp} {E : XK} (c : Cc g t cf (cxOf (L2.CX P w) P w g.K mg base ["self", "other"] "Unit.__eq__" (defScope st4) (t.adr 4) cdv A outer s H E) W j) :
    PSs (cxOf (L2.CX P w) P w g.K mg base ["self", "other"] "Unit.__eq__" (defScope st4) (t.adr 4) cdv A outer s H E) (defBody st4) (TSv g W (bd4 t cf)) :=
  show PSs _ (defBody st4) (TSv g W (retM ((andV (opM1 (.isa ty_Unit) (varM 1)) (binM t cf .eq "__eq__" false (attrM t cf "_powers" (varM 0)) (attrM t cf "_powers" (varM 1))))))) from (s_one (s_ret ((e_and (e_isa c.K T.i_Unit (e_var c 1) (pe_glob (by rfl) T.c_Unit (by rfl)) (by rfl) T.b_isinstance) (pe_one (e_cmp c (d := "__eq__") (o_eqne c.K c.hu64).1 (own_eq (by have := c.hu; omega)) (e_attr c (e_var c 0)) (e_attr c (e_var c 1)) (nomark _)))))))
theorem sc5 : FnScope ["self", "other"] ["self", "other"] (defScope st5) := ⟨rfl, rfl, rfl, by decide +kernel, rfl, by decide +kernel, by decide +kernel⟩
theorem b5 (T : Txt g t mg) {cdv : Value} {A : Around} {outer : List Env} {s : Shared} {H : Hp} {E : XK} (c : Cc g t cf (cxOf (L2.CX P w) P w g.K mg base ["self", "other"] "Unit.__mul__" (defScope st5) (t.adr 5) cdv A outer s H E) W j) :
    PSs (cxOf (L2.CX P w) P w g.K mg base ["self", "other"] "Unit.__mul__" (defScope st5) (t.adr 5) cdv A outer s H E) (defBody st5) (TSv g W (bd5 t cf)) :=
  show PSs _ (defBody st5) (TSv g W (seqM (ifM (notM (tM t cf (opM1 (.isa ty_Unit) (varM 1)))) (neverM) nextM)
    (retM (newM t cf 0 (M.cons (callM cf 13 [] (M.cons (attrM t cf "_powers" (varM 0)) (M.cons (attrM t cf "_powers" (varM 1)) (M.cons (conM (.int 1)) (M.pure []))))) (M.pure [])))))) from (s_cons (s_if (t_not (t_of c (e_isa c.K T.i_Unit (e_var c 1) (pe_glob (by rfl) T.c_Unit (by rfl)) (by rfl) T.b_isinstance))) (s_one (s_never)) s_nil)
    (s_one (s_ret (e_new c 0 (by rfl) T.c_Unit T.k_Unit (tav_pa_cons (e_call c 13 (by rfl) T.f_added T.k_added (tav_pa_cons (e_attr c (e_var c 0)) (tav_pa_cons (e_attr c (e_var c 1)) (tav_pa_cons (e_int) tav_pa_nil rfl) rfl) rfl)) tav_pa_nil rfl)))))
theorem sc6 : FnScope ["self", "other"] ["self", "other"] (defScope st6) := ⟨rfl, rfl, rfl, by decide +kernel, rfl, by decide +kernel, by decide +kernel⟩
theorem b6 (T : Txt g t mg) {cdv : Value} {A : Around} {outer : List Env} {s : Shared} {H : Hp} {E : XK} (c : Cc g t cf (cxOf (L2.CX P w) P w g.K mg base ["self", "other"] "Unit.__floordiv__" (defScope st6) (t.adr 6) cdv A outer s H E) W j) :
    PSs (cxOf (L2.CX P w) P w g.K mg base ["self", "other"] "Unit.__floordiv__" (defScope st6) (t.adr 6) cdv A outer s H E) (defBody st6) (TSv g W (bd6 t cf)) :=
  show PSs _ (defBody st6) (TSv g W (seqM (ifM (notM (tM t cf (opM1 (.isa ty_Unit) (varM 1)))) (neverM) nextM)
    (retM (newM t cf 0 (M.cons (callM cf 13 [] (M.cons (attrM t cf "_powers" (varM 0)) (M.cons (attrM t cf "_powers" (varM 1)) (M.cons (opM1 .neg (conM (.int 1))) (M.pure []))))) (M.pure [])))))) from (s_cons (s_if (t_not (t_of c (e_isa c.K T.i_Unit (e_var c 1) (pe_glob (by rfl) T.c_Unit (by rfl)) (by rfl) T.b_isinstance))) (s_one (s_never)) s_nil)
    (s_one (s_ret (e_new c 0 (by rfl) T.c_Unit T.k_Unit (tav_pa_cons (e_call c 13 (by rfl) T.f_added T.k_added (tav_pa_cons (e_attr c (e_var c 0)) (tav_pa_cons (e_attr c (e_var c 1)) (tav_pa_cons (e_neg (e_int)) tav_pa_nil rfl) rfl) rfl)) tav_pa_nil rfl)))))
theorem sc7 : FnScope ["self", "other"] ["self", "other"] (defScope st7) := ⟨rfl, rfl, rfl, by decide +kernel, rfl, by decide +kernel, by decide +kernel⟩
theorem b7 (T : Txt g t mg) {cdv : Value} {A : Around} {outer : List Env} {s : Shared} {H : Hp} {E : XK} (c : Cc g t cf (cxOf (L2.CX P w) P w g.K mg base ["self", "other"] "Unit.__pow__" (defScope st7) (t.adr 7) cdv A outer s H E) W j) :
    PSs (cxOf (L2.CX P w) P w g.K mg base ["self", "other"] "Unit.__pow__" (defScope st7) (t.adr 7) cdv A outer s H E) (defBody st7) (TSv g W (bd7 t cf)) :=
  show PSs _ (defBody st7) (TSv g W (retM (methM t cf "to_power" (varM 0) (M.cons (varM 1) (M.pure []))))) from (s_one (s_ret (e_meth c (e_var c 0) (tav_pa_cons (e_var c 1) tav_pa_nil rfl))))
theorem sc8 : FnScope ["self", "number", "name"] ["self", "number"] (defScope st8) := ⟨rfl, rfl, rfl, by decide +kernel, rfl, by decide +kernel, by decide +kernel⟩
theorem b8 (T : Txt g t mg) {cdv : Value} {A : Around} {outer : List Env} {s : Shared} {H : Hp} {E : XK} (c : Cc g t cf (cxOf (L2.CX P w) P w g.K mg base ["self", "number", "name"] "Unit.to_power" (defScope st8) (t.adr 8) cdv A outer s H E) W j) :
    PSs (cxOf (L2.CX P w) P w g.K mg base ["self", "number", "name"] "Unit.to_power" (defScope st8) (t.adr 8) cdv A outer s H E) (defBody st8) (TSv g W (bd8 t cf)) :=
  show PSs _ (defBody st8) (TSv g W (seqM (ifM (notM (tM t cf (callM cf 1 [] (M.cons (varM 1) (M.pure []))))) (neverM) nextM)
    (retM (newM t cf 0 (M.cons (dcM (iterM (attrM t cf "_powers" (varM 0))) (.var 2) [2] (M.pure true) (varM 2) (binM t cf .mul "__mul__" false (binM t cf .ix "__getitem__" true (attrM t cf "_powers" (varM 0)) (varM 2)) (varM 1))) (M.pure [])))))) from (s_cons (s_if (t_not (t_of c (e_call c 1 (by rfl) T.f_is_whole T.k_is_whole (tav_pa_cons (e_var c 1) tav_pa_nil rfl)))) (s_one (s_never)) s_nil)
    (s_one (s_ret (e_new c 0 (by rfl) T.c_Unit T.k_Unit (tav_pa_cons (e_dc c (i_any c.K (e_attr c (e_var c 0))) (own := [("name", 2)]) (blkOk_by (show blkC ["self", "number", "name"] (defScope st8) _ [("name", 2)] = true by decide +kernel)) (fun s0 H0 C0 cl0 fp0 => (pg_name (c.blk s0 H0 _ _ fp0).nd rfl (Or.inl rfl))) (fun s0 H0 C0 cl0 fp0 => yes_pts) (fun s0 H0 C0 cl0 fp0 => (e_var (c.blk s0 H0 _ _ fp0) 2)) (fun s0 H0 C0 cl0 fp0 => (e_bin (c.blk s0 H0 _ _ fp0) (d := "__mul__") o_mul own_mul (e_ix (c.blk s0 H0 _ _ fp0) (e_attr (c.blk s0 H0 _ _ fp0) (e_var (c.blk s0 H0 _ _ fp0) 0)) (e_var (c.blk s0 H0 _ _ fp0) 2) (by intro _ _; rfl) (by intro _ _; rfl)) (e_var (c.blk s0 H0 _ _ fp0) 1)))) tav_pa_nil rfl)))))
theorem sc9 : FnScope ["self"] ["self"] (defScope st9) := ⟨rfl, rfl, rfl, by decide +kernel, rfl, by decide +kernel, by decide +kernel⟩
theorem b9 (T : Txt g t mg) {cdv : Value} {A : Around} {outer : List Env} {s : Shared} {H : Hp} {E : XK} (c : Cc g t cf (cxOf (L2.CX P w) P w g.K mg base ["self"] "Unit.__bool__" (defScope st9) (t.adr 9) cdv A outer s H E) W j) :
    PSs (cxOf (L2.CX P w) P w g.K mg base ["self"] "Unit.__bool__" (defScope st9) (t.adr 9) cdv A outer s H E) (defBody st9) (TSv g W (bd9 t cf)) :=
  show PSs _ (defBody st9) (TSv g W (retM (boolM t cf (attrM t cf "_powers" (varM 0))))) from (s_one (s_ret (e_bool c (e_attr c (e_var c 0)) (by rfl) T.b_bool)))
theorem sc10 : FnScope ["self", "x"] ["self", "x"] (defScope st10) := ⟨rfl, rfl, rfl, by decide +kernel, rfl, by decide +kernel, by decide +kernel⟩
theorem b10 (T : Txt g t mg) {cdv : Value} {A : Around} {outer : List Env} {s : Shared} {H : Hp} {E : XK} (c : Cc g t cf (cxOf (L2.CX P w) P w g.K mg base ["self", "x"] "Unit.__contains__" (defScope st10) (t.adr 10) cdv A outer s H E) W j) :
    PSs (cxOf (L2.CX P w) P w g.K mg base ["self", "x"] "Unit.__contains__" (defScope st10) (t.adr 10) cdv A outer s H E) (defBody st10) (TSv g W (bd10 t cf)) :=
  show PSs _ (defBody st10) (TSv g W (retM (inM t cf false (varM 1) (attrM t cf "_powers" (varM 0))))) from (s_one (s_ret (e_in c (neg := false) (e_var c 1) (e_attr c (e_var c 0)) (by rfl))))
theorem sc11 : FnScope ["self", "at"] ["self", "at"] (defScope st11) := ⟨rfl, rfl, rfl, by decide +kernel, rfl, by decide +kernel, by decide +kernel⟩
theorem b11 (T : Txt g t mg) {cdv : Value} {A : Around} {outer : List Env} {s : Shared} {H : Hp} {E : XK} (c : Cc g t cf (cxOf (L2.CX P w) P w g.K mg base ["self", "at"] "Unit.__getitem__" (defScope st11) (t.adr 11) cdv A outer s H E) W j) :
    PSs (cxOf (L2.CX P w) P w g.K mg base ["self", "at"] "Unit.__getitem__" (defScope st11) (t.adr 11) cdv A outer s H E) (defBody st11) (TSv g W (bd11 t cf)) :=
  show PSs _ (defBody st11) (TSv g W (retM (get2M (attrM t cf "_powers" (varM 0)) (varM 1) (conM (.int 0))))) from (s_one (s_ret (e_get2 c (e_attr c (e_var c 0)) (e_var c 1) (e_int) ⟨by rfl, by rfl, by rfl, by rfl⟩)))
theorem sc12 : FnScope ["thing", "name", "power"] ["thing"] (defScope st12) := ⟨rfl, rfl, rfl, by decide +kernel, rfl, by decide +kernel, by decide +kernel⟩
theorem b12 (T : Txt g t mg) {cdv : Value} {A : Around} {outer : List Env} {s : Shared} {H : Hp} {E : XK} (c : Cc g t cf (cxOf (L2.CX P w) P w g.K mg base ["thing", "name", "power"] "is_powers" (defScope st12) (t.adr 12) cdv A outer s H E) W j) :
    PSs (cxOf (L2.CX P w) P w g.K mg base ["thing", "name", "power"] "is_powers" (defScope st12) (t.adr 12) cdv A outer s H E) (defBody st12) (TSv g W (bd12 t cf)) :=
  show PSs _ (defBody st12) (TSv g W (seqM (ifM (notM (tM t cf (opM1 (.isa ty_dict) (varM 0)))) (retM (conM (.bl false))) nextM)
    (retM (opM (opP .all1) (M.cons (lcM (itemsM (varM 0)) (.tup2 1 2) [1, 2] (M.pure true) ((andV (callM cf 0 [] (M.cons (varM 1) (M.pure []))) (callM cf 1 [] (M.cons (varM 2) (M.pure [])))))) (M.pure [])))))) from (s_cons (s_if (t_not (t_of c (e_isa c.K ok_dict (e_var c 0) (pe_bltn (by rfl) T.b_dict bt_dict (by rfl)) (by rfl) T.b_isinstance))) (s_one (s_ret (e_bl))) s_nil)
    (s_one (s_ret (e_fn (o_all1 c.calm c.K) (by rfl) T.b_all bt_all (tav_pa_cons (e_lc c (i_items (e_var c 0)) (own := [("name", 1), ("power", 2)]) (blkOk_by (show blkC ["thing", "name", "power"] (defScope st12) _ [("name", 1), ("power", 2)] = true by decide +kernel)) (fun s0 H0 C0 cl0 fp0 => (pg_tup (c.blk s0 H0 _ _ fp0).calm (pgs_cons (pg_name (c.blk s0 H0 _ _ fp0).nd rfl (Or.inl rfl)) (pgs_cons (pg_name (c.blk s0 H0 _ _ fp0).nd rfl (Or.inl rfl)) pgs_nil)))) (fun s0 H0 C0 cl0 fp0 => yes_pts) (fun s0 H0 C0 cl0 fp0 => ((e_and (e_call (c.blk s0 H0 _ _ fp0) 0 (by rfl) T.f_is_name T.k_is_name (tav_pa_cons (e_var (c.blk s0 H0 _ _ fp0) 1) tav_pa_nil rfl)) (pe_one (e_call (c.blk s0 H0 _ _ fp0) 1 (by rfl) T.f_is_whole T.k_is_whole (tav_pa_cons (e_var (c.blk s0 H0 _ _ fp0) 2) tav_pa_nil rfl))))))) tav_pa_nil rfl)))))
theorem sc13 : FnScope ["powers", "others", "times", "total", "name"] ["powers", "others", "times"] (defScope st13) := ⟨rfl, rfl, rfl, by decide +kernel, rfl, by decide +kernel, by decide +kernel⟩
theorem b13 (T : Txt g t mg) {cdv : Value} {A : Around} {outer : List Env} {s : Shared} {H : Hp} {E : XK} (c : Cc g t cf (cxOf (L2.CX P w) P w g.K mg base ["powers", "others", "times", "total", "name"] "added" (defScope st13) (t.adr 13) cdv A outer s H E) W j) :
    PSs (cxOf (L2.CX P w) P w g.K mg base ["powers", "others", "times", "total", "name"] "added" (defScope st13) (t.adr 13) cdv A outer s H E) (defBody st13) (TSv g W (bd13 t cf)) :=
  show PSs _ (defBody st13) (TSv g W (seqM (setM 3 (opM (opP .dict1) (M.cons (varM 0) (M.pure []))))
    (seqM (forM (iterM (varM 1)) (.var 4) (itemM (bin0 .add (get2M (varM 3) (varM 4) (conM (.int 0))) (binM t cf .mul "__mul__" false (varM 2) (binM t cf .ix "__getitem__" true (varM 1) (varM 4)))) (varM 3) (varM 4)))
    (retM (varM 3))))) from (s_cons (s_set c 3 (e_ty (o_dict1 c.calm c.K) (by rfl) T.b_dict bt_dict (tav_pa_cons (e_var c 0) tav_pa_nil rfl)))
    (s_cons (s_for c (i_any c.K (e_var c 1)) (pg_name c.nd rfl (Or.inl rfl)) (s_one (s_item c (e_bin0 o_add (e_get2 c (e_var c 3) (e_var c 4) (e_int) ⟨by rfl, by rfl, by rfl, by rfl⟩) (e_bin c (d := "__mul__") o_mul own_mul (e_var c 2) (e_ix c (e_var c 1) (e_var c 4) (by intro _ _; rfl) (by intro _ _; rfl)))) (e_var c 3) (e_var c 4))))
    (s_one (s_ret (e_var c 3)))))
theorem sc14 : FnScope ["script", "k"] ["script", "k"] (defScope st14) := ⟨rfl, rfl, rfl, by decide +kernel, rfl, by decide +kernel, by decide +kernel⟩
theorem b14 (T : Txt g t mg) {cdv : Value} {A : Around} {outer : List Env} {s : Shared} {H : Hp} {E : XK} (c : Cc g t cf (cxOf (L2.CX P w) P w g.K mg base ["script", "k"] "_law_cell_at" (defScope st14) (t.adr 14) cdv A outer s H E) W j) :
    PSs (cxOf (L2.CX P w) P w g.K mg base ["script", "k"] "_law_cell_at" (defScope st14) (t.adr 14) cdv A outer s H E) (defBody st14) (TSv g W (bd14 t cf)) :=
  show PSs _ (defBody st14) (TSv g W (seqM (ifM (tM t cf (bin0 .lt (varM 1) (opM (opP .len) (M.cons (varM 0) (M.pure []))))) (retM (binM t cf .ix "__getitem__" true (varM 0) (varM 1))) nextM)
    (retM (conM (.int 0))))) from (s_cons (s_if (t_cmp0 c o_lt (e_var c 1) (e_fn (o_len c.K) (by rfl) T.b_len bt_len (tav_pa_cons (e_var c 0) tav_pa_nil rfl)) (nomark _)) (s_one (s_ret (e_ix c (e_var c 0) (e_var c 1) (by intro _ _; rfl) (by intro _ _; rfl)))) s_nil)
    (s_one (s_ret (e_int))))
theorem sc15 : FnScope ["cell", "k", "below", "primes"] ["cell", "k", "below"] (defScope st15) := ⟨rfl, rfl, rfl, by decide +kernel, rfl, by decide +kernel, by decide +kernel⟩
theorem b15 (T : Txt g t mg) {cdv : Value} {A : Around} {outer : List Env} {s : Shared} {H : Hp} {E : XK} (c : Cc g t cf (cxOf (L2.CX P w) P w g.K mg base ["cell", "k", "below", "primes"] "_law_draw" (defScope st15) (t.adr 15) cdv A outer s H E) W j) :
    PSs (cxOf (L2.CX P w) P w g.K mg base ["cell", "k", "below", "primes"] "_law_draw" (defScope st15) (t.adr 15) cdv A outer s H E) (defBody st15) (TSv g W (bd15 t cf)) :=
  show PSs _ (defBody st15) (TSv g W (seqM (setM 3 (dispM .tp (M.cons (conM (.int 1000003)) (M.cons (conM (.int 1000033)) (M.cons (conM (.int 1000037)) (M.cons (conM (.int 1000039)) (M.cons (conM (.int 1000081)) (M.cons (conM (.int 1000099)) (M.cons (conM (.int 1000117)) (M.cons (conM (.int 1000121)) (M.cons (conM (.int 1000133)) (M.cons (conM (.int 1000151)) (M.cons (conM (.int 1000159)) (M.cons (conM (.int 1000171)) (M.cons (conM (.int 1000183)) (M.cons (conM (.int 1000187)) (M.cons (conM (.int 1000193)) (M.cons (conM (.int 1000199)) (M.pure [])))))))))))))))))))
    (retM (bin0 .mod (bin0 .mod (bin0 .add (binM t cf .mul "__mul__" false (varM 0) (conM (.int 48271))) (binM t cf .mul "__mul__" false (varM 1) (conM (.int 69621)))) (binM t cf .ix "__getitem__" true (varM 3) (bin0 .mod (varM 1) (conM (.int 16))))) (varM 2))))) from (s_cons (s_set c 3 (e_tup (tav_pa_cons (e_int) (tav_pa_cons (e_int) (tav_pa_cons (e_int) (tav_pa_cons (e_int) (tav_pa_cons (e_int) (tav_pa_cons (e_int) (tav_pa_cons (e_int) (tav_pa_cons (e_int) (tav_pa_cons (e_int) (tav_pa_cons (e_int) (tav_pa_cons (e_int) (tav_pa_cons (e_int) (tav_pa_cons (e_int) (tav_pa_cons (e_int) (tav_pa_cons (e_int) (tav_pa_cons (e_int) tav_pa_nil rfl) rfl) rfl) rfl) rfl) rfl) rfl) rfl) rfl) rfl) rfl) rfl) rfl) rfl) rfl) rfl)))
    (s_one (s_ret (e_bin0 o_mod (e_bin0 o_mod (e_bin0 o_add (e_bin c (d := "__mul__") o_mul own_mul (e_var c 0) (e_int)) (e_bin c (d := "__mul__") o_mul own_mul (e_var c 1) (e_int))) (e_ix c (e_var c 3) (e_bin0 o_mod (e_var c 1) (e_int)) (by intro _ _; rfl) (by intro _ _; rfl))) (e_var c 2)))))
theorem sc16 : FnScope ["cell", "k", "below", "power", "times", "remains", "small"] ["cell", "k", "below"] (defScope st16) := ⟨rfl, rfl, rfl, by decide +kernel, rfl, by decide +kernel, by decide +kernel⟩
theorem b16 (T : Txt g t mg) {cdv : Value} {A : Around} {outer : List Env} {s : Shared} {H : Hp} {E : XK} (c : Cc g t cf (cxOf (L2.CX P w) P w g.K mg base ["cell", "k", "below", "power", "times", "remains", "small"] "_law_number" (defScope st16) (t.adr 16) cdv A outer s H E) W j) :
    PSs (cxOf (L2.CX P w) P w g.K mg base ["cell", "k", "below", "power", "times", "remains", "small"] "_law_number" (defScope st16) (t.adr 16) cdv A outer s H E) (defBody st16) (TSv g W (bd16 t cf)) :=
  show PSs _ (defBody st16) (TSv g W (seqM (setM 3 (conM (.int 1)))
    (seqM (forM (rangeM (M.cons (bin0 .mod (varM 1) (conM (.int 24))) (M.pure []))) (.var 4) (setM 3 (binM t cf .mul "__mul__" false (varM 3) (conM (.int 1009)))))
    (seqM (setM 5 (binM t cf .fdiv "__floordiv__" false (bin0 .sub (varM 0) (binM t cf .pow "__pow__" true (conM (.int 10)) (conM (.int 18)))) (varM 3)))
    (seqM (ifM (tM t cf (bin0 .gt (varM 5) (conM (.int 0)))) (retM (bin0 .mod (bin0 .mod (varM 5) (conM (.int 1009))) (varM 2))) nextM)
    (seqM (setM 6 (bin0 .mod (varM 0) (conM (.int 1000003))))
    (retM (bin0 .mod (callM cf 15 [] (M.cons (binM t cf .mul "__mul__" false (bin0 .add (varM 6) (binM t cf .mul "__mul__" false (conM (.int 977)) (varM 1))) (bin0 .add (bin0 .add (varM 6) (binM t cf .mul "__mul__" false (conM (.int 31)) (varM 1))) (conM (.int 5)))) (M.cons (bin0 .add (bin0 .mod (varM 1) (conM (.int 9))) (conM (.int 1))) (M.cons (conM (.int 999983)) (M.pure []))))) (varM 2))))))))) from (s_cons (s_set c 3 (e_int))
    (s_cons (s_for c (i_range1 (by rfl) T.b_range (e_bin0 o_mod (e_var c 1) (e_int))) (pg_name c.nd rfl (Or.inl rfl)) (s_one (s_set c 3 (e_bin c (d := "__mul__") o_mul own_mul (e_var c 3) (e_int)))))
    (s_cons (s_set c 5 (e_bin c (d := "__floordiv__") o_fdiv own_fdiv (e_bin0 o_sub (e_var c 0) (e_bin c (d := "__pow__") o_pow (own_pow rfl T.pow) (e_int) (e_int))) (e_var c 3)))
    (s_cons (s_if (t_cmp0 c o_gt (e_var c 5) (e_int) (nomark _)) (s_one (s_ret (e_bin0 o_mod (e_bin0 o_mod (e_var c 5) (e_int)) (e_var c 2)))) s_nil)
    (s_cons (s_set c 6 (e_bin0 o_mod (e_var c 0) (e_int)))
    (s_one (s_ret (e_bin0 o_mod (e_call c 15 (by rfl) T.f__law_draw T.k__law_draw (tav_pa_cons (e_bin c (d := "__mul__") o_mul own_mul (e_bin0 o_add (e_var c 6) (e_bin c (d := "__mul__") o_mul own_mul (e_int) (e_var c 1))) (e_bin0 o_add (e_bin0 o_add (e_var c 6) (e_bin c (d := "__mul__") o_mul own_mul (e_int) (e_var c 1))) (e_int))) (tav_pa_cons (e_bin0 o_add (e_bin0 o_mod (e_var c 1) (e_int)) (e_int)) (tav_pa_cons (e_int) tav_pa_nil rfl) rfl) rfl)) (e_var c 2)))))))))
theorem sc17 : FnScope ["state", "below", "at", "cell"] ["state", "below"] (defScope st17) := ⟨rfl, rfl, rfl, by decide +kernel, rfl, by decide +kernel, by decide +kernel⟩
theorem b17 (T : Txt g t mg) {cdv : Value} {A : Around} {outer : List Env} {s : Shared} {H : Hp} {E : XK} (c : Cc g t cf (cxOf (L2.CX P w) P w g.K mg base ["state", "below", "at", "cell"] "_law_next" (defScope st17) (t.adr 17) cdv A outer s H E) W j) :
    PSs (cxOf (L2.CX P w) P w g.K mg base ["state", "below", "at", "cell"] "_law_next" (defScope st17) (t.adr 17) cdv A outer s H E) (defBody st17) (TSv g W (bd17 t cf)) :=
  show PSs _ (defBody st17) (TSv g W (seqM (itemM (bin0 .add (binM t cf .ix "__getitem__" true (varM 0) (conM (.int 2))) (conM (.int 1))) (varM 0) (conM (.int 2)))
    (seqM (setM 2 (binM t cf .fdiv "__floordiv__" false (binM t cf .ix "__getitem__" true (varM 0) (conM (.int 2))) (conM (.int 12))))
    (seqM (setM 3 (bin0 .add (callM cf 14 [] (M.cons (binM t cf .ix "__getitem__" true (varM 0) (conM (.int 0))) (M.cons (bin0 .add (binM t cf .ix "__getitem__" true (varM 0) (conM (.int 1))) (varM 2)) (M.pure [])))) (binM t cf .mul "__mul__" false (conM (.int 31)) (varM 2))))
    (retM (callM cf 16 [] (M.cons (varM 3) (M.cons (bin0 .add (bin0 .mod (binM t cf .ix "__getitem__" true (varM 0) (conM (.int 2))) (conM (.int 12))) (conM (.int 1))) (M.cons (varM 1) (M.pure [])))))))))) from (s_cons (s_item c (e_bin0 o_add (e_ix c (e_var c 0) (e_int) (by intro _ _; rfl) (by intro _ _; rfl)) (e_int)) (e_var c 0) (e_int))
    (s_cons (s_set c 2 (e_bin c (d := "__floordiv__") o_fdiv own_fdiv (e_ix c (e_var c 0) (e_int) (by intro _ _; rfl) (by intro _ _; rfl)) (e_int)))
    (s_cons (s_set c 3 (e_bin0 o_add (e_call c 14 (by rfl) T.f__law_cell_at T.k__law_cell_at (tav_pa_cons (e_ix c (e_var c 0) (e_int) (by intro _ _; rfl) (by intro _ _; rfl)) (tav_pa_cons (e_bin0 o_add (e_ix c (e_var c 0) (e_int) (by intro _ _; rfl) (by intro _ _; rfl)) (e_var c 2)) tav_pa_nil rfl) rfl)) (e_bin c (d := "__mul__") o_mul own_mul (e_int) (e_var c 2))))
    (s_one (s_ret (e_call c 16 (by rfl) T.f__law_number T.k__law_number (tav_pa_cons (e_var c 3) (tav_pa_cons (e_bin0 o_add (e_bin0 o_mod (e_ix c (e_var c 0) (e_int) (by intro _ _; rfl) (by intro _ _; rfl)) (e_int)) (e_int)) (tav_pa_cons (e_var c 1) tav_pa_nil rfl) rfl) rfl)))))))
theorem sc18 : FnScope ["state", "found", "name"] ["state"] (defScope st18) := ⟨rfl, rfl, rfl, by decide +kernel, rfl, by decide +kernel, by decide +kernel⟩
theorem b18 (T : Txt g t mg) {cdv : Value} {A : Around} {outer : List Env} {s : Shared} {H : Hp} {E : XK} (c : Cc g t cf (cxOf (L2.CX P w) P w g.K mg base ["state", "found", "name"] "_law_powers" (defScope st18) (t.adr 18) cdv A outer s H E) W j) :
    PSs (cxOf (L2.CX P w) P w g.K mg base ["state", "found", "name"] "_law_powers" (defScope st18) (t.adr 18) cdv A outer s H E) (defBody st18) (TSv g W (bd18 t cf)) :=
  show PSs _ (defBody st18) (TSv g W (seqM (setM 1 (dic0M))
    (seqM (forM (iterM (dispM (fun xs => .mk (.lst xs)) (M.cons (conM (.str "s")) (M.cons (conM (.str "kg")) (M.cons (conM (.str "m")) (M.cons (conM (.str "abcdefgh")) (M.pure []))))))) (.var 2) (ifM (tM t cf (bin0 .gt (callM cf 17 [] (M.cons (varM 0) (M.cons (conM (.int 3)) (M.pure [])))) (conM (.int 0)))) (seqM (itemM (bin0 .sub (callM cf 17 [] (M.cons (varM 0) (M.cons (conM (.int 5)) (M.pure [])))) (conM (.int 2))) (varM 1) (varM 2))
    (ifM (tM t cf (binM t cf .eq "__eq__" false (callM cf 17 [] (M.cons (varM 0) (M.cons (conM (.int 5)) (M.pure [])))) (conM (.int 0)))) (itemM (bin0 .sub (callM cf 17 [] (M.cons (varM 0) (M.cons (conM (.int 2001)) (M.pure [])))) (conM (.int 1000))) (varM 1) (varM 2)) nextM)) nextM))
    (retM (varM 1))))) from (s_cons (s_set c 1 (e_dic0))
    (s_cons (s_for c (i_any c.K (e_lst (tav_pa_cons (e_str) (tav_pa_cons (e_str) (tav_pa_cons (e_str) (tav_pa_cons (e_str) tav_pa_nil rfl) rfl) rfl) rfl))) (pg_name c.nd rfl (Or.inl rfl)) (s_one (s_if (t_cmp0 c o_gt (e_call c 17 (by rfl) T.f__law_next T.k__law_next (tav_pa_cons (e_var c 0) (tav_pa_cons (e_int) tav_pa_nil rfl) rfl)) (e_int) (nomark _)) (s_cons (s_item c (e_bin0 o_sub (e_call c 17 (by rfl) T.f__law_next T.k__law_next (tav_pa_cons (e_var c 0) (tav_pa_cons (e_int) tav_pa_nil rfl) rfl)) (e_int)) (e_var c 1) (e_var c 2))
    (s_one (s_if (t_cmp c (d := "__eq__") (o_eqne c.K c.hu64).1 (own_eq (by have := c.hu; omega)) (e_call c 17 (by rfl) T.f__law_next T.k__law_next (tav_pa_cons (e_var c 0) (tav_pa_cons (e_int) tav_pa_nil rfl) rfl)) (e_int) (nomark _)) (s_one (s_item c (e_bin0 o_sub (e_call c 17 (by rfl) T.f__law_next T.k__law_next (tav_pa_cons (e_var c 0) (tav_pa_cons (e_int) tav_pa_nil rfl) rfl)) (e_int)) (e_var c 1) (e_var c 2))) s_nil))) s_nil)))
    (s_one (s_ret (e_var c 1)))))
theorem sc19 : FnScope ["powers", "name"] ["powers"] (defScope st19) := ⟨rfl, rfl, rfl, by decide +kernel, rfl, by decide +kernel, by decide +kernel⟩
theorem b19 (T : Txt g t mg) {cdv : Value} {A : Around} {outer : List Env} {s : Shared} {H : Hp} {E : XK} (c : Cc g t cf (cxOf (L2.CX P w) P w g.K mg base ["powers", "name"] "_law_plain" (defScope st19) (t.adr 19) cdv A outer s H E) W j) :
    PSs (cxOf (L2.CX P w) P w g.K mg base ["powers", "name"] "_law_plain" (defScope st19) (t.adr 19) cdv A outer s H E) (defBody st19) (TSv g W (bd19 t cf)) :=
  show PSs _ (defBody st19) (TSv g W (retM (opM (opP .dict1) (M.cons (lcM (iterM (opM (opP .sorted) (M.cons (varM 0) (M.pure [])))) (.var 1) [1] (tM t cf (bin0 .ne (binM t cf .ix "__getitem__" true (varM 0) (varM 1)) (conM (.int 0)))) (dispM .tp (M.cons (varM 1) (M.cons (binM t cf .ix "__getitem__" true (varM 0) (varM 1)) (M.pure []))))) (M.pure []))))) from (s_one (s_ret (e_ty (o_dict1 c.calm c.K) (by rfl) T.b_dict bt_dict (tav_pa_cons (e_lc c (i_any c.K (e_fn (o_sorted c.calm c.K) (by rfl) T.b_sorted bt_sorted (tav_pa_cons (e_var c 0) tav_pa_nil rfl))) (own := [("name", 1)]) (blkOk_by (show blkC ["powers", "name"] (defScope st19) _ [("name", 1)] = true by decide +kernel)) (fun s0 H0 C0 cl0 fp0 => (pg_name (c.blk s0 H0 _ _ fp0).nd rfl (Or.inl rfl))) (fun s0 H0 C0 cl0 fp0 => pts_one (t_cmp0 (c.blk s0 H0 _ _ fp0) (o_eqne (c.blk s0 H0 _ _ fp0).K (c.blk s0 H0 _ _ fp0).hu64).2 (e_ix (c.blk s0 H0 _ _ fp0) (e_var (c.blk s0 H0 _ _ fp0) 0) (e_var (c.blk s0 H0 _ _ fp0) 1) (by intro _ _; rfl) (by intro _ _; rfl)) (e_int) (nomark _))) (fun s0 H0 C0 cl0 fp0 => (e_tup (tav_pa_cons (e_var (c.blk s0 H0 _ _ fp0) 1) (tav_pa_cons (e_ix (c.blk s0 H0 _ _ fp0) (e_var (c.blk s0 H0 _ _ fp0) 0) (e_var (c.blk s0 H0 _ _ fp0) 1) (by intro _ _; rfl) (by intro _ _; rfl)) tav_pa_nil rfl) rfl)))) tav_pa_nil rfl))))
theorem sc20 : FnScope ["unit", "powers", "due", "name"] ["unit", "powers"] (defScope st20) := ⟨rfl, rfl, rfl, by decide +kernel, rfl, by decide +kernel, by decide +kernel⟩
theorem b20 (T : Txt g t mg) {cdv : Value} {A : Around} {outer : List Env} {s : Shared} {H : Hp} {E : XK} (c : Cc g t cf (cxOf (L2.CX P w) P w g.K mg base ["unit", "powers", "due", "name"] "_law_stands" (defScope st20) (t.adr 20) cdv A outer s H E) W j) :
    PSs (cxOf (L2.CX P w) P w g.K mg base ["unit", "powers", "due", "name"] "_law_stands" (defScope st20) (t.adr 20) cdv A outer s H E) (defBody st20) (TSv g W (bd20 t cf)) :=
  show PSs _ (defBody st20) (TSv g W (seqM (setM 2 (callM cf 19 [] (M.cons (varM 1) (M.pure []))))
    (seqM (ifM (tM t cf (bin0 .ne (attrM t cf "powers" (varM 0)) (varM 2))) (retM (conM (.bl false))) nextM)
    (seqM (ifM (tM t cf (bin0 .ne (opM (opP .list1) (M.cons (attrM t cf "powers" (varM 0)) (M.pure []))) (opM (opP .list1) (M.cons (varM 2) (M.pure []))))) (retM (conM (.bl false))) nextM)
    (seqM (ifM (notM (tM t cf (binM t cf .eq "__eq__" false (varM 0) (newM t cf 0 (M.cons (varM 1) (M.pure [])))))) (retM (conM (.bl false))) nextM)
    (seqM (ifM (tM t cf (bin0 .ne (boolM t cf (varM 0)) (bin0 .ne (varM 2) (dic0M)))) (retM (conM (.bl false))) nextM)
    (seqM (forM (iterM (dispM (fun xs => .mk (.lst xs)) (M.cons (conM (.str "s")) (M.cons (conM (.str "kg")) (M.cons (conM (.str "m")) (M.cons (conM (.str "abcdefgh")) (M.cons (conM (.str "cd")) (M.pure [])))))))) (.var 3) (ifM ((orM (tM t cf (bin0 .ne (inM t cf false (varM 3) (varM 0)) (inM t cf false (varM 3) (varM 2)))) (tM t cf (bin0 .ne (binM t cf .ix "__getitem__" true (varM 0) (varM 3)) (get2M (varM 2) (varM 3) (conM (.int 0))))))) (retM (conM (.bl false))) nextM))
    (retM (conM (.bl true)))))))))) from (s_cons (s_set c 2 (e_call c 19 (by rfl) T.f__law_plain T.k__law_plain (tav_pa_cons (e_var c 1) tav_pa_nil rfl)))
    (s_cons (s_if (t_cmp0 c (o_eqne c.K c.hu64).2 (e_attr c (e_var c 0)) (e_var c 2) (nomark _)) (s_one (s_ret (e_bl))) s_nil)
    (s_cons (s_if (t_cmp0 c (o_eqne c.K c.hu64).2 (e_ty (o_list1 c.calm c.K) (by rfl) T.b_list bt_list (tav_pa_cons (e_attr c (e_var c 0)) tav_pa_nil rfl)) (e_ty (o_list1 c.calm c.K) (by rfl) T.b_list bt_list (tav_pa_cons (e_var c 2) tav_pa_nil rfl)) (nomark _)) (s_one (s_ret (e_bl))) s_nil)
    (s_cons (s_if (t_not (t_cmp c (d := "__eq__") (o_eqne c.K c.hu64).1 (own_eq (by have := c.hu; omega)) (e_var c 0) (e_new c 0 (by rfl) T.c_Unit T.k_Unit (tav_pa_cons (e_var c 1) tav_pa_nil rfl)) (nomark _))) (s_one (s_ret (e_bl))) s_nil)
    (s_cons (s_if (t_cmp0 c (o_eqne c.K c.hu64).2 (e_bool c (e_var c 0) (by rfl) T.b_bool) (e_cmp0 (o_eqne c.K c.hu64).2 (e_var c 2) (e_dic0) (nomark _)) (nomark _)) (s_one (s_ret (e_bl))) s_nil)
    (s_cons (s_for c (i_any c.K (e_lst (tav_pa_cons (e_str) (tav_pa_cons (e_str) (tav_pa_cons (e_str) (tav_pa_cons (e_str) (tav_pa_cons (e_str) tav_pa_nil rfl) rfl) rfl) rfl) rfl))) (pg_name c.nd rfl (Or.inl rfl)) (s_one (s_if ((w_or (t_cmp0 c (o_eqne c.K c.hu64).2 (e_in c (neg := false) (e_var c 3) (e_var c 0) (by rfl)) (e_in c (neg := false) (e_var c 3) (e_var c 2) (by rfl)) (nomark _)) (pw_or1 (t_cmp0 c (o_eqne c.K c.hu64).2 (e_ix c (e_var c 0) (e_var c 3) (by intro _ _; rfl) (by intro _ _; rfl)) (e_get2 c (e_var c 2) (e_var c 3) (e_int) ⟨by rfl, by rfl, by rfl, by rfl⟩) (nomark _)))).pt) (s_one (s_ret (e_bl))) s_nil)))
    (s_one (s_ret (e_bl)))))))))
theorem sc21 : FnScope ["unit", "number"] ["unit", "number"] (defScope st21) := ⟨rfl, rfl, rfl, by decide +kernel, rfl, by decide +kernel, by decide +kernel⟩
theorem b21 (T : Txt g t mg) {cdv : Value} {A : Around} {outer : List Env} {s : Shared} {H : Hp} {E : XK} (c : Cc g t cf (cxOf (L2.CX P w) P w g.K mg base ["unit", "number"] "_law_power" (defScope st21) (t.adr 21) cdv A outer s H E) W j) :
    PSs (cxOf (L2.CX P w) P w g.K mg base ["unit", "number"] "_law_power" (defScope st21) (t.adr 21) cdv A outer s H E) (defBody st21) (TSv g W (bd21 t cf)) :=
  show PSs _ (defBody st21) (TSv g W (seqM (ifM (tM t cf (binM t cf .eq "__eq__" false (varM 1) (conM (.int 0)))) (retM (binM t cf .pow "__pow__" true (varM 0) (conM (.int 0)))) nextM)
    (seqM (ifM (tM t cf (binM t cf .eq "__eq__" false (varM 1) (conM (.int 1)))) (retM (binM t cf .pow "__pow__" true (varM 0) (conM (.int 1)))) nextM)
    (retM (iteM (tM t cf (binM t cf .eq "__eq__" false (varM 1) (conM (.int 2)))) (binM t cf .pow "__pow__" true (varM 0) (conM (.int 2))) (binM t cf .pow "__pow__" true (varM 0) (conM (.int 3)))))))) from (s_cons (s_if (t_cmp c (d := "__eq__") (o_eqne c.K c.hu64).1 (own_eq (by have := c.hu; omega)) (e_var c 1) (e_int) (nomark _)) (s_one (s_ret (e_bin c (d := "__pow__") o_pow (own_pow rfl T.pow) (e_var c 0) (e_int)))) s_nil)
    (s_cons (s_if (t_cmp c (d := "__eq__") (o_eqne c.K c.hu64).1 (own_eq (by have := c.hu; omega)) (e_var c 1) (e_int) (nomark _)) (s_one (s_ret (e_bin c (d := "__pow__") o_pow (own_pow rfl T.pow) (e_var c 0) (e_int)))) s_nil)
    (s_one (s_ret (e_ite (t_cmp c (d := "__eq__") (o_eqne c.K c.hu64).1 (own_eq (by have := c.hu; omega)) (e_var c 1) (e_int) (nomark _)) (e_bin c (d := "__pow__") o_pow (own_pow rfl T.pow) (e_var c 0) (e_int)) (e_bin c (d := "__pow__") o_pow (own_pow rfl T.pow) (e_var c 0) (e_int)))))))
theorem sc22 : FnScope ["state", "one", "other", "number", "product", "ratio", "power", "name", "left", "right"] ["state"] (defScope st22) := ⟨rfl, rfl, rfl, by decide +kernel, rfl, by decide +kernel, by decide +kernel⟩
theorem b22 (T : Txt g t mg) {cdv : Value} {A : Around} {outer : List Env} {s : Shared} {H : Hp} {E : XK} (c : Cc g t cf (cxOf (L2.CX P w) P w g.K mg base ["state", "one", "other", "number", "product", "ratio", "power", "name", "left", "right"] "_law_one_right" (defScope st22) (t.adr 22) cdv A outer s H E) W j) :
    PSs (cxOf (L2.CX P w) P w g.K mg base ["state", "one", "other", "number", "product", "ratio", "power", "name", "left", "right"] "_law_one_right" (defScope st22) (t.adr 22) cdv A outer s H E) (defBody st22) (TSv g W (bd22 t cf)) :=
  show PSs _ (defBody st22) (TSv g W (seqM (parM [1, 2, 3] (M.cons (callM cf 18 [] (M.cons (varM 0) (M.pure []))) (M.cons (callM cf 18 [] (M.cons (varM 0) (M.pure []))) (M.cons (callM cf 17 [] (M.cons (varM 0) (M.cons (conM (.int 4)) (M.pure [])))) (M.pure [])))))
    (seqM (parM [4, 5, 6] (M.cons (opM (opP .dict1) (M.cons (varM 1) (M.pure []))) (M.cons (opM (opP .dict1) (M.cons (varM 1) (M.pure []))) (M.cons (dic0M) (M.pure [])))))
    (seqM (forM (iterM (varM 2)) (.var 7) (seqM (itemM (bin0 .add (get2M (varM 4) (varM 7) (conM (.int 0))) (binM t cf .ix "__getitem__" true (varM 2) (varM 7))) (varM 4) (varM 7))
    (itemM (bin0 .sub (get2M (varM 5) (varM 7) (conM (.int 0))) (binM t cf .ix "__getitem__" true (varM 2) (varM 7))) (varM 5) (varM 7))))
    (seqM (forM (iterM (varM 1)) (.var 7) (itemM (binM t cf .mul "__mul__" false (binM t cf .ix "__getitem__" true (varM 1) (varM 7)) (varM 3)) (varM 6) (varM 7)))
    (seqM (parM [8, 9] (M.cons (newM t cf 0 (M.cons (varM 1) (M.pure []))) (M.cons (newM t cf 0 (M.cons (opM (opP .dict1) (M.cons (opM1 .revl (litemsM (varM 2))) (M.pure []))) (M.pure []))) (M.pure []))))
    (seqM (ifM (notM (tM t cf (callM cf 20 [] (M.cons (varM 8) (M.cons (varM 1) (M.pure [])))))) (retM (conM (.bl false))) nextM)
    (seqM (ifM (notM (tM t cf (callM cf 20 [] (M.cons (varM 9) (M.cons (varM 2) (M.pure [])))))) (retM (conM (.bl false))) nextM)
    (seqM (ifM (notM (tM t cf (callM cf 20 [] (M.cons (binM t cf .mul "__mul__" false (varM 8) (varM 9)) (M.cons (varM 4) (M.pure [])))))) (retM (conM (.bl false))) nextM)
    (seqM (ifM ((orM (notM (tM t cf (callM cf 20 [] (M.cons (binM t cf .fdiv "__floordiv__" false (varM 8) (varM 9)) (M.cons (varM 5) (M.pure [])))))) (notM (tM t cf (callM cf 20 [] (M.cons (callM cf 21 [] (M.cons (varM 8) (M.cons (varM 3) (M.pure [])))) (M.cons (varM 6) (M.pure [])))))))) (retM (conM (.bl false))) nextM)
    (seqM (ifM (notM (tM t cf (binM t cf .eq "__eq__" false (binM t cf .mul "__mul__" false (varM 8) (varM 9)) (binM t cf .mul "__mul__" false (varM 9) (varM 8))))) (retM (conM (.bl false))) nextM)
    (seqM (ifM (tM t cf (bin0 .ne (binM t cf .eq "__eq__" false (varM 8) (varM 9)) (binM t cf .eq "__eq__" false (callM cf 19 [] (M.cons (varM 1) (M.pure []))) (callM cf 19 [] (M.cons (varM 2) (M.pure [])))))) (retM (conM (.bl false))) nextM)
    (seqM (exprM (clearM (attrM t cf "powers" (varM 8))))
    (retM ((andV (callM cf 20 [] (M.cons (varM 8) (M.cons (varM 1) (M.pure [])))) (andV (callM cf 20 [] (M.cons (binM t cf .fdiv "__floordiv__" false (varM 8) (varM 8)) (M.cons (dic0M) (M.pure [])))) (binM t cf .eq "__eq__" false (binM t cf .mul "__mul__" false (binM t cf .fdiv "__floordiv__" false (varM 8) (varM 9)) (varM 9)) (varM 8))))))))))))))))))) from (s_cons (s_par3 c 1 2 3 (by decide) (by decide) (by decide) (e_call c 18 (by rfl) T.f__law_powers T.k__law_powers (tav_pa_cons (e_var c 0) tav_pa_nil rfl)) (e_call c 18 (by rfl) T.f__law_powers T.k__law_powers (tav_pa_cons (e_var c 0) tav_pa_nil rfl)) (e_call c 17 (by rfl) T.f__law_next T.k__law_next (tav_pa_cons (e_var c 0) (tav_pa_cons (e_int) tav_pa_nil rfl) rfl)))
    (s_cons (s_par3 c 4 5 6 (by decide) (by decide) (by decide) (e_ty (o_dict1 c.calm c.K) (by rfl) T.b_dict bt_dict (tav_pa_cons (e_var c 1) tav_pa_nil rfl)) (e_ty (o_dict1 c.calm c.K) (by rfl) T.b_dict bt_dict (tav_pa_cons (e_var c 1) tav_pa_nil rfl)) (e_dic0))
    (s_cons (s_for c (i_any c.K (e_var c 2)) (pg_name c.nd rfl (Or.inl rfl)) (s_cons (s_item c (e_bin0 o_add (e_get2 c (e_var c 4) (e_var c 7) (e_int) ⟨by rfl, by rfl, by rfl, by rfl⟩) (e_ix c (e_var c 2) (e_var c 7) (by intro _ _; rfl) (by intro _ _; rfl))) (e_var c 4) (e_var c 7))
    (s_one (s_item c (e_bin0 o_sub (e_get2 c (e_var c 5) (e_var c 7) (e_int) ⟨by rfl, by rfl, by rfl, by rfl⟩) (e_ix c (e_var c 2) (e_var c 7) (by intro _ _; rfl) (by intro _ _; rfl))) (e_var c 5) (e_var c 7)))))
    (s_cons (s_for c (i_any c.K (e_var c 1)) (pg_name c.nd rfl (Or.inl rfl)) (s_one (s_item c (e_bin c (d := "__mul__") o_mul own_mul (e_ix c (e_var c 1) (e_var c 7) (by intro _ _; rfl) (by intro _ _; rfl)) (e_var c 3)) (e_var c 6) (e_var c 7))))
    (s_cons (s_par2 c 8 9 (by decide) (e_new c 0 (by rfl) T.c_Unit T.k_Unit (tav_pa_cons (e_var c 1) tav_pa_nil rfl)) (e_new c 0 (by rfl) T.c_Unit T.k_Unit (tav_pa_cons (e_ty (o_dict1 c.calm c.K) (by rfl) T.b_dict bt_dict (tav_pa_cons (e_rev c.K (e_litems c (e_var c 2) (by rfl) T.b_list)) tav_pa_nil rfl)) tav_pa_nil rfl)))
    (s_cons (s_if (t_not (t_of c (e_call c 20 (by rfl) T.f__law_stands T.k__law_stands (tav_pa_cons (e_var c 8) (tav_pa_cons (e_var c 1) tav_pa_nil rfl) rfl)))) (s_one (s_ret (e_bl))) s_nil)
    (s_cons (s_if (t_not (t_of c (e_call c 20 (by rfl) T.f__law_stands T.k__law_stands (tav_pa_cons (e_var c 9) (tav_pa_cons (e_var c 2) tav_pa_nil rfl) rfl)))) (s_one (s_ret (e_bl))) s_nil)
    (s_cons (s_if (t_not (t_of c (e_call c 20 (by rfl) T.f__law_stands T.k__law_stands (tav_pa_cons (e_bin c (d := "__mul__") o_mul own_mul (e_var c 8) (e_var c 9)) (tav_pa_cons (e_var c 4) tav_pa_nil rfl) rfl)))) (s_one (s_ret (e_bl))) s_nil)
    (s_cons (s_if ((w_or (t_not (t_of c (e_call c 20 (by rfl) T.f__law_stands T.k__law_stands (tav_pa_cons (e_bin c (d := "__floordiv__") o_fdiv own_fdiv (e_var c 8) (e_var c 9)) (tav_pa_cons (e_var c 5) tav_pa_nil rfl) rfl)))) (pw_or1 (t_not (t_of c (e_call c 20 (by rfl) T.f__law_stands T.k__law_stands (tav_pa_cons (e_call c 21 (by rfl) T.f__law_power T.k__law_power (tav_pa_cons (e_var c 8) (tav_pa_cons (e_var c 3) tav_pa_nil rfl) rfl)) (tav_pa_cons (e_var c 6) tav_pa_nil rfl) rfl)))))).pt) (s_one (s_ret (e_bl))) s_nil)
    (s_cons (s_if (t_not (t_cmp c (d := "__eq__") (o_eqne c.K c.hu64).1 (own_eq (by have := c.hu; omega)) (e_bin c (d := "__mul__") o_mul own_mul (e_var c 8) (e_var c 9)) (e_bin c (d := "__mul__") o_mul own_mul (e_var c 9) (e_var c 8)) (nomark _))) (s_one (s_ret (e_bl))) s_nil)
    (s_cons (s_if (t_cmp0 c (o_eqne c.K c.hu64).2 (e_cmp c (d := "__eq__") (o_eqne c.K c.hu64).1 (own_eq (by have := c.hu; omega)) (e_var c 8) (e_var c 9) (nomark _)) (e_cmp c (d := "__eq__") (o_eqne c.K c.hu64).1 (own_eq (by have := c.hu; omega)) (e_call c 19 (by rfl) T.f__law_plain T.k__law_plain (tav_pa_cons (e_var c 1) tav_pa_nil rfl)) (e_call c 19 (by rfl) T.f__law_plain T.k__law_plain (tav_pa_cons (e_var c 2) tav_pa_nil rfl)) (nomark _)) (nomark _)) (s_one (s_ret (e_bl))) s_nil)
    (s_cons (s_expr (e_clear (e_attr c (e_var c 8))))
    (s_one (s_ret ((e_and (e_call c 20 (by rfl) T.f__law_stands T.k__law_stands (tav_pa_cons (e_var c 8) (tav_pa_cons (e_var c 1) tav_pa_nil rfl) rfl)) (e_and (e_call c 20 (by rfl) T.f__law_stands T.k__law_stands (tav_pa_cons (e_bin c (d := "__floordiv__") o_fdiv own_fdiv (e_var c 8) (e_var c 8)) (tav_pa_cons (e_dic0) tav_pa_nil rfl) rfl)) (pe_one (e_cmp c (d := "__eq__") (o_eqne c.K c.hu64).1 (own_eq (by have := c.hu; omega)) (e_bin c (d := "__mul__") o_mul own_mul (e_bin c (d := "__floordiv__") o_fdiv own_fdiv (e_var c 8) (e_var c 9)) (e_var c 9)) (e_var c 8) (nomark _))))))))))))))))))))
theorem sc23 : FnScope ["script", "by"] ["script"] (defScope st23) := ⟨rfl, rfl, rfl, by decide +kernel, rfl, by decide +kernel, by decide +kernel⟩
theorem b23 (T : Txt g t mg) {cdv : Value} {A : Around} {outer : List Env} {s : Shared} {H : Hp} {E : XK} (c : Cc g t cf (cxOf (L2.CX P w) P w g.K mg base ["script", "by"] "law" (defScope st23) (t.adr 23) cdv A outer s H E) W j) :
    PSs (cxOf (L2.CX P w) P w g.K mg base ["script", "by"] "law" (defScope st23) (t.adr 23) cdv A outer s H E) (defBody st23) (TSv g W (bd23 t cf)) :=
  show PSs _ (defBody st23) (TSv g W (seqM (forM (rangeM (M.cons (conM (.int 0)) (M.cons (opM (opP .max2) (M.cons (conM (.int 1)) (M.cons (opM (opP .min2) (M.cons (conM (.int 24)) (M.cons (opM (opP .len) (M.cons (varM 0) (M.pure []))) (M.pure [])))) (M.pure [])))) (M.cons (conM (.int 2)) (M.pure []))))) (.var 1) (ifM (notM (tM t cf (callM cf 22 [] (M.cons (dispM (fun xs => .mk (.lst xs)) (M.cons (varM 0) (M.cons (varM 1) (M.cons (conM (.int 0)) (M.pure []))))) (M.pure []))))) (retM (conM (.bl false))) nextM))
    (retM (conM (.bl true))))) from (s_cons (s_for c (i_range3 (by rfl) T.b_range (e_int) (e_fn (o_max2 c.calm) (by rfl) T.b_max bt_max (tav_pa_cons (e_int) (tav_pa_cons (e_fn (o_min2 c.calm) (by rfl) T.b_min bt_min (tav_pa_cons (e_int) (tav_pa_cons (e_fn (o_len c.K) (by rfl) T.b_len bt_len (tav_pa_cons (e_var c 0) tav_pa_nil rfl)) tav_pa_nil rfl) rfl)) tav_pa_nil rfl) rfl)) (e_int)) (pg_name c.nd rfl (Or.inl rfl)) (s_one (s_if (t_not (t_of c (e_call c 22 (by rfl) T.f__law_one_right T.k__law_one_right (tav_pa_cons (e_lst (tav_pa_cons (e_var c 0) (tav_pa_cons (e_var c 1) (tav_pa_cons (e_int) tav_pa_nil rfl) rfl) rfl)) tav_pa_nil rfl)))) (s_one (s_ret (e_bl))) s_nil)))
    (s_one (s_ret (e_bl))))
end
end Pi

/-! The head: what the text's top has written, and the law's own call. -/
namespace Pi
open PySem PySem.Spec L2 PyProof.Rows
def pick {A : Type} : List A → A → Nat → A
  | [], d, _ => d
  | x :: _, _, 0 => x
  | _ :: xs, d, n + 1 => pick xs d n

def att0 : List (Str × At) := [("_powers", .fld), ("powers", .prop 3), ("__eq__", .meth 4), ("__mul__", .meth 5), ("__floordiv__", .meth 6), ("__pow__", .meth 7), ("to_power", .meth 8), ("__bool__", .meth 9), ("__contains__", .meth 10), ("__getitem__", .meth 11)]
def attF (c : Nat) (f : Str) : Option At := if c = 0 then att0.lookup f else none
def initF (c : Nat) : Option Nat := if c = 0 then some 2 else none
@[reducible] def gOf (K : PySem.W.Frag) (C : Addr) : Gm := ⟨K, fun _ => C, fun _ => C⟩
def psL : List (List Str) := [["thing"], ["thing"], ["self", "powers"], ["self"], ["self", "other"], ["self", "other"], ["self", "other"], ["self", "other"], ["self", "number"], ["self"], ["self", "x"], ["self", "at"], ["thing"], ["powers", "others", "times"], ["script", "k"], ["cell", "k", "below"], ["cell", "k", "below"], ["state", "below"], ["state"], ["powers"], ["unit", "powers"], ["unit", "number"], ["state"], ["script"]]
@[reducible] def tOf (ad : Nat → Addr) (fds : Nat → FuncData) : Gf := ⟨ad, fds, pick psL (pick psL [] 0), attF, initF⟩
def dsF (t : Gf) : Nat → Df := pick [⟨1, 1, bd0 t⟩, ⟨1, 1, bd1 t⟩, ⟨3, 2, bd2 t⟩, ⟨1, 1, bd3 t⟩, ⟨2, 2, bd4 t⟩, ⟨2, 2, bd5 t⟩, ⟨2, 2, bd6 t⟩, ⟨2, 2, bd7 t⟩, ⟨3, 2, bd8 t⟩, ⟨1, 1, bd9 t⟩, ⟨2, 2, bd10 t⟩, ⟨2, 2, bd11 t⟩, ⟨3, 1, bd12 t⟩, ⟨5, 3, bd13 t⟩, ⟨2, 2, bd14 t⟩, ⟨4, 3, bd15 t⟩, ⟨7, 3, bd16 t⟩, ⟨4, 2, bd17 t⟩, ⟨3, 1, bd18 t⟩, ⟨2, 1, bd19 t⟩, ⟨4, 2, bd20 t⟩, ⟨2, 2, bd21 t⟩, ⟨10, 1, bd22 t⟩, ⟨2, 1, bd23 t⟩] ⟨0, 0, fun _ => neverM⟩
/-- the law's call: a list of at most 63 ints, True -/
def spLaw (K : PySem.W.Frag) : Sp := fun vs H Q _ => ∃ (a : Addr) (ns : List Int), vs = [.ref a] ∧ SqL K H a (ns.map V.int) ∧ ns.length ≤ 63 ∧ ∀ H', Q (.bl true) H'
theorem ints_rep {g : Gm} {F : Hp} : ∀ ns : List Int, Reps g.K g.cl F (ns.map P.int) (ns.map V.int)
  | [] => .nil
  | n :: ns => .cons (.int n) (ints_rep ns)
theorem law_sp {g : Gm} {cf : CF} {k : Nat} (h : ∀ ns : List Int, ns.length ≤ 63 → ∃ e, cf k [.val (.lst (ns.map .int)) false] = .ok (.val (.bl true)) e) {vs : List V} {H : Hp} {Q : VK} {E : XK} (q : spLaw g.K vs H Q E) : spF g cf k vs H Q E := by
  obtain ⟨a, ns, rfl, hs, hl, go⟩ := q
  obtain ⟨e, he⟩ := h ns hl
  have fin : ∀ F : Hp, (∀ b o, F b = some o → Has H b o) → gRep g F (.lst (ns.map .int)) (.ref a) → spF g cf k [.ref a] H Q E := fun F hF r => by
    refine ⟨F, fun _ => none, [.val (.lst (ns.map .int)) false], ⟨hF, fun p c z => (by cases z), rfl, fun i s hi => ?_, fun i j c c' f f' p hi _ _ _ => ?_⟩, ?_⟩
    · cases i with
      | zero => simp at hi; subst hi; exact ⟨_, rfl, r⟩
      | succ i => simp at hi
    · cases i with
      | zero => simp at hi
      | succ i => simp at hi
    · rw [he]
      intro v F' ow' H' p rr _
      cases (show gRep g F' (.bl true) v from rr)
      exact go H'
  rcases hs with hs | hs
  · refine fin (fun b => if b = a then some (.lst (ns.map V.int)) else none) (fun b o hb => ?_) (.lst (.inl (if_pos rfl)) (ints_rep ns))
    by_cases z : b = a
    · subst z
      have hb : (if b = b then some (HO.lst (ns.map V.int)) else none) = some o := hb
      rw [if_pos rfl] at hb; cases hb
      exact hs
    · have hb : (if b = a then some (HO.lst (ns.map V.int)) else none) = some o := hb
      rw [if_neg z] at hb; cases hb
  · exact fin (fun _ => none) (fun b o hb => by cases hb) (.lst (.inr (.inr hs)) (ints_rep ns))

section
variable {P : Program} {w : World} {mg : Str → Option Value} {base : Heap} {g : Gm} {t : Gf}
theorem all_fn (T : Txt g t mg) (sg : GSt g t)
    (F0 : Fun g.K "is_name" "is_name" st0 (t.adr 0) (t.fd 0)) (p0 : t.ps 0 = (["thing"] : List Str))
    (F1 : Fun g.K "is_whole" "is_whole" st1 (t.adr 1) (t.fd 1)) (p1 : t.ps 1 = (["thing"] : List Str))
    (F2 : Fun g.K "__init__" "Unit.__init__" st2 (t.adr 2) (t.fd 2)) (p2 : t.ps 2 = (["self", "powers"] : List Str))
    (F3 : Fun g.K "powers" "Unit.powers" st3 (t.adr 3) (t.fd 3)) (p3 : t.ps 3 = (["self"] : List Str))
    (F4 : Fun g.K "__eq__" "Unit.__eq__" st4 (t.adr 4) (t.fd 4)) (p4 : t.ps 4 = (["self", "other"] : List Str))
    (F5 : Fun g.K "__mul__" "Unit.__mul__" st5 (t.adr 5) (t.fd 5)) (p5 : t.ps 5 = (["self", "other"] : List Str))
    (F6 : Fun g.K "__floordiv__" "Unit.__floordiv__" st6 (t.adr 6) (t.fd 6)) (p6 : t.ps 6 = (["self", "other"] : List Str))
    (F7 : Fun g.K "__pow__" "Unit.__pow__" st7 (t.adr 7) (t.fd 7)) (p7 : t.ps 7 = (["self", "other"] : List Str))
    (F8 : Fun g.K "to_power" "Unit.to_power" st8 (t.adr 8) (t.fd 8)) (p8 : t.ps 8 = (["self", "number"] : List Str))
    (F9 : Fun g.K "__bool__" "Unit.__bool__" st9 (t.adr 9) (t.fd 9)) (p9 : t.ps 9 = (["self"] : List Str))
    (F10 : Fun g.K "__contains__" "Unit.__contains__" st10 (t.adr 10) (t.fd 10)) (p10 : t.ps 10 = (["self", "x"] : List Str))
    (F11 : Fun g.K "__getitem__" "Unit.__getitem__" st11 (t.adr 11) (t.fd 11)) (p11 : t.ps 11 = (["self", "at"] : List Str))
    (F12 : Fun g.K "is_powers" "is_powers" st12 (t.adr 12) (t.fd 12)) (p12 : t.ps 12 = (["thing"] : List Str))
    (F13 : Fun g.K "added" "added" st13 (t.adr 13) (t.fd 13)) (p13 : t.ps 13 = (["powers", "others", "times"] : List Str))
    (F14 : Fun g.K "_law_cell_at" "_law_cell_at" st14 (t.adr 14) (t.fd 14)) (p14 : t.ps 14 = (["script", "k"] : List Str))
    (F15 : Fun g.K "_law_draw" "_law_draw" st15 (t.adr 15) (t.fd 15)) (p15 : t.ps 15 = (["cell", "k", "below"] : List Str))
    (F16 : Fun g.K "_law_number" "_law_number" st16 (t.adr 16) (t.fd 16)) (p16 : t.ps 16 = (["cell", "k", "below"] : List Str))
    (F17 : Fun g.K "_law_next" "_law_next" st17 (t.adr 17) (t.fd 17)) (p17 : t.ps 17 = (["state", "below"] : List Str))
    (F18 : Fun g.K "_law_powers" "_law_powers" st18 (t.adr 18) (t.fd 18)) (p18 : t.ps 18 = (["state"] : List Str))
    (F19 : Fun g.K "_law_plain" "_law_plain" st19 (t.adr 19) (t.fd 19)) (p19 : t.ps 19 = (["powers"] : List Str))
    (F20 : Fun g.K "_law_stands" "_law_stands" st20 (t.adr 20) (t.fd 20)) (p20 : t.ps 20 = (["unit", "powers"] : List Str))
    (F21 : Fun g.K "_law_power" "_law_power" st21 (t.adr 21) (t.fd 21)) (p21 : t.ps 21 = (["unit", "number"] : List Str))
    (F22 : Fun g.K "_law_one_right" "_law_one_right" st22 (t.adr 22) (t.fd 22)) (p22 : t.ps 22 = (["state"] : List Str))
    (F23 : Fun g.K "law" "law" st23 (t.adr 23) (t.fd 23)) (p23 : t.ps 23 = (["script"] : List Str))
    : ∀ n k, FnOk P w g.K mg base (L2.CX P w) (4 * n) (t.adr k) (t.fd k) (t.ps k) (spF g (runF (dsF t) n) k) := by
  intro n
  induction n with
  | zero => exact fun k => fn_bad fun ss => rfl
  | succ n ih =>
    intro k
    match k with
    | 0 => rw [p0]; exact fn_def (ds := dsF t) (m := n) (k := 0) rfl rfl F0 sc0 sg ih fun cdv A outer s H E c => b0 T c
    | 1 => rw [p1]; exact fn_def (ds := dsF t) (m := n) (k := 1) rfl rfl F1 sc1 sg ih fun cdv A outer s H E c => b1 T c
    | 2 => rw [p2]; exact fn_def (ds := dsF t) (m := n) (k := 2) rfl rfl F2 sc2 sg ih fun cdv A outer s H E c => b2 T c
    | 3 => rw [p3]; exact fn_def (ds := dsF t) (m := n) (k := 3) rfl rfl F3 sc3 sg ih fun cdv A outer s H E c => b3 T c
    | 4 => rw [p4]; exact fn_def (ds := dsF t) (m := n) (k := 4) rfl rfl F4 sc4 sg ih fun cdv A outer s H E c => b4 T c
    | 5 => rw [p5]; exact fn_def (ds := dsF t) (m := n) (k := 5) rfl rfl F5 sc5 sg ih fun cdv A outer s H E c => b5 T c
    | 6 => rw [p6]; exact fn_def (ds := dsF t) (m := n) (k := 6) rfl rfl F6 sc6 sg ih fun cdv A outer s H E c => b6 T c
    | 7 => rw [p7]; exact fn_def (ds := dsF t) (m := n) (k := 7) rfl rfl F7 sc7 sg ih fun cdv A outer s H E c => b7 T c
    | 8 => rw [p8]; exact fn_def (ds := dsF t) (m := n) (k := 8) rfl rfl F8 sc8 sg ih fun cdv A outer s H E c => b8 T c
    | 9 => rw [p9]; exact fn_def (ds := dsF t) (m := n) (k := 9) rfl rfl F9 sc9 sg ih fun cdv A outer s H E c => b9 T c
    | 10 => rw [p10]; exact fn_def (ds := dsF t) (m := n) (k := 10) rfl rfl F10 sc10 sg ih fun cdv A outer s H E c => b10 T c
    | 11 => rw [p11]; exact fn_def (ds := dsF t) (m := n) (k := 11) rfl rfl F11 sc11 sg ih fun cdv A outer s H E c => b11 T c
    | 12 => rw [p12]; exact fn_def (ds := dsF t) (m := n) (k := 12) rfl rfl F12 sc12 sg ih fun cdv A outer s H E c => b12 T c
    | 13 => rw [p13]; exact fn_def (ds := dsF t) (m := n) (k := 13) rfl rfl F13 sc13 sg ih fun cdv A outer s H E c => b13 T c
    | 14 => rw [p14]; exact fn_def (ds := dsF t) (m := n) (k := 14) rfl rfl F14 sc14 sg ih fun cdv A outer s H E c => b14 T c
    | 15 => rw [p15]; exact fn_def (ds := dsF t) (m := n) (k := 15) rfl rfl F15 sc15 sg ih fun cdv A outer s H E c => b15 T c
    | 16 => rw [p16]; exact fn_def (ds := dsF t) (m := n) (k := 16) rfl rfl F16 sc16 sg ih fun cdv A outer s H E c => b16 T c
    | 17 => rw [p17]; exact fn_def (ds := dsF t) (m := n) (k := 17) rfl rfl F17 sc17 sg ih fun cdv A outer s H E c => b17 T c
    | 18 => rw [p18]; exact fn_def (ds := dsF t) (m := n) (k := 18) rfl rfl F18 sc18 sg ih fun cdv A outer s H E c => b18 T c
    | 19 => rw [p19]; exact fn_def (ds := dsF t) (m := n) (k := 19) rfl rfl F19 sc19 sg ih fun cdv A outer s H E c => b19 T c
    | 20 => rw [p20]; exact fn_def (ds := dsF t) (m := n) (k := 20) rfl rfl F20 sc20 sg ih fun cdv A outer s H E c => b20 T c
    | 21 => rw [p21]; exact fn_def (ds := dsF t) (m := n) (k := 21) rfl rfl F21 sc21 sg ih fun cdv A outer s H E c => b21 T c
    | 22 => rw [p22]; exact fn_def (ds := dsF t) (m := n) (k := 22) rfl rfl F22 sc22 sg ih fun cdv A outer s H E c => b22 T c
    | 23 => rw [p23]; exact fn_def (ds := dsF t) (m := n) (k := 23) rfl rfl F23 sc23 sg ih fun cdv A outer s H E c => b23 T c
    | k + 24 =>
      refine fn_bad fun ss => ?_
      unfold runF
      split
      · rfl
      · rfl
end
section
theorem all_mk {l : PySem.W.OpenLaw} {w : World} {K : PySem.W.Frag} {h : Heap} {mg : Str → Option Value} {fa C pp f0 f1 f2 f3 f4 f5 f6 f7 f8 f9 f10 f11 f12 f13 f14 f15 f16 f17 f18 f19 f20 f21 f22 f23 : Addr} (X : K.In h) (G : h.Ns mainGlobals mg) (hfa : mg "law" = some (.ref fa))
    {od0 an0 od1 an1 od2 an2 od3 an3 od4 an4 od5 an5 od6 an6 od7 an7 od8 an8 od9 an9 od10 an10 od11 an11 od12 an12 od13 an13 od14 an14 od15 an15 od16 an16 od17 an17 od18 an18 od19 an19 od20 an20 od21 an21 od22 an22 od23 an23 : Option Addr} {sl0 sl1 sl2 sl3 sl4 sl5 sl6 sl7 sl8 sl9 sl10 sl11 sl12 sl13 sl14 sl15 sl16 sl17 sl18 sl19 sl20 sl21 sl22 sl23 : Array (Option Value)} {oc0 kV0 dc0 pm0 cd0 ct0 oc1 kV1 dc1 pm1 cd1 ct1 oc2 kV2 dc2 pm2 cd2 ct2 oc3 kV3 dc3 pm3 cd3 ct3 oc4 kV4 dc4 pm4 cd4 ct4 oc5 kV5 dc5 pm5 cd5 ct5 oc6 kV6 dc6 pm6 cd6 ct6 oc7 kV7 dc7 pm7 cd7 ct7 oc8 kV8 dc8 pm8 cd8 ct8 oc9 kV9 dc9 pm9 cd9 ct9 oc10 kV10 dc10 pm10 cd10 ct10 oc11 kV11 dc11 pm11 cd11 ct11 oc12 kV12 dc12 pm12 cd12 ct12 oc13 kV13 dc13 pm13 cd13 ct13 oc14 kV14 dc14 pm14 cd14 ct14 oc15 kV15 dc15 pm15 cd15 ct15 oc16 kV16 dc16 pm16 cd16 ct16 oc17 kV17 dc17 pm17 cd17 ct17 oc18 kV18 dc18 pm18 cd18 ct18 oc19 kV19 dc19 pm19 cd19 ct19 oc20 kV20 dc20 pm20 cd20 ct20 oc21 kV21 dc21 pm21 cd21 ct21 oc22 kV22 dc22 pm22 cd22 ct22 oc23 kV23 dc23 pm23 cd23 ct23 : Value} {rest : List Value}
    (aC : PySem.W.nsIn K mainGlobals "Unit" = some (some (.ref C)))
    (a0 : PySem.W.nsIn K mainGlobals "is_name" = some (some (.ref f0)))
    (l0 : K.lookup f0 = some ⟨oc0, od0, .func (PySem.W.fnOf "is_name" "is_name" (defArgs st0) (defBody st0) (defScope st0) .none kV0 dc0 pm0 an0 cd0 ct0), sl0⟩)
    (c0 : PySem.W.codeIn K cd0 "is_name" = true)
    (k0 : PySem.W.keepIn K (.ref f0) = true)
    (a1 : PySem.W.nsIn K mainGlobals "is_whole" = some (some (.ref f1)))
    (l1 : K.lookup f1 = some ⟨oc1, od1, .func (PySem.W.fnOf "is_whole" "is_whole" (defArgs st1) (defBody st1) (defScope st1) .none kV1 dc1 pm1 an1 cd1 ct1), sl1⟩)
    (c1 : PySem.W.codeIn K cd1 "is_whole" = true)
    (k1 : PySem.W.keepIn K (.ref f1) = true)
    (a2 : PySem.W.findIn K (.ref C) "__init__" = some (some (.ref f2)))
    (i2 : PySem.W.isFn K (.ref f2) = true)
    (n2 : PySem.W.fnIn K f2 = true)
    (l2 : K.lookup f2 = some ⟨oc2, od2, .func (PySem.W.fnOf "__init__" "Unit.__init__" (defArgs st2) (defBody st2) (defScope st2) .none kV2 dc2 pm2 an2 cd2 ct2), sl2⟩)
    (c2 : PySem.W.codeIn K cd2 "Unit.__init__" = true)
    (k2 : PySem.W.keepIn K (.ref f2) = true)
    (a3 : PySem.W.findIn K (.ref C) "powers" = some (some (.ref pp)))
    (pg3 : PySem.W.specialIn K (.ref pp) "__get__" = some (some (.builtin "property.__get__")))
    (pt3 : PySem.W.takesIn K (.ref pp) = some true)
    (pr3 : PySem.W.recIn K pp "property" = some (.ref f3 :: rest))
    (l3 : K.lookup f3 = some ⟨oc3, od3, .func (PySem.W.fnOf "powers" "Unit.powers" (defArgs st3) (defBody st3) (defScope st3) .none kV3 dc3 pm3 an3 cd3 ct3), sl3⟩)
    (c3 : PySem.W.codeIn K cd3 "Unit.powers" = true)
    (k3 : PySem.W.keepIn K (.ref f3) = true)
    (a4 : PySem.W.findIn K (.ref C) "__eq__" = some (some (.ref f4)))
    (i4 : PySem.W.isFn K (.ref f4) = true)
    (n4 : PySem.W.fnIn K f4 = true)
    (l4 : K.lookup f4 = some ⟨oc4, od4, .func (PySem.W.fnOf "__eq__" "Unit.__eq__" (defArgs st4) (defBody st4) (defScope st4) .none kV4 dc4 pm4 an4 cd4 ct4), sl4⟩)
    (c4 : PySem.W.codeIn K cd4 "Unit.__eq__" = true)
    (k4 : PySem.W.keepIn K (.ref f4) = true)
    (a5 : PySem.W.findIn K (.ref C) "__mul__" = some (some (.ref f5)))
    (i5 : PySem.W.isFn K (.ref f5) = true)
    (n5 : PySem.W.fnIn K f5 = true)
    (l5 : K.lookup f5 = some ⟨oc5, od5, .func (PySem.W.fnOf "__mul__" "Unit.__mul__" (defArgs st5) (defBody st5) (defScope st5) .none kV5 dc5 pm5 an5 cd5 ct5), sl5⟩)
    (c5 : PySem.W.codeIn K cd5 "Unit.__mul__" = true)
    (k5 : PySem.W.keepIn K (.ref f5) = true)
    (a6 : PySem.W.findIn K (.ref C) "__floordiv__" = some (some (.ref f6)))
    (i6 : PySem.W.isFn K (.ref f6) = true)
    (n6 : PySem.W.fnIn K f6 = true)
    (l6 : K.lookup f6 = some ⟨oc6, od6, .func (PySem.W.fnOf "__floordiv__" "Unit.__floordiv__" (defArgs st6) (defBody st6) (defScope st6) .none kV6 dc6 pm6 an6 cd6 ct6), sl6⟩)
    (c6 : PySem.W.codeIn K cd6 "Unit.__floordiv__" = true)
    (k6 : PySem.W.keepIn K (.ref f6) = true)
    (a7 : PySem.W.findIn K (.ref C) "__pow__" = some (some (.ref f7)))
    (i7 : PySem.W.isFn K (.ref f7) = true)
    (n7 : PySem.W.fnIn K f7 = true)
    (l7 : K.lookup f7 = some ⟨oc7, od7, .func (PySem.W.fnOf "__pow__" "Unit.__pow__" (defArgs st7) (defBody st7) (defScope st7) .none kV7 dc7 pm7 an7 cd7 ct7), sl7⟩)
    (c7 : PySem.W.codeIn K cd7 "Unit.__pow__" = true)
    (k7 : PySem.W.keepIn K (.ref f7) = true)
    (a8 : PySem.W.findIn K (.ref C) "to_power" = some (some (.ref f8)))
    (i8 : PySem.W.isFn K (.ref f8) = true)
    (n8 : PySem.W.fnIn K f8 = true)
    (l8 : K.lookup f8 = some ⟨oc8, od8, .func (PySem.W.fnOf "to_power" "Unit.to_power" (defArgs st8) (defBody st8) (defScope st8) .none kV8 dc8 pm8 an8 cd8 ct8), sl8⟩)
    (c8 : PySem.W.codeIn K cd8 "Unit.to_power" = true)
    (k8 : PySem.W.keepIn K (.ref f8) = true)
    (a9 : PySem.W.findIn K (.ref C) "__bool__" = some (some (.ref f9)))
    (i9 : PySem.W.isFn K (.ref f9) = true)
    (n9 : PySem.W.fnIn K f9 = true)
    (l9 : K.lookup f9 = some ⟨oc9, od9, .func (PySem.W.fnOf "__bool__" "Unit.__bool__" (defArgs st9) (defBody st9) (defScope st9) .none kV9 dc9 pm9 an9 cd9 ct9), sl9⟩)
    (c9 : PySem.W.codeIn K cd9 "Unit.__bool__" = true)
    (k9 : PySem.W.keepIn K (.ref f9) = true)
    (a10 : PySem.W.findIn K (.ref C) "__contains__" = some (some (.ref f10)))
    (i10 : PySem.W.isFn K (.ref f10) = true)
    (n10 : PySem.W.fnIn K f10 = true)
    (l10 : K.lookup f10 = some ⟨oc10, od10, .func (PySem.W.fnOf "__contains__" "Unit.__contains__" (defArgs st10) (defBody st10) (defScope st10) .none kV10 dc10 pm10 an10 cd10 ct10), sl10⟩)
    (c10 : PySem.W.codeIn K cd10 "Unit.__contains__" = true)
    (k10 : PySem.W.keepIn K (.ref f10) = true)
    (a11 : PySem.W.findIn K (.ref C) "__getitem__" = some (some (.ref f11)))
    (i11 : PySem.W.isFn K (.ref f11) = true)
    (n11 : PySem.W.fnIn K f11 = true)
    (l11 : K.lookup f11 = some ⟨oc11, od11, .func (PySem.W.fnOf "__getitem__" "Unit.__getitem__" (defArgs st11) (defBody st11) (defScope st11) .none kV11 dc11 pm11 an11 cd11 ct11), sl11⟩)
    (c11 : PySem.W.codeIn K cd11 "Unit.__getitem__" = true)
    (k11 : PySem.W.keepIn K (.ref f11) = true)
    (a12 : PySem.W.nsIn K mainGlobals "is_powers" = some (some (.ref f12)))
    (l12 : K.lookup f12 = some ⟨oc12, od12, .func (PySem.W.fnOf "is_powers" "is_powers" (defArgs st12) (defBody st12) (defScope st12) .none kV12 dc12 pm12 an12 cd12 ct12), sl12⟩)
    (c12 : PySem.W.codeIn K cd12 "is_powers" = true)
    (k12 : PySem.W.keepIn K (.ref f12) = true)
    (a13 : PySem.W.nsIn K mainGlobals "added" = some (some (.ref f13)))
    (l13 : K.lookup f13 = some ⟨oc13, od13, .func (PySem.W.fnOf "added" "added" (defArgs st13) (defBody st13) (defScope st13) .none kV13 dc13 pm13 an13 cd13 ct13), sl13⟩)
    (c13 : PySem.W.codeIn K cd13 "added" = true)
    (k13 : PySem.W.keepIn K (.ref f13) = true)
    (a14 : PySem.W.nsIn K mainGlobals "_law_cell_at" = some (some (.ref f14)))
    (l14 : K.lookup f14 = some ⟨oc14, od14, .func (PySem.W.fnOf "_law_cell_at" "_law_cell_at" (defArgs st14) (defBody st14) (defScope st14) .none kV14 dc14 pm14 an14 cd14 ct14), sl14⟩)
    (c14 : PySem.W.codeIn K cd14 "_law_cell_at" = true)
    (k14 : PySem.W.keepIn K (.ref f14) = true)
    (a15 : PySem.W.nsIn K mainGlobals "_law_draw" = some (some (.ref f15)))
    (l15 : K.lookup f15 = some ⟨oc15, od15, .func (PySem.W.fnOf "_law_draw" "_law_draw" (defArgs st15) (defBody st15) (defScope st15) .none kV15 dc15 pm15 an15 cd15 ct15), sl15⟩)
    (c15 : PySem.W.codeIn K cd15 "_law_draw" = true)
    (k15 : PySem.W.keepIn K (.ref f15) = true)
    (a16 : PySem.W.nsIn K mainGlobals "_law_number" = some (some (.ref f16)))
    (l16 : K.lookup f16 = some ⟨oc16, od16, .func (PySem.W.fnOf "_law_number" "_law_number" (defArgs st16) (defBody st16) (defScope st16) .none kV16 dc16 pm16 an16 cd16 ct16), sl16⟩)
    (c16 : PySem.W.codeIn K cd16 "_law_number" = true)
    (k16 : PySem.W.keepIn K (.ref f16) = true)
    (a17 : PySem.W.nsIn K mainGlobals "_law_next" = some (some (.ref f17)))
    (l17 : K.lookup f17 = some ⟨oc17, od17, .func (PySem.W.fnOf "_law_next" "_law_next" (defArgs st17) (defBody st17) (defScope st17) .none kV17 dc17 pm17 an17 cd17 ct17), sl17⟩)
    (c17 : PySem.W.codeIn K cd17 "_law_next" = true)
    (k17 : PySem.W.keepIn K (.ref f17) = true)
    (a18 : PySem.W.nsIn K mainGlobals "_law_powers" = some (some (.ref f18)))
    (l18 : K.lookup f18 = some ⟨oc18, od18, .func (PySem.W.fnOf "_law_powers" "_law_powers" (defArgs st18) (defBody st18) (defScope st18) .none kV18 dc18 pm18 an18 cd18 ct18), sl18⟩)
    (c18 : PySem.W.codeIn K cd18 "_law_powers" = true)
    (k18 : PySem.W.keepIn K (.ref f18) = true)
    (a19 : PySem.W.nsIn K mainGlobals "_law_plain" = some (some (.ref f19)))
    (l19 : K.lookup f19 = some ⟨oc19, od19, .func (PySem.W.fnOf "_law_plain" "_law_plain" (defArgs st19) (defBody st19) (defScope st19) .none kV19 dc19 pm19 an19 cd19 ct19), sl19⟩)
    (c19 : PySem.W.codeIn K cd19 "_law_plain" = true)
    (k19 : PySem.W.keepIn K (.ref f19) = true)
    (a20 : PySem.W.nsIn K mainGlobals "_law_stands" = some (some (.ref f20)))
    (l20 : K.lookup f20 = some ⟨oc20, od20, .func (PySem.W.fnOf "_law_stands" "_law_stands" (defArgs st20) (defBody st20) (defScope st20) .none kV20 dc20 pm20 an20 cd20 ct20), sl20⟩)
    (c20 : PySem.W.codeIn K cd20 "_law_stands" = true)
    (k20 : PySem.W.keepIn K (.ref f20) = true)
    (a21 : PySem.W.nsIn K mainGlobals "_law_power" = some (some (.ref f21)))
    (l21 : K.lookup f21 = some ⟨oc21, od21, .func (PySem.W.fnOf "_law_power" "_law_power" (defArgs st21) (defBody st21) (defScope st21) .none kV21 dc21 pm21 an21 cd21 ct21), sl21⟩)
    (c21 : PySem.W.codeIn K cd21 "_law_power" = true)
    (k21 : PySem.W.keepIn K (.ref f21) = true)
    (a22 : PySem.W.nsIn K mainGlobals "_law_one_right" = some (some (.ref f22)))
    (l22 : K.lookup f22 = some ⟨oc22, od22, .func (PySem.W.fnOf "_law_one_right" "_law_one_right" (defArgs st22) (defBody st22) (defScope st22) .none kV22 dc22 pm22 an22 cd22 ct22), sl22⟩)
    (c22 : PySem.W.codeIn K cd22 "_law_one_right" = true)
    (k22 : PySem.W.keepIn K (.ref f22) = true)
    (a23 : PySem.W.nsIn K mainGlobals "law" = some (some (.ref f23)))
    (l23 : K.lookup f23 = some ⟨oc23, od23, .func (PySem.W.fnOf "law" "law" (defArgs st23) (defBody st23) (defScope st23) .none kV23 dc23 pm23 an23 cd23 ct23), sl23⟩)
    (c23 : PySem.W.codeIn K cd23 "law" = true)
    (k23 : PySem.W.keepIn K (.ref f23) = true)
    (pg : PySem.W.plainGet K C Str.empty = true)
    (hd : PySem.W.hasDictIn K C = true)
    (po : PySem.W.plainOver K C = true)
    (sa : PySem.W.findIn K (.ref C) "__setattr__" = some (some (.builtin "object.__setattr__")))
    (mk : PySem.W.makesIn K C = true)
    (kc : PySem.W.keepIn K (.ref C) = true)
    (sf : PySem.W.selfFirst K C = true)
    (no_powers : PySem.W.findIn K (.ref C) "_powers" = some none)
    (q1 : PySem.W.findIn K (.ref C) "__class__" = some (some (.builtin "object.__class__")))
    (q2 : PySem.W.specialIn K (.builtin "object.__class__") "__get__" = some (some (.builtin "getset_descriptor.__get__")))
    (q3 : PySem.W.takesIn K (.builtin "object.__class__") = some true)
    (q4 : PySem.W.mroIn K C (.type "object") = some true)
    (q5 : PySem.W.kitOne K (.ref C) (.ref C) = some true)
    (yNoneType : PySem.W.kitOne K (.type "NoneType") (.ref C) = some false)
    (ybool : PySem.W.kitOne K (.type "bool") (.ref C) = some false)
    (yint : PySem.W.kitOne K (.type "int") (.ref C) = some false)
    (ystr : PySem.W.kitOne K (.type "str") (.ref C) = some false)
    (ylist : PySem.W.kitOne K (.type "list") (.ref C) = some false)
    (ytuple : PySem.W.kitOne K (.type "tuple") (.ref C) = some false)
    (ydict : PySem.W.kitOne K (.type "dict") (.ref C) = some false)
    {pfo pro sfo sro : Option Value}
    (pw1 : PySem.W.findIn K (.ref C) (dunderR Operator.Pow.info.2) = some none)
    (pw2 : PySem.W.findIn K (.type "int") (PySem.dunder Operator.Pow.info.2) = some pfo)
    (pw3 : PySem.W.findIn K (.type "int") (dunderR Operator.Pow.info.2) = some pro)
    (pw4 : PySem.W.subIn K (.type "int") (.ref C) = some false)
    (pw5 : PySem.W.findIn K (.type "str") (PySem.dunder Operator.Pow.info.2) = some sfo)
    (pw6 : PySem.W.findIn K (.type "str") (dunderR Operator.Pow.info.2) = some sro)
    (pw7 : PySem.W.subIn K (.type "str") (.ref C) = some false)
    (z_all : PySem.W.nsIn K mainGlobals "all" = some none)
    (z_bool : PySem.W.nsIn K mainGlobals "bool" = some none)
    (z_dict : PySem.W.nsIn K mainGlobals "dict" = some none)
    (z_int : PySem.W.nsIn K mainGlobals "int" = some none)
    (z_isinstance : PySem.W.nsIn K mainGlobals "isinstance" = some none)
    (z_len : PySem.W.nsIn K mainGlobals "len" = some none)
    (z_list : PySem.W.nsIn K mainGlobals "list" = some none)
    (z_max : PySem.W.nsIn K mainGlobals "max" = some none)
    (z_min : PySem.W.nsIn K mainGlobals "min" = some none)
    (z_range : PySem.W.nsIn K mainGlobals "range" = some none)
    (z_sorted : PySem.W.nsIn K mainGlobals "sorted" = some none)
    (z_str : PySem.W.nsIn K mainGlobals "str" = some none)
    (pure : ∀ t : Gf, t.att = attF → t.init = initF → ∀ ns : List Int, ns.length ≤ 63 → ∃ e, runF (dsF t) 8 23 [.val (.lst (ns.map .int)) false] = .ok (.val (.bl true)) e) :
    ∃ fd : FuncData, (∀ (s : Shared) (v : Value), BindsTo s fd ⟨[v], []⟩ [("script", v)]) ∧ ∀ base : Heap, K.In base → base.Ns mainGlobals mg → FnOk l.prog w K mg base (L2.CX l.prog w) 32 fa fd ["script"] (spLaw K) := by
  have e : f23 = fa := by
    have e := (PySem.W.mg_of X G a23).symm.trans hfa
    injection e with e
    injection e
  subst e
  have F0 := fun_mk (st := st0) l0 c0 k0
  have F1 := fun_mk (st := st1) l1 c1 k1
  have F2 := fun_mk (st := st2) l2 c2 k2
  have F3 := fun_mk (st := st3) l3 c3 k3
  have F4 := fun_mk (st := st4) l4 c4 k4
  have F5 := fun_mk (st := st5) l5 c5 k5
  have F6 := fun_mk (st := st6) l6 c6 k6
  have F7 := fun_mk (st := st7) l7 c7 k7
  have F8 := fun_mk (st := st8) l8 c8 k8
  have F9 := fun_mk (st := st9) l9 c9 k9
  have F10 := fun_mk (st := st10) l10 c10 k10
  have F11 := fun_mk (st := st11) l11 c11 k11
  have F12 := fun_mk (st := st12) l12 c12 k12
  have F13 := fun_mk (st := st13) l13 c13 k13
  have F14 := fun_mk (st := st14) l14 c14 k14
  have F15 := fun_mk (st := st15) l15 c15 k15
  have F16 := fun_mk (st := st16) l16 c16 k16
  have F17 := fun_mk (st := st17) l17 c17 k17
  have F18 := fun_mk (st := st18) l18 c18 k18
  have F19 := fun_mk (st := st19) l19 c19 k19
  have F20 := fun_mk (st := st20) l20 c20 k20
  have F21 := fun_mk (st := st21) l21 c21 k21
  have F22 := fun_mk (st := st22) l22 c22 k22
  have F23 := fun_mk (st := st23) l23 c23 k23
  have B0 := F0.binds (ps := (["thing"] : List Str)) fun _ _ _ _ _ _ us hl => match us, hl with | [_], _ => rfl
  have B1 := F1.binds (ps := (["thing"] : List Str)) fun _ _ _ _ _ _ us hl => match us, hl with | [_], _ => rfl
  have B2 := F2.binds (ps := (["self", "powers"] : List Str)) fun _ _ _ _ _ _ us hl => match us, hl with | [_, _], _ => rfl
  have B3 := F3.binds (ps := (["self"] : List Str)) fun _ _ _ _ _ _ us hl => match us, hl with | [_], _ => rfl
  have B4 := F4.binds (ps := (["self", "other"] : List Str)) fun _ _ _ _ _ _ us hl => match us, hl with | [_, _], _ => rfl
  have B5 := F5.binds (ps := (["self", "other"] : List Str)) fun _ _ _ _ _ _ us hl => match us, hl with | [_, _], _ => rfl
  have B6 := F6.binds (ps := (["self", "other"] : List Str)) fun _ _ _ _ _ _ us hl => match us, hl with | [_, _], _ => rfl
  have B7 := F7.binds (ps := (["self", "other"] : List Str)) fun _ _ _ _ _ _ us hl => match us, hl with | [_, _], _ => rfl
  have B8 := F8.binds (ps := (["self", "number"] : List Str)) fun _ _ _ _ _ _ us hl => match us, hl with | [_, _], _ => rfl
  have B9 := F9.binds (ps := (["self"] : List Str)) fun _ _ _ _ _ _ us hl => match us, hl with | [_], _ => rfl
  have B10 := F10.binds (ps := (["self", "x"] : List Str)) fun _ _ _ _ _ _ us hl => match us, hl with | [_, _], _ => rfl
  have B11 := F11.binds (ps := (["self", "at"] : List Str)) fun _ _ _ _ _ _ us hl => match us, hl with | [_, _], _ => rfl
  have B12 := F12.binds (ps := (["thing"] : List Str)) fun _ _ _ _ _ _ us hl => match us, hl with | [_], _ => rfl
  have B13 := F13.binds (ps := (["powers", "others", "times"] : List Str)) fun _ _ _ _ _ _ us hl => match us, hl with | [_, _, _], _ => rfl
  have B14 := F14.binds (ps := (["script", "k"] : List Str)) fun _ _ _ _ _ _ us hl => match us, hl with | [_, _], _ => rfl
  have B15 := F15.binds (ps := (["cell", "k", "below"] : List Str)) fun _ _ _ _ _ _ us hl => match us, hl with | [_, _, _], _ => rfl
  have B16 := F16.binds (ps := (["cell", "k", "below"] : List Str)) fun _ _ _ _ _ _ us hl => match us, hl with | [_, _, _], _ => rfl
  have B17 := F17.binds (ps := (["state", "below"] : List Str)) fun _ _ _ _ _ _ us hl => match us, hl with | [_, _], _ => rfl
  have B18 := F18.binds (ps := (["state"] : List Str)) fun _ _ _ _ _ _ us hl => match us, hl with | [_], _ => rfl
  have B19 := F19.binds (ps := (["powers"] : List Str)) fun _ _ _ _ _ _ us hl => match us, hl with | [_], _ => rfl
  have B20 := F20.binds (ps := (["unit", "powers"] : List Str)) fun _ _ _ _ _ _ us hl => match us, hl with | [_, _], _ => rfl
  have B21 := F21.binds (ps := (["unit", "number"] : List Str)) fun _ _ _ _ _ _ us hl => match us, hl with | [_, _], _ => rfl
  have B22 := F22.binds (ps := (["state"] : List Str)) fun _ _ _ _ _ _ us hl => match us, hl with | [_], _ => rfl
  have B23 := F23.binds (ps := (["script"] : List Str)) fun _ _ _ _ _ _ us hl => match us, hl with | [_], _ => rfl
  obtain ⟨ad, had⟩ : ∃ ad : Nat → Addr, ad = pick [f0, f1, f2, f3, f4, f5, f6, f7, f8, f9, f10, f11, f12, f13, f14, f15, f16, f17, f18, f19, f20, f21, f22, f23] f0 := ⟨_, rfl⟩
  obtain ⟨fds, hfd⟩ : ∃ fds : Nat → FuncData, fds = pick [PySem.W.fnOf "is_name" "is_name" (defArgs st0) (defBody st0) (defScope st0) .none kV0 dc0 pm0 an0 cd0 ct0,
    PySem.W.fnOf "is_whole" "is_whole" (defArgs st1) (defBody st1) (defScope st1) .none kV1 dc1 pm1 an1 cd1 ct1,
    PySem.W.fnOf "__init__" "Unit.__init__" (defArgs st2) (defBody st2) (defScope st2) .none kV2 dc2 pm2 an2 cd2 ct2,
    PySem.W.fnOf "powers" "Unit.powers" (defArgs st3) (defBody st3) (defScope st3) .none kV3 dc3 pm3 an3 cd3 ct3,
    PySem.W.fnOf "__eq__" "Unit.__eq__" (defArgs st4) (defBody st4) (defScope st4) .none kV4 dc4 pm4 an4 cd4 ct4,
    PySem.W.fnOf "__mul__" "Unit.__mul__" (defArgs st5) (defBody st5) (defScope st5) .none kV5 dc5 pm5 an5 cd5 ct5,
    PySem.W.fnOf "__floordiv__" "Unit.__floordiv__" (defArgs st6) (defBody st6) (defScope st6) .none kV6 dc6 pm6 an6 cd6 ct6,
    PySem.W.fnOf "__pow__" "Unit.__pow__" (defArgs st7) (defBody st7) (defScope st7) .none kV7 dc7 pm7 an7 cd7 ct7,
    PySem.W.fnOf "to_power" "Unit.to_power" (defArgs st8) (defBody st8) (defScope st8) .none kV8 dc8 pm8 an8 cd8 ct8,
    PySem.W.fnOf "__bool__" "Unit.__bool__" (defArgs st9) (defBody st9) (defScope st9) .none kV9 dc9 pm9 an9 cd9 ct9,
    PySem.W.fnOf "__contains__" "Unit.__contains__" (defArgs st10) (defBody st10) (defScope st10) .none kV10 dc10 pm10 an10 cd10 ct10,
    PySem.W.fnOf "__getitem__" "Unit.__getitem__" (defArgs st11) (defBody st11) (defScope st11) .none kV11 dc11 pm11 an11 cd11 ct11,
    PySem.W.fnOf "is_powers" "is_powers" (defArgs st12) (defBody st12) (defScope st12) .none kV12 dc12 pm12 an12 cd12 ct12,
    PySem.W.fnOf "added" "added" (defArgs st13) (defBody st13) (defScope st13) .none kV13 dc13 pm13 an13 cd13 ct13,
    PySem.W.fnOf "_law_cell_at" "_law_cell_at" (defArgs st14) (defBody st14) (defScope st14) .none kV14 dc14 pm14 an14 cd14 ct14,
    PySem.W.fnOf "_law_draw" "_law_draw" (defArgs st15) (defBody st15) (defScope st15) .none kV15 dc15 pm15 an15 cd15 ct15,
    PySem.W.fnOf "_law_number" "_law_number" (defArgs st16) (defBody st16) (defScope st16) .none kV16 dc16 pm16 an16 cd16 ct16,
    PySem.W.fnOf "_law_next" "_law_next" (defArgs st17) (defBody st17) (defScope st17) .none kV17 dc17 pm17 an17 cd17 ct17,
    PySem.W.fnOf "_law_powers" "_law_powers" (defArgs st18) (defBody st18) (defScope st18) .none kV18 dc18 pm18 an18 cd18 ct18,
    PySem.W.fnOf "_law_plain" "_law_plain" (defArgs st19) (defBody st19) (defScope st19) .none kV19 dc19 pm19 an19 cd19 ct19,
    PySem.W.fnOf "_law_stands" "_law_stands" (defArgs st20) (defBody st20) (defScope st20) .none kV20 dc20 pm20 an20 cd20 ct20,
    PySem.W.fnOf "_law_power" "_law_power" (defArgs st21) (defBody st21) (defScope st21) .none kV21 dc21 pm21 an21 cd21 ct21,
    PySem.W.fnOf "_law_one_right" "_law_one_right" (defArgs st22) (defBody st22) (defScope st22) .none kV22 dc22 pm22 an22 cd22 ct22,
    PySem.W.fnOf "law" "law" (defArgs st23) (defBody st23) (defScope st23) .none kV23 dc23 pm23 an23 cd23 ct23] (PySem.W.fnOf "is_name" "is_name" (defArgs st0) (defBody st0) (defScope st0) .none kV0 dc0 pm0 an0 cd0 ct0) := ⟨_, rfl⟩
  have hd0 : ad 0 = f0 := by rw [had]; rfl
  have hf0 : fds 0 = PySem.W.fnOf "is_name" "is_name" (defArgs st0) (defBody st0) (defScope st0) .none kV0 dc0 pm0 an0 cd0 ct0 := by rw [hfd]; rfl
  have hd1 : ad 1 = f1 := by rw [had]; rfl
  have hf1 : fds 1 = PySem.W.fnOf "is_whole" "is_whole" (defArgs st1) (defBody st1) (defScope st1) .none kV1 dc1 pm1 an1 cd1 ct1 := by rw [hfd]; rfl
  have hd2 : ad 2 = f2 := by rw [had]; rfl
  have hf2 : fds 2 = PySem.W.fnOf "__init__" "Unit.__init__" (defArgs st2) (defBody st2) (defScope st2) .none kV2 dc2 pm2 an2 cd2 ct2 := by rw [hfd]; rfl
  have hd3 : ad 3 = f3 := by rw [had]; rfl
  have hf3 : fds 3 = PySem.W.fnOf "powers" "Unit.powers" (defArgs st3) (defBody st3) (defScope st3) .none kV3 dc3 pm3 an3 cd3 ct3 := by rw [hfd]; rfl
  have hd4 : ad 4 = f4 := by rw [had]; rfl
  have hf4 : fds 4 = PySem.W.fnOf "__eq__" "Unit.__eq__" (defArgs st4) (defBody st4) (defScope st4) .none kV4 dc4 pm4 an4 cd4 ct4 := by rw [hfd]; rfl
  have hd5 : ad 5 = f5 := by rw [had]; rfl
  have hf5 : fds 5 = PySem.W.fnOf "__mul__" "Unit.__mul__" (defArgs st5) (defBody st5) (defScope st5) .none kV5 dc5 pm5 an5 cd5 ct5 := by rw [hfd]; rfl
  have hd6 : ad 6 = f6 := by rw [had]; rfl
  have hf6 : fds 6 = PySem.W.fnOf "__floordiv__" "Unit.__floordiv__" (defArgs st6) (defBody st6) (defScope st6) .none kV6 dc6 pm6 an6 cd6 ct6 := by rw [hfd]; rfl
  have hd7 : ad 7 = f7 := by rw [had]; rfl
  have hf7 : fds 7 = PySem.W.fnOf "__pow__" "Unit.__pow__" (defArgs st7) (defBody st7) (defScope st7) .none kV7 dc7 pm7 an7 cd7 ct7 := by rw [hfd]; rfl
  have hd8 : ad 8 = f8 := by rw [had]; rfl
  have hf8 : fds 8 = PySem.W.fnOf "to_power" "Unit.to_power" (defArgs st8) (defBody st8) (defScope st8) .none kV8 dc8 pm8 an8 cd8 ct8 := by rw [hfd]; rfl
  have hd9 : ad 9 = f9 := by rw [had]; rfl
  have hf9 : fds 9 = PySem.W.fnOf "__bool__" "Unit.__bool__" (defArgs st9) (defBody st9) (defScope st9) .none kV9 dc9 pm9 an9 cd9 ct9 := by rw [hfd]; rfl
  have hd10 : ad 10 = f10 := by rw [had]; rfl
  have hf10 : fds 10 = PySem.W.fnOf "__contains__" "Unit.__contains__" (defArgs st10) (defBody st10) (defScope st10) .none kV10 dc10 pm10 an10 cd10 ct10 := by rw [hfd]; rfl
  have hd11 : ad 11 = f11 := by rw [had]; rfl
  have hf11 : fds 11 = PySem.W.fnOf "__getitem__" "Unit.__getitem__" (defArgs st11) (defBody st11) (defScope st11) .none kV11 dc11 pm11 an11 cd11 ct11 := by rw [hfd]; rfl
  have hd12 : ad 12 = f12 := by rw [had]; rfl
  have hf12 : fds 12 = PySem.W.fnOf "is_powers" "is_powers" (defArgs st12) (defBody st12) (defScope st12) .none kV12 dc12 pm12 an12 cd12 ct12 := by rw [hfd]; rfl
  have hd13 : ad 13 = f13 := by rw [had]; rfl
  have hf13 : fds 13 = PySem.W.fnOf "added" "added" (defArgs st13) (defBody st13) (defScope st13) .none kV13 dc13 pm13 an13 cd13 ct13 := by rw [hfd]; rfl
  have hd14 : ad 14 = f14 := by rw [had]; rfl
  have hf14 : fds 14 = PySem.W.fnOf "_law_cell_at" "_law_cell_at" (defArgs st14) (defBody st14) (defScope st14) .none kV14 dc14 pm14 an14 cd14 ct14 := by rw [hfd]; rfl
  have hd15 : ad 15 = f15 := by rw [had]; rfl
  have hf15 : fds 15 = PySem.W.fnOf "_law_draw" "_law_draw" (defArgs st15) (defBody st15) (defScope st15) .none kV15 dc15 pm15 an15 cd15 ct15 := by rw [hfd]; rfl
  have hd16 : ad 16 = f16 := by rw [had]; rfl
  have hf16 : fds 16 = PySem.W.fnOf "_law_number" "_law_number" (defArgs st16) (defBody st16) (defScope st16) .none kV16 dc16 pm16 an16 cd16 ct16 := by rw [hfd]; rfl
  have hd17 : ad 17 = f17 := by rw [had]; rfl
  have hf17 : fds 17 = PySem.W.fnOf "_law_next" "_law_next" (defArgs st17) (defBody st17) (defScope st17) .none kV17 dc17 pm17 an17 cd17 ct17 := by rw [hfd]; rfl
  have hd18 : ad 18 = f18 := by rw [had]; rfl
  have hf18 : fds 18 = PySem.W.fnOf "_law_powers" "_law_powers" (defArgs st18) (defBody st18) (defScope st18) .none kV18 dc18 pm18 an18 cd18 ct18 := by rw [hfd]; rfl
  have hd19 : ad 19 = f19 := by rw [had]; rfl
  have hf19 : fds 19 = PySem.W.fnOf "_law_plain" "_law_plain" (defArgs st19) (defBody st19) (defScope st19) .none kV19 dc19 pm19 an19 cd19 ct19 := by rw [hfd]; rfl
  have hd20 : ad 20 = f20 := by rw [had]; rfl
  have hf20 : fds 20 = PySem.W.fnOf "_law_stands" "_law_stands" (defArgs st20) (defBody st20) (defScope st20) .none kV20 dc20 pm20 an20 cd20 ct20 := by rw [hfd]; rfl
  have hd21 : ad 21 = f21 := by rw [had]; rfl
  have hf21 : fds 21 = PySem.W.fnOf "_law_power" "_law_power" (defArgs st21) (defBody st21) (defScope st21) .none kV21 dc21 pm21 an21 cd21 ct21 := by rw [hfd]; rfl
  have hd22 : ad 22 = f22 := by rw [had]; rfl
  have hf22 : fds 22 = PySem.W.fnOf "_law_one_right" "_law_one_right" (defArgs st22) (defBody st22) (defScope st22) .none kV22 dc22 pm22 an22 cd22 ct22 := by rw [hfd]; rfl
  have hd23 : ad 23 = f23 := by rw [had]; rfl
  have hf23 : fds 23 = PySem.W.fnOf "law" "law" (defArgs st23) (defBody st23) (defScope st23) .none kV23 dc23 pm23 an23 cd23 ct23 := by rw [hfd]; rfl
  have cls : Cls K C := ⟨pg, hd, po, sa⟩
  have ins : InsOk K C := ⟨cls, q1, q2, q3, q4⟩
  have tyU : TyOk (gOf K C) ty_Unit := by
    refine ⟨fun d hd => ?_, fun d hd => (nomatch hd), fun T hT => ?_⟩
    · cases hd with
      | head => exact ⟨ins, q5⟩
      | tail _ h => cases h
    · simp only [bTypes, List.mem_cons, List.not_mem_nil, or_false] at hT
      rcases hT with rfl | rfl | rfl | rfl | rfl | rfl | rfl
      · exact yNoneType
      · exact ybool
      · exact yint
      · exact ystr
      · exact ylist
      · exact ytuple
      · exact ydict
  have T : Txt (gOf K C) (tOf ad fds) mg :=
    { f_is_name := (by rw [show (tOf ad fds).adr 0 = f0 from hd0]; exact PySem.W.mg_of X G a0)
      k_is_name := (by rw [show (tOf ad fds).adr 0 = f0 from hd0]; exact k0)
      f_is_whole := (by rw [show (tOf ad fds).adr 1 = f1 from hd1]; exact PySem.W.mg_of X G a1)
      k_is_whole := (by rw [show (tOf ad fds).adr 1 = f1 from hd1]; exact k1)
      f_is_powers := (by rw [show (tOf ad fds).adr 12 = f12 from hd12]; exact PySem.W.mg_of X G a12)
      k_is_powers := (by rw [show (tOf ad fds).adr 12 = f12 from hd12]; exact k12)
      f_added := (by rw [show (tOf ad fds).adr 13 = f13 from hd13]; exact PySem.W.mg_of X G a13)
      k_added := (by rw [show (tOf ad fds).adr 13 = f13 from hd13]; exact k13)
      f__law_cell_at := (by rw [show (tOf ad fds).adr 14 = f14 from hd14]; exact PySem.W.mg_of X G a14)
      k__law_cell_at := (by rw [show (tOf ad fds).adr 14 = f14 from hd14]; exact k14)
      f__law_draw := (by rw [show (tOf ad fds).adr 15 = f15 from hd15]; exact PySem.W.mg_of X G a15)
      k__law_draw := (by rw [show (tOf ad fds).adr 15 = f15 from hd15]; exact k15)
      f__law_number := (by rw [show (tOf ad fds).adr 16 = f16 from hd16]; exact PySem.W.mg_of X G a16)
      k__law_number := (by rw [show (tOf ad fds).adr 16 = f16 from hd16]; exact k16)
      f__law_next := (by rw [show (tOf ad fds).adr 17 = f17 from hd17]; exact PySem.W.mg_of X G a17)
      k__law_next := (by rw [show (tOf ad fds).adr 17 = f17 from hd17]; exact k17)
      f__law_powers := (by rw [show (tOf ad fds).adr 18 = f18 from hd18]; exact PySem.W.mg_of X G a18)
      k__law_powers := (by rw [show (tOf ad fds).adr 18 = f18 from hd18]; exact k18)
      f__law_plain := (by rw [show (tOf ad fds).adr 19 = f19 from hd19]; exact PySem.W.mg_of X G a19)
      k__law_plain := (by rw [show (tOf ad fds).adr 19 = f19 from hd19]; exact k19)
      f__law_stands := (by rw [show (tOf ad fds).adr 20 = f20 from hd20]; exact PySem.W.mg_of X G a20)
      k__law_stands := (by rw [show (tOf ad fds).adr 20 = f20 from hd20]; exact k20)
      f__law_power := (by rw [show (tOf ad fds).adr 21 = f21 from hd21]; exact PySem.W.mg_of X G a21)
      k__law_power := (by rw [show (tOf ad fds).adr 21 = f21 from hd21]; exact k21)
      f__law_one_right := (by rw [show (tOf ad fds).adr 22 = f22 from hd22]; exact PySem.W.mg_of X G a22)
      k__law_one_right := (by rw [show (tOf ad fds).adr 22 = f22 from hd22]; exact k22)
      f_law := (by rw [show (tOf ad fds).adr 23 = f23 from hd23]; exact PySem.W.mg_of X G a23)
      k_law := (by rw [show (tOf ad fds).adr 23 = f23 from hd23]; exact k23)
      c_Unit := PySem.W.mg_of X G aC
      k_Unit := kc
      i_Unit := tyU
      b_all := PySem.W.mg_none_of X G z_all
      b_bool := PySem.W.mg_none_of X G z_bool
      b_dict := PySem.W.mg_none_of X G z_dict
      b_int := PySem.W.mg_none_of X G z_int
      b_isinstance := PySem.W.mg_none_of X G z_isinstance
      b_len := PySem.W.mg_none_of X G z_len
      b_list := PySem.W.mg_none_of X G z_list
      b_max := PySem.W.mg_none_of X G z_max
      b_min := PySem.W.mg_none_of X G z_min
      b_range := PySem.W.mg_none_of X G z_range
      b_sorted := PySem.W.mg_none_of X G z_sorted
      b_str := PySem.W.mg_none_of X G z_str
      pow := fun c k e => ⟨⟨none, pfo, pro, pw1, .inl rfl, pw2, pw3, pw4⟩, ⟨none, sfo, sro, pw1, .inl rfl, pw5, pw6, pw7⟩⟩ }
  have att_in : ∀ c f a, attF c f = some a → (f, a) ∈ att0 := fun c f a e => by
    unfold attF at e
    split at e
    · exact PySem.mem_of_lookup e
    · cases e
  have sFld : ∀ c f, attF c f = some .fld → NoAttr K C f := fun c f  e => by
    have m := att_in _ _ _ e
    simp only [att0, List.mem_cons, List.not_mem_nil, or_false, Prod.mk.injEq, reduceCtorEq, and_false, false_or, At.meth.injEq, At.prop.injEq, and_true] at m
    obtain rfl := m
    exact no_powers
  have sMeth : ∀ c f k, attF c f = some (.meth k) → Meth K C f (ad k) ∧ PySem.W.fnIn K (ad k) = true := fun c f k e => by
    have m := att_in _ _ _ e
    simp only [att0, List.mem_cons, List.not_mem_nil, or_false, Prod.mk.injEq, reduceCtorEq, and_false, false_or, At.meth.injEq, At.prop.injEq, and_true] at m
    rcases m with ⟨rfl, rfl⟩ | ⟨rfl, rfl⟩ | ⟨rfl, rfl⟩ | ⟨rfl, rfl⟩ | ⟨rfl, rfl⟩ | ⟨rfl, rfl⟩ | ⟨rfl, rfl⟩ | ⟨rfl, rfl⟩
    · rw [hd4]; exact ⟨⟨a4, i4, k4⟩, n4⟩
    · rw [hd5]; exact ⟨⟨a5, i5, k5⟩, n5⟩
    · rw [hd6]; exact ⟨⟨a6, i6, k6⟩, n6⟩
    · rw [hd7]; exact ⟨⟨a7, i7, k7⟩, n7⟩
    · rw [hd8]; exact ⟨⟨a8, i8, k8⟩, n8⟩
    · rw [hd9]; exact ⟨⟨a9, i9, k9⟩, n9⟩
    · rw [hd10]; exact ⟨⟨a10, i10, k10⟩, n10⟩
    · rw [hd11]; exact ⟨⟨a11, i11, k11⟩, n11⟩
  have sProp : ∀ c f k, attF c f = some (.prop k) → ∃ p, PropOf K C f p (ad k) := fun c f k e => by
    have m := att_in _ _ _ e
    simp only [att0, List.mem_cons, List.not_mem_nil, or_false, Prod.mk.injEq, reduceCtorEq, and_false, false_or, At.meth.injEq, At.prop.injEq, and_true] at m
    obtain ⟨rfl, rfl⟩ := m
    rw [hd3]; exact ⟨pp, a3, pg3, pt3, rest, pr3⟩
  have sBind : ∀ k, Binds K (fds k) (pick psL (pick psL [] 0) k) [] := fun k => by
    match k with
    | 0 => rw [hf0]; exact B0
    | 1 => rw [hf1]; exact B1
    | 2 => rw [hf2]; exact B2
    | 3 => rw [hf3]; exact B3
    | 4 => rw [hf4]; exact B4
    | 5 => rw [hf5]; exact B5
    | 6 => rw [hf6]; exact B6
    | 7 => rw [hf7]; exact B7
    | 8 => rw [hf8]; exact B8
    | 9 => rw [hf9]; exact B9
    | 10 => rw [hf10]; exact B10
    | 11 => rw [hf11]; exact B11
    | 12 => rw [hf12]; exact B12
    | 13 => rw [hf13]; exact B13
    | 14 => rw [hf14]; exact B14
    | 15 => rw [hf15]; exact B15
    | 16 => rw [hf16]; exact B16
    | 17 => rw [hf17]; exact B17
    | 18 => rw [hf18]; exact B18
    | 19 => rw [hf19]; exact B19
    | 20 => rw [hf20]; exact B20
    | 21 => rw [hf21]; exact B21
    | 22 => rw [hf22]; exact B22
    | 23 => rw [hf23]; exact B23
    | k + 24 => rw [show fds (k + 24) = fds 0 by rw [hfd]; rfl, hf0]; exact B0
  have sg : GSt (gOf K C) (tOf ad fds) :=
    { cls := fun c f a e => ⟨cls, sf⟩
      fld := sFld
      meth := fun c f k e => (sMeth c f k e).1
      prop := sProp
      bind := sBind
      mko := fun c k e => by
        have e : initF c = some k := e
        unfold initF at e
        split at e
        · cases e; exact (show Mk K C (ad 2) by rw [hd2]; exact ⟨mk, a2, i2, kc⟩)
        · cases e
      fnIn := fun c f k e => (sMeth c f k e).2 }
  refine ⟨PySem.W.fnOf "law" "law" (defArgs st23) (defBody st23) (defScope st23) .none kV23 dc23 pm23 an23 cd23 ct23, fun s v => .of_eq rfl, fun base hb nb => ?_⟩
  have all := all_fn (P := l.prog) (w := w) (base := base) T sg (by rw [show (tOf ad fds).adr 0 = f0 from hd0, show (tOf ad fds).fd 0 = _ from hf0]; exact F0) rfl (by rw [show (tOf ad fds).adr 1 = f1 from hd1, show (tOf ad fds).fd 1 = _ from hf1]; exact F1) rfl (by rw [show (tOf ad fds).adr 2 = f2 from hd2, show (tOf ad fds).fd 2 = _ from hf2]; exact F2) rfl (by rw [show (tOf ad fds).adr 3 = f3 from hd3, show (tOf ad fds).fd 3 = _ from hf3]; exact F3) rfl (by rw [show (tOf ad fds).adr 4 = f4 from hd4, show (tOf ad fds).fd 4 = _ from hf4]; exact F4) rfl (by rw [show (tOf ad fds).adr 5 = f5 from hd5, show (tOf ad fds).fd 5 = _ from hf5]; exact F5) rfl (by rw [show (tOf ad fds).adr 6 = f6 from hd6, show (tOf ad fds).fd 6 = _ from hf6]; exact F6) rfl (by rw [show (tOf ad fds).adr 7 = f7 from hd7, show (tOf ad fds).fd 7 = _ from hf7]; exact F7) rfl (by rw [show (tOf ad fds).adr 8 = f8 from hd8, show (tOf ad fds).fd 8 = _ from hf8]; exact F8) rfl (by rw [show (tOf ad fds).adr 9 = f9 from hd9, show (tOf ad fds).fd 9 = _ from hf9]; exact F9) rfl (by rw [show (tOf ad fds).adr 10 = f10 from hd10, show (tOf ad fds).fd 10 = _ from hf10]; exact F10) rfl (by rw [show (tOf ad fds).adr 11 = f11 from hd11, show (tOf ad fds).fd 11 = _ from hf11]; exact F11) rfl (by rw [show (tOf ad fds).adr 12 = f12 from hd12, show (tOf ad fds).fd 12 = _ from hf12]; exact F12) rfl (by rw [show (tOf ad fds).adr 13 = f13 from hd13, show (tOf ad fds).fd 13 = _ from hf13]; exact F13) rfl (by rw [show (tOf ad fds).adr 14 = f14 from hd14, show (tOf ad fds).fd 14 = _ from hf14]; exact F14) rfl (by rw [show (tOf ad fds).adr 15 = f15 from hd15, show (tOf ad fds).fd 15 = _ from hf15]; exact F15) rfl (by rw [show (tOf ad fds).adr 16 = f16 from hd16, show (tOf ad fds).fd 16 = _ from hf16]; exact F16) rfl (by rw [show (tOf ad fds).adr 17 = f17 from hd17, show (tOf ad fds).fd 17 = _ from hf17]; exact F17) rfl (by rw [show (tOf ad fds).adr 18 = f18 from hd18, show (tOf ad fds).fd 18 = _ from hf18]; exact F18) rfl (by rw [show (tOf ad fds).adr 19 = f19 from hd19, show (tOf ad fds).fd 19 = _ from hf19]; exact F19) rfl (by rw [show (tOf ad fds).adr 20 = f20 from hd20, show (tOf ad fds).fd 20 = _ from hf20]; exact F20) rfl (by rw [show (tOf ad fds).adr 21 = f21 from hd21, show (tOf ad fds).fd 21 = _ from hf21]; exact F21) rfl (by rw [show (tOf ad fds).adr 22 = f22 from hd22, show (tOf ad fds).fd 22 = _ from hf22]; exact F22) rfl (by rw [show (tOf ad fds).adr 23 = f23 from hd23, show (tOf ad fds).fd 23 = _ from hf23]; exact F23) rfl
  have one := all 8 23
  rw [show (tOf ad fds).adr 23 = f23 from hd23, show (tOf ad fds).fd 23 = _ from hf23] at one
  exact one.imp fun vs H Q E q => law_sp (pure (tOf ad fds) rfl rfl) q
theorem walk {l : PySem.W.OpenLaw} {q : Program} {loose : List Str} {XP : (Str → Option Value) → Heap → Prop} {YP : World → Heap → Prop} {d : DefRec} {K : Params → PySem.W.Frag} (hn : l.most = some 63) (hdf : d.params.defaults = [])
    (hY : ∀ (w : World) (h : Heap), YP w h → (K w.params).In h)
    (F : ∀ (w : World) (mg : Str → Option Value) (fa : Addr) (h : Heap), (K w.params).In h → h.Ns mainGlobals mg → mg d.name = some (.ref fa) →
      ∃ fd : FuncData, (∀ (s : Shared) (u : Value), BindsTo s fd ⟨[u], []⟩ [("script", u)]) ∧ ∀ base : Heap, (K w.params).In base → base.Ns mainGlobals mg → FnOk l.prog w (K w.params) mg base (L2.CX l.prog w) 32 fa fd ["script"] (spLaw (K w.params))) :
    PySem.W.WalkO q loose XP YP l.row.toRowW d [] (fun f vs => PySem.call f vs) := by
  refine L2.walk_of (n := 63) (k := 32) (x := "script") (CX := fun w => L2.CX l.prog w) (sp := fun w => spLaw (K w.params)) hn (by decide) hdf ⟨rfl, by decide, by decide⟩ hY F (fun _ _ a ns hl _ hS => ⟨a, ns, rfl, hS, hl, fun _ => rfl⟩) fun w H s e s' z => ?_
  obtain ⟨_, _, _, _, _, _, _, _, _, _, _, _, z⟩ := z
  exact z
end
end Pi

/-! Pm1: dicts from the four names to integers. -/
namespace Pi
open PySem PySem.Spec L2 PyProof.Rows
abbrev nm4 : List Str := ["abcdefgh", "kg", "m", "s"]
abbrev Kv := Key × P
/-- a dict from some of the names to integers, f's; elsewhere f is 0 -/
structure WD (kvs : List Kv) (f : Str → Int) : Prop where
  nd : (kvs.map (·.1)).Nodup
  ks : ∀ kv ∈ kvs, ∃ s ∈ nm4, kv = (.inr s, .int (f s))
  out : ∀ s, (Sum.inr s : Key) ∉ kvs.map (·.1) → f s = 0
def pl (f : Str → Int) : List Kv := (nm4.filter fun s => f s != 0).map fun s => (.inr s, .int (f s))
variable {kvs ls : List Kv} {f h : Str → Int}
theorem nodup_map {A B : Type} {f : A → B} (hf : ∀ a b, f a = f b → a = b) : ∀ {l : List A}, l.Nodup → (l.map f).Nodup
  | [], _ => List.nodup_nil
  | a :: l, h => by
    obtain ⟨h1, h2⟩ := List.nodup_cons.mp h
    refine List.nodup_cons.mpr ⟨fun z => ?_, nodup_map hf h2⟩
    obtain ⟨b, hb, e⟩ := List.mem_map.mp z
    exact h1 (hf b a e ▸ hb)
theorem nodup_of_map {A B : Type} {f : A → B} : ∀ {l : List A}, (l.map f).Nodup → l.Nodup
  | [], _ => List.nodup_nil
  | a :: l, h => by
    obtain ⟨h1, h2⟩ := List.nodup_cons.mp h
    exact List.nodup_cons.mpr ⟨fun z => h1 (List.mem_map.mpr ⟨a, z, rfl⟩), nodup_of_map h2⟩
theorem val_out {k : Key} (h : k ∉ kvs.map (·.1)) : valP kvs k = none := by
  unfold valP
  rw [List.find?_eq_none.mpr fun x hx z => h (List.mem_map.mpr ⟨x, hx, of_decide_eq_true z⟩)]
  rfl
theorem WD.val_in (w : WD kvs f) {s : Str} (h : (Sum.inr s : Key) ∈ kvs.map (·.1)) : valP kvs (.inr s) = some (.int (f s)) := by
  unfold valP
  cases e : kvs.find? (fun kv => decide (kv.1 = (Sum.inr s : Key))) with
  | none =>
    obtain ⟨kv, h1, h2⟩ := List.mem_map.mp h
    exact ((List.find?_eq_none.mp e) kv h1 (decide_eq_true h2)).elim
  | some kv =>
    have h1 : kv.1 = (Sum.inr s : Key) := of_decide_eq_true (List.find?_some (p := fun kv : Kv => decide (kv.1 = (Sum.inr s : Key))) e)
    obtain ⟨s', hs, rfl⟩ := w.ks kv (List.mem_of_find?_eq_some e)
    cases h1
    rfl
theorem WD.getD (w : WD kvs f) (s : Str) : (valP kvs (.inr s)).getD (.int 0) = .int (f s) := by
  by_cases h : (Sum.inr s : Key) ∈ kvs.map (·.1)
  · rw [w.val_in h]; rfl
  · rw [val_out h, w.out s h]; rfl
theorem has_iff {k : Key} : hasP kvs k = true ↔ k ∈ kvs.map (·.1) := by
  unfold hasP
  rw [List.any_eq_true]
  exact ⟨fun ⟨x, h1, h2⟩ => List.mem_map.mpr ⟨x, h1, of_decide_eq_true h2⟩, fun z => let ⟨x, h1, h2⟩ := List.mem_map.mp z; ⟨x, h1, decide_eq_true h2⟩⟩
theorem WD.mem4 (w : WD kvs f) {s : Str} (h : (Sum.inr s : Key) ∈ kvs.map (·.1)) : s ∈ nm4 := by
  obtain ⟨kv, h1, h2⟩ := List.mem_map.mp h
  obtain ⟨s', hs, rfl⟩ := w.ks kv h1
  cases h2
  exact hs
theorem WD.off (w : WD kvs f) {s : Str} (h : s ∉ nm4) : f s = 0 := w.out s fun z => h (w.mem4 z)
theorem nm_nodup : nm4.Nodup := by decide +kernel
theorem pl_wd (h : ∀ s, s ∉ nm4 → f s = 0) : WD (pl f) f := by
  refine ⟨?_, fun kv hk => ?_, fun s hs => ?_⟩
  · unfold pl
    rw [List.map_map]
    exact nodup_map (fun a b e => by cases e; rfl) (nm_nodup.filter _)
  · obtain ⟨s, h1, rfl⟩ := List.mem_map.mp hk
    exact ⟨s, (List.mem_filter.mp h1).1, rfl⟩
  · by_cases z : f s = 0
    · exact z
    · refine (hs ?_).elim
      unfold pl
      rw [List.map_map]
      exact List.mem_map.mpr ⟨s, List.mem_filter.mpr ⟨Classical.byContradiction fun q => z (h s q), by simpa using z⟩, rfl⟩
theorem pl_ext (e : ∀ s ∈ nm4, f s = h s) : pl f = pl h := by
  unfold pl
  have : nm4.filter (fun s => f s != 0) = nm4.filter (fun s => h s != 0) := List.filter_congr fun s hs => by rw [e s hs]
  rw [this]
  exact List.map_congr_left fun s hs => by rw [e s (List.mem_filter.mp hs).1]
/-- the names in order -/
def keysL (kvs : List Kv) : List Str := nm4.filter fun s => hasP kvs (.inr s)
theorem sorted_filter (p : Str → Bool) : sortedS (nm4.filter p) = true := by
  simp only [nm4, List.filter_cons, List.filter_nil]
  split <;> split <;> split <;> split <;> decide +kernel
theorem keysS_of : ∀ {l : List Kv}, (∀ kv ∈ l, ∃ s ∈ nm4, ∃ i, kv = (Sum.inr s, P.int i)) → ∃ ks, keysS l = some ks
  | [], _ => ⟨[], rfl⟩
  | kv :: l, h => by
    obtain ⟨s, _, i, rfl⟩ := h kv List.mem_cons_self
    obtain ⟨ks, e⟩ := keysS_of (l := l) fun kv hk => h kv (List.mem_cons_of_mem _ hk)
    exact ⟨s :: ks, by unfold keysS; rw [e]; rfl⟩
theorem WD.sorted (w : WD kvs f) : ∃ ks, keysS kvs = some ks ∧ ks.length < 64 ∧ sortS ks = keysL kvs ∧ kvs.map (·.1) = ks.map Sum.inr ∧ ks.length ≤ 4 := by
  obtain ⟨ks, e⟩ := keysS_of fun kv hk => let ⟨s, h1, h2⟩ := w.ks kv hk; ⟨s, h1, _, h2⟩
  have e2 := keysS_eq e
  have nd : ks.Nodup := nodup_of_map (f := (Sum.inr : Str → Key)) (by rw [← e2]; exact w.nd)
  have pm : (keysL kvs).Perm ks := (List.perm_ext_iff_of_nodup (nm_nodup.filter _) nd).mpr fun s => by
    have inj : (Sum.inr s : Key) ∈ ks.map Sum.inr ↔ s ∈ ks := ⟨fun z => by obtain ⟨a, h1, h2⟩ := List.mem_map.mp z; cases h2; exact h1, fun z => List.mem_map.mpr ⟨s, z, rfl⟩⟩
    rw [List.mem_filter, has_iff, e2, inj]
    exact ⟨fun z => z.2, fun z => ⟨w.mem4 (by rw [e2]; exact inj.mpr z), z⟩⟩
  have hl : ks.length ≤ 4 := by rw [← pm.length_eq]; exact List.length_filter_le _ _
  exact ⟨ks, e, by omega, (sort_one pm (sorted_filter _)).symm, e2, hl⟩
theorem WD.len (w : WD kvs f) : kvs.length ≤ 4 := by
  obtain ⟨ks, _, _, _, e, hl⟩ := w.sorted
  have := congrArg List.length e
  simp at this
  omega
/-- of the names in order, those with another exponent than 0 -/
theorem WD.nonzero (w : WD kvs f) : (keysL kvs).filter (fun s => f s != 0) = nm4.filter fun s => f s != 0 := by
  unfold keysL
  rw [List.filter_filter]
  refine List.filter_congr fun s hs => ?_
  by_cases z : f s = 0
  · simp [z]
  · have : hasP kvs (.inr s) = true := has_iff.mpr (Classical.byContradiction fun q => z (w.out s q))
    simp [this]
theorem WD.put (w : WD kvs f) {s : Str} (hs : s ∈ nm4) (v : Int) : WD (putP kvs (.inr s) (.int v)) (fun x => if x = s then v else f x) := by
  unfold putP
  by_cases hh : hasP kvs (.inr s : Key) = true
  · rw [if_pos hh]
    have e : (kvs.map fun kv => if kv.1 = (Sum.inr s : Key) then (kv.1, P.int v) else kv).map (·.1) = kvs.map (·.1) := by
      rw [List.map_map]
      exact List.map_congr_left fun kv _ => by show (if kv.1 = (Sum.inr s : Key) then (kv.1, P.int v) else kv).1 = kv.1; split <;> rfl
    refine ⟨by rw [e]; exact w.nd, fun kv hk => ?_, fun x hx => ?_⟩
    · obtain ⟨kv0, h1, rfl⟩ := List.mem_map.mp hk
      obtain ⟨s', h2, rfl⟩ := w.ks kv0 h1
      by_cases z : s' = s
      · subst z
        exact ⟨s', h2, by simp⟩
      · exact ⟨s', h2, by simp [z]⟩
    · rw [e] at hx
      have : x ≠ s := by rintro rfl; exact hx (has_iff.mp hh)
      simp [this, w.out x hx]
  · rw [if_neg hh]
    have hn : (Sum.inr s : Key) ∉ kvs.map (·.1) := fun z => hh (has_iff.mpr z)
    refine ⟨?_, fun kv hk => ?_, fun x hx => ?_⟩
    · rw [List.map_append, List.map_cons, List.map_nil]
      refine List.nodup_append.mpr ⟨w.nd, by simp, fun a ha b hb => ?_⟩
      simp at hb
      subst hb
      rintro rfl
      exact hn ha
    · rcases List.mem_append.mp hk with h5 | h5
      · obtain ⟨s', h2, rfl⟩ := w.ks kv h5
        have : s' ≠ s := by rintro rfl; exact hn (List.mem_map.mpr ⟨(Sum.inr s', P.int (f s')), h5, rfl⟩)
        exact ⟨s', h2, by simp [this]⟩
      · simp at h5
        subst h5
        exact ⟨s, hs, by simp⟩
    · rw [List.map_append, List.mem_append, not_or] at hx
      have : x ≠ s := by rintro rfl; exact hx.2 (by simp)
      simp [this, w.out x hx.1]
theorem wd_nil : WD [] (fun _ => 0) := ⟨List.nodup_nil, fun _ h => (nomatch h), fun _ _ => rfl⟩
theorem WD.congr (w : WD kvs f) (e : ∀ s, f s = h s) : WD kvs h := by
  have : f = h := funext e
  exact this ▸ w
/-- keys put one after another where none was -/
theorem fold_put : ∀ (xs : List Str) (acc : List Kv) (V : Str → P), xs.Nodup → (∀ s ∈ xs, (Sum.inr s : Key) ∉ acc.map (·.1)) → xs.foldl (fun a s => putP a (Sum.inr s : Key) (V s)) acc = acc ++ xs.map fun s => (Sum.inr s, V s)
  | [], acc, V, _, _ => by simp
  | s :: xs, acc, V, nd, h => by
    obtain ⟨n1, n2⟩ := List.nodup_cons.mp nd
    have h1 : ¬ hasP acc (Sum.inr s : Key) = true := fun z => h s List.mem_cons_self (has_iff.mp z)
    have e : putP acc (Sum.inr s : Key) (V s) = acc ++ [(Sum.inr s, V s)] := by unfold putP; rw [if_neg h1]
    rw [List.foldl_cons, e, fold_put xs _ V n2 fun x hx z => ?_]
    · simp
    · rw [List.map_append, List.mem_append] at z
      rcases z with z | z
      · exact h x (List.mem_cons_of_mem _ hx) z
      · simp at z
        subst z
        exact n1 hx
/-- equality of such dicts -/
theorem eqD_int (a b : Int) : eqD (.int a) (.int b) = some (decide (a = b)) := by
  unfold eqD
  simp only [toD]
  have h1 : SeqAt.shaped (.int a) = true := rfl
  have h2 : SeqAt.shaped (.int b) = true := rfl
  rw [h1, h2]
  simp only [Bool.and_self, if_true]
  congr 1
theorem hits_true : ∀ {l : List Kv}, WD kvs f → (∀ kv ∈ l, ∃ s ∈ nm4, kv = (Sum.inr s, P.int (f s)) ∧ (Sum.inr s : Key) ∈ kvs.map (·.1)) → hitsP kvs l = some true
  | [], _, _ => rfl
  | kv :: l, w, h => by
    obtain ⟨s, _, rfl, hin⟩ := h kv List.mem_cons_self
    unfold hitsP
    rw [w.val_in hin]
    dsimp only
    rw [eqD_int, hits_true w fun kv hk => h kv (List.mem_cons_of_mem _ hk)]
    simp
theorem WD.hits (w : WD kvs f) : hitsP kvs kvs = some true := hits_true w fun kv hk => by
  obtain ⟨s, h1, rfl⟩ := w.ks kv hk
  exact ⟨s, h1, rfl, List.mem_map.mpr ⟨_, hk, rfl⟩⟩
theorem WD.eq_self (w : WD kvs f) : eqP (.dic kvs) (.dic kvs) = some true := by
  unfold eqP
  dsimp only
  rw [w.hits]
  simp
theorem hits_some : ∀ {l : List Kv}, WD kvs f → (∀ kv ∈ l, ∃ s ∈ nm4, ∃ i, kv = (Sum.inr s, P.int i)) → ∃ b, hitsP kvs l = some b
  | [], _, _ => ⟨true, rfl⟩
  | kv :: l, w, h => by
    obtain ⟨s, _, i, rfl⟩ := h kv List.mem_cons_self
    obtain ⟨b, e⟩ := hits_some w fun kv hk => h kv (List.mem_cons_of_mem _ hk)
    unfold hitsP
    by_cases hin : (Sum.inr s : Key) ∈ kvs.map (·.1)
    · rw [w.val_in hin]
      dsimp only
      rw [eqD_int, e]
      exact ⟨_, rfl⟩
    · rw [val_out hin]
      exact ⟨false, rfl⟩
theorem WD.eq_some (w : WD kvs f) (w2 : WD ls h) : ∃ b, eqP (.dic kvs) (.dic ls) = some b := by
  obtain ⟨b, e⟩ := hits_some w2 (l := kvs) fun kv hk => let ⟨s, h1, h2⟩ := w.ks kv hk; ⟨s, h1, _, h2⟩
  unfold eqP
  dsimp only
  rw [e]
  exact ⟨_, rfl⟩
theorem eq_nil : eqP (.dic kvs) (.dic []) = some kvs.isEmpty := by
  cases kvs with
  | nil => rfl
  | cons kv l =>
    obtain ⟨k, x⟩ := kv
    unfold eqP
    dsimp only
    unfold hitsP
    rfl
theorem eq_bl (a b : Bool) : eqP (.bl a) (.bl b) = some (a == b) := by cases a <;> cases b <;> rfl
theorem eq_int (a b : Int) : eqP (.int a) (.int b) = some (decide (a = b)) := eqD_int a b
theorem eq_names (p : Str → Bool) : eqP (.lst ((nm4.filter p).map .str)) (.lst ((nm4.filter p).map .str)) = some true := by
  simp only [nm4, List.filter_cons, List.filter_nil]
  split <;> split <;> split <;> split <;> decide +kernel
theorem pl_keys : (pl f).map (fun kv => pKey kv.1) = (nm4.filter fun s => f s != 0).map .str := by
  unfold pl
  rw [List.map_map]
  rfl
end Pi

/-! Pm2: the defs computed, one after another. -/
namespace Pi
open PySem PySem.Spec L2 PyProof.Rows
section
variable {t : Gf} {n : Nat} {kvs ls : List Kv} {f h : Str → Int}
theorem d0 : dsF t 0 = ⟨1, 1, bd0 t⟩ := rfl
theorem d1 : dsF t 1 = ⟨1, 1, bd1 t⟩ := rfl
theorem d2 : dsF t 2 = ⟨3, 2, bd2 t⟩ := rfl
theorem d3 : dsF t 3 = ⟨1, 1, bd3 t⟩ := rfl
theorem d4 : dsF t 4 = ⟨2, 2, bd4 t⟩ := rfl
theorem d5 : dsF t 5 = ⟨2, 2, bd5 t⟩ := rfl
theorem d6 : dsF t 6 = ⟨2, 2, bd6 t⟩ := rfl
theorem d7 : dsF t 7 = ⟨2, 2, bd7 t⟩ := rfl
theorem d8 : dsF t 8 = ⟨3, 2, bd8 t⟩ := rfl
theorem d9 : dsF t 9 = ⟨1, 1, bd9 t⟩ := rfl
theorem d10 : dsF t 10 = ⟨2, 2, bd10 t⟩ := rfl
theorem d11 : dsF t 11 = ⟨2, 2, bd11 t⟩ := rfl
theorem d12 : dsF t 12 = ⟨3, 1, bd12 t⟩ := rfl
theorem d13 : dsF t 13 = ⟨5, 3, bd13 t⟩ := rfl
theorem d14 : dsF t 14 = ⟨2, 2, bd14 t⟩ := rfl
theorem d15 : dsF t 15 = ⟨4, 3, bd15 t⟩ := rfl
theorem d16 : dsF t 16 = ⟨7, 3, bd16 t⟩ := rfl
theorem d17 : dsF t 17 = ⟨4, 2, bd17 t⟩ := rfl
theorem d18 : dsF t 18 = ⟨3, 1, bd18 t⟩ := rfl
theorem d19 : dsF t 19 = ⟨2, 1, bd19 t⟩ := rfl
theorem d20 : dsF t 20 = ⟨4, 2, bd20 t⟩ := rfl
theorem d21 : dsF t 21 = ⟨2, 2, bd21 t⟩ := rfl
theorem d22 : dsF t 22 = ⟨10, 1, bd22 t⟩ := rfl
theorem d23 : dsF t 23 = ⟨2, 1, bd23 t⟩ := rfl
theorem rf_at {k nn np : Nat} {bd : CF → MS} {ss : En} (hd : dsF t k = ⟨nn, np, bd⟩) (hl : ss.length = np) (hle : np ≤ nn) (hf : lentFix ss = true) : runF (dsF t) (n + 1) k ss = finS ss (bd (runF (dsF t) n) (ss ++ List.replicate (nn - np) .no)) := by
  show (if ss.length = (dsF t k).np ∧ (dsF t k).np ≤ (dsF t k).nn ∧ lentFix ss = true then finS ss ((dsF t k).bd (runF (dsF t) n) (ss ++ List.replicate ((dsF t k).nn - (dsF t k).np) .no)) else .bad) = _
  rw [hd, if_pos ⟨hl, hle, hf⟩]
theorem is_whole_int (i : Int) : runF (dsF t) (n + 1) 1 [.val (.int i) false] = .ok (.val (.bl true)) [.val (.int i) false] := by
  rw [rf_at d1 rfl (by decide) rfl]
  simp [seqM, ifM, nextM, retM, setM, exprM, varM, conM, bin0, binM, recv, opAt, opM, opM1, M.cons, M.pure, peeks, peek, opP, O1.r, notB, notM, orM, andM, andV, orV, tM, truthM, attrM, callM, methM, applyM, applyS, slotsOf, slotR, fresh1, notAt, backE, lentAt, backS, finS, backP, bindR, free1, freeze, Sl.fix, C.p, List.mapIdx_cons, List.mapIdx_nil, bd1, p_isa, isaP, ty_int, ty_bool, isB]
theorem nm_ok (s : Str) (h : s ∈ nm4) : s.length ≤ 8 ∧ Txt.isascii s = true ∧ Txt.isalpha s = true ∧ Txt.islower s = true := by
  simp only [nm4, List.mem_cons, List.not_mem_nil, or_false] at h
  rcases h with rfl | rfl | rfl | rfl <;> decide +kernel
theorem is_name_of (s : Str) (h : s ∈ nm4) : runF (dsF t) (n + 1) 0 [.val (.str s) false] = .ok (.val (.bl true)) [.val (.str s) false] := by
  obtain ⟨h1, h2, h3, h4⟩ := nm_ok s h
  have h5 : s.length ≤ lim := by unfold lim; omega
  have h6 : ¬ (8 : Int) < (s.length : Int) := by omega
  rw [rf_at d0 rfl (by decide) rfl]
  simp [seqM, ifM, nextM, retM, setM, exprM, varM, conM, bin0, binM, recv, opAt, opM, opM1, M.cons, M.pure, peeks, peek, opP, O1.r, notB, notM, orM, andM, andV, orV, tM, truthM, attrM, callM, methM, applyM, applyS, slotsOf, slotR, fresh1, notAt, backE, lentAt, backS, finS, backP, bindR, free1, freeze, Sl.fix, C.p, List.mapIdx_cons, List.mapIdx_nil, bd0, p_isa, isaP, ty_str, isB, p_gt, p_len, h5, h6, strM, p_isascii, p_isalpha, p_islower, h2, h3, h4]
theorem lc_pure {p : Pat} {vs : List Nat} {mt : M Bool} {me : M R} {env : En} (T : P → Bool) (E : P → P) : ∀ (xs acc : List P), (∀ x ∈ xs, ∃ e1, bindP p x (wipeE env vs) = some e1 ∧ mt e1 = .ok (T x) e1 ∧ (T x = true → me e1 = .ok (.val (E x)) e1) ∧ backV e1 env vs = env) →
    acc.length + xs.length ≤ lim → lcLoop p vs mt me xs acc env = .ok (.new (.lst (acc ++ (xs.filter T).map E))) env
  | [], acc, _, _ => by simp [lcLoop]
  | x :: xs, acc, h, hl => by
    obtain ⟨e1, h1, h2, h3, h4⟩ := h x List.mem_cons_self
    have ih := fun acc hl => lc_pure T E xs acc (fun y hy => h y (List.mem_cons_of_mem _ hy)) hl
    unfold lcLoop
    rw [h1]
    dsimp only
    rw [h2]
    dsimp only
    simp only [List.length_cons] at hl
    cases hT : T x with
    | false =>
      rw [if_neg Bool.false_ne_true, h4, ih acc (by omega)]
      simp [List.filter_cons, hT]
    | true =>
      rw [if_pos rfl, h3 hT]
      simp only [freeze]
      rw [if_pos (by omega), h4, ih _ (by simp; omega)]
      simp [List.filter_cons, hT]
theorem key_p (k : Key) : keyP (pKey k) = some k := by cases k <;> rfl
theorem put_len (l : List Kv) (k : Key) (x : P) : (putP l k x).length ≤ l.length + 1 := by
  unfold putP
  split
  · simp
  · simp
theorem dc_pure {p : Pat} {vs : List Nat} {mt : M Bool} {mk mv : M R} {env : En} (T : P → Bool) (K : P → Key) (V : P → P) : ∀ (xs : List P) (acc : List Kv), (∀ x ∈ xs, ∃ e1, bindP p x (wipeE env vs) = some e1 ∧ mt e1 = .ok (T x) e1 ∧ (T x = true → mk e1 = .ok (.val (pKey (K x))) e1 ∧ mv e1 = .ok (.val (V x)) e1) ∧ backV e1 env vs = env) →
    acc.length + xs.length ≤ lim → dcLoop p vs mt mk mv xs acc env = .ok (.new (.dic ((xs.filter T).foldl (fun a x => putP a (K x) (V x)) acc))) env
  | [], acc, _, _ => by simp [dcLoop]
  | x :: xs, acc, h, hl => by
    obtain ⟨e1, h1, h2, h3, h4⟩ := h x List.mem_cons_self
    have ih := fun acc hl => dc_pure T K V xs acc (fun y hy => h y (List.mem_cons_of_mem _ hy)) hl
    unfold dcLoop
    rw [h1]
    dsimp only
    rw [h2]
    dsimp only
    simp only [List.length_cons] at hl
    cases hT : T x with
    | false =>
      rw [if_neg Bool.false_ne_true, h4, ih acc (by omega)]
      simp [List.filter_cons, hT]
    | true =>
      obtain ⟨h5, h6⟩ := h3 hT
      rw [if_pos rfl, h5]
      simp only [key_p]
      rw [h6]
      simp only [freeze]
      have := put_len acc (K x) (V x)
      rw [if_pos (by omega), h4, ih _ (by omega)]
      simp [List.filter_cons, hT]
/-- a slot with a dict -/
def DS (S : Sl) (kvs : List Kv) : Prop := S = .val (.dic kvs) false ∨ S = .own (.dic kvs) true
def fz (S : Sl) : Sl := match S with
  | .own c f => .val c.p f
  | s => s
def cm12 (cf : CF) : M R := lcM (itemsM (varM 0)) (.tup2 1 2) [1, 2] (M.pure true) (andV (callM cf 0 [] (M.cons (varM 1) (M.pure []))) (callM cf 1 [] (M.cons (varM 2) (M.pure []))))
theorem cm12_ok (w : WD kvs f) {S : Sl} (hS : DS S kvs) : cm12 (runF (dsF t) (n + 1)) [S, .no, .no] = .ok (.new (.lst (kvs.map fun _ => .bl true))) [fz S, .no, .no] := by
  have hl := w.len
  have hi : itemsM (varM 0) [S, .no, .no] = .ok (kvs.map fun kv => .tup [pKey kv.1, kv.2]) [fz S, .no, .no] := by
    rcases hS with rfl | rfl <;> simp [itemsM, varM, freeze, fz, C.p]
  unfold cm12 lcM
  rw [hi]
  dsimp only
  rw [if_pos (by rcases hS with rfl | rfl <;> exact ⟨rfl, rfl⟩), lc_pure (fun _ => true) (fun _ => .bl true) _ [] (fun x hx => ?_) (by simp [lim]; omega)]
  · rw [List.filter_eq_self.mpr (fun _ _ => rfl), List.nil_append, List.map_map]
    rfl
  · obtain ⟨kv, hk, rfl⟩ := List.mem_map.mp hx
    obtain ⟨s, hs, rfl⟩ := w.ks kv hk
    refine ⟨[fz S, .val (.str s) false, .val (.int (f s)) false], ?_, rfl, fun _ => ?_, ?_⟩
    · rcases hS with rfl | rfl <;> rfl
    · have e1 := is_name_of (t := t) (n := n) s hs
      have e2 := is_whole_int (t := t) (n := n) (f s)
      rcases hS with rfl | rfl <;> simp [seqM, ifM, nextM, retM, setM, exprM, varM, conM, bin0, binM, recv, opAt, opM, opM1, M.cons, M.pure, peeks, peek, opP, O1.r, notB, notM, orM, andM, andV, orV, tM, truthM, attrM, callM, methM, applyM, applyS, slotsOf, slotR, fresh1, notAt, backE, lentAt, backS, finS, backP, bindR, free1, freeze, Sl.fix, C.p, List.mapIdx_cons, List.mapIdx_nil, fz, e1, e2]
    · rcases hS with rfl | rfl <;> rfl
theorem bls_true {A : Type} : ∀ l : List A, bls (l.map fun _ => .bl true) = some (l.map fun _ => true)
  | [] => rfl
  | _ :: l => by
    show (bls (l.map fun _ => .bl true)).map (true :: ·) = _
    rw [bls_true l]
    rfl
theorem ispow (w : WD kvs f) {S : Sl} (hS : DS S kvs) : runF (dsF t) (n + 2) 12 [S] = .ok (.val (.bl true)) [fz S] := by
  have hb : ∀ cf, bd12 t cf = seqM (ifM (notM (tM t cf (opM1 (.isa ty_dict) (varM 0)))) (retM (conM (.bl false))) nextM) (retM (opM (opP .all1) (M.cons (cm12 cf) (M.pure [])))) := fun _ => rfl
  have e := cm12_ok (t := t) (n := n) w hS
  rcases hS with rfl | rfl <;> rw [rf_at d12 rfl (by decide) rfl] <;> simp [seqM, ifM, nextM, retM, setM, exprM, varM, conM, bin0, binM, recv, opAt, opM, opM1, M.cons, M.pure, peeks, peek, opP, O1.r, notB, notM, orM, andM, andV, orV, tM, truthM, attrM, callM, methM, applyM, applyS, slotsOf, slotR, fresh1, notAt, backE, lentAt, backS, finS, backP, bindR, free1, freeze, Sl.fix, C.p, List.mapIdx_cons, List.mapIdx_nil, hb, p_isa, isaP, ty_dict, isB, p_all1, e, bls_true, fz] <;> simp [fz]
end
end Pi

/-! Pm3: units computed. -/
namespace Pi
open PySem PySem.Spec L2 PyProof.Rows
section
variable {t : Gf} {n : Nat} {kvs ls : List Kv} {f h : Str → Int}
def tS (f : Str → Int) : P → Bool
  | .str s => f s != 0
  | _ => false
def kS : P → Key
  | .str s => .inr s
  | _ => .inl 0
def vS (f : Str → Int) : P → P
  | .str s => .int (f s)
  | _ => .non
theorem keysL_in {s : Str} (hs : s ∈ keysL kvs) : (Sum.inr s : Key) ∈ kvs.map (·.1) := has_iff.mp (List.mem_filter.mp hs).2
theorem WD.fold (w : WD kvs f) : (((keysL kvs).map P.str).filter (tS f)).foldl (fun a x => putP a (kS x) (vS f x)) ([] : List Kv) = pl f := by
  rw [List.filter_map, List.foldl_map]
  have e : (keysL kvs).filter (tS f ∘ P.str) = nm4.filter fun s => f s != 0 := w.nonzero
  rw [e]
  have := fold_put (nm4.filter fun s => f s != 0) [] (fun s => .int (f s)) (nm_nodup.filter _) (fun s _ z => by simp at z)
  rw [List.nil_append] at this
  exact this
/-- the sorted names of a dict in slot i -/
theorem sorted_it (w : WD kvs f) {env : En} {i : Nat} {fl : Bool} (hi : env[i]? = some (.val (.dic kvs) fl)) : iterM (opM (opP .sorted) (M.cons (varM i) (M.pure []))) env = .ok ((keysL kvs).map .str) env := by
  obtain ⟨ks, h1, h2, h3, _⟩ := w.sorted
  simp [iterM, seqM, ifM, nextM, retM, setM, exprM, varM, conM, bin0, binM, recv, opAt, opM, opM1, M.cons, M.pure, peeks, peek, opP, O1.r, notB, notM, orM, andM, andV, orV, tM, truthM, attrM, callM, methM, applyM, applyS, slotsOf, slotR, fresh1, notAt, backE, lentAt, backS, finS, backP, bindR, free1, freeze, Sl.fix, C.p, List.mapIdx_cons, List.mapIdx_nil, hi, p_sorted, h1, h2, h3]
theorem ix_at (w : WD kvs f) {cf : CF} {env : En} {i k : Nat} {fl gl : Bool} {s : Str} (hi : env[i]? = some (.val (.dic kvs) fl)) (hk : env[k]? = some (.val (.str s) gl)) (hs : (Sum.inr s : Key) ∈ kvs.map (·.1)) : binM t cf .ix "__getitem__" true (varM i) (varM k) env = .ok (.val (.int (f s))) env := by
  simp [seqM, ifM, nextM, retM, setM, exprM, varM, conM, bin0, binM, recv, opAt, opM, opM1, M.cons, M.pure, peeks, peek, opP, O1.r, notB, notM, orM, andM, andV, orV, tM, truthM, attrM, callM, methM, applyM, applyS, slotsOf, slotR, fresh1, notAt, backE, lentAt, backS, finS, backP, bindR, free1, freeze, Sl.fix, C.p, List.mapIdx_cons, List.mapIdx_nil, hi, hk, p_ix, keyP, w.val_in hs]
def cd2 (t : Gf) (cf : CF) : M R := dcM (iterM (opM (opP .sorted) (M.cons (varM 1) (M.pure [])))) (.var 2) [2] (tM t cf (bin0 .ne (binM t cf .ix "__getitem__" true (varM 1) (varM 2)) (conM (.int 0)))) (varM 2) (binM t cf .ix "__getitem__" true (varM 1) (varM 2))
theorem cd2_ok (w : WD kvs f) {cf : CF} {O : Sl} {fl : Bool} : cd2 t cf [O, .val (.dic kvs) fl, .no] = .ok (.new (.dic (pl f))) [O, .val (.dic kvs) fl, .no] := by
  have hl : (keysL kvs).length ≤ 4 := List.length_filter_le _ _
  unfold cd2 dcM
  rw [sorted_it w rfl]
  dsimp only
  rw [if_pos (by exact ⟨rfl, rfl⟩), dc_pure (tS f) kS (vS f) _ [] (fun x hx => ?_) (by simp [lim]; omega), w.fold]
  obtain ⟨s, hs, rfl⟩ := List.mem_map.mp hx
  have e := ix_at (t := t) w (cf := cf) (env := [O, .val (.dic kvs) fl, .val (.str s) false]) (i := 1) (k := 2) rfl rfl (keysL_in hs)
  refine ⟨[O, .val (.dic kvs) fl, .val (.str s) false], rfl, ?_, fun _ => ⟨rfl, e⟩, rfl⟩
  unfold tM bin0 opM M.cons
  rw [e]
  simp [seqM, ifM, nextM, retM, setM, exprM, varM, conM, bin0, binM, recv, opAt, opM, opM1, M.cons, M.pure, peeks, peek, opP, O1.r, notB, notM, orM, andM, andV, orV, tM, truthM, attrM, callM, methM, applyM, applyS, slotsOf, slotR, fresh1, notAt, backE, lentAt, backS, finS, backP, bindR, free1, freeze, Sl.fix, C.p, List.mapIdx_cons, List.mapIdx_nil, p_ne, eq_int, tS]
  by_cases z : f s = 0 <;> simp [z]
def uo (f : Str → Int) : C := .obj 0 [("_powers", .dic (pl f))]
theorem att_p (ta : t.att = attF) : t.att 0 "_powers" = some .fld := by rw [ta]; rfl
theorem vp (x : P) : valP [(("_powers" : Str), x)] "_powers" = some x := by simp [valP]
theorem init_ok (ta : t.att = attF) (w : WD kvs f) {S : Sl} (hS : DS S kvs) : runF (dsF t) (n + 3) 2 [.own (.obj 0 []) true, S] = .ok (.val .non) [.own (uo f) true, fz S] := by
  have hb : ∀ cf, bd2 t cf = seqM (ifM (notM (tM t cf (callM cf 12 [] (M.cons (varM 1) (M.pure []))))) neverM nextM) (fldM t "_powers" (cd2 t cf) (varM 0)) := fun _ => rfl
  have e := ispow (t := t) (n := n) w hS
  have c1 := fun cf => cd2_ok (t := t) (cf := cf) (O := .own (.obj 0 []) true) (fl := false) w
  have c2 := fun cf => cd2_ok (t := t) (cf := cf) (O := .own (.obj 0 []) true) (fl := true) w
  rcases hS with rfl | rfl
  · have e' : runF (dsF t) (n + 2) 12 [.val (.dic kvs) false] = .ok (.val (.bl true)) [.val (.dic kvs) false] := e
    rw [rf_at d2 rfl (by decide) rfl]
    simp [seqM, ifM, nextM, retM, setM, exprM, varM, conM, bin0, binM, recv, opAt, opM, opM1, M.cons, M.pure, peeks, peek, opP, O1.r, notB, notM, orM, andM, andV, orV, tM, truthM, attrM, callM, methM, applyM, applyS, slotsOf, slotR, fresh1, notAt, backE, lentAt, backS, finS, backP, bindR, free1, freeze, Sl.fix, C.p, List.mapIdx_cons, List.mapIdx_nil, hb, e', fldM, c1, heldC, putC, att_p ta, putS, uo, fz]
  · have e' : runF (dsF t) (n + 2) 12 [.own (.dic kvs) true] = .ok (.val (.bl true)) [.val (.dic kvs) true] := e
    rw [rf_at d2 rfl (by decide) rfl]
    simp [seqM, ifM, nextM, retM, setM, exprM, varM, conM, bin0, binM, recv, opAt, opM, opM1, M.cons, M.pure, peeks, peek, opP, O1.r, notB, notM, orM, andM, andV, orV, tM, truthM, attrM, callM, methM, applyM, applyS, slotsOf, slotR, fresh1, notAt, backE, lentAt, backS, finS, backP, bindR, free1, freeze, Sl.fix, C.p, List.mapIdx_cons, List.mapIdx_nil, hb, e', fldM, c2, heldC, putC, att_p ta, putS, uo, fz]
/-- a unit in a slot -/
def US (S : Sl) (f : Str → Int) : Prop := S = .own (uo f) true ∨ S = .val (uo f).p false
theorem isU (S : List (Str × P)) : isaP ty_Unit (.obj 0 S) = some true := rfl
theorem powers_ok (ta : t.att = attF) {S : Sl} (hS : US S f) : runF (dsF t) (n + 1) 3 [S] = .ok (.new (.dic (pl f))) [S] := by
  rcases hS with rfl | rfl <;> rw [rf_at d3 rfl (by decide) rfl] <;> simp [seqM, ifM, nextM, retM, setM, exprM, varM, conM, bin0, binM, recv, opAt, opM, opM1, M.cons, M.pure, peeks, peek, opP, O1.r, notB, notM, orM, andM, andV, orV, tM, truthM, attrM, callM, methM, applyM, applyS, slotsOf, slotR, fresh1, notAt, backE, lentAt, backS, finS, backP, bindR, free1, freeze, Sl.fix, C.p, List.mapIdx_cons, List.mapIdx_nil, bd3, uo, att_p ta, vp, p_dict1]
theorem eq_ok (ta : t.att = attF) {S T : Sl} (hS : US S f) (hT : US T h) {b : Bool} (e : eqP (.dic (pl f)) (.dic (pl h)) = some b) : runF (dsF t) (n + 1) 4 [S, T] = .ok (.val (.bl b)) [S, T] := by
  rcases hS with rfl | rfl <;> rcases hT with rfl | rfl <;> rw [rf_at d4 rfl (by decide) rfl] <;> simp [seqM, ifM, nextM, retM, setM, exprM, varM, conM, bin0, binM, recv, opAt, opM, opM1, M.cons, M.pure, peeks, peek, opP, O1.r, notB, notM, orM, andM, andV, orV, tM, truthM, attrM, callM, methM, applyM, applyS, slotsOf, slotR, fresh1, notAt, backE, lentAt, backS, finS, backP, bindR, free1, freeze, Sl.fix, C.p, List.mapIdx_cons, List.mapIdx_nil, bd4, uo, att_p ta, vp, p_isa, isU, p_eq, e]
theorem bool_ok (ta : t.att = attF) {S : Sl} (hS : US S f) : runF (dsF t) (n + 1) 9 [S] = .ok (.val (.bl (!(pl f).isEmpty))) [S] := by
  rcases hS with rfl | rfl <;> rw [rf_at d9 rfl (by decide) rfl] <;> simp [seqM, ifM, nextM, retM, setM, exprM, varM, conM, bin0, binM, recv, opAt, opM, opM1, M.cons, M.pure, peeks, peek, opP, O1.r, notB, notM, orM, andM, andV, orV, tM, truthM, attrM, callM, methM, applyM, applyS, slotsOf, slotR, fresh1, notAt, backE, lentAt, backS, finS, backP, bindR, free1, freeze, Sl.fix, C.p, List.mapIdx_cons, List.mapIdx_nil, bd9, uo, att_p ta, vp, boolM]
theorem has_ok (ta : t.att = attF) {S : Sl} (hS : US S f) (s : Str) : runF (dsF t) (n + 1) 10 [S, .val (.str s) false] = .ok (.val (.bl (hasP (pl f) (Sum.inr s)))) [S, .val (.str s) false] := by
  rcases hS with rfl | rfl <;> rw [rf_at d10 rfl (by decide) rfl] <;> simp [seqM, ifM, nextM, retM, setM, exprM, varM, conM, bin0, binM, recv, opAt, opM, opM1, M.cons, M.pure, peeks, peek, opP, O1.r, notB, notM, orM, andM, andV, orV, tM, truthM, attrM, callM, methM, applyM, applyS, slotsOf, slotR, fresh1, notAt, backE, lentAt, backS, finS, backP, bindR, free1, freeze, Sl.fix, C.p, List.mapIdx_cons, List.mapIdx_nil, bd10, uo, att_p ta, vp, inM, p_isin, keyP]
theorem item_ok' (ta : t.att = attF) (hf : ∀ s, s ∉ nm4 → f s = 0) {S : Sl} (hS : US S f) (s : Str) : runF (dsF t) (n + 1) 11 [S, .val (.str s) false] = .ok (.val (.int (f s))) [S, .val (.str s) false] := by
  have e := (pl_wd hf).getD s
  rcases hS with rfl | rfl <;> rw [rf_at d11 rfl (by decide) rfl] <;> simp [seqM, ifM, nextM, retM, setM, exprM, varM, conM, bin0, binM, recv, opAt, opM, opM1, M.cons, M.pure, peeks, peek, opP, O1.r, notB, notM, orM, andM, andV, orV, tM, truthM, attrM, callM, methM, applyM, applyS, slotsOf, slotR, fresh1, notAt, backE, lentAt, backS, finS, backP, bindR, free1, freeze, Sl.fix, C.p, List.mapIdx_cons, List.mapIdx_nil, bd11, uo, att_p ta, vp, get2M, p_get2, isSc, keyP, e]
end
end Pi

/-! Pm4: products, quotients, powers computed. -/
namespace Pi
open PySem PySem.Spec L2 PyProof.Rows
section
variable {t : Gf} {n : Nat} {kvs ls k1 k2 : List Kv} {f h : Str → Int} {env e : En}
theorem WD.names (w : WD kvs f) : ∃ ks : List Str, kvs.map (fun kv => pKey kv.1) = ks.map .str ∧ ks.Nodup ∧ (∀ s ∈ ks, s ∈ nm4) ∧ (∀ s, s ∈ ks ↔ (Sum.inr s : Key) ∈ kvs.map (·.1)) ∧ ks.length ≤ 4 := by
  obtain ⟨ks, _, _, _, e, hl⟩ := w.sorted
  have inj : ∀ s, (Sum.inr s : Key) ∈ ks.map Sum.inr ↔ s ∈ ks := fun s => ⟨fun z => by obtain ⟨a, h1, h2⟩ := List.mem_map.mp z; cases h2; exact h1, fun z => List.mem_map.mpr ⟨s, z, rfl⟩⟩
  refine ⟨ks, ?_, nodup_of_map (f := (Sum.inr : Str → Key)) (by rw [← e]; exact w.nd), fun s hs => w.mem4 (by rw [e]; exact (inj s).mpr hs), fun s => by rw [e]; exact (inj s).symm, hl⟩
  have : kvs.map (fun kv => pKey kv.1) = (kvs.map (·.1)).map pKey := by rw [List.map_map]; rfl
  rw [this, e, List.map_map]
  rfl
/-- a loop that stores at each name once -/
theorem loop_put {p : Pat} {body : MS} {E : List Kv → Sl → En} {v : Int → Str → Int} : ∀ (xs : List Str), xs.Nodup → (∀ s ∈ xs, s ∈ nm4) → (∀ tot ns s, ns.fix = false → bindP p (.str s) (E tot ns) = some (E tot (.val (.str s) false))) →
    (∀ tot h s, s ∈ xs → WD tot h → body (E tot (.val (.str s) false)) = .nx (E (putP tot (Sum.inr s) (.int (v (h s) s))) (.val (.str s) false))) → ∀ tot h ns, ns.fix = false → WD tot h →
    ∃ tot' ns', loopM p body (xs.map .str) (E tot ns) = .nx (E tot' ns') ∧ ns'.fix = false ∧ WD tot' (fun s => if s ∈ xs then v (h s) s else h s)
  | [], _, _, _, _, tot, h, ns, hn, w => ⟨tot, ns, rfl, hn, w.congr fun s => by simp⟩
  | x :: xs, nd, hm, hp, hb, tot, h, ns, hn, w => by
    obtain ⟨n1, n2⟩ := List.nodup_cons.mp nd
    obtain ⟨tot', ns', e1, e2, e3⟩ := loop_put (E := E) (v := v) xs n2 (fun s hs => hm s (List.mem_cons_of_mem _ hs)) hp (fun tot h s hs => hb tot h s (List.mem_cons_of_mem _ hs)) _ _ (.val (.str x) false) rfl (w.put (hm x List.mem_cons_self) (v (h x) x))
    refine ⟨tot', ns', ?_, e2, e3.congr fun s => ?_⟩
    · rw [List.map_cons]
      unfold loopM
      rw [hp tot ns x hn]
      dsimp only
      rw [hb tot h x List.mem_cons_self w]
      exact e1
    · by_cases z : s = x
      · subst z; simp [n1]
      · simp [z]
theorem added_ok (w : WD k1 f) (w2 : WD k2 h) {c : Int} (hc : -18446744073709551616 < c ∧ c < 18446744073709551616) : ∃ k3, runF (dsF t) (n + 1) 13 [.val (.dic k1) false, .val (.dic k2) false, .val (.int c) false] = .ok (.new (.dic k3)) [.val (.dic k1) false, .val (.dic k2) false, .val (.int c) false] ∧ WD k3 (fun s => f s + c * h s) := by
  obtain ⟨ks, e1, e2, e3, e4, e5⟩ := w2.names
  obtain ⟨k3, ns, e6, e7, e8⟩ := loop_put (p := .var 4) (body := itemM (bin0 .add (get2M (varM 3) (varM 4) (conM (.int 0))) (binM t (runF (dsF t) n) .mul "__mul__" false (varM 2) (binM t (runF (dsF t) n) .ix "__getitem__" true (varM 1) (varM 4)))) (varM 3) (varM 4))
    (E := fun tot ns => [.val (.dic k1) false, .val (.dic k2) false, .val (.int c) false, .own (.dic tot) false, ns]) (v := fun i s => i + c * h s) ks e2 e3 (fun tot ns s hn => by simp [bindP, bindR, free1, hn]) (fun tot g s hs wt => by
      have i1 := ix_at (t := t) (cf := runF (dsF t) n) w2 (env := [.val (.dic k1) false, .val (.dic k2) false, .val (.int c) false, .own (.dic tot) false, .val (.str s) false]) (i := 1) (k := 4) rfl rfl ((e4 s).mp hs)
      have i2 := wt.getD s
      have i3 : tot.length < lim := Nat.lt_of_le_of_lt wt.len (by decide)
      unfold itemM bin0 opM M.cons M.pure
      unfold binM at i1 ⊢
      simp [get2M, seqM, ifM, nextM, retM, setM, exprM, varM, conM, bin0, binM, recv, opAt, opM, opM1, M.cons, M.pure, peeks, peek, opP, O1.r, notB, notM, orM, andM, andV, orV, tM, truthM, attrM, callM, methM, applyM, applyS, slotsOf, slotR, fresh1, notAt, backE, lentAt, backS, finS, backP, bindR, free1, freeze, Sl.fix, C.p, List.mapIdx_cons, List.mapIdx_nil, i2, p_get2, isSc, keyP, p_mul, p_add, p_ix, w2.val_in ((e4 s).mp hs), hc.1, hc.2, itemPut, heldC, putC, i3]) k1 f .no rfl w
  refine ⟨k3, ?_, e8.congr fun s => ?_⟩
  · rw [rf_at d13 rfl (by decide) rfl]
    simp [bd13, forM, iterM, seqM, setM, retM, varM, opM, M.cons, M.pure, peeks, peek, opP, p_dict1, O1.r, bindR, free1, Sl.fix, freeze, e1, e6, finS, backP]
  · by_cases z : s ∈ ks
    · simp [z]
    · simp [z, w2.out s fun q => z ((e4 s).mpr q)]
end
end Pi

/-! Pm5: new units, products, quotients, powers. -/
namespace Pi
open PySem PySem.Spec L2 PyProof.Rows
section
variable {t : Gf} {n : Nat} {kvs ls k1 k2 : List Kv} {f h : Str → Int} {env e : En}
theorem backS_none (s : Sl) : backS s none = s := by cases s <;> rfl
theorem backE_id {rs : List R} {ss : List Sl} (h : ∀ j, lentAt rs ss j = none) : backE env rs ss = env := by
  refine List.ext_getElem? fun j => ?_
  rw [backE_get, h]
  cases env[j]? with
  | none => rfl
  | some s => simp [backS_none]
theorem backE_set {rs : List R} {ss : List Sl} {i : Nat} {s s' : Sl} (hi : env[i]? = some s) (h1 : backS s (lentAt rs ss i) = s') (h : ∀ j, j ≠ i → lentAt rs ss j = none) : backE env rs ss = env.set i s' := by
  refine List.ext_getElem? fun j => ?_
  rw [backE_get]
  by_cases z : j = i
  · subst z
    have : j < env.length := (List.getElem?_eq_some_iff.mp hi).1
    rw [hi, List.getElem?_set_self this]
    simp [h1]
  · rw [List.getElem?_set_ne (Ne.symm z), h j z]
    cases env[j]? with
    | none => rfl
    | some s => simp [backS_none]
theorem init0 (ti : t.init = initF) : t.init 0 = some 2 := by rw [ti]; rfl
theorem new_new (ta : t.att = attF) (ti : t.init = initF) (w : WD kvs f) {me : M R} (hm : me env = .ok (.new (.dic kvs)) e) : newM t (runF (dsF t) (n + 3)) 0 (M.cons me (M.pure [])) env = .ok (.new (uo f)) e := by
  have i := init_ok (t := t) (n := n) ta w (S := .own (.dic kvs) true) (.inr rfl)
  have b : backE e [.new (.dic kvs)] [fz (.own (.dic kvs) true)] = e := backE_id fun j => rfl
  unfold uo at i
  simp only [newM, M.cons, M.pure, hm, init0 ti, slotsOf, slotR, fresh1, if_true, i, b]
  rfl
theorem new_val (ta : t.att = attF) (ti : t.init = initF) (w : WD kvs f) {me : M R} (hm : me env = .ok (.val (.dic kvs)) e) : newM t (runF (dsF t) (n + 3)) 0 (M.cons me (M.pure [])) env = .ok (.new (uo f)) e := by
  have i := init_ok (t := t) (n := n) ta w (S := .val (.dic kvs) false) (.inl rfl)
  have b : backE e [.val (.dic kvs)] [fz (.val (.dic kvs) false)] = e := backE_id fun j => rfl
  unfold uo at i
  simp only [newM, M.cons, M.pure, hm, init0 ti, slotsOf, slotR, fresh1, if_true, i, b]
  rfl
theorem new_at (ta : t.att = attF) (ti : t.init = initF) (w : WD kvs f) {me : M R} {i : Nat} {fl : Bool} (hm : me env = .ok (.at i) e) (hi : e[i]? = some (.own (.dic kvs) fl)) : newM t (runF (dsF t) (n + 3)) 0 (M.cons me (M.pure [])) env = .ok (.new (uo f)) (e.set i (.val (.dic kvs) fl)) := by
  have ii := init_ok (t := t) (n := n) ta w (S := .own (.dic kvs) true) (.inr rfl)
  have b : backE e [.at i] [fz (.own (.dic kvs) true)] = e.set i (.val (.dic kvs) fl) := backE_set hi (by simp [lentAt, fz, backS, C.p]) fun j hj => by simp [lentAt, Ne.symm hj]
  unfold uo at ii
  simp only [newM, M.cons, M.pure, hm, init0 ti, slotsOf, slotR, hi, fresh1, notAt, if_true, ii, b]
  rfl
def ma5 (t : Gf) (cf : CF) (mc : M R) : M R := callM cf 13 [] (M.cons (attrM t cf "_powers" (varM 0)) (M.cons (attrM t cf "_powers" (varM 1)) (M.cons mc (M.pure []))))
theorem ma5_ok (ta : t.att = attF) {S T : Sl} (hS : US S f) (hT : US T h) (hf : ∀ s, s ∉ nm4 → f s = 0) (hh : ∀ s, s ∉ nm4 → h s = 0) {c : Int} {mc : M R} (hm : ∀ env, mc env = .ok (.val (.int c)) env) (hc : -18446744073709551616 < c ∧ c < 18446744073709551616) :
    ∃ k3, ma5 t (runF (dsF t) (n + 1)) mc [S, T] = .ok (.new (.dic k3)) [S, T] ∧ WD k3 (fun s => f s + c * h s) := by
  obtain ⟨k3, e1, e2⟩ := added_ok (t := t) (n := n) (pl_wd hf) (pl_wd hh) hc
  refine ⟨k3, ?_, e2⟩
  rcases hS with rfl | rfl <;> rcases hT with rfl | rfl <;> simp [ma5, seqM, ifM, nextM, retM, setM, exprM, varM, conM, bin0, binM, recv, opAt, opM, opM1, M.cons, M.pure, peeks, peek, opP, O1.r, notB, notM, orM, andM, andV, orV, tM, truthM, attrM, callM, methM, applyM, applyS, slotsOf, slotR, fresh1, notAt, backE, lentAt, backS, finS, backP, bindR, free1, freeze, Sl.fix, C.p, List.mapIdx_cons, List.mapIdx_nil, uo, att_p ta, vp, hm, e1]
theorem isUo : isaP ty_Unit (uo f).p = some true := rfl
theorem mul_ok (ta : t.att = attF) (ti : t.init = initF) {S T : Sl} (hS : US S f) (hT : US T h) (hf : ∀ s, s ∉ nm4 → f s = 0) (hh : ∀ s, s ∉ nm4 → h s = 0) : runF (dsF t) (n + 4) 5 [S, T] = .ok (.new (uo fun s => f s + 1 * h s)) [S, T] := by
  have hb : ∀ cf, bd5 t cf = seqM (ifM (notM (tM t cf (opM1 (.isa ty_Unit) (varM 1)))) neverM nextM) (retM (newM t cf 0 (M.cons (ma5 t cf (conM (.int 1))) (M.pure [])))) := fun _ => rfl
  obtain ⟨k3, e1, e2⟩ := ma5_ok (t := t) (n := n + 2) ta hS hT hf hh (c := 1) (mc := conM (.int 1)) (fun _ => rfl) (by decide)
  have e3 : newM t (runF (dsF t) (n + 3)) 0 (M.cons (ma5 t (runF (dsF t) (n + 3)) (conM (.int 1))) (M.pure [])) [S, T] = _ := new_new (n := n) ta ti e2 e1
  rcases hS with rfl | rfl <;> rcases hT with rfl | rfl <;> rw [rf_at d5 rfl (by decide) rfl, hb] <;> generalize newM t (runF (dsF t) (n + 3)) 0 (M.cons (ma5 t (runF (dsF t) (n + 3)) (conM (.int 1))) (M.pure [])) = nm at e3 ⊢ <;> simp [seqM, ifM, nextM, retM, setM, exprM, varM, conM, bin0, binM, recv, opAt, opM, opM1, M.cons, M.pure, peeks, peek, opP, O1.r, notB, notM, orM, andM, andV, orV, tM, truthM, attrM, callM, methM, applyM, applyS, slotsOf, slotR, fresh1, notAt, backE, lentAt, backS, finS, backP, bindR, free1, freeze, Sl.fix, List.mapIdx_cons, List.mapIdx_nil, p_isa, isUo, e3]
theorem fdiv_ok (ta : t.att = attF) (ti : t.init = initF) {S T : Sl} (hS : US S f) (hT : US T h) (hf : ∀ s, s ∉ nm4 → f s = 0) (hh : ∀ s, s ∉ nm4 → h s = 0) : runF (dsF t) (n + 4) 6 [S, T] = .ok (.new (uo fun s => f s + -1 * h s)) [S, T] := by
  have hb : ∀ cf, bd6 t cf = seqM (ifM (notM (tM t cf (opM1 (.isa ty_Unit) (varM 1)))) neverM nextM) (retM (newM t cf 0 (M.cons (ma5 t cf (opM1 .neg (conM (.int 1)))) (M.pure [])))) := fun _ => rfl
  obtain ⟨k3, e1, e2⟩ := ma5_ok (t := t) (n := n + 2) ta hS hT hf hh (c := -1) (mc := opM1 .neg (conM (.int 1))) (fun _ => rfl) (by decide)
  have e3 : newM t (runF (dsF t) (n + 3)) 0 (M.cons (ma5 t (runF (dsF t) (n + 3)) (opM1 .neg (conM (.int 1)))) (M.pure [])) [S, T] = _ := new_new (n := n) ta ti e2 e1
  rcases hS with rfl | rfl <;> rcases hT with rfl | rfl <;> rw [rf_at d6 rfl (by decide) rfl, hb] <;> generalize newM t (runF (dsF t) (n + 3)) 0 (M.cons (ma5 t (runF (dsF t) (n + 3)) (opM1 .neg (conM (.int 1)))) (M.pure [])) = nm at e3 ⊢ <;> simp [seqM, ifM, nextM, retM, setM, exprM, varM, conM, bin0, binM, recv, opAt, opM, opM1, M.cons, M.pure, peeks, peek, opP, O1.r, notB, notM, orM, andM, andV, orV, tM, truthM, attrM, callM, methM, applyM, applyS, slotsOf, slotR, fresh1, notAt, backE, lentAt, backS, finS, backP, bindR, free1, freeze, Sl.fix, List.mapIdx_cons, List.mapIdx_nil, p_isa, isUo, e3]
def cd8 (t : Gf) (cf : CF) : M R := dcM (iterM (attrM t cf "_powers" (varM 0))) (.var 2) [2] (M.pure true) (varM 2) (binM t cf .mul "__mul__" false (binM t cf .ix "__getitem__" true (attrM t cf "_powers" (varM 0)) (varM 2)) (varM 1))
def pw (f : Str → Int) (m : Int) : List Kv := (nm4.filter fun s => f s != 0).map fun s => (.inr s, .int (f s * m))
theorem pw_wd (m : Int) (hf : ∀ s, s ∉ nm4 → f s = 0) : WD (pw f m) (fun s => f s * m) := by
  refine ⟨?_, fun kv hk => ?_, fun s hs => ?_⟩
  · unfold pw
    rw [List.map_map]
    exact nodup_map (fun a b e => by cases e; rfl) (nm_nodup.filter _)
  · obtain ⟨s, h1, rfl⟩ := List.mem_map.mp hk
    exact ⟨s, (List.mem_filter.mp h1).1, rfl⟩
  · have : f s = 0 := Classical.byContradiction fun z => hs (by
      unfold pw
      rw [List.map_map]
      exact List.mem_map.mpr ⟨s, List.mem_filter.mpr ⟨Classical.byContradiction fun q => z (hf s q), by simpa using z⟩, rfl⟩)
    simp [this]
def vM (f : Str → Int) (m : Int) : P → P
  | .str s => .int (f s * m)
  | _ => .non
theorem cd8_ok (ta : t.att = attF) {S : Sl} (hS : US S f) (hf : ∀ s, s ∉ nm4 → f s = 0) {m : Int} (hm : -18446744073709551616 < m ∧ m < 18446744073709551616) {cf : CF} : cd8 t cf [S, .val (.int m) false, .no] = .ok (.new (.dic (pw f m))) [S, .val (.int m) false, .no] := by
  have hl : (nm4.filter fun s => f s != 0).length ≤ 4 := List.length_filter_le _ _
  have hi : iterM (attrM t cf "_powers" (varM 0)) [S, .val (.int m) false, .no] = .ok ((nm4.filter fun s => f s != 0).map .str) [S, .val (.int m) false, .no] := by
    rw [← pl_keys]
    rcases hS with rfl | rfl <;> simp [iterM, seqM, ifM, nextM, retM, setM, exprM, varM, conM, bin0, binM, recv, opAt, opM, opM1, M.cons, M.pure, peeks, peek, opP, O1.r, notB, notM, orM, andM, andV, orV, tM, truthM, attrM, callM, methM, applyM, applyS, slotsOf, slotR, fresh1, notAt, backE, lentAt, backS, finS, backP, bindR, free1, freeze, Sl.fix, C.p, List.mapIdx_cons, List.mapIdx_nil, uo, att_p ta, vp]
  unfold cd8 dcM
  rw [hi]
  dsimp only
  rw [if_pos (by rcases hS with rfl | rfl <;> exact ⟨rfl, rfl⟩), dc_pure (fun _ => true) kS (vM f m) _ [] (fun x hx => ?_) (by simp [lim]; omega)]
  · rw [List.filter_eq_self.mpr (fun _ _ => rfl), List.foldl_map]
    have := fold_put (nm4.filter fun s => f s != 0) [] (fun s => .int (f s * m)) (nm_nodup.filter _) (fun s _ z => by simp at z)
    rw [List.nil_append] at this
    exact congrArg (fun l => Out.ok (R.new (C.dic l)) _) this
  · obtain ⟨s, hs, rfl⟩ := List.mem_map.mp hx
    have hz : (Sum.inr s : Key) ∈ (pl f).map (·.1) := by
      unfold pl
      rw [List.map_map]
      exact List.mem_map.mpr ⟨s, hs, rfl⟩
    have ev := (pl_wd hf).val_in hz
    refine ⟨[S, .val (.int m) false, .val (.str s) false], ?_, rfl, fun _ => ⟨rfl, ?_⟩, ?_⟩
    · rcases hS with rfl | rfl <;> rfl
    · rcases hS with rfl | rfl <;> simp [seqM, ifM, nextM, retM, setM, exprM, varM, conM, bin0, binM, recv, opAt, opM, opM1, M.cons, M.pure, peeks, peek, opP, O1.r, notB, notM, orM, andM, andV, orV, tM, truthM, attrM, callM, methM, applyM, applyS, slotsOf, slotR, fresh1, notAt, backE, lentAt, backS, finS, backP, bindR, free1, freeze, Sl.fix, C.p, List.mapIdx_cons, List.mapIdx_nil, uo, att_p ta, vp, p_ix, keyP, ev, p_mul, hm.1, hm.2, vM]
    · rcases hS with rfl | rfl <;> rfl
theorem topow_ok (ta : t.att = attF) (ti : t.init = initF) {S : Sl} (hS : US S f) (hf : ∀ s, s ∉ nm4 → f s = 0) {m : Int} (hm : -18446744073709551616 < m ∧ m < 18446744073709551616) : runF (dsF t) (n + 4) 8 [S, .val (.int m) false] = .ok (.new (uo fun s => f s * m)) [S, .val (.int m) false] := by
  have hb : ∀ cf, bd8 t cf = seqM (ifM (notM (tM t cf (callM cf 1 [] (M.cons (varM 1) (M.pure []))))) neverM nextM) (retM (newM t cf 0 (M.cons (cd8 t cf) (M.pure [])))) := fun _ => rfl
  have e1 := cd8_ok (t := t) ta hS hf hm (cf := runF (dsF t) (n + 3))
  have e3 : newM t (runF (dsF t) (n + 3)) 0 (M.cons (cd8 t (runF (dsF t) (n + 3))) (M.pure [])) [S, .val (.int m) false, .no] = _ := new_new (n := n) ta ti (pw_wd m hf) e1
  have e4 := is_whole_int (t := t) (n := n + 2) m
  rcases hS with rfl | rfl <;> rw [rf_at d8 rfl (by decide) rfl, hb] <;> generalize newM t (runF (dsF t) (n + 3)) 0 (M.cons (cd8 t (runF (dsF t) (n + 3))) (M.pure [])) = nm at e3 ⊢ <;> simp [seqM, ifM, nextM, retM, setM, exprM, varM, conM, bin0, binM, recv, opAt, opM, opM1, M.cons, M.pure, peeks, peek, opP, O1.r, notB, notM, orM, andM, andV, orV, tM, truthM, attrM, callM, methM, applyM, applyS, slotsOf, slotR, fresh1, notAt, backE, lentAt, backS, finS, backP, bindR, free1, freeze, Sl.fix, List.mapIdx_cons, List.mapIdx_nil, e3, e4]
theorem att_tp (ta : t.att = attF) : t.att 0 "to_power" = some (.meth 8) := by rw [ta]; rfl
theorem vtp (x : P) : valP [(("_powers" : Str), x)] "to_power" = none := by
  have : ¬ (("_powers" : Str) = "to_power") := by decide +kernel
  simp [valP, this]
theorem pow_ok (ta : t.att = attF) (ti : t.init = initF) {S : Sl} (hS : US S f) (hf : ∀ s, s ∉ nm4 → f s = 0) {m : Int} (hm : -18446744073709551616 < m ∧ m < 18446744073709551616) : runF (dsF t) (n + 5) 7 [S, .val (.int m) false] = .ok (.new (uo fun s => f s * m)) [S, .val (.int m) false] := by
  have e1 := topow_ok (t := t) (n := n) ta ti hS hf hm
  unfold uo at e1
  rcases hS with rfl | rfl
  · unfold uo at e1 ⊢
    rw [rf_at d7 rfl (by decide) rfl]
    simp [seqM, ifM, nextM, retM, setM, exprM, varM, conM, bin0, binM, recv, opAt, opM, opM1, M.cons, M.pure, peeks, peek, opP, O1.r, notB, notM, orM, andM, andV, orV, tM, truthM, attrM, callM, methM, applyM, applyS, slotsOf, slotR, fresh1, notAt, backE, lentAt, backS, finS, backP, bindR, free1, freeze, Sl.fix, C.p, List.mapIdx_cons, List.mapIdx_nil, bd7, att_tp ta, vtp, e1]
  · unfold uo at e1 ⊢
    simp only [C.p] at e1 ⊢
    rw [rf_at d7 rfl (by decide) rfl]
    simp [seqM, ifM, nextM, retM, setM, exprM, varM, conM, bin0, binM, recv, opAt, opM, opM1, M.cons, M.pure, peeks, peek, opP, O1.r, notB, notM, orM, andM, andV, orV, tM, truthM, attrM, callM, methM, applyM, applyS, slotsOf, slotR, fresh1, notAt, backE, lentAt, backS, finS, backP, bindR, free1, freeze, Sl.fix, C.p, List.mapIdx_cons, List.mapIdx_nil, bd7, att_tp ta, vtp, e1]
end
end Pi

/-! Pm6: plain powers; what stands. -/
namespace Pi
open PySem PySem.Spec L2 PyProof.Rows
section
variable {t : Gf} {n : Nat} {kvs ls k1 k2 : List Kv} {f h : Str → Int} {env e : En}
def eS (f : Str → Int) : P → P
  | .str s => .tup [.str s, .int (f s)]
  | _ => .non
theorem pairs_of (g : Str → Int) : ∀ l : List Str, pairsP (l.map fun s => P.tup [.str s, .int (g s)]) = some (l.map fun s => ((Sum.inr s : Key), P.int (g s)))
  | [] => rfl
  | s :: l => by
    show (match keyP (.str s), pairsP (l.map fun s => P.tup [.str s, .int (g s)]) with
      | some k', some r' => some ((k', P.int (g s)) :: r')
      | _, _ => none) = _
    rw [pairs_of g l]
    rfl
theorem merge_of (g : Str → Int) {l : List Str} (nd : l.Nodup) : mergeP [] (l.map fun s => ((Sum.inr s : Key), P.int (g s))) = l.map fun s => ((Sum.inr s : Key), P.int (g s)) := by
  unfold mergeP
  rw [List.foldl_map]
  have := fold_put l [] (fun s => .int (g s)) nd (fun s _ z => by simp at z)
  rw [List.nil_append] at this
  exact this
def cm19 (t : Gf) (cf : CF) : M R := lcM (iterM (opM (opP .sorted) (M.cons (varM 0) (M.pure [])))) (.var 1) [1] (tM t cf (bin0 .ne (binM t cf .ix "__getitem__" true (varM 0) (varM 1)) (conM (.int 0)))) (dispM .tp (M.cons (varM 1) (M.cons (binM t cf .ix "__getitem__" true (varM 0) (varM 1)) (M.pure []))))
theorem cm19_ok (w : WD kvs f) {S : Sl} (hS : DS S kvs) {cf : CF} : cm19 t cf [S, .no] = .ok (.new (.lst ((nm4.filter fun s => f s != 0).map fun s => P.tup [.str s, .int (f s)]))) [S, .no] := by
  have hl : (keysL kvs).length ≤ 4 := List.length_filter_le _ _
  obtain ⟨ks, h1, h2, h3, _⟩ := w.sorted
  have hi : iterM (opM (opP .sorted) (M.cons (varM 0) (M.pure []))) [S, .no] = .ok ((keysL kvs).map .str) [S, .no] := by
    rcases hS with rfl | rfl <;> simp [iterM, seqM, ifM, nextM, retM, setM, exprM, varM, conM, bin0, binM, recv, opAt, opM, opM1, M.cons, M.pure, peeks, peek, opP, O1.r, notB, notM, orM, andM, andV, orV, tM, truthM, attrM, callM, methM, applyM, applyS, slotsOf, slotR, fresh1, notAt, backE, lentAt, backS, finS, backP, bindR, free1, freeze, Sl.fix, C.p, List.mapIdx_cons, List.mapIdx_nil, p_sorted, h1, h2, h3]
  unfold cm19 lcM
  rw [hi]
  dsimp only
  rw [if_pos (by rcases hS with rfl | rfl <;> exact ⟨rfl, rfl⟩), lc_pure (tS f) (eS f) _ [] (fun x hx => ?_) (by simp [lim]; omega)]
  · have e : (keysL kvs).filter (tS f ∘ P.str) = nm4.filter fun s => f s != 0 := w.nonzero
    rw [List.nil_append, List.filter_map, e, List.map_map]
    rfl
  · obtain ⟨s, hs, rfl⟩ := List.mem_map.mp hx
    have ev := w.val_in (keysL_in hs)
    refine ⟨[S, .val (.str s) false], ?_, ?_, fun _ => ?_, ?_⟩
    · rcases hS with rfl | rfl <;> rfl
    · rcases hS with rfl | rfl <;> simp [seqM, ifM, nextM, retM, setM, exprM, varM, conM, bin0, binM, recv, opAt, opM, opM1, M.cons, M.pure, peeks, peek, opP, O1.r, notB, notM, orM, andM, andV, orV, tM, truthM, attrM, callM, methM, applyM, applyS, slotsOf, slotR, fresh1, notAt, backE, lentAt, backS, finS, backP, bindR, free1, freeze, Sl.fix, C.p, List.mapIdx_cons, List.mapIdx_nil, p_ix, keyP, ev, p_ne, eq_int, tS] <;> by_cases z : f s = 0 <;> simp [z]
    · rcases hS with rfl | rfl <;> simp [seqM, ifM, nextM, retM, setM, exprM, varM, conM, bin0, binM, recv, opAt, opM, opM1, M.cons, M.pure, peeks, peek, opP, O1.r, notB, notM, orM, andM, andV, orV, tM, truthM, attrM, callM, methM, applyM, applyS, slotsOf, slotR, fresh1, notAt, backE, lentAt, backS, finS, backP, bindR, free1, freeze, Sl.fix, C.p, List.mapIdx_cons, List.mapIdx_nil, dispM, freezes, p_ix, keyP, ev, eS, lim]
    · rcases hS with rfl | rfl <;> rfl
theorem plain_ok (w : WD kvs f) {S : Sl} (hS : DS S kvs) : runF (dsF t) (n + 1) 19 [S] = .ok (.new (.dic (pl f))) [S] := by
  have hb : ∀ cf, bd19 t cf = retM (opM (opP .dict1) (M.cons (cm19 t cf) (M.pure []))) := fun _ => rfl
  have e := cm19_ok (t := t) w hS (cf := runF (dsF t) n)
  have e2 := pairs_of f (nm4.filter fun s => f s != 0)
  have e3 := merge_of f (l := nm4.filter fun s => f s != 0) (nm_nodup.filter _)
  rcases hS with rfl | rfl <;> rw [rf_at d19 rfl (by decide) rfl, hb] <;> generalize cm19 t (runF (dsF t) n) = nm at e ⊢ <;> simp [seqM, ifM, nextM, retM, setM, exprM, varM, conM, bin0, binM, recv, opAt, opM, opM1, M.cons, M.pure, peeks, peek, opP, O1.r, notB, notM, orM, andM, andV, orV, tM, truthM, attrM, callM, methM, applyM, applyS, slotsOf, slotR, fresh1, notAt, backE, lentAt, backS, finS, backP, bindR, free1, freeze, Sl.fix, C.p, List.mapIdx_cons, List.mapIdx_nil, e, p_dict1, e2, e3, pl]
theorem att_pw (ta : t.att = attF) : t.att 0 "powers" = some (.prop 3) := by rw [ta]; rfl
theorem att_eq (ta : t.att = attF) : t.att 0 "__eq__" = some (.meth 4) := by rw [ta]; rfl
theorem att_bo (ta : t.att = attF) : t.att 0 "__bool__" = some (.meth 9) := by rw [ta]; rfl
theorem att_co (ta : t.att = attF) : t.att 0 "__contains__" = some (.meth 10) := by rw [ta]; rfl
theorem att_gi (ta : t.att = attF) : t.att 0 "__getitem__" = some (.meth 11) := by rw [ta]; rfl
theorem bs1 (c d : C) (f k : Bool) : backS (.own c f) (some (.own d k)) = .own d f := rfl
theorem bs2 (c : C) (x : P) (f k : Bool) : backS (.own c f) (some (.val x k)) = .val x f := rfl
theorem bs3 (x : P) (f : Bool) (o : Option Sl) : backS (.val x f) o = .val x f := rfl
/-- the steps of what stands -/
def z1 (cf : CF) : MS := setM 2 (callM cf 19 [] (M.cons (varM 1) (M.pure [])))
def z2 (t : Gf) (cf : CF) : MS := ifM (tM t cf (bin0 .ne (attrM t cf "powers" (varM 0)) (varM 2))) (retM (conM (.bl false))) nextM
def z3 (t : Gf) (cf : CF) : MS := ifM (tM t cf (bin0 .ne (opM (opP .list1) (M.cons (attrM t cf "powers" (varM 0)) (M.pure []))) (opM (opP .list1) (M.cons (varM 2) (M.pure []))))) (retM (conM (.bl false))) nextM
def z4 (t : Gf) (cf : CF) (nu : M R) : MS := ifM (notM (tM t cf (binM t cf .eq "__eq__" false (varM 0) nu))) (retM (conM (.bl false))) nextM
def z5 (t : Gf) (cf : CF) : MS := ifM (tM t cf (bin0 .ne (boolM t cf (varM 0)) (bin0 .ne (varM 2) dic0M))) (retM (conM (.bl false))) nextM
def z6b (t : Gf) (cf : CF) : MS := ifM (orM (tM t cf (bin0 .ne (inM t cf false (varM 3) (varM 0)) (inM t cf false (varM 3) (varM 2)))) (tM t cf (bin0 .ne (binM t cf .ix "__getitem__" true (varM 0) (varM 3)) (get2M (varM 2) (varM 3) (conM (.int 0)))))) (retM (conM (.bl false))) nextM
def z6i : M (List P) := iterM (dispM (fun xs => .mk (.lst xs)) (M.cons (conM (.str "s")) (M.cons (conM (.str "kg")) (M.cons (conM (.str "m")) (M.cons (conM (.str "abcdefgh")) (M.cons (conM (.str "cd")) (M.pure [])))))))
theorem bd20_eq (cf : CF) : bd20 t cf = seqM (z1 cf) (seqM (z2 t cf) (seqM (z3 t cf) (seqM (z4 t cf (newM t cf 0 (M.cons (varM 1) (M.pure [])))) (seqM (z5 t cf) (seqM (forM z6i (.var 3) (z6b t cf)) (retM (conM (.bl true)))))))) := rfl
variable {U D : Sl}
theorem z1_ok (w : WD kvs f) (hD : DS D kvs) : z1 (runF (dsF t) (n + 1)) [U, D, .no, .no] = .nx [U, D, .own (.dic (pl f)) false, .no] := by
  have e := plain_ok (t := t) (n := n) w hD
  rcases hD with rfl | rfl <;> simp [z1, seqM, ifM, nextM, retM, setM, exprM, varM, conM, bin0, binM, recv, opAt, opM, opM1, M.cons, M.pure, peeks, peek, opP, O1.r, notB, notM, orM, andM, andV, orV, tM, truthM, attrM, callM, methM, applyM, applyS, slotsOf, slotR, fresh1, notAt, backE, lentAt, backS_none, bs1, bs2, bs3, finS, backP, bindR, free1, freeze, Sl.fix, C.p, List.mapIdx_cons, List.mapIdx_nil, e]
theorem z2_ok (ta : t.att = attF) (w : WD (pl f) f) (hU : US U f) : z2 t (runF (dsF t) (n + 1)) [U, D, .own (.dic (pl f)) false, .no] = .nx [U, D, .own (.dic (pl f)) false, .no] := by
  have e := powers_ok (t := t) (n := n) ta hU
  have q := w.eq_self
  rcases hU with rfl | rfl <;> simp only [uo, C.p] at e ⊢ <;> simp [z2, seqM, ifM, nextM, retM, setM, exprM, varM, conM, bin0, binM, recv, opAt, opM, opM1, M.cons, M.pure, peeks, peek, opP, O1.r, notB, notM, orM, andM, andV, orV, tM, truthM, attrM, callM, methM, applyM, applyS, slotsOf, slotR, fresh1, notAt, backE, lentAt, backS_none, bs1, bs2, bs3, finS, backP, bindR, free1, freeze, Sl.fix, C.p, List.mapIdx_cons, List.mapIdx_nil, att_pw ta, e, noEx, p_ne, q]
theorem z3_ok (ta : t.att = attF) (hU : US U f) : z3 t (runF (dsF t) (n + 1)) [U, D, .own (.dic (pl f)) false, .no] = .nx [U, D, .own (.dic (pl f)) false, .no] := by
  have e := powers_ok (t := t) (n := n) ta hU
  have q := eq_names (fun s => f s != 0)
  rw [← pl_keys] at q
  rcases hU with rfl | rfl <;> simp only [uo, C.p] at e ⊢ <;> simp [z3, seqM, ifM, nextM, retM, setM, exprM, varM, conM, bin0, binM, recv, opAt, opM, opM1, M.cons, M.pure, peeks, peek, opP, O1.r, notB, notM, orM, andM, andV, orV, tM, truthM, attrM, callM, methM, applyM, applyS, slotsOf, slotR, fresh1, notAt, backE, lentAt, backS_none, bs1, bs2, bs3, finS, backP, bindR, free1, freeze, Sl.fix, C.p, List.mapIdx_cons, List.mapIdx_nil, att_pw ta, e, noEx, p_ne, p_list1, q]
theorem z4_ok (ta : t.att = attF) (w : WD (pl f) f) (hU : US U f) {nu : M R} {D' : Sl} (hn : nu [U, D, .own (.dic (pl f)) false, .no] = .ok (.new (uo f)) [U, D', .own (.dic (pl f)) false, .no]) : z4 t (runF (dsF t) (n + 1)) nu [U, D, .own (.dic (pl f)) false, .no] = .nx [U, D', .own (.dic (pl f)) false, .no] := by
  have e := eq_ok (t := t) (n := n) ta hU (T := .own (uo f) true) (.inl rfl) w.eq_self
  rcases hU with rfl | rfl <;> simp only [uo, C.p] at e hn ⊢ <;> simp [z4, seqM, ifM, nextM, retM, setM, exprM, varM, conM, bin0, binM, recv, opAt, opM, opM1, M.cons, M.pure, peeks, peek, opP, O1.r, notB, notM, orM, andM, andV, orV, tM, truthM, attrM, callM, methM, applyM, applyS, slotsOf, slotR, fresh1, notAt, backE, lentAt, backS_none, bs1, bs2, bs3, finS, backP, bindR, free1, freeze, Sl.fix, C.p, List.mapIdx_cons, List.mapIdx_nil, att_eq ta, e, hn]
theorem z5_ok (ta : t.att = attF) (hU : US U f) : z5 t (runF (dsF t) (n + 1)) [U, D, .own (.dic (pl f)) false, .no] = .nx [U, D, .own (.dic (pl f)) false, .no] := by
  have e := bool_ok (t := t) (n := n) ta hU
  have q := eq_nil (kvs := pl f)
  rcases hU with rfl | rfl <;> simp only [uo, C.p] at e ⊢ <;> simp [z5, seqM, ifM, nextM, retM, setM, exprM, varM, conM, bin0, binM, recv, opAt, opM, opM1, M.cons, M.pure, peeks, peek, opP, O1.r, notB, notM, orM, andM, andV, orV, tM, truthM, attrM, callM, methM, applyM, applyS, slotsOf, slotR, fresh1, notAt, backE, lentAt, backS_none, bs1, bs2, bs3, finS, backP, bindR, free1, freeze, Sl.fix, C.p, List.mapIdx_cons, List.mapIdx_nil, att_bo ta, e, boolM, blOnly, dic0M, p_ne, q, eq_bl]
theorem z6b_ok (ta : t.att = attF) (hf : ∀ s, s ∉ nm4 → f s = 0) (hU : US U f) (s : Str) : z6b t (runF (dsF t) (n + 1)) [U, D, .own (.dic (pl f)) false, .val (.str s) false] = .nx [U, D, .own (.dic (pl f)) false, .val (.str s) false] := by
  have e1 := has_ok (t := t) (n := n) ta hU s
  have e2 := item_ok' (t := t) (n := n) ta hf hU s
  have q := (pl_wd hf).getD s
  rcases hU with rfl | rfl <;> simp only [uo, C.p] at e1 e2 ⊢ <;> simp [z6b, seqM, ifM, nextM, retM, setM, exprM, varM, conM, bin0, binM, recv, opAt, opM, opM1, M.cons, M.pure, peeks, peek, opP, O1.r, notB, notM, orM, andM, andV, orV, tM, truthM, attrM, callM, methM, applyM, applyS, slotsOf, slotR, fresh1, notAt, backE, lentAt, backS_none, bs1, bs2, bs3, finS, backP, bindR, free1, freeze, Sl.fix, C.p, List.mapIdx_cons, List.mapIdx_nil, inM, att_co ta, att_gi ta, e1, e2, blOnly, p_isin, keyP, p_ne, eq_bl, get2M, p_get2, isSc, q, eq_int]
theorem loop_same {p : Pat} {body : MS} {E : Sl → En} (hp : ∀ ns s, ns.fix = false → bindP p (.str s) (E ns) = some (E (.val (.str s) false))) (hb : ∀ s, body (E (.val (.str s) false)) = .nx (E (.val (.str s) false))) : ∀ (xs : List Str) (ns : Sl), ns.fix = false → ∃ ns', loopM p body (xs.map .str) (E ns) = .nx (E ns')
  | [], ns, _ => ⟨ns, rfl⟩
  | x :: xs, ns, hn => by
    obtain ⟨ns', e⟩ := loop_same hp hb xs (.val (.str x) false) rfl
    refine ⟨ns', ?_⟩
    rw [List.map_cons]
    unfold loopM
    rw [hp ns x hn]
    dsimp only
    rw [hb x]
    exact e
theorem z6_ok (ta : t.att = attF) (hf : ∀ s, s ∉ nm4 → f s = 0) (hU : US U f) : ∃ ns, forM z6i (.var 3) (z6b t (runF (dsF t) (n + 1))) [U, D, .own (.dic (pl f)) false, .no] = .nx [U, D, .own (.dic (pl f)) false, ns] := by
  obtain ⟨ns, e⟩ := loop_same (p := .var 3) (body := z6b t (runF (dsF t) (n + 1))) (E := fun ns => [U, D, .own (.dic (pl f)) false, ns]) (fun ns s hn => by simp [bindP, bindR, free1, hn]) (fun s => z6b_ok ta hf hU s) ["s", "kg", "m", "abcdefgh", "cd"] .no rfl
  refine ⟨ns, ?_⟩
  have hi : z6i [U, D, .own (.dic (pl f)) false, .no] = .ok ((["s", "kg", "m", "abcdefgh", "cd"] : List Str).map .str) [U, D, .own (.dic (pl f)) false, .no] := by
    simp [z6i, iterM, dispM, freezes, seqM, ifM, nextM, retM, setM, exprM, varM, conM, bin0, binM, recv, opAt, opM, opM1, M.cons, M.pure, peeks, peek, opP, O1.r, notB, notM, orM, andM, andV, orV, tM, truthM, attrM, callM, methM, applyM, applyS, slotsOf, slotR, fresh1, notAt, backE, lentAt, backS_none, bs1, bs2, bs3, finS, backP, bindR, free1, freeze, Sl.fix, C.p, List.mapIdx_cons, List.mapIdx_nil, lim]
  unfold forM
  rw [hi]
  exact e
theorem stands_ok (ta : t.att = attF) (ti : t.init = initF) (w : WD kvs f) (hU : US U f) (hD : DS D kvs) : runF (dsF t) (n + 4) 20 [U, D] = .ok (.val (.bl true)) [U, fz D] := by
  have hf : ∀ s, s ∉ nm4 → f s = 0 := fun s hs => w.off hs
  have e1 := z1_ok (t := t) (n := n + 2) (U := U) w hD
  have e2 := z2_ok (t := t) (n := n + 2) (D := D) ta (pl_wd hf) hU
  have e3 := z3_ok (t := t) (n := n + 2) (D := D) ta hU
  have en : newM t (runF (dsF t) (n + 3)) 0 (M.cons (varM 1) (M.pure [])) [U, D, .own (.dic (pl f)) false, .no] = .ok (.new (uo f)) [U, fz D, .own (.dic (pl f)) false, .no] := by
    rcases hD with rfl | rfl
    · exact new_val (n := n) ta ti w rfl
    · exact new_at (n := n) (i := 1) (fl := true) ta ti w rfl rfl
  have e4 := z4_ok (t := t) (n := n + 2) (D := D) ta (pl_wd hf) hU en
  have e5 := z5_ok (t := t) (n := n + 2) (D := fz D) ta hU
  obtain ⟨ns, e6⟩ := z6_ok (t := t) (n := n + 2) (D := fz D) ta hf hU
  have hlf : lentFix [U, D] = true := by rcases hU with rfl | rfl <;> rcases hD with rfl | rfl <;> rfl
  have hl : ([U, D] ++ List.replicate (4 - 2) Sl.no : En) = [U, D, .no, .no] := rfl
  rw [rf_at d20 rfl (by decide) hlf, bd20_eq, hl]
  simp only [seqM]
  rw [e1]
  simp only
  rw [e2]
  simp only
  rw [e3]
  simp only
  rw [e4]
  simp only
  rw [e5]
  simp only
  rw [e6]
  rcases hU with rfl | rfl <;> rcases hD with rfl | rfl <;> simp [retM, conM, finS, backP, fz]
end
end Pi

/-! Pm7: what is drawn. -/
namespace Pi
open PySem PySem.Spec L2 PyProof.Rows
section
variable {t : Gf} {n : Nat} {kvs ls k1 k2 : List Kv} {f h : Str → Int} {env e : En}
theorem at_of {xs : List P} {i : Int} (h0 : 0 ≤ i) (h1 : i < xs.length) : atI xs i = xs[i.toNat]? := by
  unfold atI ixN
  rw [if_pos h0, if_pos h1]
  rfl
theorem cell_ok (ns : List Int) {k : Int} (hk : 0 ≤ k) : ∃ c : Int, runF (dsF t) (n + 1) 14 [.val (.lst (ns.map .int)) false, .val (.int k) false] = .ok (.val (.int c)) [.val (.lst (ns.map .int)) false, .val (.int k) false] := by
  by_cases hl : k < ns.length
  · have e := at_of (xs := ns.map P.int) hk (by simpa using hl)
    have hn : k.toNat < ns.length := by omega
    rw [List.getElem?_map, List.getElem?_eq_getElem hn] at e
    refine ⟨ns[k.toNat], ?_⟩
    rw [rf_at d14 rfl (by decide) rfl]
    simp [bd14, seqM, ifM, nextM, retM, setM, exprM, varM, conM, bin0, binM, recv, opAt, opM, opM1, M.cons, M.pure, peeks, peek, opP, O1.r, notB, notM, orM, andM, andV, orV, tM, truthM, attrM, callM, methM, applyM, applyS, slotsOf, slotR, fresh1, notAt, backE, lentAt, backS_none, bs1, bs2, bs3, finS, backP, bindR, free1, freeze, Sl.fix, C.p, List.mapIdx_cons, List.mapIdx_nil, p_lt, p_len, hl, p_ix, e]
  · refine ⟨0, ?_⟩
    rw [rf_at d14 rfl (by decide) rfl]
    simp [bd14, seqM, ifM, nextM, retM, setM, exprM, varM, conM, bin0, binM, recv, opAt, opM, opM1, M.cons, M.pure, peeks, peek, opP, O1.r, notB, notM, orM, andM, andV, orV, tM, truthM, attrM, callM, methM, applyM, applyS, slotsOf, slotR, fresh1, notAt, backE, lentAt, backS_none, bs1, bs2, bs3, finS, backP, bindR, free1, freeze, Sl.fix, C.p, List.mapIdx_cons, List.mapIdx_nil, p_lt, p_len, hl]
def primes : List Int := [1000003, 1000033, 1000037, 1000039, 1000081, 1000099, 1000117, 1000121, 1000133, 1000151, 1000159, 1000171, 1000183, 1000187, 1000193, 1000199]
theorem primes_at (k : Int) : ∃ q : Int, 0 < q ∧ atI (primes.map P.int) (k % 16) = some (.int q) := by
  have h0 : 0 ≤ k % 16 := Int.emod_nonneg _ (by decide)
  have h1 : k % 16 < 16 := Int.emod_lt_of_pos _ (by decide)
  have e := at_of (xs := primes.map P.int) h0 (by simpa [primes] using h1)
  have hn : (k % 16).toNat < primes.length := by simp [primes]; omega
  rw [List.getElem?_map, List.getElem?_eq_getElem hn] at e
  refine ⟨primes[(k % 16).toNat], ?_, e⟩
  have : ∀ q ∈ primes, 0 < q := by decide
  exact this _ (List.getElem_mem hn)
theorem draw_ok (c k : Int) {b : Int} (hb : 0 < b) : ∃ r : Int, (0 ≤ r ∧ r < b) ∧ runF (dsF t) (n + 1) 15 [.val (.int c) false, .val (.int k) false, .val (.int b) false] = .ok (.val (.int r)) [.val (.int c) false, .val (.int k) false, .val (.int b) false] := by
  obtain ⟨q, hq, e⟩ := primes_at k
  refine ⟨(c * 48271 + k * 69621) % q % b, ⟨Int.emod_nonneg _ (by omega), Int.emod_lt_of_pos _ hb⟩, ?_⟩
  simp only [primes, List.map_cons, List.map_nil] at e
  rw [rf_at d15 rfl (by decide) rfl]
  simp [bd15, seqM, ifM, nextM, retM, setM, exprM, varM, conM, bin0, binM, recv, opAt, opM, opM1, M.cons, M.pure, peeks, peek, opP, O1.r, notB, notM, orM, andM, andV, orV, tM, truthM, attrM, callM, methM, applyM, applyS, slotsOf, slotR, fresh1, notAt, backE, lentAt, backS_none, bs1, bs2, bs3, finS, backP, bindR, free1, freeze, Sl.fix, C.p, List.mapIdx_cons, List.mapIdx_nil, dispM, freezes, lim, p_mul, p_add, p_mod, p_ix, e, hq, hb]
/-- the loop of the powers of 1009 -/
theorem pow_loop {cf : CF} {a b c : Sl} (xs : List P) : ∀ (q : Int) (ns : Sl), ns.fix = false → ∃ ns', loopM (.var 4) (setM 3 (binM t cf .mul "__mul__" false (varM 3) (conM (.int 1009)))) xs [a, b, c, .val (.int q) false, ns, .no, .no] = .nx [a, b, c, .val (.int (q * 1009 ^ xs.length)) false, ns', .no, .no] := by
  induction xs with
  | nil => intro q ns _; exact ⟨ns, by simp [loopM]⟩
  | cons x xs ih =>
    intro q ns hn
    obtain ⟨ns', e⟩ := ih (q * 1009) (.val x false) rfl
    refine ⟨ns', ?_⟩
    have h1 : bindP (.var 4) x [a, b, c, .val (.int q) false, ns, .no, .no] = some [a, b, c, .val (.int q) false, .val x false, .no, .no] := by simp [bindP, bindR, free1, hn]
    have h2 : setM 3 (binM t cf .mul "__mul__" false (varM 3) (conM (.int 1009))) [a, b, c, .val (.int q) false, .val x false, .no, .no] = .nx [a, b, c, .val (.int (q * 1009)) false, .val x false, .no, .no] := by
      simp [seqM, ifM, nextM, retM, setM, exprM, varM, conM, bin0, binM, recv, opAt, opM, opM1, M.cons, M.pure, peeks, peek, opP, O1.r, notB, notM, orM, andM, andV, orV, tM, truthM, attrM, callM, methM, applyM, applyS, slotsOf, slotR, fresh1, notAt, backE, lentAt, backS_none, bs1, bs2, bs3, finS, backP, bindR, free1, freeze, Sl.fix, C.p, List.mapIdx_cons, List.mapIdx_nil, p_mul]
    unfold loopM
    rw [h1]
    dsimp only
    rw [h2]
    dsimp only
    have : q * 1009 * 1009 ^ xs.length = q * 1009 ^ (x :: xs).length := by rw [List.length_cons, Int.pow_succ, Int.mul_assoc, Int.mul_comm 1009]
    rw [e, this]
def r16 (t : Gf) (cf : CF) : MS := seqM (setM 5 (binM t cf .fdiv "__floordiv__" false (bin0 .sub (varM 0) (binM t cf .pow "__pow__" true (conM (.int 10)) (conM (.int 18)))) (varM 3)))
    (seqM (ifM (tM t cf (bin0 .gt (varM 5) (conM (.int 0)))) (retM (bin0 .mod (bin0 .mod (varM 5) (conM (.int 1009))) (varM 2))) nextM)
    (seqM (setM 6 (bin0 .mod (varM 0) (conM (.int 1000003))))
    (retM (bin0 .mod (callM cf 15 [] (M.cons (binM t cf .mul "__mul__" false (bin0 .add (varM 6) (binM t cf .mul "__mul__" false (conM (.int 977)) (varM 1))) (bin0 .add (bin0 .add (varM 6) (binM t cf .mul "__mul__" false (conM (.int 31)) (varM 1))) (conM (.int 5)))) (M.cons (bin0 .add (bin0 .mod (varM 1) (conM (.int 9))) (conM (.int 1))) (M.cons (conM (.int 999983)) (M.pure []))))) (varM 2)))))
theorem r16_ok {c k b q : Int} {ns : Sl} (hk0 : 0 ≤ k) (hk1 : k ≤ 1000) (hb : 0 < b) (hq : 0 < q) (hq2 : q.natAbs < 2 ^ 8000) : ∃ r e, (0 ≤ r ∧ r < b) ∧ r16 t (runF (dsF t) (n + 1)) [.val (.int c) false, .val (.int k) false, .val (.int b) false, .val (.int q) false, ns, .no, .no] = .rt (.val (.int r)) (.val (.int c) false :: .val (.int k) false :: .val (.int b) false :: e) := by
  by_cases hr : 0 < (c - 10 ^ 18) / q
  · refine ⟨(c - 10 ^ 18) / q % 1009 % b, [.val (.int q) false, ns, .val (.int ((c - 10 ^ 18) / q)) false, .no], ⟨Int.emod_nonneg _ (by omega), Int.emod_lt_of_pos _ hb⟩, ?_⟩
    have e18 : (10 : Int) ^ 18 = 1000000000000000000 := by decide
    rw [e18] at hr ⊢
    simp [r16, seqM, ifM, nextM, retM, setM, exprM, varM, conM, bin0, binM, recv, opAt, opM, opM1, M.cons, M.pure, peeks, peek, opP, O1.r, notB, notM, orM, andM, andV, orV, tM, truthM, attrM, callM, methM, applyM, applyS, slotsOf, slotR, fresh1, notAt, backE, lentAt, backS_none, bs1, bs2, bs3, finS, backP, bindR, free1, freeze, Sl.fix, C.p, List.mapIdx_cons, List.mapIdx_nil, p_pow, p_sub, p_fdiv, hq, hq2, p_gt, hr, p_mod, hb]
  · have hA : -18446744073709551616 < c % 1000003 + 977 * k ∧ c % 1000003 + 977 * k < 18446744073709551616 := by omega
    obtain ⟨r, hr2, e⟩ := draw_ok (t := t) (n := n) ((c % 1000003 + 977 * k) * (c % 1000003 + 31 * k + 5)) (k % 9 + 1) (b := 999983) (by decide)
    refine ⟨r % b, [.val (.int q) false, ns, .val (.int ((c - 10 ^ 18) / q)) false, .val (.int (c % 1000003)) false], ⟨Int.emod_nonneg _ (by omega), Int.emod_lt_of_pos _ hb⟩, ?_⟩
    have e18 : (10 : Int) ^ 18 = 1000000000000000000 := by decide
    rw [e18] at hr ⊢
    simp [r16, seqM, ifM, nextM, retM, setM, exprM, varM, conM, bin0, binM, recv, opAt, opM, opM1, M.cons, M.pure, peeks, peek, opP, O1.r, notB, notM, orM, andM, andV, orV, tM, truthM, attrM, callM, methM, applyM, applyS, slotsOf, slotR, fresh1, notAt, backE, lentAt, backS_none, bs1, bs2, bs3, finS, backP, bindR, free1, freeze, Sl.fix, C.p, List.mapIdx_cons, List.mapIdx_nil, p_pow, p_sub, p_fdiv, hq, hq2, p_gt, hr, p_mod, hb, p_mul, p_add, hA.1, hA.2, e]
end
end Pi

/-! Pm8: draws in a row; powers drawn. -/
namespace Pi
open PySem PySem.Spec L2 PyProof.Rows
section
variable {t : Gf} {n : Nat} {kvs ls k1 k2 : List Kv} {f h : Str → Int} {env e : En}
theorem number_ok {c k b : Int} (hk0 : 0 ≤ k) (hk1 : k ≤ 1000) (hb : 0 < b) : ∃ r : Int, (0 ≤ r ∧ r < b) ∧ runF (dsF t) (n + 2) 16 [.val (.int c) false, .val (.int k) false, .val (.int b) false] = .ok (.val (.int r)) [.val (.int c) false, .val (.int k) false, .val (.int b) false] := by
  have hb16 : ∀ cf, bd16 t cf = seqM (setM 3 (conM (.int 1))) (seqM (forM (rangeM (M.cons (bin0 .mod (varM 1) (conM (.int 24))) (M.pure []))) (.var 4) (setM 3 (binM t cf .mul "__mul__" false (varM 3) (conM (.int 1009))))) (r16 t cf)) := fun _ => rfl
  have m0 : 0 ≤ k % 24 := Int.emod_nonneg _ (by decide)
  have m1 : k % 24 < 24 := Int.emod_lt_of_pos _ (by decide)
  obtain ⟨ns, e1⟩ := pow_loop (t := t) (cf := runF (dsF t) (n + 1)) (a := .val (.int c) false) (b := .val (.int k) false) (c := .val (.int b) false) (rngL 0 1 (k % 24).toNat) 1 .no rfl
  have hlen : (rngL 0 1 (k % 24).toNat).length = (k % 24).toNat := by simp [rngL]
  rw [hlen, Int.one_mul] at e1
  have q0 : (0 : Int) < 1009 ^ (k % 24).toNat := Int.pow_pos (by decide)
  have q1 : ((1009 : Int) ^ (k % 24).toNat).natAbs < 2 ^ 8000 := by
    rw [Int.natAbs_pow]
    exact Nat.lt_of_le_of_lt (Nat.pow_le_pow_right (by decide) (by omega : (k % 24).toNat ≤ 24)) (by decide +kernel)
  obtain ⟨r, e, hr, e2⟩ := r16_ok (t := t) (n := n) (c := c) (ns := ns) hk0 hk1 hb q0 q1
  refine ⟨r, hr, ?_⟩
  have h62 : b62 (k % 24) := ⟨by omega, by omega⟩
  have hrg : rangeM (M.cons (bin0 .mod (varM 1) (conM (.int 24))) (M.pure [])) [.val (.int c) false, .val (.int k) false, .val (.int b) false, .val (.int 1) false, .no, .no, .no] = .ok (rngL 0 1 (k % 24).toNat) [.val (.int c) false, .val (.int k) false, .val (.int b) false, .val (.int 1) false, .no, .no, .no] := by
    have hms : M.cons (bin0 .mod (varM 1) (conM (.int 24))) (M.pure []) [.val (.int c) false, .val (.int k) false, .val (.int b) false, .val (.int 1) false, .no, .no, .no] = .ok [.val (.int (k % 24))] [.val (.int c) false, .val (.int k) false, .val (.int b) false, .val (.int 1) false, .no, .no, .no] := by
      simp [seqM, ifM, nextM, retM, setM, exprM, varM, conM, bin0, binM, recv, opAt, opM, opM1, M.cons, M.pure, peeks, peek, opP, O1.r, notB, notM, orM, andM, andV, orV, tM, truthM, attrM, callM, methM, applyM, applyS, slotsOf, slotR, fresh1, notAt, backE, lentAt, backS_none, bs1, bs2, bs3, finS, backP, bindR, free1, freeze, Sl.fix, C.p, List.mapIdx_cons, List.mapIdx_nil, p_mod]
    unfold rangeM
    rw [hms]
    exact if_pos h62
  have h1 : setM 3 (conM (.int 1)) ([.val (.int c) false, .val (.int k) false, .val (.int b) false] ++ List.replicate (7 - 3) Sl.no) = .nx [.val (.int c) false, .val (.int k) false, .val (.int b) false, .val (.int 1) false, .no, .no, .no] := rfl
  rw [rf_at d16 rfl (by decide) rfl, hb16]
  simp only [seqM]
  rw [h1]
  simp only [forM]
  rw [hrg]
  simp only
  rw [e1]
  simp only
  rw [e2]
  rfl
/-- where a draw stands -/
def stt (ns : List Int) (by_ i : Int) : C := .lst [.lst (ns.map .int), .int by_, .int i]
theorem at0 (a b c : P) : atI [a, b, c] 0 = some a := rfl
theorem at1 (a b c : P) : atI [a, b, c] 1 = some b := rfl
theorem at2 (a b c : P) : atI [a, b, c] 2 = some c := rfl
theorem ix2 : ixN 3 2 = some 2 := rfl
theorem small12 : (12 : Nat) < 2 ^ 8000 := by decide +kernel
theorem next_ok (ns : List Int) {v i b : Int} (hv : 0 ≤ v) (hi : 0 ≤ i) (hb : 0 < b) : ∃ r : Int, (0 ≤ r ∧ r < b) ∧ runF (dsF t) (n + 3) 17 [.own (stt ns v i) true, .val (.int b) false] = .ok (.val (.int r)) [.own (stt ns v (i + 1)) true, .val (.int b) false] := by
  have a0 : 0 ≤ (i + 1) / 12 := Int.ediv_nonneg (by omega) (by decide)
  have a1 : 0 ≤ (i + 1) % 12 := Int.emod_nonneg _ (by decide)
  have a2 : (i + 1) % 12 < 12 := Int.emod_lt_of_pos _ (by decide)
  obtain ⟨c, e1⟩ := cell_ok (t := t) (n := n + 1) ns (k := v + (i + 1) / 12) (by omega)
  obtain ⟨r, hr, e2⟩ := number_ok (t := t) (n := n) (c := c + 31 * ((i + 1) / 12)) (k := (i + 1) % 12 + 1) (b := b) (by omega) (by omega) hb
  refine ⟨r, hr, ?_⟩
  have hf : p_fdiv [.int (i + 1), .int 12] = some (.sc (.int ((i + 1) / 12))) := by
    show (if (0 : Int) < 12 ∧ (12 : Int).natAbs < 2 ^ 8000 then some (O1.sc (.int ((i + 1) / 12))) else none) = _
    exact if_pos ⟨by decide, small12⟩
  rw [rf_at d17 rfl (by decide) rfl]
  simp [bd17, seqM, ifM, nextM, retM, setM, exprM, varM, conM, bin0, binM, recv, opAt, opM, opM1, M.cons, M.pure, peeks, peek, opP, O1.r, notB, notM, orM, andM, andV, orV, tM, truthM, attrM, callM, methM, applyM, applyS, slotsOf, slotR, fresh1, notAt, backE, lentAt, backS_none, bs1, bs2, bs3, finS, backP, bindR, free1, freeze, Sl.fix, C.p, List.mapIdx_cons, List.mapIdx_nil, stt, p_ix, at0, at1, at2, itemM, itemPut, heldC, putC, ix2, p_add, hf, p_mul, p_mod, e1, e2]
theorem nx_call (ns : List Int) {v i b : Int} (hv : 0 ≤ v) (hi : 0 ≤ i) (hb : 0 < b) (e : En) : ∃ r : Int, (0 ≤ r ∧ r < b) ∧ callM (runF (dsF t) (n + 3)) 17 [] (M.cons (varM 0) (M.cons (conM (.int b)) (M.pure []))) (.own (stt ns v i) true :: e) = .ok (.val (.int r)) (.own (stt ns v (i + 1)) true :: e) := by
  obtain ⟨r, hr, e1⟩ := next_ok (t := t) (n := n) ns hv hi hb
  refine ⟨r, hr, ?_⟩
  have hb2 : backE (.own (stt ns v i) true :: e) [.at 0, .val (.int b)] [.own (stt ns v (i + 1)) true, .val (.int b) false] = .own (stt ns v (i + 1)) true :: e := by
    rw [backE_set (i := 0) (s := .own (stt ns v i) true) (s' := .own (stt ns v (i + 1)) true) rfl rfl fun j hj => ?_]
    · rfl
    · simp [lentAt, Ne.symm hj]
  simp only [callM, M.cons, varM, conM, M.pure, List.getElem?_cons_zero, List.map_nil, List.append_nil, applyM, applyS, slotsOf, slotR, fresh1, notAt, if_true, e1, hb2]
def y18 (t : Gf) (cf : CF) (m1 m2 m3 : M R) : MS := ifM (tM t cf (bin0 .gt m1 (conM (.int 0)))) (seqM (itemM (bin0 .sub m2 (conM (.int 2))) (varM 1) (varM 2)) (ifM (tM t cf (binM t cf .eq "__eq__" false m2 (conM (.int 0)))) (itemM (bin0 .sub m3 (conM (.int 1000))) (varM 1) (varM 2)) nextM)) nextM
theorem put_ok {cf : CF} {m : M R} {S S' : Sl} {tot : List Kv} {s : Str} {r d : Int} (w : WD tot f) (hm : m [S, .own (.dic tot) false, .val (.str s) false] = .ok (.val (.int r)) [S', .own (.dic tot) false, .val (.str s) false]) :
    itemM (bin0 .sub m (conM (.int d))) (varM 1) (varM 2) [S, .own (.dic tot) false, .val (.str s) false] = .nx [S', .own (.dic (putP tot (Sum.inr s) (.int (r - d)))) false, .val (.str s) false] := by
  have i3 : tot.length < lim := Nat.lt_of_le_of_lt w.len (by decide)
  simp [itemM, seqM, ifM, nextM, retM, setM, exprM, varM, conM, bin0, binM, recv, opAt, opM, opM1, M.cons, M.pure, peeks, peek, opP, O1.r, notB, notM, orM, andM, andV, orV, tM, truthM, attrM, callM, methM, applyM, applyS, slotsOf, slotR, fresh1, notAt, backE, lentAt, backS_none, bs1, bs2, bs3, finS, backP, bindR, free1, freeze, Sl.fix, C.p, List.mapIdx_cons, List.mapIdx_nil, hm, p_sub, itemPut, heldC, keyP, putC, i3]
theorem y18_ok {cf : CF} {m1 m2 m3 : M R} {ns : List Int} {v : Int} (hc : ∀ i : Int, 0 ≤ i → ∀ e, (∃ r : Int, m1 (.own (stt ns v i) true :: e) = .ok (.val (.int r)) (.own (stt ns v (i + 1)) true :: e)) ∧ (∃ r : Int, m2 (.own (stt ns v i) true :: e) = .ok (.val (.int r)) (.own (stt ns v (i + 1)) true :: e)) ∧ ∃ r : Int, m3 (.own (stt ns v i) true :: e) = .ok (.val (.int r)) (.own (stt ns v (i + 1)) true :: e))
    {tot : List Kv} (w : WD tot f) {i : Int} (hi : 0 ≤ i) {s : Str} (hs : s ∈ nm4) : ∃ i' tot' f', 0 ≤ i' ∧ WD tot' f' ∧ y18 t cf m1 m2 m3 [.own (stt ns v i) true, .own (.dic tot) false, .val (.str s) false] = .nx [.own (stt ns v i') true, .own (.dic tot') false, .val (.str s) false] := by
  obtain ⟨⟨r1, h1⟩, _, _⟩ := hc i hi [.own (.dic tot) false, .val (.str s) false]
  obtain ⟨_, ⟨r2, h2⟩, _⟩ := hc (i + 1) (by omega) [.own (.dic tot) false, .val (.str s) false]
  have p2 := put_ok (cf := cf) (d := 2) w h2
  have w2 := w.put hs (r2 - 2)
  obtain ⟨_, ⟨r3, h3⟩, _⟩ := hc (i + 1 + 1) (by omega) [.own (.dic (putP tot (Sum.inr s) (.int (r2 - 2)))) false, .val (.str s) false]
  obtain ⟨_, _, ⟨r4, h4⟩⟩ := hc (i + 1 + 1 + 1) (by omega) [.own (.dic (putP tot (Sum.inr s) (.int (r2 - 2)))) false, .val (.str s) false]
  have p4 := put_ok (cf := cf) (d := 1000) w2 h4
  have w4 := w2.put hs (r4 - 1000)
  have g1 : tM t cf (bin0 .gt m1 (conM (.int 0))) [.own (stt ns v i) true, .own (.dic tot) false, .val (.str s) false] = .ok (decide (0 < r1)) [.own (stt ns v (i + 1)) true, .own (.dic tot) false, .val (.str s) false] := by
    simp only [tM, bin0, opM, M.cons, h1, conM, M.pure, peeks, peek, opP, p_gt, O1.r, truthM]
  have g3 : tM t cf (binM t cf .eq "__eq__" false m2 (conM (.int 0))) [.own (stt ns v (i + 1 + 1)) true, .own (.dic (putP tot (Sum.inr s) (.int (r2 - 2)))) false, .val (.str s) false] = .ok (decide (r3 = 0)) [.own (stt ns v (i + 1 + 1 + 1)) true, .own (.dic (putP tot (Sum.inr s) (.int (r2 - 2)))) false, .val (.str s) false] := by
    simp only [tM, binM, h3, conM, recv, opAt, peeks, peek, opP, p_eq, eq_int, Option.map_some, O1.r, truthM]
  by_cases z1 : 0 < r1
  · by_cases z3 : r3 = 0
    · exact ⟨i + 1 + 1 + 1 + 1, putP (putP tot (Sum.inr s) (.int (r2 - 2))) (Sum.inr s) (.int (r4 - 1000)), _, by omega, w4, by simp only [y18, ifM, g1, z1, decide_true, if_true, seqM, p2, g3, z3, p4]⟩
    · exact ⟨i + 1 + 1 + 1, putP tot (Sum.inr s) (.int (r2 - 2)), _, by omega, w2, by simp only [y18, ifM, g1, z1, decide_true, if_true, seqM, p2, g3, z3, decide_false, Bool.false_eq_true, if_false, nextM]⟩
  · exact ⟨i + 1, tot, f, by omega, w, by simp only [y18, ifM, g1, z1, decide_false, Bool.false_eq_true, if_false, nextM]⟩
end
end Pi

/-! Pm9: powers drawn; powers of units; reversed. -/
namespace Pi
open PySem PySem.Spec L2 PyProof.Rows
section
variable {t : Gf} {n : Nat} {kvs ls k1 k2 : List Kv} {f h : Str → Int} {env e : En}
def cb (cf : CF) (b : Int) : M R := callM cf 17 [] (M.cons (varM 0) (M.cons (conM (.int b)) (M.pure [])))
theorem loop18 {ns : List Int} {v : Int} (hv : 0 ≤ v) : ∀ xs : List Str, (∀ s ∈ xs, s ∈ nm4) → ∀ (i : Int) (tot : List Kv) (f : Str → Int) (nl : Sl), nl.fix = false → 0 ≤ i → WD tot f → ∃ i' tot' f' nl', 0 ≤ i' ∧ WD tot' f' ∧
    loopM (.var 2) (y18 t (runF (dsF t) (n + 3)) (cb (runF (dsF t) (n + 3)) 3) (cb (runF (dsF t) (n + 3)) 5) (cb (runF (dsF t) (n + 3)) 2001)) (xs.map .str) [.own (stt ns v i) true, .own (.dic tot) false, nl] = .nx [.own (stt ns v i') true, .own (.dic tot') false, nl'] := by
  intro xs
  induction xs with
  | nil => intro _ i tot f nl _ hi w; exact ⟨i, tot, f, nl, hi, w, rfl⟩
  | cons x xs ih =>
    intro hm i tot f nl hn hi w
    obtain ⟨i1, t1, f1, h1, w1, e1⟩ := y18_ok (t := t) (cf := runF (dsF t) (n + 3)) (m1 := cb (runF (dsF t) (n + 3)) 3) (m2 := cb (runF (dsF t) (n + 3)) 5) (m3 := cb (runF (dsF t) (n + 3)) 2001) (ns := ns) (v := v) (fun i hi e => by
      obtain ⟨r1, _, q1⟩ := nx_call (t := t) (n := n) ns hv hi (b := 3) (by decide) e
      obtain ⟨r2, _, q2⟩ := nx_call (t := t) (n := n) ns hv hi (b := 5) (by decide) e
      obtain ⟨r3, _, q3⟩ := nx_call (t := t) (n := n) ns hv hi (b := 2001) (by decide) e
      exact ⟨⟨r1, q1⟩, ⟨r2, q2⟩, ⟨r3, q3⟩⟩) w hi (hm x List.mem_cons_self)
    obtain ⟨i2, t2, f2, nl2, h2, w2, e2⟩ := ih (fun s hs => hm s (List.mem_cons_of_mem _ hs)) i1 t1 f1 (.val (.str x) false) rfl h1 w1
    refine ⟨i2, t2, f2, nl2, h2, w2, ?_⟩
    have hb : bindP (.var 2) (.str x) [.own (stt ns v i) true, .own (.dic tot) false, nl] = some [.own (stt ns v i) true, .own (.dic tot) false, .val (.str x) false] := by simp [bindP, bindR, free1, hn]
    rw [List.map_cons]
    unfold loopM
    rw [hb]
    dsimp only
    rw [e1]
    exact e2
def i18 : M (List P) := iterM (dispM (fun xs => .mk (.lst xs)) (M.cons (conM (.str "s")) (M.cons (conM (.str "kg")) (M.cons (conM (.str "m")) (M.cons (conM (.str "abcdefgh")) (M.pure []))))))
theorem drawn_ok (ns : List Int) {v i : Int} (hv : 0 ≤ v) (hi : 0 ≤ i) : ∃ i' kvs f, 0 ≤ i' ∧ WD kvs f ∧ runF (dsF t) (n + 4) 18 [.own (stt ns v i) true] = .ok (.new (.dic kvs)) [.own (stt ns v i') true] := by
  have hb : ∀ cf, bd18 t cf = seqM (setM 1 dic0M) (seqM (forM i18 (.var 2) (y18 t cf (cb cf 3) (cb cf 5) (cb cf 2001))) (retM (varM 1))) := fun _ => rfl
  obtain ⟨i', tot, f, nl, h1, w, e⟩ := loop18 (t := t) (n := n) (ns := ns) hv ["s", "kg", "m", "abcdefgh"] (by decide +kernel) i [] (fun _ => 0) .no rfl hi wd_nil
  refine ⟨i', tot, f, h1, w, ?_⟩
  have h2 : setM 1 dic0M ([.own (stt ns v i) true] ++ List.replicate (3 - 1) Sl.no) = .nx [.own (stt ns v i) true, .own (.dic []) false, .no] := rfl
  have h3 : i18 [.own (stt ns v i) true, .own (.dic []) false, .no] = .ok ((["s", "kg", "m", "abcdefgh"] : List Str).map .str) [.own (stt ns v i) true, .own (.dic []) false, .no] := by
    simp [i18, iterM, dispM, freezes, seqM, ifM, nextM, retM, setM, exprM, varM, conM, bin0, binM, recv, opAt, opM, opM1, M.cons, M.pure, peeks, peek, opP, O1.r, notB, notM, orM, andM, andV, orV, tM, truthM, attrM, callM, methM, applyM, applyS, slotsOf, slotR, fresh1, notAt, backE, lentAt, backS_none, bs1, bs2, bs3, finS, backP, bindR, free1, freeze, Sl.fix, C.p, List.mapIdx_cons, List.mapIdx_nil, lim]
  rw [rf_at d18 rfl (by decide) rfl, hb]
  simp only [seqM]
  rw [h2]
  simp only [forM]
  rw [h3]
  simp only
  rw [e]
  rfl
theorem att_po (ta : t.att = attF) : t.att 0 "__pow__" = some (.meth 7) := by rw [ta]; rfl
theorem att_mu (ta : t.att = attF) : t.att 0 "__mul__" = some (.meth 5) := by rw [ta]; rfl
theorem att_fd (ta : t.att = attF) : t.att 0 "__floordiv__" = some (.meth 6) := by rw [ta]; rfl
theorem power_ok (ta : t.att = attF) (ti : t.init = initF) (hf : ∀ s, s ∉ nm4 → f s = 0) {m : Int} (h0 : 0 ≤ m) (h4 : m < 4) : runF (dsF t) (n + 6) 21 [.own (uo f) true, .val (.int m) false] = .ok (.new (uo fun s => f s * m)) [.own (uo f) true, .val (.int m) false] := by
  have p := fun (m : Int) (hm : -18446744073709551616 < m ∧ m < 18446744073709551616) => pow_ok (t := t) (n := n) ta ti (S := .own (uo f) true) (.inl rfl) hf hm
  have e0 := p 0 (by decide)
  have e1 := p 1 (by decide)
  have e2 := p 2 (by decide)
  have e3 := p 3 (by decide)
  simp only [uo] at e0 e1 e2 e3 ⊢
  have hm : m = 0 ∨ m = 1 ∨ m = 2 ∨ m = 3 := by omega
  rcases hm with rfl | rfl | rfl | rfl <;> rw [rf_at d21 rfl (by decide) rfl] <;> simp [bd21, seqM, ifM, nextM, retM, setM, exprM, varM, conM, bin0, binM, recv, opAt, opM, opM1, M.cons, M.pure, peeks, peek, opP, O1.r, notB, notM, orM, andM, andV, orV, tM, truthM, attrM, callM, methM, applyM, applyS, slotsOf, slotR, fresh1, notAt, backE, lentAt, backS_none, bs1, bs2, bs3, finS, backP, bindR, free1, freeze, Sl.fix, C.p, List.mapIdx_cons, List.mapIdx_nil, iteM, p_eq, eq_int, att_po ta, e0, e1, e2, e3]
theorem WD.as_map (w : WD kvs f) : ∃ ks : List Str, ks.Nodup ∧ kvs = ks.map fun s => ((Sum.inr s : Key), P.int (f s)) := by
  obtain ⟨ks, _, _, _, e, _⟩ := w.sorted
  refine ⟨ks, nodup_of_map (f := (Sum.inr : Str → Key)) (by rw [← e]; exact w.nd), ?_⟩
  have : kvs.map (fun kv => ((kv.1 : Key), (match kv.1 with | .inr s => P.int (f s) | .inl _ => P.non))) = ks.map fun s => ((Sum.inr s : Key), P.int (f s)) := by
    have h2 : kvs.map (fun kv => ((kv.1 : Key), (match kv.1 with | .inr s => P.int (f s) | .inl _ => P.non))) = (kvs.map (·.1)).map (fun k => ((k : Key), (match k with | .inr s => P.int (f s) | .inl _ => P.non))) := by rw [List.map_map]; rfl
    rw [h2, e, List.map_map]
    rfl
  rw [← this]
  refine (List.map_id kvs).symm.trans (List.map_congr_left fun kv hk => ?_)
  obtain ⟨s, _, rfl⟩ := w.ks kv hk
  rfl
theorem WD.rev (w : WD kvs f) : WD kvs.reverse f := by
  refine ⟨?_, fun kv hk => w.ks kv (List.mem_reverse.mp hk), fun s hs => w.out s fun z => hs ?_⟩
  · rw [List.map_reverse]
    exact List.pairwise_reverse.mpr (List.Pairwise.imp (fun z => Ne.symm z) w.nd)
  · rw [List.map_reverse]
    exact List.mem_reverse.mpr z
theorem pairs_kv : ∀ l : List Kv, pairsP (l.map fun kv => P.tup [pKey kv.1, kv.2]) = some l
  | [] => rfl
  | kv :: l => by
    show (match keyP (pKey kv.1), pairsP (l.map fun kv => P.tup [pKey kv.1, kv.2]) with
      | some k', some r' => some ((k', kv.2) :: r')
      | _, _ => none) = _
    rw [pairs_kv l, key_p]
theorem WD.merge (w : WD kvs f) : mergeP [] kvs = kvs := by
  obtain ⟨ks, nd, e⟩ := w.as_map
  rw [e]
  exact merge_of f nd
end
end Pi

/-! Pn1: one round of the law: what is drawn and summed. -/
namespace Pi
open PySem PySem.Spec L2 PyProof.Rows
section
variable {t : Gf} {n : Nat} {kvs ls k1 k2 : List Kv} {f h : Str → Int} {env e : En}
theorem call18 (ns : List Int) {v i : Int} (hv : 0 ≤ v) (hi : 0 ≤ i) (e : En) : ∃ i' kvs f, 0 ≤ i' ∧ WD kvs f ∧ callM (runF (dsF t) (n + 4)) 18 [] (M.cons (varM 0) (M.pure [])) (.own (stt ns v i) true :: e) = .ok (.new (.dic kvs)) (.own (stt ns v i') true :: e) := by
  obtain ⟨i', kvs, f, h1, w, e1⟩ := drawn_ok (t := t) (n := n) ns hv hi
  refine ⟨i', kvs, f, h1, w, ?_⟩
  have hb2 : backE (.own (stt ns v i) true :: e) [.at 0] [.own (stt ns v i') true] = .own (stt ns v i') true :: e := by
    rw [backE_set (i := 0) (s := .own (stt ns v i) true) (s' := .own (stt ns v i') true) rfl rfl fun j hj => ?_]
    · rfl
    · simp [lentAt, Ne.symm hj]
  simp only [callM, M.cons, varM, conM, M.pure, List.getElem?_cons_zero, List.map_nil, List.append_nil, applyM, applyS, slotsOf, slotR, fresh1, notAt, if_true, e1, hb2]
theorem loop_put2 {p : Pat} {body : MS} {E : List Kv → List Kv → Sl → En} {v u : Int → Str → Int} (xs : List Str) : xs.Nodup → (∀ s ∈ xs, s ∈ nm4) → (∀ tot ut ns s, ns.fix = false → bindP p (.str s) (E tot ut ns) = some (E tot ut (.val (.str s) false))) →
    (∀ tot ut h k s, s ∈ xs → WD tot h → WD ut k → body (E tot ut (.val (.str s) false)) = .nx (E (putP tot (Sum.inr s) (.int (v (h s) s))) (putP ut (Sum.inr s) (.int (u (k s) s))) (.val (.str s) false))) → ∀ tot ut h k ns, ns.fix = false → WD tot h → WD ut k →
    ∃ tot' ut' ns', loopM p body (xs.map .str) (E tot ut ns) = .nx (E tot' ut' ns') ∧ ns'.fix = false ∧ WD tot' (fun s => if s ∈ xs then v (h s) s else h s) ∧ WD ut' (fun s => if s ∈ xs then u (k s) s else k s) := by
  induction xs with
  | nil => intro _ _ _ _ tot ut h k ns hn w w2; exact ⟨tot, ut, ns, rfl, hn, w.congr fun s => by simp, w2.congr fun s => by simp⟩
  | cons x xs ih =>
    intro nd hm hp hb tot ut h k ns hn w w2
    obtain ⟨n1, n2⟩ := List.nodup_cons.mp nd
    obtain ⟨tot', ut', ns', e1, e2, e3, e4⟩ := ih n2 (fun s hs => hm s (List.mem_cons_of_mem _ hs)) hp (fun tot ut h k s hs => hb tot ut h k s (List.mem_cons_of_mem _ hs)) _ _ _ _ (.val (.str x) false) rfl (w.put (hm x List.mem_cons_self) (v (h x) x)) (w2.put (hm x List.mem_cons_self) (u (k x) x))
    refine ⟨tot', ut', ns', ?_, e2, e3.congr fun s => ?_, e4.congr fun s => ?_⟩
    · rw [List.map_cons]
      unfold loopM
      rw [hp tot ut ns x hn]
      dsimp only
      rw [hb tot ut h k x List.mem_cons_self w w2]
      exact e1
    · by_cases z : s = x
      · subst z; simp [n1]
      · simp [z]
    · by_cases z : s = x
      · subst z; simp [n1]
      · simp [z]
def ez (st a b c d5 d6 d7 nl l r : Sl) : En := [st, a, b, c, d5, d6, d7, nl, l, r]
def p1 (cf : CF) : MS := parM [1, 2, 3] (M.cons (callM cf 18 [] (M.cons (varM 0) (M.pure []))) (M.cons (callM cf 18 [] (M.cons (varM 0) (M.pure []))) (M.cons (cb cf 4) (M.pure []))))
theorem p1_ok (ns : List Int) {v i : Int} (hv : 0 ≤ v) (hi : 0 ≤ i) : ∃ i' k1 f k2 g m, WD k1 f ∧ WD k2 g ∧ (0 ≤ m ∧ m < 4) ∧ p1 (runF (dsF t) 6) (ez (.own (stt ns v i) true) .no .no .no .no .no .no .no .no .no) = .nx (ez (.own (stt ns v i') true) (.own (.dic k1) false) (.own (.dic k2) false) (.val (.int m) false) .no .no .no .no .no .no) := by
  obtain ⟨i1, k1, f, h1, w1, e1⟩ := call18 (t := t) (n := 2) ns hv hi [.no, .no, .no, .no, .no, .no, .no, .no, .no]
  obtain ⟨i2, k2, g, h2, w2, e2⟩ := call18 (t := t) (n := 2) ns hv h1 [.no, .no, .no, .no, .no, .no, .no, .no, .no]
  obtain ⟨m, hm, e3⟩ := nx_call (t := t) (n := 3) ns hv h2 (b := 4) (by decide) [.no, .no, .no, .no, .no, .no, .no, .no, .no]
  refine ⟨i2 + 1, k1, f, k2, g, m, w1, w2, hm, ?_⟩
  have hms : M.cons (callM (runF (dsF t) 6) 18 [] (M.cons (varM 0) (M.pure []))) (M.cons (callM (runF (dsF t) 6) 18 [] (M.cons (varM 0) (M.pure []))) (M.cons (cb (runF (dsF t) 6) 4) (M.pure []))) (ez (.own (stt ns v i) true) .no .no .no .no .no .no .no .no .no) = .ok [.new (.dic k1), .new (.dic k2), .val (.int m)] (ez (.own (stt ns v (i2 + 1)) true) .no .no .no .no .no .no .no .no .no) := by
    unfold ez cb
    rw [M.cons, e1]
    dsimp only
    rw [M.cons, e2]
    dsimp only
    rw [M.cons, e3]
    rfl
  unfold p1 parM
  rw [hms]
  rfl
def p2 : MS := parM [4, 5, 6] (M.cons (opM (opP .dict1) (M.cons (varM 1) (M.pure []))) (M.cons (opM (opP .dict1) (M.cons (varM 1) (M.pure []))) (M.cons dic0M (M.pure []))))
theorem p2_ok {st b c : Sl} : p2 (ez st (.own (.dic k1) false) b c .no .no .no .no .no .no) = .nx (ez st (.own (.dic k1) false) b c (.own (.dic k1) false) (.own (.dic k1) false) (.own (.dic []) false) .no .no .no) := rfl
def y3 (t : Gf) (cf : CF) : MS := seqM (itemM (bin0 .add (get2M (varM 4) (varM 7) (conM (.int 0))) (binM t cf .ix "__getitem__" true (varM 2) (varM 7))) (varM 4) (varM 7))
    (itemM (bin0 .sub (get2M (varM 5) (varM 7) (conM (.int 0))) (binM t cf .ix "__getitem__" true (varM 2) (varM 7))) (varM 5) (varM 7))
end
end Pi

/-! Pn2: one round of the law: sums, and the units. -/
namespace Pi
open PySem PySem.Spec L2 PyProof.Rows
section
variable {t : Gf} {n : Nat} {kvs ls k1 k2 d5 d6 d7 : List Kv} {f h g : Str → Int} {env e : En} {m : Int}
def y4 (t : Gf) (cf : CF) : MS := itemM (binM t cf .mul "__mul__" false (binM t cf .ix "__getitem__" true (varM 1) (varM 7)) (varM 3)) (varM 6) (varM 7)
theorem p3_ok {cf : CF} {st a c p : Sl} (w1 : WD k1 f) (w2 : WD k2 g) : ∃ d5 d6 nl, nl.fix = false ∧ WD d5 (fun s => f s + 1 * g s) ∧ WD d6 (fun s => f s + -1 * g s) ∧
    forM (iterM (varM 2)) (.var 7) (y3 t cf) (ez st a (.own (.dic k2) false) c (.own (.dic k1) false) (.own (.dic k1) false) p .no .no .no) = .nx (ez st a (.val (.dic k2) false) c (.own (.dic d5) false) (.own (.dic d6) false) p nl .no .no) := by
  obtain ⟨ks, e1, e2, e3, e4, e5⟩ := w2.names
  obtain ⟨d5, d6, nl, q1, q2, q3, q4⟩ := loop_put2 (p := .var 7) (body := y3 t cf) (E := fun x y nl => ez st a (.val (.dic k2) false) c (.own (.dic x) false) (.own (.dic y) false) p nl .no .no) (v := fun i s => i + g s) (u := fun i s => i - g s) ks e2 e3 (fun x y nl s hn => by simp [ez, bindP, bindR, free1, hn]) (fun x y h k s hs wx wy => by
    have i1 := w2.val_in ((e4 s).mp hs)
    have i2 := wx.getD s
    have i3 := wy.getD s
    have l1 : x.length < lim := Nat.lt_of_le_of_lt wx.len (by decide)
    have l2 : y.length < lim := Nat.lt_of_le_of_lt wy.len (by decide)
    simp [y3, ez, itemM, get2M, seqM, ifM, nextM, retM, setM, exprM, varM, conM, bin0, binM, recv, opAt, opM, opM1, M.cons, M.pure, peeks, peek, opP, O1.r, notB, notM, orM, andM, andV, orV, tM, truthM, attrM, callM, methM, applyM, applyS, slotsOf, slotR, fresh1, notAt, backE, lentAt, backS_none, bs1, bs2, bs3, finS, backP, bindR, free1, freeze, Sl.fix, C.p, List.mapIdx_cons, List.mapIdx_nil, i1, i2, i3, p_get2, isSc, keyP, p_add, p_sub, p_ix, itemPut, heldC, putC, l1, l2]) k1 k1 f f .no rfl w1 w1
  refine ⟨d5, d6, nl, q2, q3.congr fun s => ?_, q4.congr fun s => ?_, ?_⟩
  · by_cases z : s ∈ ks
    · simp [z]
    · simp [z, w2.out s fun q => z ((e4 s).mpr q)]
  · by_cases z : s ∈ ks
    · simp [z]; omega
    · simp [z, w2.out s fun q => z ((e4 s).mpr q)]
  · have hi : iterM (varM 2) (ez st a (.own (.dic k2) false) c (.own (.dic k1) false) (.own (.dic k1) false) p .no .no .no) = .ok (ks.map .str) (ez st a (.val (.dic k2) false) c (.own (.dic k1) false) (.own (.dic k1) false) p .no .no .no) := by
      rw [← e1]
      rfl
    unfold forM
    rw [hi]
    exact q1
theorem p4_ok {cf : CF} {st b c5 c6 nl : Sl} (w1 : WD k1 f) (hn : nl.fix = false) (hm : 0 ≤ m ∧ m < 4) : ∃ d7 nl', WD d7 (fun s => f s * m) ∧
    forM (iterM (varM 1)) (.var 7) (y4 t cf) (ez st (.own (.dic k1) false) b (.val (.int m) false) c5 c6 (.own (.dic []) false) nl .no .no) = .nx (ez st (.val (.dic k1) false) b (.val (.int m) false) c5 c6 (.own (.dic d7) false) nl' .no .no) := by
  obtain ⟨ks, e1, e2, e3, e4, e5⟩ := w1.names
  have hA : -18446744073709551616 < m ∧ m < 18446744073709551616 := by omega
  obtain ⟨d7, nl', q1, q2, q3⟩ := loop_put (p := .var 7) (body := y4 t cf) (E := fun x nl => ez st (.val (.dic k1) false) b (.val (.int m) false) c5 c6 (.own (.dic x) false) nl .no .no) (v := fun _ s => f s * m) ks e2 e3 (fun x nl s hn => by simp [ez, bindP, bindR, free1, hn]) (fun x h s hs wx => by
    have i1 := w1.val_in ((e4 s).mp hs)
    have l1 : x.length < lim := Nat.lt_of_le_of_lt wx.len (by decide)
    simp [y4, ez, itemM, seqM, ifM, nextM, retM, setM, exprM, varM, conM, bin0, binM, recv, opAt, opM, opM1, M.cons, M.pure, peeks, peek, opP, O1.r, notB, notM, orM, andM, andV, orV, tM, truthM, attrM, callM, methM, applyM, applyS, slotsOf, slotR, fresh1, notAt, backE, lentAt, backS_none, bs1, bs2, bs3, finS, backP, bindR, free1, freeze, Sl.fix, C.p, List.mapIdx_cons, List.mapIdx_nil, i1, keyP, p_mul, p_ix, itemPut, heldC, putC, l1, hA.1, hA.2]) [] (fun _ => 0) nl hn wd_nil
  refine ⟨d7, nl', q3.congr fun s => ?_, ?_⟩
  · by_cases z : s ∈ ks
    · simp [z]
    · simp [z, w1.out s fun q => z ((e4 s).mpr q)]
  · have hi : iterM (varM 1) (ez st (.own (.dic k1) false) b (.val (.int m) false) c5 c6 (.own (.dic []) false) nl .no .no) = .ok (ks.map .str) (ez st (.val (.dic k1) false) b (.val (.int m) false) c5 c6 (.own (.dic []) false) nl .no .no) := by
      rw [← e1]
      rfl
    unfold forM
    rw [hi]
    exact q1
def p5 (t : Gf) (cf : CF) : MS := parM [8, 9] (M.cons (newM t cf 0 (M.cons (varM 1) (M.pure []))) (M.cons (newM t cf 0 (M.cons (opM (opP .dict1) (M.cons (opM1 .revl (litemsM (varM 2))) (M.pure []))) (M.pure []))) (M.pure [])))
theorem p5_ok (ta : t.att = attF) (ti : t.init = initF) {st c c5 c6 c7 nl : Sl} (w1 : WD k1 f) (w2 : WD k2 g) : p5 t (runF (dsF t) 6) (ez st (.val (.dic k1) false) (.val (.dic k2) false) c c5 c6 c7 nl .no .no) = .nx (ez st (.val (.dic k1) false) (.val (.dic k2) false) c c5 c6 c7 nl (.own (uo f) false) (.own (uo g) false)) := by
  have e1 : newM t (runF (dsF t) 6) 0 (M.cons (varM 1) (M.pure [])) (ez st (.val (.dic k1) false) (.val (.dic k2) false) c c5 c6 c7 nl .no .no) = _ := new_val (n := 3) ta ti w1 (me := varM 1) rfl
  have hr : opM (opP .dict1) (M.cons (opM1 .revl (litemsM (varM 2))) (M.pure [])) (ez st (.val (.dic k1) false) (.val (.dic k2) false) c c5 c6 c7 nl .no .no) = .ok (.new (.dic k2.reverse)) (ez st (.val (.dic k1) false) (.val (.dic k2) false) c c5 c6 c7 nl .no .no) := by
    have q := pairs_kv k2.reverse
    rw [List.map_reverse] at q
    simp [ez, seqM, ifM, nextM, retM, setM, exprM, varM, conM, bin0, binM, recv, opAt, opM, opM1, M.cons, M.pure, peeks, peek, opP, O1.r, notB, notM, orM, andM, andV, orV, tM, truthM, attrM, callM, methM, applyM, applyS, slotsOf, slotR, fresh1, notAt, backE, lentAt, backS_none, bs1, bs2, bs3, finS, backP, bindR, free1, freeze, Sl.fix, C.p, List.mapIdx_cons, List.mapIdx_nil, litemsM, p_revl, p_dict1, q, w2.rev.merge]
  have e2 : newM t (runF (dsF t) 6) 0 (M.cons (opM (opP .dict1) (M.cons (opM1 .revl (litemsM (varM 2))) (M.pure []))) (M.pure [])) (ez st (.val (.dic k1) false) (.val (.dic k2) false) c c5 c6 c7 nl .no .no) = _ := new_new (n := 3) ta ti w2.rev hr
  unfold p5 parM
  rw [M.cons, e1]
  dsimp only
  rw [M.cons, e2]
  rfl
end
end Pi

/-! Pn3: one round of the law: its tests. -/
namespace Pi
open PySem PySem.Spec L2 PyProof.Rows
section
variable {t : Gf} {n : Nat} {kvs ls k1 k2 d5 d6 d7 : List Kv} {f h g : Str → Int} {env env' env2 e : En} {m : Int} {s0 s1 s2 s3 s4 s5 s6 s7 L9 : Sl}
theorem set_id {i : Nat} {s : Sl} (h : env[i]? = some s) : env.set i s = env := by
  refine List.ext_getElem? fun j => ?_
  by_cases z : j = i
  · subst z
    rw [List.getElem?_set_self (List.getElem?_eq_some_iff.mp h).1, h]
  · rw [List.getElem?_set_ne (Ne.symm z)]
/-- a unit in slot i stands for a dict in slot j -/
theorem callT (ta : t.att = attF) (ti : t.init = initF) (w : WD kvs f) {i j : Nat} {fl gl : Bool} (hi : env[i]? = some (.own (uo f) fl)) (hj : env[j]? = some (.val (.dic kvs) gl)) : callM (runF (dsF t) 6) 20 [] (M.cons (varM i) (M.cons (varM j) (M.pure []))) env = .ok (.val (.bl true)) env := by
  have e : runF (dsF t) 6 20 [.own (uo f) true, .val (.dic kvs) false] = .ok (.val (.bl true)) [.own (uo f) true, .val (.dic kvs) false] := stands_ok (n := 2) ta ti w (.inl rfl) (.inl rfl)
  have hb : backE env [.at i, .val (.dic kvs)] [.own (uo f) true, .val (.dic kvs) false] = env := by
    rw [backE_set (i := i) (s' := .own (uo f) fl) hi (by simp [lentAt]; rfl) fun k hk => by simp [lentAt, Ne.symm hk]]
    exact set_id hi
  simp only [callM, M.cons, varM, hi, hj, M.pure, List.map_nil, List.append_nil, applyM, applyS, slotsOf, slotR, fresh1, notAt, if_true, e, hb]
/-- a new unit stands for a dict in slot j -/
theorem callS (ta : t.att = attF) (ti : t.init = initF) (w : WD kvs f) {A : M R} {j : Nat} {gl : Bool} (hA : A env = .ok (.new (uo f)) env') (hj : env'[j]? = some (.own (.dic kvs) gl)) : callM (runF (dsF t) 6) 20 [] (M.cons A (M.cons (varM j) (M.pure []))) env = .ok (.val (.bl true)) (env'.set j (.val (.dic kvs) gl)) := by
  have e : runF (dsF t) 6 20 [.own (uo f) true, .own (.dic kvs) true] = .ok (.val (.bl true)) [.own (uo f) true, .val (.dic kvs) true] := stands_ok (n := 2) ta ti w (.inl rfl) (.inr rfl)
  have hb : backE env' [.new (uo f), .at j] [.own (uo f) true, .val (.dic kvs) true] = env'.set j (.val (.dic kvs) gl) := backE_set (i := j) hj (by simp [lentAt]; rfl) fun k hk => by simp [lentAt, Ne.symm hk]
  simp only [callM, M.cons, hA, varM, hj, M.pure, List.map_nil, List.append_nil, applyM, applyS, slotsOf, slotR, fresh1, notAt, if_true, e, hb]
/-- a new unit stands for a new dict -/
theorem callN (ta : t.att = attF) (ti : t.init = initF) (w : WD kvs f) {A B : M R} (hA : A env = .ok (.new (uo f)) env') (hB : B env' = .ok (.new (.dic kvs)) env2) : callM (runF (dsF t) 6) 20 [] (M.cons A (M.cons B (M.pure []))) env = .ok (.val (.bl true)) env2 := by
  have e : runF (dsF t) 6 20 [.own (uo f) true, .own (.dic kvs) true] = .ok (.val (.bl true)) [.own (uo f) true, .val (.dic kvs) true] := stands_ok (n := 2) ta ti w (.inl rfl) (.inr rfl)
  have hb : backE env2 [.new (uo f), .new (.dic kvs)] [.own (uo f) true, .val (.dic kvs) true] = env2 := backE_id fun j => rfl
  simp only [callM, M.cons, hA, hB, M.pure, List.map_nil, List.append_nil, applyM, applyS, slotsOf, slotR, fresh1, if_true, e, hb]
theorem stepN {cf : CF} {A : M R} (h : A env = .ok (.val (.bl true)) env') : ifM (notM (tM t cf A)) (retM (conM (.bl false))) nextM env = .nx env' := by
  simp [ifM, notM, tM, h, truthM, peek, nextM]
theorem stepO {cf : CF} {A B : M R} (h : A env = .ok (.val (.bl true)) env') (h2 : B env' = .ok (.val (.bl true)) env2) : ifM (orM (notM (tM t cf A)) (notM (tM t cf B))) (retM (conM (.bl false))) nextM env = .nx env2 := by
  simp [ifM, orM, notM, tM, h, h2, truthM, peek, nextM]
theorem stepE {cf : CF} {A B : M R} {b : Bool} (h : A env = .ok (.val (.bl b)) env') (h2 : B env' = .ok (.val (.bl b)) env2) : ifM (tM t cf (bin0 .ne A B)) (retM (conM (.bl false))) nextM env = .nx env2 := by
  simp [ifM, tM, bin0, opM, M.cons, h, h2, M.pure, peeks, peek, opP, p_ne, eq_bl, O1.r, truthM, nextM]
variable (ta : t.att = attF) (ti : t.init = initF) (hf : ∀ s, s ∉ nm4 → f s = 0) (hg : ∀ s, s ∉ nm4 → g s = 0)
include ta ti hf hg
theorem mulA : binM t (runF (dsF t) 6) .mul "__mul__" false (varM 8) (varM 9) (ez s0 s1 s2 s3 s4 s5 s6 s7 (.own (uo f) false) (.own (uo g) false)) = .ok (.new (uo fun s => f s + 1 * g s)) (ez s0 s1 s2 s3 s4 s5 s6 s7 (.own (uo f) false) (.own (uo g) false)) := by
  have e : runF (dsF t) 6 5 [.own (uo f) true, .own (uo g) true] = _ := mul_ok (n := 2) ta ti (.inl rfl) (.inl rfl) hf hg
  simp only [uo] at e ⊢
  simp [ez, seqM, ifM, nextM, retM, setM, exprM, varM, conM, bin0, binM, recv, opAt, opM, opM1, M.cons, M.pure, peeks, peek, opP, O1.r, notB, notM, orM, andM, andV, orV, tM, truthM, attrM, callM, methM, applyM, applyS, slotsOf, slotR, fresh1, notAt, backE, lentAt, backS_none, bs1, bs2, bs3, finS, backP, bindR, free1, freeze, Sl.fix, C.p, List.mapIdx_cons, List.mapIdx_nil, att_mu ta, e]
theorem mulB : binM t (runF (dsF t) 6) .mul "__mul__" false (varM 9) (varM 8) (ez s0 s1 s2 s3 s4 s5 s6 s7 (.own (uo f) false) (.own (uo g) false)) = .ok (.new (uo fun s => g s + 1 * f s)) (ez s0 s1 s2 s3 s4 s5 s6 s7 (.own (uo f) false) (.own (uo g) false)) := by
  have e : runF (dsF t) 6 5 [.own (uo g) true, .own (uo f) true] = _ := mul_ok (n := 2) ta ti (.inl rfl) (.inl rfl) hg hf
  simp only [uo] at e ⊢
  simp [ez, seqM, ifM, nextM, retM, setM, exprM, varM, conM, bin0, binM, recv, opAt, opM, opM1, M.cons, M.pure, peeks, peek, opP, O1.r, notB, notM, orM, andM, andV, orV, tM, truthM, attrM, callM, methM, applyM, applyS, slotsOf, slotR, fresh1, notAt, backE, lentAt, backS_none, bs1, bs2, bs3, finS, backP, bindR, free1, freeze, Sl.fix, C.p, List.mapIdx_cons, List.mapIdx_nil, att_mu ta, e]
theorem fdivA : binM t (runF (dsF t) 6) .fdiv "__floordiv__" false (varM 8) (varM 9) (ez s0 s1 s2 s3 s4 s5 s6 s7 (.own (uo f) false) (.own (uo g) false)) = .ok (.new (uo fun s => f s + -1 * g s)) (ez s0 s1 s2 s3 s4 s5 s6 s7 (.own (uo f) false) (.own (uo g) false)) := by
  have e : runF (dsF t) 6 6 [.own (uo f) true, .own (uo g) true] = _ := fdiv_ok (n := 2) ta ti (.inl rfl) (.inl rfl) hf hg
  simp only [uo] at e ⊢
  simp [ez, seqM, ifM, nextM, retM, setM, exprM, varM, conM, bin0, binM, recv, opAt, opM, opM1, M.cons, M.pure, peeks, peek, opP, O1.r, notB, notM, orM, andM, andV, orV, tM, truthM, attrM, callM, methM, applyM, applyS, slotsOf, slotR, fresh1, notAt, backE, lentAt, backS_none, bs1, bs2, bs3, finS, backP, bindR, free1, freeze, Sl.fix, C.p, List.mapIdx_cons, List.mapIdx_nil, att_fd ta, e]
theorem fdivV : binM t (runF (dsF t) 6) .fdiv "__floordiv__" false (varM 8) (varM 9) (ez s0 s1 s2 s3 s4 s5 s6 s7 (.val (uo f).p false) (.own (uo g) false)) = .ok (.new (uo fun s => f s + -1 * g s)) (ez s0 s1 s2 s3 s4 s5 s6 s7 (.val (uo f).p false) (.own (uo g) false)) := by
  have e : runF (dsF t) 6 6 [.val (uo f).p false, .own (uo g) true] = _ := fdiv_ok (n := 2) ta ti (.inr rfl) (.inl rfl) hf hg
  simp only [uo, C.p] at e ⊢
  simp [ez, seqM, ifM, nextM, retM, setM, exprM, varM, conM, bin0, binM, recv, opAt, opM, opM1, M.cons, M.pure, peeks, peek, opP, O1.r, notB, notM, orM, andM, andV, orV, tM, truthM, attrM, callM, methM, applyM, applyS, slotsOf, slotR, fresh1, notAt, backE, lentAt, backS_none, bs1, bs2, bs3, finS, backP, bindR, free1, freeze, Sl.fix, C.p, List.mapIdx_cons, List.mapIdx_nil, att_fd ta, e]
theorem fdivS : binM t (runF (dsF t) 6) .fdiv "__floordiv__" false (varM 8) (varM 8) (ez s0 s1 s2 s3 s4 s5 s6 s7 (.own (uo f) false) L9) = .ok (.new (uo fun s => f s + -1 * f s)) (ez s0 s1 s2 s3 s4 s5 s6 s7 (.val (uo f).p false) L9) := by
  have e : runF (dsF t) 6 6 [.val (uo f).p false, .val (uo f).p false] = _ := fdiv_ok (n := 2) ta ti (.inr rfl) (.inr rfl) hf hf
  simp only [uo, C.p] at e ⊢
  simp [ez, seqM, ifM, nextM, retM, setM, exprM, varM, conM, bin0, binM, recv, opAt, opM, opM1, M.cons, M.pure, peeks, peek, opP, O1.r, notB, notM, orM, andM, andV, orV, tM, truthM, attrM, callM, methM, applyM, applyS, slotsOf, slotR, fresh1, notAt, backE, lentAt, backS_none, bs1, bs2, bs3, finS, backP, bindR, free1, freeze, Sl.fix, C.p, List.mapIdx_cons, List.mapIdx_nil, att_fd ta, e, freezes]
theorem mulN {A : M R} {L : Sl} (hA : A (ez s0 s1 s2 s3 s4 s5 s6 s7 L (.own (uo g) false)) = .ok (.new (uo f)) (ez s0 s1 s2 s3 s4 s5 s6 s7 L (.own (uo g) false))) : binM t (runF (dsF t) 6) .mul "__mul__" false A (varM 9) (ez s0 s1 s2 s3 s4 s5 s6 s7 L (.own (uo g) false)) = .ok (.new (uo fun s => f s + 1 * g s)) (ez s0 s1 s2 s3 s4 s5 s6 s7 L (.own (uo g) false)) := by
  have e : runF (dsF t) 6 5 [.own (uo f) true, .own (uo g) true] = _ := mul_ok (n := 2) ta ti (.inl rfl) (.inl rfl) hf hg
  simp only [uo] at e hA ⊢
  simp only [ez] at hA ⊢
  simp [seqM, ifM, nextM, retM, setM, exprM, varM, conM, bin0, binM, recv, opAt, opM, opM1, M.cons, M.pure, peeks, peek, opP, O1.r, notB, notM, orM, andM, andV, orV, tM, truthM, attrM, callM, methM, applyM, applyS, slotsOf, slotR, fresh1, notAt, backE, lentAt, backS_none, bs1, bs2, bs3, finS, backP, bindR, free1, freeze, Sl.fix, C.p, List.mapIdx_cons, List.mapIdx_nil, att_mu ta, e, hA]
theorem eqA {b : Bool} (q : eqP (.dic (pl f)) (.dic (pl g)) = some b) : binM t (runF (dsF t) 6) .eq "__eq__" false (varM 8) (varM 9) (ez s0 s1 s2 s3 s4 s5 s6 s7 (.own (uo f) false) (.own (uo g) false)) = .ok (.val (.bl b)) (ez s0 s1 s2 s3 s4 s5 s6 s7 (.own (uo f) false) (.own (uo g) false)) := by
  have e : runF (dsF t) 6 4 [.own (uo f) true, .own (uo g) true] = _ := eq_ok (n := 5) ta (.inl rfl) (.inl rfl) q
  simp only [uo] at e ⊢
  simp [ez, seqM, ifM, nextM, retM, setM, exprM, varM, conM, bin0, binM, recv, opAt, opM, opM1, M.cons, M.pure, peeks, peek, opP, O1.r, notB, notM, orM, andM, andV, orV, tM, truthM, attrM, callM, methM, applyM, applyS, slotsOf, slotR, fresh1, notAt, backE, lentAt, backS_none, bs1, bs2, bs3, finS, backP, bindR, free1, freeze, Sl.fix, C.p, List.mapIdx_cons, List.mapIdx_nil, att_eq ta, e]
omit hf hg ti in
theorem eqNN {A B : M R} (hA : A env = .ok (.new (uo f)) env) (hB : B env = .ok (.new (uo g)) env) (q : eqP (.dic (pl f)) (.dic (pl g)) = some true) : binM t (runF (dsF t) 6) .eq "__eq__" false A B env = .ok (.val (.bl true)) env := by
  have e : runF (dsF t) 6 4 [.own (uo f) true, .own (uo g) true] = _ := eq_ok (n := 5) ta (.inl rfl) (.inl rfl) q
  have hb : backE env [.new (uo f), .new (uo g)] [.own (uo f) true, .own (uo g) true] = env := backE_id fun j => rfl
  simp only [uo] at e hA hB hb ⊢
  simp only [binM, hA, hB, recv, peek, C.p, att_eq ta, if_true, applyM, applyS, slotsOf, slotR, fresh1, e, hb]
omit hf hg ti in
theorem eqNV {A : M R} {R9 : Sl} (hA : A (ez s0 s1 s2 s3 s4 s5 s6 s7 (.val (uo g).p false) R9) = .ok (.new (uo f)) (ez s0 s1 s2 s3 s4 s5 s6 s7 (.val (uo g).p false) R9)) (q : eqP (.dic (pl f)) (.dic (pl g)) = some true) : binM t (runF (dsF t) 6) .eq "__eq__" false A (varM 8) (ez s0 s1 s2 s3 s4 s5 s6 s7 (.val (uo g).p false) R9) = .ok (.val (.bl true)) (ez s0 s1 s2 s3 s4 s5 s6 s7 (.val (uo g).p false) R9) := by
  have e : runF (dsF t) 6 4 [.own (uo f) true, .val (uo g).p false] = _ := eq_ok (n := 5) ta (.inl rfl) (.inr rfl) q
  simp only [uo, C.p] at e hA ⊢
  simp only [ez] at hA ⊢
  simp [seqM, ifM, nextM, retM, setM, exprM, varM, conM, bin0, binM, recv, opAt, opM, opM1, M.cons, M.pure, peeks, peek, opP, O1.r, notB, notM, orM, andM, andV, orV, tM, truthM, attrM, callM, methM, applyM, applyS, slotsOf, slotR, fresh1, notAt, backE, lentAt, backS_none, bs1, bs2, bs3, finS, backP, bindR, free1, freeze, Sl.fix, C.p, List.mapIdx_cons, List.mapIdx_nil, att_eq ta, e, hA]
end
end Pi

/-! Pn4: the law. -/
namespace Pi
open PySem PySem.Spec L2 PyProof.Rows
section
variable {t : Gf} {n : Nat} {kvs ls k1 k2 d5 d6 d7 : List Kv} {f h g : Str → Int} {env env' env2 e : En} {m : Int} {s0 s1 s2 s3 s4 s5 s6 s7 L9 : Sl}
theorem powC (ta : t.att = attF) (ti : t.init = initF) (hf : ∀ s, s ∉ nm4 → f s = 0) (hm : 0 ≤ m ∧ m < 4) {i j : Nat} {fl gl : Bool} (hi : env[i]? = some (.own (uo f) fl)) (hj : env[j]? = some (.val (.int m) gl)) : callM (runF (dsF t) 6) 21 [] (M.cons (varM i) (M.cons (varM j) (M.pure []))) env = .ok (.new (uo fun s => f s * m)) env := by
  have e : runF (dsF t) 6 21 [.own (uo f) true, .val (.int m) false] = _ := power_ok (n := 0) ta ti hf hm.1 hm.2
  have hb : backE env [.at i, .val (.int m)] [.own (uo f) true, .val (.int m) false] = env := by
    rw [backE_set (i := i) (s' := .own (uo f) fl) hi (by simp [lentAt]; rfl) fun k hk => by simp [lentAt, Ne.symm hk]]
    exact set_id hi
  simp only [callM, M.cons, varM, hi, hj, M.pure, List.map_nil, List.append_nil, applyM, applyS, slotsOf, slotR, fresh1, notAt, if_true, e, hb]
theorem plainC (w : WD kvs f) {j : Nat} {gl : Bool} (hj : env[j]? = some (.val (.dic kvs) gl)) : callM (runF (dsF t) 6) 19 [] (M.cons (varM j) (M.pure [])) env = .ok (.new (.dic (pl f))) env := by
  have e : runF (dsF t) 6 19 [.val (.dic kvs) false] = _ := plain_ok (n := 5) w (.inl rfl)
  have hb : backE env [.val (.dic kvs)] [.val (.dic kvs) false] = env := backE_id fun j => rfl
  simp only [callM, M.cons, varM, hj, M.pure, List.map_nil, List.append_nil, applyM, applyS, slotsOf, slotR, fresh1, if_true, e, hb]
theorem eqP2 {A B : M R} {b : Bool} (hA : A env = .ok (.new (.dic k1)) env) (hB : B env = .ok (.new (.dic k2)) env) (q : eqP (.dic k1) (.dic k2) = some b) {cf : CF} : binM t cf .eq "__eq__" false A B env = .ok (.val (.bl b)) env := by
  simp only [binM, hA, hB, recv, peek, C.p, opAt, peeks, opP, p_eq, q, Option.map_some, O1.r]
theorem clearC (ta : t.att = attF) : exprM (clearM (attrM t (runF (dsF t) 6) "powers" (varM 8))) (ez s0 s1 s2 s3 s4 s5 s6 s7 (.own (uo f) false) L9) = .nx (ez s0 s1 s2 s3 s4 s5 s6 s7 (.own (uo f) false) L9) := by
  have e : runF (dsF t) 6 3 [.own (uo f) true] = _ := powers_ok (n := 5) ta (.inl rfl)
  simp only [uo] at e ⊢
  simp [ez, seqM, ifM, nextM, retM, setM, exprM, varM, conM, bin0, binM, recv, opAt, opM, opM1, M.cons, M.pure, peeks, peek, opP, O1.r, notB, notM, orM, andM, andV, orV, tM, truthM, attrM, callM, methM, applyM, applyS, slotsOf, slotR, fresh1, notAt, backE, lentAt, backS_none, bs1, bs2, bs3, finS, backP, bindR, free1, freeze, Sl.fix, C.p, List.mapIdx_cons, List.mapIdx_nil, att_pw ta, noEx, clearM, heldC, putC, e]
def last (t : Gf) (cf : CF) : MS := retM (andV (callM cf 20 [] (M.cons (varM 8) (M.cons (varM 1) (M.pure [])))) (andV (callM cf 20 [] (M.cons (binM t cf .fdiv "__floordiv__" false (varM 8) (varM 8)) (M.cons dic0M (M.pure [])))) (binM t cf .eq "__eq__" false (binM t cf .mul "__mul__" false (binM t cf .fdiv "__floordiv__" false (varM 8) (varM 9)) (varM 9)) (varM 8))))
theorem bd22_eq (cf : CF) : bd22 t cf = seqM (p1 cf) (seqM p2 (seqM (forM (iterM (varM 2)) (.var 7) (y3 t cf)) (seqM (forM (iterM (varM 1)) (.var 7) (y4 t cf)) (seqM (p5 t cf)
    (seqM (ifM (notM (tM t cf (callM cf 20 [] (M.cons (varM 8) (M.cons (varM 1) (M.pure [])))))) (retM (conM (.bl false))) nextM)
    (seqM (ifM (notM (tM t cf (callM cf 20 [] (M.cons (varM 9) (M.cons (varM 2) (M.pure [])))))) (retM (conM (.bl false))) nextM)
    (seqM (ifM (notM (tM t cf (callM cf 20 [] (M.cons (binM t cf .mul "__mul__" false (varM 8) (varM 9)) (M.cons (varM 4) (M.pure [])))))) (retM (conM (.bl false))) nextM)
    (seqM (ifM (orM (notM (tM t cf (callM cf 20 [] (M.cons (binM t cf .fdiv "__floordiv__" false (varM 8) (varM 9)) (M.cons (varM 5) (M.pure [])))))) (notM (tM t cf (callM cf 20 [] (M.cons (callM cf 21 [] (M.cons (varM 8) (M.cons (varM 3) (M.pure [])))) (M.cons (varM 6) (M.pure []))))))) (retM (conM (.bl false))) nextM)
    (seqM (ifM (notM (tM t cf (binM t cf .eq "__eq__" false (binM t cf .mul "__mul__" false (varM 8) (varM 9)) (binM t cf .mul "__mul__" false (varM 9) (varM 8))))) (retM (conM (.bl false))) nextM)
    (seqM (ifM (tM t cf (bin0 .ne (binM t cf .eq "__eq__" false (varM 8) (varM 9)) (binM t cf .eq "__eq__" false (callM cf 19 [] (M.cons (varM 1) (M.pure []))) (callM cf 19 [] (M.cons (varM 2) (M.pure [])))))) (retM (conM (.bl false))) nextM)
    (seqM (exprM (clearM (attrM t cf "powers" (varM 8)))) (last t cf)))))))))))) := rfl
theorem last_ok (ta : t.att = attF) (ti : t.init = initF) (w1 : WD k1 f) (hg : ∀ s, s ∉ nm4 → g s = 0) : ∃ e, last t (runF (dsF t) 6) (ez s0 (.val (.dic k1) false) s2 s3 s4 s5 s6 s7 (.own (uo f) false) (.own (uo g) false)) = .rt (.val (.bl true)) (s0 :: e) := by
  have hf : ∀ s, s ∉ nm4 → f s = 0 := fun s hs => w1.off hs
  have x1 := callT (env := ez s0 (.val (.dic k1) false) s2 s3 s4 s5 s6 s7 (.own (uo f) false) (.own (uo g) false)) ta ti w1 (i := 8) (j := 1) rfl rfl
  have hx := fdivS (s0 := s0) (s1 := .val (.dic k1) false) (s2 := s2) (s3 := s3) (s4 := s4) (s5 := s5) (s6 := s6) (s7 := s7) (L9 := .own (uo g) false) ta ti hf hf
  have w0 : WD [] (fun s => f s + -1 * f s) := wd_nil.congr fun s => by omega
  have x2 := callN ta ti w0 (B := dic0M) hx rfl
  have y1 := fdivV (s0 := s0) (s1 := .val (.dic k1) false) (s2 := s2) (s3 := s3) (s4 := s4) (s5 := s5) (s6 := s6) (s7 := s7) ta ti hf hg
  have y2 := mulN ta ti (f := fun s => f s + -1 * g s) (fun s hs => by rw [hf s hs, hg s hs]; rfl) hg y1
  have q : eqP (.dic (pl fun s => f s + -1 * g s + 1 * g s)) (.dic (pl f)) = some true := by
    rw [pl_ext (f := fun s => f s + -1 * g s + 1 * g s) (h := f) fun s _ => by omega]
    exact (pl_wd hf).eq_self
  have x3 := eqNV ta y2 q
  refine ⟨[.val (.dic k1) false, s2, s3, s4, s5, s6, s7, .val (uo f).p false, .own (uo g) false], ?_⟩
  · unfold last retM andV
    rw [x1]
    dsimp only
    rw [x2]
    dsimp only
    rw [x3]
    rfl
theorem right_ok (ta : t.att = attF) (ti : t.init = initF) (ns : List Int) {v : Int} (hv : 0 ≤ v) : ∃ S, runF (dsF t) 7 22 [.own (stt ns v 0) true] = .ok (.val (.bl true)) [S] := by
  obtain ⟨i', k1, f, k2, g, m, w1, w2, hm, e1⟩ := p1_ok (t := t) ns hv (Int.le_refl 0)
  have hf : ∀ s, s ∉ nm4 → f s = 0 := fun s hs => w1.off hs
  have hg : ∀ s, s ∉ nm4 → g s = 0 := fun s hs => w2.off hs
  have e2 := p2_ok (k1 := k1) (st := .own (stt ns v i') true) (b := .own (.dic k2) false) (c := .val (.int m) false)
  obtain ⟨d5, d6, nl, hn, w5, w6, e3⟩ := p3_ok (t := t) (cf := runF (dsF t) 6) (st := .own (stt ns v i') true) (a := .own (.dic k1) false) (c := .val (.int m) false) (p := .own (.dic []) false) w1 w2
  obtain ⟨d7, nl', w7, e4⟩ := p4_ok (t := t) (cf := runF (dsF t) 6) (st := .own (stt ns v i') true) (b := .val (.dic k2) false) (c5 := .own (.dic d5) false) (c6 := .own (.dic d6) false) w1 hn hm
  have e5 := p5_ok (t := t) ta ti (st := .own (stt ns v i') true) (c := .val (.int m) false) (c5 := .own (.dic d5) false) (c6 := .own (.dic d6) false) (c7 := .own (.dic d7) false) (nl := nl') w1 w2
  have c1 := stepN (t := t) (cf := runF (dsF t) 6) (callT (env := ez (.own (stt ns v i') true) (.val (.dic k1) false) (.val (.dic k2) false) (.val (.int m) false) (.own (.dic d5) false) (.own (.dic d6) false) (.own (.dic d7) false) nl' (.own (uo f) false) (.own (uo g) false)) ta ti w1 (i := 8) (j := 1) rfl rfl)
  have c2 := stepN (t := t) (cf := runF (dsF t) 6) (callT (env := ez (.own (stt ns v i') true) (.val (.dic k1) false) (.val (.dic k2) false) (.val (.int m) false) (.own (.dic d5) false) (.own (.dic d6) false) (.own (.dic d7) false) nl' (.own (uo f) false) (.own (uo g) false)) ta ti w2 (i := 9) (j := 2) rfl rfl)
  have c3 := stepN (t := t) (cf := runF (dsF t) 6) (callS ta ti w5 (j := 4) (gl := false) (mulA (s0 := .own (stt ns v i') true) (s1 := .val (.dic k1) false) (s2 := .val (.dic k2) false) (s3 := .val (.int m) false) (s4 := .own (.dic d5) false) (s5 := .own (.dic d6) false) (s6 := .own (.dic d7) false) (s7 := nl') ta ti hf hg) rfl)
  have x4 := callS ta ti w6 (j := 5) (gl := false) (fdivA (s0 := .own (stt ns v i') true) (s1 := .val (.dic k1) false) (s2 := .val (.dic k2) false) (s3 := .val (.int m) false) (s4 := .val (.dic d5) false) (s5 := .own (.dic d6) false) (s6 := .own (.dic d7) false) (s7 := nl') ta ti hf hg) rfl
  have x5 := callS ta ti w7 (j := 6) (gl := false) (powC (env := ez (.own (stt ns v i') true) (.val (.dic k1) false) (.val (.dic k2) false) (.val (.int m) false) (.val (.dic d5) false) (.val (.dic d6) false) (.own (.dic d7) false) nl' (.own (uo f) false) (.own (uo g) false)) ta ti hf hm (i := 8) (j := 3) rfl rfl) rfl
  have c4 := stepO (t := t) (cf := runF (dsF t) 6) x4 x5
  have q6 : eqP (.dic (pl fun s => f s + 1 * g s)) (.dic (pl fun s => g s + 1 * f s)) = some true := by
    rw [pl_ext (f := fun s => g s + 1 * f s) (h := fun s => f s + 1 * g s) fun s _ => by omega]
    exact (pl_wd fun s hs => by rw [hf s hs, hg s hs]; rfl).eq_self
  have c6 := stepN (t := t) (cf := runF (dsF t) 6) (eqNN ta (mulA (s0 := .own (stt ns v i') true) (s1 := .val (.dic k1) false) (s2 := .val (.dic k2) false) (s3 := .val (.int m) false) (s4 := .val (.dic d5) false) (s5 := .val (.dic d6) false) (s6 := .val (.dic d7) false) (s7 := nl') ta ti hf hg) (mulB ta ti hf hg) q6)
  obtain ⟨b, qb⟩ := (pl_wd hf).eq_some (pl_wd hg)
  have c7 := stepE (t := t) (cf := runF (dsF t) 6) (eqA (s0 := .own (stt ns v i') true) (s1 := .val (.dic k1) false) (s2 := .val (.dic k2) false) (s3 := .val (.int m) false) (s4 := .val (.dic d5) false) (s5 := .val (.dic d6) false) (s6 := .val (.dic d7) false) (s7 := nl') ta ti hf hg qb) (eqP2 (t := t) (cf := runF (dsF t) 6) (plainC (t := t) w1 (j := 1) (gl := false) rfl) (plainC (t := t) w2 (j := 2) (gl := false) rfl) qb)
  have c8 := clearC (t := t) (s0 := .own (stt ns v i') true) (s1 := .val (.dic k1) false) (s2 := .val (.dic k2) false) (s3 := .val (.int m) false) (s4 := .val (.dic d5) false) (s5 := .val (.dic d6) false) (s6 := .val (.dic d7) false) (s7 := nl') (L9 := .own (uo g) false) (f := f) ta
  obtain ⟨ee, c9⟩ := last_ok (t := t) (s0 := .own (stt ns v i') true) (s2 := .val (.dic k2) false) (s3 := .val (.int m) false) (s4 := .val (.dic d5) false) (s5 := .val (.dic d6) false) (s6 := .val (.dic d7) false) (s7 := nl') ta ti w1 hg
  refine ⟨.own (stt ns v i') true, ?_⟩
  have h0 : ([.own (stt ns v 0) true] ++ List.replicate (10 - 1) Sl.no : En) = ez (.own (stt ns v 0) true) .no .no .no .no .no .no .no .no .no := rfl
  rw [rf_at d22 rfl (by decide) rfl, bd22_eq, h0]
  unfold seqM
  rw [e1]
  dsimp only
  rw [e2]
  dsimp only
  rw [e3]
  dsimp only
  rw [e4]
  dsimp only
  rw [e5]
  dsimp only
  rw [c1]
  dsimp only
  rw [c2]
  dsimp only
  rw [c3]
  dsimp only
  rw [show (ez (.own (stt ns v i') true) (.val (.dic k1) false) (.val (.dic k2) false) (.val (.int m) false) (.own (.dic d5) false) (.own (.dic d6) false) (.own (.dic d7) false) nl' (.own (uo f) false) (.own (uo g) false)).set 4 (.val (.dic d5) false) = ez (.own (stt ns v i') true) (.val (.dic k1) false) (.val (.dic k2) false) (.val (.int m) false) (.val (.dic d5) false) (.own (.dic d6) false) (.own (.dic d7) false) nl' (.own (uo f) false) (.own (uo g) false) from rfl, c4]
  dsimp only
  rw [show (ez (.own (stt ns v i') true) (.val (.dic k1) false) (.val (.dic k2) false) (.val (.int m) false) (.val (.dic d5) false) (.val (.dic d6) false) (.own (.dic d7) false) nl' (.own (uo f) false) (.own (uo g) false)).set 6 (.val (.dic d7) false) = ez (.own (stt ns v i') true) (.val (.dic k1) false) (.val (.dic k2) false) (.val (.int m) false) (.val (.dic d5) false) (.val (.dic d6) false) (.val (.dic d7) false) nl' (.own (uo f) false) (.own (uo g) false) from rfl, c6]
  dsimp only
  rw [c7]
  dsimp only
  rw [c8]
  dsimp only
  rw [c9]
  rfl
end
end Pi

/-! Pn5: the law is True. -/
namespace Pi
open PySem PySem.Spec L2 PyProof.Rows
section
variable {t : Gf}
def y23 (t : Gf) (cf : CF) : MS := ifM (notM (tM t cf (callM cf 22 [] (M.cons (dispM (fun xs => .mk (.lst xs)) (M.cons (varM 0) (M.cons (varM 1) (M.cons (conM (.int 0)) (M.pure []))))) (M.pure []))))) (retM (conM (.bl false))) nextM
def r23 : M (List P) := rangeM (M.cons (conM (.int 0)) (M.cons (opM (opP .max2) (M.cons (conM (.int 1)) (M.cons (opM (opP .min2) (M.cons (conM (.int 24)) (M.cons (opM (opP .len) (M.cons (varM 0) (M.pure []))) (M.pure [])))) (M.pure [])))) (M.cons (conM (.int 2)) (M.pure []))))
theorem bd23_eq (cf : CF) : bd23 t cf = seqM (forM r23 (.var 1) (y23 t cf)) (retM (conM (.bl true))) := rfl
theorem y23_ok (ta : t.att = attF) (ti : t.init = initF) (ns : List Int) {v : Int} (hv : 0 ≤ v) : y23 t (runF (dsF t) 7) [.val (.lst (ns.map .int)) false, .val (.int v) false] = .nx [.val (.lst (ns.map .int)) false, .val (.int v) false] := by
  obtain ⟨S, e⟩ := right_ok ta ti ns hv
  have hd : dispM (fun xs => .mk (.lst xs)) (M.cons (varM 0) (M.cons (varM 1) (M.cons (conM (.int 0)) (M.pure [])))) [.val (.lst (ns.map .int)) false, .val (.int v) false] = .ok (.new (stt ns v 0)) [.val (.lst (ns.map .int)) false, .val (.int v) false] := rfl
  have hb : backE [.val (.lst (ns.map .int)) false, .val (.int v) false] [.new (stt ns v 0)] [S] = [.val (.lst (ns.map .int)) false, .val (.int v) false] := rfl
  have hc : callM (runF (dsF t) 7) 22 [] (M.cons (dispM (fun xs => .mk (.lst xs)) (M.cons (varM 0) (M.cons (varM 1) (M.cons (conM (.int 0)) (M.pure []))))) (M.pure [])) [.val (.lst (ns.map .int)) false, .val (.int v) false] = .ok (.val (.bl true)) [.val (.lst (ns.map .int)) false, .val (.int v) false] := by
    unfold callM
    rw [M.cons, hd]
    simp only [M.pure, List.map_nil, List.append_nil, applyM, applyS, slotsOf, slotR, fresh1, if_true, e, hb]
  exact stepN hc
theorem loop23 (ta : t.att = attF) (ti : t.init = initF) (ns : List Int) (xs : List P) : (∀ x ∈ xs, ∃ v : Int, 0 ≤ v ∧ x = .int v) → ∀ nl : Sl, nl.fix = false → ∃ nl', loopM (.var 1) (y23 t (runF (dsF t) 7)) xs [.val (.lst (ns.map .int)) false, nl] = .nx [.val (.lst (ns.map .int)) false, nl'] := by
  induction xs with
  | nil => intro _ nl _; exact ⟨nl, rfl⟩
  | cons x xs ih =>
    intro h nl hn
    obtain ⟨v, hv, rfl⟩ := h x List.mem_cons_self
    obtain ⟨nl', e⟩ := ih (fun y hy => h y (List.mem_cons_of_mem _ hy)) (.val (.int v) false) rfl
    refine ⟨nl', ?_⟩
    have hb : bindP (.var 1) (.int v) [.val (.lst (ns.map .int)) false, nl] = some [.val (.lst (ns.map .int)) false, .val (.int v) false] := by simp [bindP, bindR, free1, hn]
    unfold loopM
    rw [hb]
    dsimp only
    rw [y23_ok ta ti ns hv]
    exact e
theorem small25 : ∀ j : Nat, j < 25 → Builtin.Range.small 0 (j : Int) 2 = true ∧ 0 ≤ Builtin.Range.rangeSize 0 (j : Int) 2 := by decide +kernel
theorem r23_ok (ns : List Int) : ∃ m : Nat, r23 [.val (.lst (ns.map .int)) false, .no] = .ok (rngL 0 2 m) [.val (.lst (ns.map .int)) false, .no] := by
  obtain ⟨j, hj, ej⟩ : ∃ j : Nat, j < 25 ∧ (if (1 : Int) < (if (ns.length : Int) < 24 then (ns.length : Int) else 24) then (if (ns.length : Int) < 24 then (ns.length : Int) else 24) else 1) = (j : Int) := by
    by_cases h1 : (ns.length : Int) < 24
    · by_cases h2 : (1 : Int) < ns.length
      · exact ⟨ns.length, by omega, by rw [if_pos h1, if_pos h2]⟩
      · exact ⟨1, by omega, by rw [if_pos h1, if_neg h2]; rfl⟩
    · exact ⟨24, by omega, by rw [if_neg h1]; rfl⟩
  obtain ⟨q1, q2⟩ := small25 j hj
  refine ⟨(Builtin.Range.rangeSize 0 (j : Int) 2).toNat, ?_⟩
  have hms : M.cons (conM (.int 0)) (M.cons (opM (opP .max2) (M.cons (conM (.int 1)) (M.cons (opM (opP .min2) (M.cons (conM (.int 24)) (M.cons (opM (opP .len) (M.cons (varM 0) (M.pure []))) (M.pure [])))) (M.pure [])))) (M.cons (conM (.int 2)) (M.pure []))) [.val (.lst (ns.map .int)) false, .no] = .ok [.val (.int 0), .val (.int j), .val (.int 2)] [.val (.lst (ns.map .int)) false, .no] := by
    rw [← ej]
    simp [seqM, ifM, nextM, retM, setM, exprM, varM, conM, bin0, binM, recv, opAt, opM, opM1, M.cons, M.pure, peeks, peek, opP, O1.r, notB, notM, orM, andM, andV, orV, tM, truthM, attrM, callM, methM, applyM, applyS, slotsOf, slotR, fresh1, notAt, backE, lentAt, backS_none, bs1, bs2, bs3, finS, backP, bindR, free1, freeze, Sl.fix, C.p, List.mapIdx_cons, List.mapIdx_nil, p_len, p_min2, p_max2]
  unfold r23 rangeM
  rw [hms]
  exact if_pos ⟨by decide, by decide, q1, q2⟩
theorem law_true (t : Gf) (ta : t.att = attF) (ti : t.init = initF) (ns : List Int) (_ : ns.length ≤ 63) : ∃ e, runF (dsF t) 8 23 [.val (.lst (ns.map .int)) false] = .ok (.val (.bl true)) e := by
  obtain ⟨m, e1⟩ := r23_ok ns
  obtain ⟨nl, e2⟩ := loop23 ta ti ns (rngL 0 2 m) (fun x hx => by
    unfold rngL at hx
    obtain ⟨i, _, rfl⟩ := List.mem_map.mp hx
    exact ⟨0 + (i : Int) * 2, by omega, rfl⟩) .no rfl
  have h0 : ([.val (.lst (ns.map .int)) false] ++ List.replicate (2 - 1) Sl.no : En) = [.val (.lst (ns.map .int)) false, .no] := rfl
  refine ⟨[.val (.lst (ns.map .int)) false], ?_⟩
  rw [rf_at d23 rfl (by decide) rfl, bd23_eq, h0]
  unfold seqM forM
  rw [e1]
  dsimp only
  rw [e2]
  rfl
end
end Pi

open PySem PySem.W PyProof.Rows
set_option maxRecDepth 100000 in
set_option maxHeartbeats 0 in
theorem PySem.Challenge.cw_fewlabels_k31_whole_units_holds : PySem.Challenge.rw_fewlabels_k31_whole_units.Holds := by
  w_on; o_law; k_head; (case hw => w_witness2)
  k_fill
  refine Pi.walk (l := PySem.Challenge.rw_fewlabels_k31_whole_units) rfl rfl (fun w h Y => PySem.W.kIn_of Y) ?F
  case F =>
    intro w mg fa h KX G hmg
    refine' Pi.all_mk KX G hmg ?aC ?a0 ?l0 ?c0 ?k0 ?a1 ?l1 ?c1 ?k1 ?a2 ?i2 ?n2 ?l2 ?c2 ?k2 ?a3 ?pg3 ?pt3 ?pr3 ?l3 ?c3 ?k3 ?a4 ?i4 ?n4 ?l4 ?c4 ?k4 ?a5 ?i5 ?n5 ?l5 ?c5 ?k5 ?a6 ?i6 ?n6 ?l6 ?c6 ?k6 ?a7 ?i7 ?n7 ?l7 ?c7 ?k7 ?a8 ?i8 ?n8 ?l8 ?c8 ?k8 ?a9 ?i9 ?n9 ?l9 ?c9 ?k9 ?a10 ?i10 ?n10 ?l10 ?c10 ?k10 ?a11 ?i11 ?n11 ?l11 ?c11 ?k11 ?a12 ?l12 ?c12 ?k12 ?a13 ?l13 ?c13 ?k13 ?a14 ?l14 ?c14 ?k14 ?a15 ?l15 ?c15 ?k15 ?a16 ?l16 ?c16 ?k16 ?a17 ?l17 ?c17 ?k17 ?a18 ?l18 ?c18 ?k18 ?a19 ?l19 ?c19 ?k19 ?a20 ?l20 ?c20 ?k20 ?a21 ?l21 ?c21 ?k21 ?a22 ?l22 ?c22 ?k22 ?a23 ?l23 ?c23 ?k23 ?pg ?hd ?po ?sa ?mk ?kc ?sf ?no_powers ?q1 ?q2 ?q3 ?q4 ?q5 ?yNoneType ?ybool ?yint ?ystr ?ylist ?ytuple ?ydict ?pw1 ?pw2 ?pw3 ?pw4 ?pw5 ?pw6 ?pw7 ?z_all ?z_bool ?z_dict ?z_int ?z_isinstance ?z_len ?z_list ?z_max ?z_min ?z_range ?z_sorted ?z_str Pi.law_true
    (case aC => k_is)
    (case a0 => k_is)
    (case l0 => k_is)
    (case c0 => k_is)
    (case k0 => k_is)
    (case a1 => k_is)
    (case l1 => k_is)
    (case c1 => k_is)
    (case k1 => k_is)
    (case a2 => k_is)
    (case i2 => k_is)
    (case n2 => k_is)
    (case l2 => k_is)
    (case c2 => k_is)
    (case k2 => k_is)
    (case a3 => k_is)
    (case pg3 => k_is)
    (case pt3 => k_is)
    (case pr3 => k_is)
    (case l3 => k_is)
    (case c3 => k_is)
    (case k3 => k_is)
    (case a4 => k_is)
    (case i4 => k_is)
    (case n4 => k_is)
    (case l4 => k_is)
    (case c4 => k_is)
    (case k4 => k_is)
    (case a5 => k_is)
    (case i5 => k_is)
    (case n5 => k_is)
    (case l5 => k_is)
    (case c5 => k_is)
    (case k5 => k_is)
    (case a6 => k_is)
    (case i6 => k_is)
    (case n6 => k_is)
    (case l6 => k_is)
    (case c6 => k_is)
    (case k6 => k_is)
    (case a7 => k_is)
    (case i7 => k_is)
    (case n7 => k_is)
    (case l7 => k_is)
    (case c7 => k_is)
    (case k7 => k_is)
    (case a8 => k_is)
    (case i8 => k_is)
    (case n8 => k_is)
    (case l8 => k_is)
    (case c8 => k_is)
    (case k8 => k_is)
    (case a9 => k_is)
    (case i9 => k_is)
    (case n9 => k_is)
    (case l9 => k_is)
    (case c9 => k_is)
    (case k9 => k_is)
    (case a10 => k_is)
    (case i10 => k_is)
    (case n10 => k_is)
    (case l10 => k_is)
    (case c10 => k_is)
    (case k10 => k_is)
    (case a11 => k_is)
    (case i11 => k_is)
    (case n11 => k_is)
    (case l11 => k_is)
    (case c11 => k_is)
    (case k11 => k_is)
    (case a12 => k_is)
    (case l12 => k_is)
    (case c12 => k_is)
    (case k12 => k_is)
    (case a13 => k_is)
    (case l13 => k_is)
    (case c13 => k_is)
    (case k13 => k_is)
    (case a14 => k_is)
    (case l14 => k_is)
    (case c14 => k_is)
    (case k14 => k_is)
    (case a15 => k_is)
    (case l15 => k_is)
    (case c15 => k_is)
    (case k15 => k_is)
    (case a16 => k_is)
    (case l16 => k_is)
    (case c16 => k_is)
    (case k16 => k_is)
    (case a17 => k_is)
    (case l17 => k_is)
    (case c17 => k_is)
    (case k17 => k_is)
    (case a18 => k_is)
    (case l18 => k_is)
    (case c18 => k_is)
    (case k18 => k_is)
    (case a19 => k_is)
    (case l19 => k_is)
    (case c19 => k_is)
    (case k19 => k_is)
    (case a20 => k_is)
    (case l20 => k_is)
    (case c20 => k_is)
    (case k20 => k_is)
    (case a21 => k_is)
    (case l21 => k_is)
    (case c21 => k_is)
    (case k21 => k_is)
    (case a22 => k_is)
    (case l22 => k_is)
    (case c22 => k_is)
    (case k22 => k_is)
    (case a23 => k_is)
    (case l23 => k_is)
    (case c23 => k_is)
    (case k23 => k_is)
    (case pg => k_is)
    (case hd => k_is)
    (case po => k_is)
    (case sa => k_is)
    (case mk => k_is)
    (case kc => k_is)
    (case sf => k_is)
    (case no_powers => k_is)
    (case q1 => k_is)
    (case q2 => k_is)
    (case q3 => k_is)
    (case q4 => k_is)
    (case q5 => kit_is)
    (case yNoneType => kit_is)
    (case ybool => kit_is)
    (case yint => kit_is)
    (case ystr => kit_is)
    (case ylist => kit_is)
    (case ytuple => kit_is)
    (case ydict => kit_is)
    (case pw1 => k_is)
    (case pw2 => k_is)
    (case pw3 => k_is)
    (case pw4 => k_is)
    (case pw5 => k_is)
    (case pw6 => k_is)
    (case pw7 => k_is)
    (case z_all => k_is)
    (case z_bool => k_is)
    (case z_dict => k_is)
    (case z_int => k_is)
    (case z_isinstance => k_is)
    (case z_len => k_is)
    (case z_list => k_is)
    (case z_max => k_is)
    (case z_min => k_is)
    (case z_range => k_is)
    (case z_sorted => k_is)
    (case z_str => k_is)
#print axioms PySem.Challenge.cw_fewlabels_k31_whole_units_holds

