import PyProof.Rows.All
import Wide.All
import OpenK.AllK
import Wide.FinOn
import KE.KStateDown
import Lean
import HandS.ForMost
import HandS.IsInst
import HandS.FStr
import HandS.Style
import HandS.TupAny
import HandS.Defaults
import HandS.More
import HandS.WordsExc
import HandS.Head0
import HandS.Head1
import HandS.Head2
import HandS.HeadEnd
import HandS.HeadHook1
import HandS.HeadHook2
import PySem.Challenge.RW_twiceeach_k00_symbols_and_fresh_names
set_option Elab.async false
set_option linter.all false
set_option maxRecDepth 100000
set_option maxHeartbeats 4000000
/-! Z: data instead of heaps. D: data; Rep: a value stands for a datum; Sl: the slots of a def hold data, shared or its own; EW, TW, AW, IW, GW, SW: what an expression, a test, .. is worth, by data alone. -/
namespace Z
open PySem L2

inductive D where
  | non | bl (b : Bool) | int (i : Int) | str (x : Str)
  | lst (ds : List D) | tup (ds : List D)
  | scr (ns : List Int)
  | ty (n : String)
deriving Inhabited

def ofV : V → D
  | .bl b => .bl b
  | .int i => .int i
  | .str x => .str x
  | .ty n => .ty n
  | _ => .non
def toV : D → V
  | .bl b => .bl b
  | .int i => .int i
  | .str x => .str x
  | .ty n => .ty n
  | _ => .non
def flatD : D → Bool
  | .non => true
  | .bl _ => true
  | .int _ => true
  | .str _ => true
  | .ty _ => true
  | _ => false
def plainV : V → Bool
  | .non => true
  | .bl _ => true
  | .int _ => true
  | .str _ => true
  | .ty _ => true
  | _ => false

mutual
inductive Rep (K : PySem.W.Frag) (H : Hp) : V → D → Prop
  | non : Rep K H .non .non
  | bl (b : Bool) : Rep K H (.bl b) (.bl b)
  | int (i : Int) : Rep K H (.int i) (.int i)
  | str (x : Str) : Rep K H (.str x) (.str x)
  | lst {a : Addr} {vs : List V} {ds : List D} (h : H a = some (.lst vs)) (r : RepL K H vs ds) : Rep K H (.ref a) (.lst ds)
  | tup {a : Addr} {vs : List V} {ds : List D} (h : SqT K H a vs) (r : RepL K H vs ds) : Rep K H (.ref a) (.tup ds)
  | ty (n : String) : Rep K H (.ty n) (.ty n)
  | scr {a : Addr} {ns : List Int} (h : SqL K H a (ns.map V.int)) : Rep K H (.ref a) (.scr ns)
inductive RepL (K : PySem.W.Frag) (H : Hp) : List V → List D → Prop
  | nil : RepL K H [] []
  | cons {v : V} {d : D} {vs : List V} {ds : List D} (h : Rep K H v d) (r : RepL K H vs ds) : RepL K H (v :: vs) (d :: ds)
end

theorem sameL {K : PySem.W.Frag} {H H' : Hp} {a : Addr} {xs : List V} (e : Same H H') (h : SqL K H a xs) : SqL K H' a xs := e.seq h
theorem sameT {K : PySem.W.Frag} {H H' : Hp} {a : Addr} {xs : List V} (e : Same H H') (h : SqT K H a xs) : SqT K H' a xs := by
  rcases h with (h | ⟨o, h⟩) | h
  · exact .inl (.inl (e _ _ h))
  · exact .inl (.inr ⟨o, e _ _ h⟩)
  · exact .inr h
mutual
theorem Rep.mono {K : PySem.W.Frag} {H H' : Hp} (e : Same H H') : ∀ {v : V} {d : D}, Rep K H v d → Rep K H' v d
  | _, _, .non => .non
  | _, _, .bl b => .bl b
  | _, _, .int i => .int i
  | _, _, .str x => .str x
  | _, _, .lst h r => .lst (e _ _ h) (RepL.mono e r)
  | _, _, .tup h r => .tup (sameT e h) (RepL.mono e r)
  | _, _, .scr h => .scr (sameL e h)
  | _, _, .ty n => .ty n
theorem RepL.mono {K : PySem.W.Frag} {H H' : Hp} (e : Same H H') : ∀ {vs : List V} {ds : List D}, RepL K H vs ds → RepL K H' vs ds
  | _, _, .nil => .nil
  | _, _, .cons h r => .cons (Rep.mono e h) (RepL.mono e r)
end
section
variable {K : PySem.W.Frag} {H H' : Hp} {v : V} {d : D} {vs ws : List V} {ds es : List D}
theorem Rep.ofV (h : plainV v = true) : Rep K H v (ofV v) := by
  cases v <;> first | exact .non | exact .bl _ | exact .int _ | exact .str _ | exact .ty _ | (cases h)
theorem Rep.toV (h : flatD d = true) (r : Rep K H v d) : v = toV d := by
  cases r <;> first | rfl | (cases h)
theorem RepL.length (r : RepL K H vs ds) : vs.length = ds.length := by
  induction vs generalizing ds with
  | nil => cases r; rfl
  | cons v vs ih => cases r with | cons h r => simp [ih r]
theorem RepL.get : ∀ {vs : List V} {ds : List D} {i : Nat}, RepL K H vs ds → ds[i]? = some d → ∃ v, vs[i]? = some v ∧ Rep K H v d
  | _, _, _, .nil, e => by simp at e
  | _, _, 0, .cons h r, e => by simp at e; subst e; exact ⟨_, rfl, h⟩
  | _, _, i + 1, .cons h r, e => by
    obtain ⟨v, h1, h2⟩ := RepL.get (i := i) r (by simpa using e)
    exact ⟨v, by simpa using h1, h2⟩
theorem RepL.get' {v : V} : ∀ {vs : List V} {ds : List D} {i : Nat}, RepL K H vs ds → vs[i]? = some v → ∃ d, ds[i]? = some d ∧ Rep K H v d
  | _, _, _, .nil, e => by simp at e
  | _, _, 0, .cons h r, e => by simp at e; subst e; exact ⟨_, rfl, h⟩
  | _, _, i + 1, .cons h r, e => by
    obtain ⟨d, h1, h2⟩ := RepL.get' (i := i) r (by simpa using e)
    exact ⟨d, by simpa using h1, h2⟩
theorem RepL.append : ∀ {vs ws : List V} {ds es : List D}, RepL K H vs ds → RepL K H ws es → RepL K H (vs ++ ws) (ds ++ es)
  | _, _, _, _, .nil, q => q
  | _, _, _, _, .cons h r, q => .cons h (RepL.append r q)
theorem RepL.set (h : Rep K H v d) : ∀ {vs : List V} {ds : List D} (i : Nat), RepL K H vs ds → RepL K H (vs.set i v) (ds.set i d)
  | _, _, _, .nil => .nil
  | _, _, 0, .cons _ r => .cons h r
  | _, _, i + 1, .cons q r => .cons q (RepL.set h i r)
theorem RepL.take : ∀ {vs : List V} {ds : List D} (i : Nat), RepL K H vs ds → RepL K H (vs.take i) (ds.take i)
  | _, _, 0, _ => .nil
  | _, _, i + 1, .nil => .nil
  | _, _, i + 1, .cons q r => .cons q (RepL.take i r)
theorem RepL.drop : ∀ {vs : List V} {ds : List D} (i : Nat), RepL K H vs ds → RepL K H (vs.drop i) (ds.drop i)
  | _, _, 0, r => r
  | _, _, i + 1, .nil => .nil
  | _, _, i + 1, .cons _ r => RepL.drop i r
theorem RepL.reverse : ∀ {vs : List V} {ds : List D}, RepL K H vs ds → RepL K H vs.reverse ds.reverse
  | _, _, .nil => .nil
  | _, _, .cons h r => by
    rw [List.reverse_cons, List.reverse_cons]
    exact (RepL.reverse r).append (.cons h .nil)
theorem RepL.strs : ∀ {vs : List V} {xs : List Str}, RepL K H vs (xs.map D.str) → vs = xs.map V.str
  | _, [], r => by cases r; rfl
  | _, x :: xs, r => by
    cases r with
    | cons h r => cases h; rw [RepL.strs r]; rfl
theorem RepL.ints : ∀ {vs : List V} {xs : List Int}, RepL K H vs (xs.map D.int) → vs = xs.map V.int
  | _, [], r => by cases r; rfl
  | _, x :: xs, r => by
    cases r with
    | cons h r => cases h; rw [RepL.ints r]; rfl
theorem RepL.bls : ∀ {vs : List V} {xs : List Bool}, RepL K H vs (xs.map D.bl) → vs = xs.map V.bl
  | _, [], r => by cases r; rfl
  | _, x :: xs, r => by
    cases r with
    | cons h r => cases h; rw [RepL.bls r]; rfl
theorem RepL.ofStrs : ∀ {xs : List Str}, RepL K H (xs.map V.str) (xs.map D.str)
  | [] => .nil
  | x :: xs => .cons (.str x) RepL.ofStrs
theorem RepL.ofInts : ∀ {xs : List Int}, RepL K H (xs.map V.int) (xs.map D.int)
  | [] => .nil
  | x :: xs => .cons (.int x) RepL.ofInts
end

/-! ### heaps -/
/-- from (Hs, H) to (Hs', H'): Hs is what is shared (data), H all that is tracked; nothing that stood is changed, what was not shared stays so -/
structure Grow (Hs H Hs' H' : Hp) : Prop where
  s : Same Hs Hs'
  e : Same H H'
  b : Same Hs' H'
  n : ∀ a o, H a = some o → Hs a = none → Hs' a = none
theorem Grow.refl {Hs H : Hp} (b : Same Hs H) : Grow Hs H Hs H := ⟨.refl _, .refl _, b, fun _ _ _ h => h⟩
theorem Grow.trans {Hs H Hs1 H1 Hs2 H2 : Hp} (x : Grow Hs H Hs1 H1) (y : Grow Hs1 H1 Hs2 H2) : Grow Hs H Hs2 H2 :=
  ⟨x.s.trans y.s, x.e.trans y.e, y.b, fun a o h n => y.n a o (x.e _ _ h) (x.n a o h n)⟩
theorem sameNew {H : Hp} {p : Addr} {o : HO} (h : H p = none) : Same H (upd H p o) := fun a u e => by
  rw [upd_ne (ne_of_none e h)]; exact e
theorem upd_same_of {Hs H : Hp} {p : Addr} {o : HO} (b : Same Hs H) : Same (upd Hs p o) (upd H p o) := fun a u e => by
  by_cases q : a = p
  · subst q; rw [upd_same] at e ⊢; exact e
  · rw [upd_ne q] at e ⊢; exact b _ _ e
theorem Grow.new {Hs H : Hp} {p : Addr} {o : HO} (b : Same Hs H) (h : H p = none) : Grow Hs H (upd Hs p o) (upd H p o) :=
  ⟨sameNew (b.free h), sameNew h, upd_same_of b, fun a u e n => by rw [upd_ne (ne_of_none e h)]; exact n⟩
/-- something new that is not shared (yet) -/
theorem Grow.hid {Hs H : Hp} {p : Addr} {o : HO} (b : Same Hs H) (h : H p = none) : Grow Hs H Hs (upd H p o) :=
  ⟨.refl _, sameNew h, fun a u e => by rw [upd_ne (ne_of_none (b _ _ e) h)]; exact b _ _ e, fun _ _ _ n => n⟩

/-! ### slots -/
inductive Slot where
  | sh (d : D)
  | ow (ds : List D)
abbrev Gam := List (Option Slot)
def SlotOk (K : PySem.W.Frag) (Hs H : Hp) (v : V) : Slot → Prop
  | .sh d => Rep K Hs v d
  | .ow ds => ∃ a vs, v = .ref a ∧ Hs a = none ∧ H a = some (.lst vs) ∧ RepL K Hs vs ds
/-- (Hs0, H0): the entry -/
structure Sl (K : PySem.W.Frag) (Hs0 H0 Hs H : Hp) (σ : St) (γ : Gam) : Prop where
  gr : Grow Hs0 H0 Hs H
  len : σ.length = γ.length
  ok : ∀ (i : Nat) (s : Slot), γ[i]? = some (some s) → ∃ v, σ[i]? = some (some v) ∧ SlotOk K Hs H v s
  fr : ∀ (i : Nat) (ds : List D) (a : Addr), γ[i]? = some (some (.ow ds)) → σ[i]? = some (some (.ref a)) → H0 a = none
  ne : ∀ (i j : Nat) (ds es : List D) (a : Addr), γ[i]? = some (some (.ow ds)) → γ[j]? = some (some (.ow es)) → σ[i]? = some (some (.ref a)) → σ[j]? = some (some (.ref a)) → i = j
section
variable {K : PySem.W.Frag} {Hs0 H0 Hs H Hs' H' : Hp} {σ : St} {γ : Gam} {v : V} {d : D} {s : Slot} {i j : Nat}
theorem Sl.b (S : Sl K Hs0 H0 Hs H σ γ) : Same Hs H := S.gr.b
theorem SlotOk.grow (g : Grow Hs H Hs' H') (h : SlotOk K Hs H v s) : SlotOk K Hs' H' v s := by
  cases s with
  | sh d => exact Rep.mono g.s h
  | ow ds =>
    obtain ⟨a, vs, rfl, h1, h2, h3⟩ := h
    exact ⟨a, vs, rfl, g.n _ _ h2 h1, g.e _ _ h2, RepL.mono g.s h3⟩
theorem Sl.grow (S : Sl K Hs0 H0 Hs H σ γ) (g : Grow Hs H Hs' H') : Sl K Hs0 H0 Hs' H' σ γ :=
  ⟨S.gr.trans g, S.len, fun i s h => let ⟨v, a, b⟩ := S.ok i s h; ⟨v, a, b.grow g⟩, S.fr, S.ne⟩
theorem get_set {α : Type} {l : List (Option α)} {i j : Nat} {x : Option α} {y : α} (h : (l.set i x)[j]? = some (some y)) : (i = j ∧ x = some y) ∨ (i ≠ j ∧ l[j]? = some (some y)) := by
  by_cases e : i = j
  · subst e
    by_cases hi : i < l.length
    · rw [List.getElem?_set_self hi] at h; exact .inl ⟨rfl, Option.some.inj h⟩
    · rw [List.getElem?_eq_none (by simpa using hi)] at h; cases h
  · rw [List.getElem?_set_ne e] at h; exact .inr ⟨e, h⟩
theorem get_set_ne {α : Type} {l : List α} {i j : Nat} {x : α} (h : i ≠ j) : (l.set i x)[j]? = l[j]? := List.getElem?_set_ne h
/-- a slot is given a shared datum -/
theorem Sl.set (S : Sl K Hs0 H0 Hs H σ γ) (i : Nat) (r : Rep K Hs v d) : Sl K Hs0 H0 Hs H (σ.set i (some v)) (γ.set i (some (.sh d))) := by
  refine ⟨S.gr, by rw [List.length_set, List.length_set]; exact S.len, fun j s h => ?_, fun j ds a h h' => ?_, fun j k ds es a h1 h2 h3 h4 => ?_⟩
  · rcases get_set h with ⟨rfl, e⟩ | ⟨ne, h⟩
    · cases e
      have hl : i < γ.length := by
        rcases Nat.lt_or_ge i γ.length with q | q
        · exact q
        · rw [List.getElem?_eq_none (by simpa using q)] at h; cases h
      exact ⟨v, by rw [List.getElem?_set_self (by rw [S.len]; exact hl)], r⟩
    · rw [get_set_ne ne]; exact S.ok j s h
  · rcases get_set h with ⟨rfl, e⟩ | ⟨ne, h⟩
    · cases e
    · rw [get_set_ne ne] at h'; exact S.fr j ds a h h'
  · rcases get_set h1 with ⟨rfl, e⟩ | ⟨ne, h1⟩
    · cases e
    · rcases get_set h2 with ⟨rfl, e⟩ | ⟨ne', h2⟩
      · cases e
      · rw [get_set_ne ne] at h3; rw [get_set_ne ne'] at h4; exact S.ne j k ds es a h1 h2 h3 h4
/-- a slot is forgotten -/
theorem Sl.drop (S : Sl K Hs0 H0 Hs H σ γ) (i : Nat) (x : Option V) : Sl K Hs0 H0 Hs H (σ.set i x) (γ.set i none) := by
  refine ⟨S.gr, by rw [List.length_set, List.length_set]; exact S.len, fun j s h => ?_, fun j ds a h h' => ?_, fun j k ds es a h1 h2 h3 h4 => ?_⟩
  · rcases get_set h with ⟨rfl, e⟩ | ⟨ne, h⟩
    · cases e
    · rw [get_set_ne ne]; exact S.ok j s h
  · rcases get_set h with ⟨rfl, e⟩ | ⟨ne, h⟩
    · cases e
    · rw [get_set_ne ne] at h'; exact S.fr j ds a h h'
  · rcases get_set h1 with ⟨rfl, e⟩ | ⟨ne, h1⟩
    · cases e
    · rcases get_set h2 with ⟨rfl, e⟩ | ⟨ne', h2⟩
      · cases e
      · rw [get_set_ne ne] at h3; rw [get_set_ne ne'] at h4; exact S.ne j k ds es a h1 h2 h3 h4
/-- a slot is given a new list, its own -/
theorem Sl.own {a : Addr} {vs : List V} {ds : List D} (S : Sl K Hs0 H0 Hs H σ γ) (i : Nat) (h0 : H0 a = none) (hn : Hs a = none) (ha : H a = some (.lst vs)) (r : RepL K Hs vs ds)
    (nw : ∀ (j : Nat) (es : List D), γ[j]? = some (some (.ow es)) → σ[j]? = some (some (.ref a)) → i = j) : Sl K Hs0 H0 Hs H (σ.set i (some (.ref a))) (γ.set i (some (.ow ds))) := by
  refine ⟨S.gr, by rw [List.length_set, List.length_set]; exact S.len, fun j s h => ?_, fun j ds a' h h' => ?_, fun j k ds es a' h1 h2 h3 h4 => ?_⟩
  · rcases get_set h with ⟨rfl, e⟩ | ⟨ne, h⟩
    · cases e
      have hl : i < γ.length := by
        rcases Nat.lt_or_ge i γ.length with q | q
        · exact q
        · rw [List.getElem?_eq_none (by simpa using q)] at h; cases h
      exact ⟨.ref a, by rw [List.getElem?_set_self (by rw [S.len]; exact hl)], a, vs, rfl, hn, ha, r⟩
    · rw [get_set_ne ne]; exact S.ok j s h
  · rcases get_set h with ⟨rfl, e⟩ | ⟨ne, h⟩
    · cases e
      rcases get_set h' with ⟨_, e'⟩ | ⟨ne, _⟩
      · cases e'; exact h0
      · exact absurd rfl ne
    · rw [get_set_ne ne] at h'; exact S.fr j ds a' h h'
  · rcases get_set h1 with ⟨rfl, e1⟩ | ⟨ne, h1⟩
    · rcases get_set h2 with ⟨rfl, e2⟩ | ⟨ne', h2⟩
      · rfl
      · rw [get_set_ne ne'] at h4
        rcases get_set h3 with ⟨_, e3⟩ | ⟨q, _⟩
        · cases e3; exact nw k es h2 h4
        · exact absurd rfl q
    · rw [get_set_ne ne] at h3
      rcases get_set h2 with ⟨rfl, e2⟩ | ⟨ne', h2⟩
      · rcases get_set h4 with ⟨_, e4⟩ | ⟨q, _⟩
        · cases e4; exact (nw j ds h1 h3).symm
        · exact absurd rfl q
      · rw [get_set_ne ne'] at h4; exact S.ne j k ds es a' h1 h2 h3 h4
/-- its own list is changed -/
theorem Sl.put {a : Addr} {vs : List V} {ds es : List D} (S : Sl K Hs0 H0 Hs H σ γ) (i : Nat) (hg : γ[i]? = some (some (.ow ds))) (hs : σ[i]? = some (some (.ref a))) (hn : Hs a = none) (r : RepL K Hs vs es) : Sl K Hs0 H0 Hs (upd H a (.lst vs)) σ (γ.set i (some (.ow es))) := by
  have h0 := S.fr i ds a hg hs
  have gr : Grow Hs0 H0 Hs (upd H a (.lst vs)) := ⟨S.gr.s, fun b o e => by rw [upd_ne (ne_of_none e h0)]; exact S.gr.e _ _ e, fun b o e => by rw [upd_ne (ne_of_none e hn)]; exact S.gr.b _ _ e, S.gr.n⟩
  refine ⟨gr, by rw [List.length_set]; exact S.len, fun j s h => ?_, fun j ds' a' h h' => ?_, fun j k ds' es' a' h1 h2 h3 h4 => ?_⟩
  · rcases get_set h with ⟨rfl, e⟩ | ⟨ne, h⟩
    · cases e
      exact ⟨.ref a, hs, a, vs, rfl, hn, upd_same, r⟩
    · obtain ⟨v, hv, k⟩ := S.ok j s h
      refine ⟨v, hv, ?_⟩
      cases s with
      | sh d => exact k
      | ow fs =>
        obtain ⟨b, ws, rfl, k1, k2, k3⟩ := k
        refine ⟨b, ws, rfl, k1, ?_, k3⟩
        have nb : b ≠ a := fun q => by
          subst q
          exact ne (S.ne i j ds fs b hg h hs hv)
        rw [upd_ne nb]; exact k2
  · rcases get_set h with ⟨rfl, e⟩ | ⟨ne, h⟩
    · exact S.fr i ds a' hg h'
    · exact S.fr j ds' a' h h'
  · have w : ∀ (j' : Nat) (e' : List D), (γ.set i (some (.ow es)))[j']? = some (some (Slot.ow e')) → ∃ f', γ[j']? = some (some (.ow f')) := fun j' e' q => by
      rcases get_set q with ⟨rfl, _⟩ | ⟨_, q⟩
      · exact ⟨_, hg⟩
      · exact ⟨_, q⟩
    obtain ⟨f1, w1⟩ := w j ds' h1
    obtain ⟨f2, w2⟩ := w k es' h2
    exact S.ne j k f1 f2 a' w1 w2 h3 h4
/-- its own list becomes a datum -/
theorem Sl.freeze {ds : List D} (S : Sl K Hs0 H0 Hs H σ γ) (i : Nat) (hg : γ[i]? = some (some (.ow ds))) : ∃ Hs', Same Hs Hs' ∧ Sl K Hs0 H0 Hs' H σ (γ.set i (some (.sh (.lst ds)))) := by
  obtain ⟨v, hv, a, vs, rfl, h1, h2, h3⟩ := S.ok i _ hg
  have h0 := S.fr i ds a hg hv
  have e : Same Hs (upd Hs a (.lst vs)) := sameNew h1
  refine ⟨upd Hs a (.lst vs), e, ⟨⟨S.gr.s.trans e, S.gr.e, fun b o q => ?_, fun b o q n => ?_⟩, by rw [List.length_set]; exact S.len, fun j s h => ?_, fun j ds' a' h h' => ?_, fun j k ds' es' a' q1 q2 q3 q4 => ?_⟩⟩
  · by_cases hb : b = a
    · subst hb; rw [upd_same] at q; cases q; exact h2
    · rw [upd_ne hb] at q; exact S.gr.b _ _ q
  · rw [upd_ne (ne_of_none q h0)]; exact S.gr.n b o q n
  · rcases get_set h with ⟨rfl, e'⟩ | ⟨ne, h⟩
    · cases e'
      exact ⟨.ref a, hv, .lst upd_same (RepL.mono e h3)⟩
    · obtain ⟨v, hv', k⟩ := S.ok j s h
      refine ⟨v, hv', ?_⟩
      cases s with
      | sh d => exact Rep.mono e k
      | ow fs =>
        obtain ⟨b, ws, rfl, k1, k2, k3⟩ := k
        have nb : b ≠ a := fun q => by
          subst q
          exact ne (S.ne i j ds fs b hg h hv hv')
        exact ⟨b, ws, rfl, by rw [upd_ne nb]; exact k1, k2, RepL.mono e k3⟩
  · rcases get_set h with ⟨rfl, e'⟩ | ⟨ne, h⟩
    · cases e'
    · exact S.fr j ds' a' h h'
  · rcases get_set q1 with ⟨rfl, e'⟩ | ⟨ne, q1⟩
    · cases e'
    · rcases get_set q2 with ⟨rfl, e'⟩ | ⟨ne', q2⟩
      · cases e'
      · exact S.ne j k ds' es' a' q1 q2 q3 q4
end
end Z

namespace Z
open PySem L2

/-! ### judgements over data -/
def EW (K : PySem.W.Frag) (te : TE) (γ : Gam) (Φ : D → Prop) : Prop := ∀ (Hs0 H0 Hs H : Hp) (σ : St) (Q : VK), Sl K Hs0 H0 Hs H σ γ →
  (∀ Hs' H' v d, Grow Hs H Hs' H' → Rep K Hs' v d → Φ d → Q v H') → te σ H Q
/-- a new list, nobody else's -/
def EN (K : PySem.W.Frag) (te : TE) (γ : Gam) (Φ : List D → Prop) : Prop := ∀ (Hs0 H0 Hs H : Hp) (σ : St) (Q : VK), Sl K Hs0 H0 Hs H σ γ →
  (∀ Hs' H' a vs ds, Grow Hs H Hs' H' → H a = none → Hs' a = none → H' a = some (.lst vs) → RepL K Hs' vs ds → Φ ds → Q (.ref a) H') → te σ H Q
def TW (K : PySem.W.Frag) (tt : TT) (γ : Gam) (Φ : Bool → Prop) : Prop := ∀ (Hs0 H0 Hs H : Hp) (σ : St) (Q : Bool → Hp → Prop), Sl K Hs0 H0 Hs H σ γ →
  (∀ Hs' H' b, Grow Hs H Hs' H' → Φ b → Q b H') → tt σ H Q
def AW (K : PySem.W.Frag) (ta : TA) (γ : Gam) (Φ : List D → Prop) : Prop := ∀ (Hs0 H0 Hs H : Hp) (σ : St) (Q : List V → Hp → Prop), Sl K Hs0 H0 Hs H σ γ →
  (∀ Hs' H' vs ds, Grow Hs H Hs' H' → RepL K Hs' vs ds → Φ ds → Q vs H') → ta σ H Q
def OW (K : PySem.W.Frag) (to : TO) (γ : Gam) (Φ : Option Int → Prop) : Prop := ∀ (Hs0 H0 Hs H : Hp) (σ : St) (Q : Option Int → Hp → Prop), Sl K Hs0 H0 Hs H σ γ →
  (∀ Hs' H' o, Grow Hs H Hs' H' → Φ o → Q o H') → to σ H Q
/-- an operation on values -/
def RW2 (K : PySem.W.Frag) (r : R2) (x y : D) (Φ : D → Prop) : Prop := ∀ (Hs H : Hp) (v u : V) (Q : VK), Same Hs H → Rep K Hs v x → Rep K Hs u y →
  (∀ Hs' H' w d, Grow Hs H Hs' H' → Rep K Hs' w d → Φ d → Q w H') → r v u H Q
def RWL (K : PySem.W.Frag) (r : List V → Hp → VK → Prop) (xs : List D) (Φ : D → Prop) : Prop := ∀ (Hs H : Hp) (vs : List V) (Q : VK), Same Hs H → RepL K Hs vs xs →
  (∀ Hs' H' w d, Grow Hs H Hs' H' → Rep K Hs' w d → Φ d → Q w H') → r vs H Q
def RWM (K : PySem.W.Frag) (r : V → List V → Hp → VK → Prop) (x : D) (xs : List D) (Φ : D → Prop) : Prop := ∀ (Hs H : Hp) (v : V) (vs : List V) (Q : VK), Same Hs H → Rep K Hs v x → RepL K Hs vs xs →
  (∀ Hs' H' w d, Grow Hs H Hs' H' → Rep K Hs' w d → Φ d → Q w H') → r v vs H Q
/-- .. that makes a new list -/
def RN2 (K : PySem.W.Frag) (r : R2) (x y : D) (Φ : List D → Prop) : Prop := ∀ (Hs H : Hp) (v u : V) (Q : VK), Same Hs H → Rep K Hs v x → Rep K Hs u y →
  (∀ Hs' H' a vs ds, Grow Hs H Hs' H' → H a = none → Hs' a = none → H' a = some (.lst vs) → RepL K Hs' vs ds → Φ ds → Q (.ref a) H') → r v u H Q
def RNL (K : PySem.W.Frag) (r : List V → Hp → VK → Prop) (xs : List D) (Φ : List D → Prop) : Prop := ∀ (Hs H : Hp) (vs : List V) (Q : VK), Same Hs H → RepL K Hs vs xs →
  (∀ Hs' H' a vs ds, Grow Hs H Hs' H' → H a = none → Hs' a = none → H' a = some (.lst vs) → RepL K Hs' vs ds → Φ ds → Q (.ref a) H') → r vs H Q
def RNM (K : PySem.W.Frag) (r : V → List V → Hp → VK → Prop) (x : D) (xs : List D) (Φ : List D → Prop) : Prop := ∀ (Hs H : Hp) (v : V) (vs : List V) (Q : VK), Same Hs H → Rep K Hs v x → RepL K Hs vs xs →
  (∀ Hs' H' a vs ds, Grow Hs H Hs' H' → H a = none → Hs' a = none → H' a = some (.lst vs) → RepL K Hs' vs ds → Φ ds → Q (.ref a) H') → r v vs H Q

section
variable {K : PySem.W.Frag} {γ : Gam} {Φ Ψ : D → Prop} {ta tb te : TE} {t u : TT} {r : R2} {x y d : D} {v : V} {i j : Nat}

theorem EW.mono (h : EW K te γ Φ) (k : ∀ d, Φ d → Ψ d) : EW K te γ Ψ := fun Hs0 H0 Hs H σ Q S q => h Hs0 H0 Hs H σ Q S fun Hs' H' v d g r p => q Hs' H' v d g r (k d p)
theorem TW.mono {Φ Ψ : Bool → Prop} (h : TW K t γ Φ) (k : ∀ d, Φ d → Ψ d) : TW K t γ Ψ := fun Hs0 H0 Hs H σ Q S q => h Hs0 H0 Hs H σ Q S fun Hs' H' b g p => q Hs' H' b g (k b p)
theorem EN.mono {Φ Ψ : List D → Prop} (h : EN K te γ Φ) (k : ∀ d, Φ d → Ψ d) : EN K te γ Ψ := fun Hs0 H0 Hs H σ Q S q => h Hs0 H0 Hs H σ Q S fun Hs' H' a vs ds g h1 h2 h3 h4 p => q Hs' H' a vs ds g h1 h2 h3 h4 (k _ p)
theorem en_grow {Hs H Hs' H' : Hp} {a : Addr} {vs : List V} {ds : List D} (g : Grow Hs H Hs' H') (h1 : H a = none) (h2 : Hs' a = none) (h3 : H' a = some (.lst vs)) (h4 : RepL K Hs' vs ds) :
    Grow Hs H (upd Hs' a (.lst vs)) H' ∧ Rep K (upd Hs' a (.lst vs)) (.ref a) (.lst ds) := by
  refine ⟨⟨g.s.trans (sameNew h2), g.e, fun b o q => ?_, fun b o q n => ?_⟩, .lst upd_same (RepL.mono (sameNew h2) h4)⟩
  · by_cases hb : b = a
    · subst hb; rw [upd_same] at q; cases q; exact h3
    · rw [upd_ne hb] at q; exact g.b _ _ q
  · rw [upd_ne (ne_of_none q h1)]; exact g.n b o q n
/-- a new list as a datum -/
theorem ew_new (h : EN K te γ fun ds => Φ (.lst ds)) : EW K te γ Φ := fun Hs0 H0 Hs H σ Q S q => h Hs0 H0 Hs H σ Q S fun Hs' H' a vs ds g h1 h2 h3 h4 p =>
  let ⟨g', r'⟩ := en_grow g h1 h2 h3 h4
  q _ _ _ _ g' r' p
theorem rw2_new {r : R2} (h : RN2 K r x y fun ds => Φ (.lst ds)) : RW2 K r x y Φ := fun Hs H v u Q b r1 r2 q => h Hs H v u Q b r1 r2 fun Hs' H' a vs ds g h1 h2 h3 h4 p =>
  let ⟨g', r'⟩ := en_grow g h1 h2 h3 h4
  q _ _ _ _ g' r' p
theorem rwl_new {r : List V → Hp → VK → Prop} {xs : List D} (h : RNL K r xs fun ds => Φ (.lst ds)) : RWL K r xs Φ := fun Hs H vs Q b r1 q => h Hs H vs Q b r1 fun Hs' H' a vs ds g h1 h2 h3 h4 p =>
  let ⟨g', r'⟩ := en_grow g h1 h2 h3 h4
  q _ _ _ _ g' r' p
theorem rwm_new {r : V → List V → Hp → VK → Prop} {xs : List D} (h : RNM K r x xs fun ds => Φ (.lst ds)) : RWM K r x xs Φ := fun Hs H v vs Q b r1 r2 q => h Hs H v vs Q b r1 r2 fun Hs' H' a vs ds g h1 h2 h3 h4 p =>
  let ⟨g', r'⟩ := en_grow g h1 h2 h3 h4
  q _ _ _ _ g' r' p

/-! ### names, constants -/
theorem ew_var (h : γ[i]? = some (some (.sh d))) (k : Φ d) : EW K (tVar i) γ Φ := fun _ _ Hs H σ Q S q => by
  obtain ⟨v, hv, r⟩ := S.ok i _ h
  exact ⟨v, hv, q _ _ _ _ (.refl S.b) r k⟩
theorem ew_c (h : plainV v = true) (k : Φ (ofV v)) : EW K (tC v) γ Φ := fun _ _ Hs H σ Q S q => q _ _ _ _ (.refl S.b) (.ofV h) k
/-- a module's constant that stands in the written part -/
theorem ew_k (h : ∀ H, Rep K H v d) (k : Φ d) : EW K (tC v) γ Φ := fun _ _ Hs H σ Q S q => q _ _ _ _ (.refl S.b) (h _) k

/-! ### operators -/
theorem ew_op (h : EW K ta γ fun x => EW K tb γ fun y => RW2 K r x y Φ) : EW K (tOp r ta tb) γ Φ := fun Hs0 H0 Hs H σ Q S q =>
  h Hs0 H0 Hs H σ _ S fun Hs1 H1 v x g1 r1 h1 => h1 Hs0 H0 Hs1 H1 σ _ (S.grow g1) fun Hs2 H2 u y g2 r2 h2 => h2 Hs2 H2 v u Q g2.b (r1.mono g2.s) r2 fun Hs3 H3 w d g3 r3 p => q _ _ _ _ ((g1.trans g2).trans g3) r3 p
theorem en_op {Φ : List D → Prop} (h : EW K ta γ fun x => EW K tb γ fun y => RN2 K r x y Φ) : EN K (tOp r ta tb) γ Φ := fun Hs0 H0 Hs H σ Q S q =>
  h Hs0 H0 Hs H σ _ S fun Hs1 H1 v x g1 r1 h1 => h1 Hs0 H0 Hs1 H1 σ _ (S.grow g1) fun Hs2 H2 u y g2 r2 h2 => h2 Hs2 H2 v u Q g2.b (r1.mono g2.s) r2 fun Hs3 H3 a vs ds g3 n1 n2 n3 n4 p =>
    q _ _ a vs ds ((g1.trans g2).trans g3) (Same.free (g1.trans g2).e n1) n2 n3 n4 p
theorem rw_I0 {g : Int → Int → V} {i j : Int} (h : plainV (g i j) = true) (k : Φ (ofV (g i j))) : RW2 K (rI0 g) (.int i) (.int j) Φ := fun Hs H v u Q b r1 r2 q => by
  cases r1; cases r2
  exact ⟨i, j, rfl, rfl, q _ _ _ _ (.refl b) (.ofV h) k⟩
theorem rw_I {C : Int → Int → Prop} {g : Int → Int → V} {i j : Int} (c : C i j) (h : plainV (g i j) = true) (k : Φ (ofV (g i j))) : RW2 K (rI C g) (.int i) (.int j) Φ := fun Hs H v u Q b r1 r2 q => by
  cases r1; cases r2
  exact ⟨i, j, rfl, rfl, c, q _ _ _ _ (.refl b) (.ofV h) k⟩
def sizeS : Nat := 1000000
theorem sz_ok {n : Nat} (h : n ≤ sizeS) : n ≤ sizeLine := Nat.le_trans h (by decide)
theorem sz_lt {n : Nat} (h : n ≤ sizeS) : n < sizeLine := Nat.lt_of_le_of_lt h (by decide)
def rAddStr : R2 := fun x y H Q => ∃ i j, x = .str i ∧ y = .str j ∧ i.length + j.length ≤ sizeLine ∧ Q (.str (i ++ j)) H
theorem op_addStr {X : Cx} : OpR X (binaryOp .Add) rAddStr := op_add_str
theorem rw_addStr {i j : Str} (h : i.length + j.length ≤ sizeS) (k : Φ (.str (i ++ j))) : RW2 K rAddStr (.str i) (.str j) Φ := fun Hs H v u Q b r1 r2 q => by
  cases r1; cases r2
  exact ⟨i, j, rfl, rfl, sz_ok h, q _ _ _ _ (.refl b) (.str _) k⟩
/-- == of flat data -/
def eqD : D → D → Bool
  | .non, .non => true
  | .bl a, .bl b => a == b
  | .int a, .int b => a == b
  | .str a, .str b => a == b
  | _, _ => false
theorem rw_eqS {i j : Str} (k : Φ (.bl (decide (i = j)))) : RW2 K rEq (.str i) (.str j) Φ := fun Hs H v u Q b r1 r2 q => by
  cases r1; cases r2
  refine ⟨rfl, q _ _ _ _ (.refl b) (.bl _) ?_⟩
  have e : decide (V.str i = V.str j) = decide (i = j) := by
    by_cases h : i = j
    · subst h; simp
    · rw [decide_eq_false h, decide_eq_false fun z => h (V.str.inj z)]
  rw [e]; exact k
theorem rw_neS {i j : Str} (k : Φ (.bl (!decide (i = j)))) : RW2 K rNe (.str i) (.str j) Φ := fun Hs H v u Q b r1 r2 q => by
  cases r1; cases r2
  refine ⟨rfl, q _ _ _ _ (.refl b) (.bl _) ?_⟩
  have e : decide (V.str i = V.str j) = decide (i = j) := by
    by_cases h : i = j
    · subst h; simp
    · rw [decide_eq_false h, decide_eq_false fun z => h (V.str.inj z)]
  rw [e]; exact k
theorem rw_eqI {i j : Int} (k : Φ (.bl (decide (i = j)))) : RW2 K rEq (.int i) (.int j) Φ := fun Hs H v u Q b r1 r2 q => by
  cases r1; cases r2
  refine ⟨rfl, q _ _ _ _ (.refl b) (.bl _) ?_⟩
  have e : decide (V.int i = V.int j) = decide (i = j) := by
    by_cases h : i = j
    · subst h; simp
    · rw [decide_eq_false h, decide_eq_false fun z => h (V.int.inj z)]
  rw [e]; exact k
theorem rw_neI {i j : Int} (k : Φ (.bl (!decide (i = j)))) : RW2 K rNe (.int i) (.int j) Φ := fun Hs H v u Q b r1 r2 q => by
  cases r1; cases r2
  refine ⟨rfl, q _ _ _ _ (.refl b) (.bl _) ?_⟩
  have e : decide (V.int i = V.int j) = decide (i = j) := by
    by_cases h : i = j
    · subst h; simp
    · rw [decide_eq_false h, decide_eq_false fun z => h (V.int.inj z)]
  rw [e]; exact k
theorem rw_eqB {i j : Bool} (k : Φ (.bl (decide (i = j)))) : RW2 K rEq (.bl i) (.bl j) Φ := fun Hs H v u Q b r1 r2 q => by
  cases r1; cases r2
  refine ⟨rfl, q _ _ _ _ (.refl b) (.bl _) ?_⟩
  have e : decide (V.bl i = V.bl j) = decide (i = j) := by cases i <;> cases j <;> rfl
  rw [e]; exact k
/-- orders of texts -/
def ltS (a b : Str) : Bool := decide (a.cps.toList < b.cps.toList)
def rLtS : R2 := fun x y H Q => ∃ i j, x = .str i ∧ y = .str j ∧ Q (.bl (ltS i j)) H
def rLeS : R2 := fun x y H Q => ∃ i j, x = .str i ∧ y = .str j ∧ Q (.bl (!ltS j i)) H
def rGtS : R2 := fun x y H Q => ∃ i j, x = .str i ∧ y = .str j ∧ Q (.bl (ltS j i)) H
def rGeS : R2 := fun x y H Q => ∃ i j, x = .str i ∧ y = .str j ∧ Q (.bl (!ltS i j)) H
theorem op_ltS {X : Cx} : OpR X (compareOp .Lt) rLtS := op_lt_str
theorem op_leS {X : Cx} : OpR X (compareOp .LtE) rLeS := op_le_str
theorem op_gtS {X : Cx} : OpR X (compareOp .Gt) rGtS := op_gt_str
theorem op_geS {X : Cx} : OpR X (compareOp .GtE) rGeS := op_ge_str
theorem rw_ltS {i j : Str} (k : Φ (.bl (ltS i j))) : RW2 K rLtS (.str i) (.str j) Φ := fun Hs H v u Q b r1 r2 q => by
  cases r1; cases r2; exact ⟨i, j, rfl, rfl, q _ _ _ _ (.refl b) (.bl _) k⟩
theorem rw_leS {i j : Str} (k : Φ (.bl (!ltS j i))) : RW2 K rLeS (.str i) (.str j) Φ := fun Hs H v u Q b r1 r2 q => by
  cases r1; cases r2; exact ⟨i, j, rfl, rfl, q _ _ _ _ (.refl b) (.bl _) k⟩
theorem rw_gtS {i j : Str} (k : Φ (.bl (ltS j i))) : RW2 K rGtS (.str i) (.str j) Φ := fun Hs H v u Q b r1 r2 q => by
  cases r1; cases r2; exact ⟨i, j, rfl, rfl, q _ _ _ _ (.refl b) (.bl _) k⟩
theorem rw_geS {i j : Str} (k : Φ (.bl (!ltS i j))) : RW2 K rGeS (.str i) (.str j) Φ := fun Hs H v u Q b r1 r2 q => by
  cases r1; cases r2; exact ⟨i, j, rfl, rfl, q _ _ _ _ (.refl b) (.bl _) k⟩
/-- a text in a text -/
def inS (a b : Str) : Bool := !(Builtin.Str.occurrences b a 0 b.length 1).isEmpty
def rInSt : R2 := fun x y H Q => ∃ i j, x = .str i ∧ y = .str j ∧ Q (.bl (inS i j)) H
def rNiSt : R2 := fun x y H Q => ∃ i j, x = .str i ∧ y = .str j ∧ Q (.bl (!inS i j)) H
theorem op_inSt {X : Cx} : OpR X (compareOp .In) rInSt := op_in_str
theorem op_niSt {X : Cx} : OpR X (compareOp .NotIn) rNiSt := op_notIn_str
theorem rw_inS {i j : Str} (k : Φ (.bl (inS i j))) : RW2 K rInSt (.str i) (.str j) Φ := fun Hs H v u Q b r1 r2 q => by
  cases r1; cases r2; exact ⟨i, j, rfl, rfl, q _ _ _ _ (.refl b) (.bl _) k⟩
theorem rw_niS {i j : Str} (k : Φ (.bl (!inS i j))) : RW2 K rNiSt (.str i) (.str j) Φ := fun Hs H v u Q b r1 r2 q => by
  cases r1; cases r2; exact ⟨i, j, rfl, rfl, q _ _ _ _ (.refl b) (.bl _) k⟩
/-- in a list or tuple of texts -/
theorem str_flat : ∀ xs : List Str, (xs.map V.str).all flatV = true
  | [] => rfl
  | x :: xs => by rw [List.map_cons, List.all_cons, str_flat xs]; rfl
theorem inV_str (x : Str) : ∀ xs : List Str, inV (.str x) (xs.map V.str) = decide (x ∈ xs)
  | [] => rfl
  | y :: xs => by
    have ih := inV_str x xs
    unfold inV at ih ⊢
    rw [List.map_cons, List.any_cons, ih]
    have e : eqV (.str y) (.str x) = decide (x = y) := by
      show (y == x) = decide (x = y)
      by_cases h : x = y
      · subst h; simp
      · rw [decide_eq_false h]; exact beq_eq_false_iff_ne.mpr (Ne.symm h)
    rw [e]
    by_cases h1 : x = y
    · simp [h1]
    · simp [h1]
theorem rw_inL {x : Str} {xs : List Str} (k : Φ (.bl (decide (x ∈ xs)))) : RW2 K (rIn K false) (.str x) (.lst (xs.map .str)) Φ := fun Hs H v u Q b r1 r2 q => by
  cases r1
  cases r2 with
  | lst h r =>
    have e := r.strs; subst e
    refine ⟨_, _, rfl, .inl (.of (b _ _ h)), rfl, str_flat xs, q _ _ _ _ (.refl b) (.bl _) ?_⟩
    rw [inV_str]; exact k
theorem rw_inT {x : Str} {xs : List Str} (k : Φ (.bl (decide (x ∈ xs)))) : RW2 K (rIn K false) (.str x) (.tup (xs.map .str)) Φ := fun Hs H v u Q b r1 r2 q => by
  cases r1
  cases r2 with
  | tup h r =>
    have e := r.strs; subst e
    refine ⟨_, _, rfl, .inr (sameT b h), rfl, str_flat xs, q _ _ _ _ (.refl b) (.bl _) ?_⟩
    rw [inV_str]; exact k
theorem rw_niL {x : Str} {xs : List Str} (k : Φ (.bl (!decide (x ∈ xs)))) : RW2 K (rIn K true) (.str x) (.lst (xs.map .str)) Φ := fun Hs H v u Q b r1 r2 q => by
  cases r1
  cases r2 with
  | lst h r =>
    have e := r.strs; subst e
    refine ⟨_, _, rfl, .inl (.of (b _ _ h)), rfl, str_flat xs, q _ _ _ _ (.refl b) (.bl _) ?_⟩
    rw [inV_str]; exact k
theorem rw_niT {x : Str} {xs : List Str} (k : Φ (.bl (!decide (x ∈ xs)))) : RW2 K (rIn K true) (.str x) (.tup (xs.map .str)) Φ := fun Hs H v u Q b r1 r2 q => by
  cases r1
  cases r2 with
  | tup h r =>
    have e := r.strs; subst e
    refine ⟨_, _, rfl, .inr (sameT b h), rfl, str_flat xs, q _ _ _ _ (.refl b) (.bl _) ?_⟩
    rw [inV_str]; exact k
/-- items -/
theorem rep_at {H : Hp} {vs : List V} {ds : List D} {i : Int} (r : RepL K H vs ds) (h : atI ds i = some d) : ∃ v, atI vs i = some v ∧ Rep K H v d := by
  unfold atI at h ⊢
  rw [r.length]
  cases e : ixN ds.length i with
  | none => rw [e] at h; cases h
  | some j =>
    rw [e] at h
    obtain ⟨v, h1, h2⟩ := r.get (show ds[j]? = some d from h)
    exact ⟨v, h1, h2⟩
theorem rw_ixL {ds : List D} {i : Int} (h : atI ds i = some d) (k : Φ d) : RW2 K (rIxL K) (.lst ds) (.int i) Φ := fun Hs H v u Q b r1 r2 q => by
  cases r2
  cases r1 with
  | lst h' r =>
    obtain ⟨v, h1, h2⟩ := rep_at r h
    exact ⟨_, _, i, v, rfl, rfl, .of (b _ _ h'), h1, q _ _ _ _ (.refl b) h2 k⟩
theorem rw_ixT {ds : List D} {i : Int} (h : atI ds i = some d) (k : Φ d) : RW2 K (rIxT K) (.tup ds) (.int i) Φ := fun Hs H v u Q b r1 r2 q => by
  cases r2
  cases r1 with
  | tup h' r =>
    obtain ⟨v, h1, h2⟩ := rep_at r h
    exact ⟨_, _, i, v, rfl, rfl, sameT b h', h1, q _ _ _ _ (.refl b) h2 k⟩
theorem rw_ixC {ns : List Int} {i n : Int} (h : atI ns i = some n) (k : Φ (.int n)) : RW2 K (rIxL K) (.scr ns) (.int i) Φ := fun Hs H v u Q b r1 r2 q => by
  cases r2
  cases r1 with
  | scr h' =>
    refine ⟨_, _, i, .int n, rfl, rfl, sameL b h', ?_, q _ _ _ _ (.refl b) (.int _) k⟩
    unfold atI at h ⊢
    rw [List.length_map]
    cases e : ixN ns.length i with
    | none => rw [e] at h; cases h
    | some j =>
      rw [e] at h
      show (ns.map V.int)[j]? = some (.int n)
      rw [List.getElem?_map, show ns[j]? = some n from h]; rfl
theorem rw_ixS {z : Str} {i : Int} {c : Nat} (l : z.length ≤ sizeS) (h : atI z.cps.toList i = some c) (k : Φ (.str ⟨#[c]⟩)) : RW2 K rIxS (.str z) (.int i) Φ := fun Hs H v u Q b r1 r2 q => by
  cases r1; cases r2
  exact ⟨z, i, c, rfl, rfl, sz_ok l, h, q _ _ _ _ (.refl b) (.str _) k⟩
/-- a list and another -/
theorem rn_cat {ds es : List D} (l : ds.length + es.length ≤ sizeS) {Φ : List D → Prop} (k : Φ (ds ++ es)) : RN2 K rCat (.lst ds) (.lst es) Φ := fun Hs H v u Q b r1 r2 q => by
  cases r1 with
  | lst h1 r1 =>
    cases r2 with
    | lst h2 r2 =>
      refine ⟨_, _, _, _, rfl, rfl, b _ _ h1, b _ _ h2, by rw [r1.length, r2.length]; exact sz_ok l, fun p hp => ?_⟩
      exact q Hs _ p _ _ (.hid b hp) hp (b.free hp) upd_same (r1.append r2) k
theorem rw_catT {ds es : List D} (hn : ds ≠ []) (l : ds.length + es.length ≤ sizeS) (k : Φ (.tup (ds ++ es))) : RW2 K (rCatT K) (.tup ds) (.tup es) Φ := fun Hs H v u Q b r1 r2 q => by
  cases r1 with
  | tup h1 r1 =>
    cases r2 with
    | tup h2 r2 =>
      refine ⟨_, _, _, _, rfl, rfl, sameT b h1, sameT b h2, fun e => ?_, by rw [r1.length, r2.length]; exact sz_ok l, ?_⟩
      · subst e
        have := r1.length
        exact hn (List.length_eq_zero_iff.mp this.symm)
      · refine ⟨fun e => ?_, fun e p hp => ?_⟩
        · have e2 : es = [] := by
            subst e
            have := r2.length
            exact List.length_eq_zero_iff.mp this.symm
          subst e2
          rw [List.append_nil] at k
          exact q _ _ _ _ (.refl b) (.tup h1 r1) k
        · exact q _ _ _ _ (.new b hp) (.tup (.of upd_same) (RepL.mono (sameNew (b.free hp)) (r1.append r2))) k
end
end Z

namespace Z
open PySem L2
section
variable {K : PySem.W.Frag} {γ : Gam} {Φ Ψ : D → Prop} {ta tb tc te : TE} {t u : TT} {r r' : R2} {x y d : D} {v : V} {i j : Nat}

/-! ### tests, and, or, not -/
theorem tw_test {Φ : Bool → Prop} (h : EW K te γ fun d => ∃ b, d = .bl b ∧ Φ b) : TW K (tTest te) γ Φ := fun Hs0 H0 Hs H σ Q S q =>
  h Hs0 H0 Hs H σ _ S fun Hs' H' v d g r ⟨b, e, p⟩ => by
    subst e; cases r
    exact ⟨b, rfl, q _ _ b g p⟩
theorem tw_B {Φ : Bool → Prop} (h : EW K te γ fun d => ∃ b, d = .bl b ∧ Φ b) : TW K (tB te) γ Φ := fun Hs0 H0 Hs H σ Q S q =>
  h Hs0 H0 Hs H σ _ S fun Hs' H' v d g r ⟨b, e, p⟩ => by
    subst e; cases r
    exact ⟨b, rfl, q _ _ b g p⟩
theorem tw_and {Φ : Bool → Prop} (h : TW K t γ fun b => (b = true → TW K u γ Φ) ∧ (b = false → Φ false)) : TW K (tAnd t u) γ Φ := fun Hs0 H0 Hs H σ Q S q =>
  h Hs0 H0 Hs H σ _ S fun Hs' H' b g ⟨p1, p2⟩ => by
    cases b with
    | true => exact p1 rfl Hs0 H0 Hs' H' σ Q (S.grow g) fun Hs2 H2 b2 g2 p => q _ _ b2 (g.trans g2) p
    | false => exact q _ _ false g (p2 rfl)
theorem tw_or {Φ : Bool → Prop} (h : TW K t γ fun b => (b = true → Φ true) ∧ (b = false → TW K u γ Φ)) : TW K (tOr t u) γ Φ := fun Hs0 H0 Hs H σ Q S q =>
  h Hs0 H0 Hs H σ _ S fun Hs' H' b g ⟨p1, p2⟩ => by
    cases b with
    | false => exact p2 rfl Hs0 H0 Hs' H' σ Q (S.grow g) fun Hs2 H2 b2 g2 p => q _ _ b2 (g.trans g2) p
    | true => exact q _ _ true g (p1 rfl)
theorem tw_not {Φ : Bool → Prop} (h : TW K t γ fun b => Φ (!b)) : TW K (tNot t) γ Φ := fun Hs0 H0 Hs H σ Q S q =>
  h Hs0 H0 Hs H σ _ S fun Hs' H' b g p => q _ _ _ g p
theorem tw_yes {Φ : Bool → Prop} (h : Φ true) : TW K tYes γ Φ := fun Hs0 H0 Hs H σ Q S q => q _ _ true (.refl S.b) h
theorem ew_andV (h : EW K ta γ fun d => ∃ b, d = .bl b ∧ ((b = true → EW K tb γ Φ) ∧ (b = false → Φ (.bl false)))) : EW K (tAndV ta tb) γ Φ := fun Hs0 H0 Hs H σ Q S q =>
  h Hs0 H0 Hs H σ _ S fun Hs' H' v d g r ⟨b, e, p1, p2⟩ => by
    subst e; cases r
    refine ⟨b, rfl, ?_⟩
    cases b with
    | true => exact p1 rfl Hs0 H0 Hs' H' σ Q (S.grow g) fun Hs2 H2 v2 d2 g2 r2 p => q _ _ v2 d2 (g.trans g2) r2 p
    | false => exact q _ _ _ _ g (.bl _) (p2 rfl)
theorem ew_orV (h : EW K ta γ fun d => ∃ b, d = .bl b ∧ ((b = true → Φ (.bl true)) ∧ (b = false → EW K tb γ Φ))) : EW K (tOrV ta tb) γ Φ := fun Hs0 H0 Hs H σ Q S q =>
  h Hs0 H0 Hs H σ _ S fun Hs' H' v d g r ⟨b, e, p1, p2⟩ => by
    subst e; cases r
    refine ⟨b, rfl, ?_⟩
    cases b with
    | false => exact p2 rfl Hs0 H0 Hs' H' σ Q (S.grow g) fun Hs2 H2 v2 d2 g2 r2 p => q _ _ v2 d2 (g.trans g2) r2 p
    | true => exact q _ _ _ _ g (.bl _) (p1 rfl)
theorem ew_notV (h : EW K ta γ fun d => ∃ b, d = .bl b ∧ Φ (.bl (!b))) : EW K (tNotV ta) γ Φ := fun Hs0 H0 Hs H σ Q S q =>
  h Hs0 H0 Hs H σ _ S fun Hs' H' v d g r ⟨b, e, p⟩ => by
    subst e; cases r
    exact ⟨b, rfl, q _ _ _ _ g (.bl _) p⟩
theorem ew_if (h : TW K t γ fun b => (b = true → EW K ta γ Φ) ∧ (b = false → EW K tb γ Φ)) : EW K (tIf t ta tb) γ Φ := fun Hs0 H0 Hs H σ Q S q =>
  h Hs0 H0 Hs H σ _ S fun Hs' H' b g ⟨p1, p2⟩ => by
    cases b with
    | true => exact p1 rfl Hs0 H0 Hs' H' σ Q (S.grow g) fun Hs2 H2 v2 d2 g2 r2 p => q _ _ v2 d2 (g.trans g2) r2 p
    | false => exact p2 rfl Hs0 H0 Hs' H' σ Q (S.grow g) fun Hs2 H2 v2 d2 g2 r2 p => q _ _ v2 d2 (g.trans g2) r2 p
theorem ew_chain (h : EW K ta γ fun x => EW K tb γ fun y => RW2 K r x y fun z => ∃ b, z = .bl b ∧ ((b = true → EW K tc γ fun w => RW2 K r' y w Φ) ∧ (b = false → Φ (.bl false)))) : EW K (tChain r r' ta tb tc) γ Φ := fun Hs0 H0 Hs H σ Q S q =>
  h Hs0 H0 Hs H σ _ S fun Hs1 H1 v x g1 r1 h1 => h1 Hs0 H0 Hs1 H1 σ _ (S.grow g1) fun Hs2 H2 u y g2 r2 h2 => h2 Hs2 H2 v u _ g2.b (r1.mono g2.s) r2 fun Hs3 H3 w d g3 r3 ⟨b, e, p1, p2⟩ => by
    subst e; cases r3
    refine ⟨b, rfl, ?_⟩
    cases b with
    | true => exact p1 rfl Hs0 H0 Hs3 H3 σ _ (S.grow ((g1.trans g2).trans g3)) fun Hs4 H4 w4 d4 g4 r4 h4 => h4 Hs4 H4 u w4 Q g4.b ((r2.mono g3.s).mono g4.s) r4 fun Hs5 H5 w5 d5 g5 r5 p => q _ _ _ _ ((((g1.trans g2).trans g3).trans g4).trans g5) r5 p
    | false => exact q _ _ _ _ ((g1.trans g2).trans g3) (.bl _) (p2 rfl)
/-- truth of a text, an int, a list -/
def tTru (K : PySem.W.Frag) (ta : TE) : TT := fun σ H Q => ta σ H fun x H' => ∃ k, TruV K x H' k ∧ Q k H'

/-! ### arguments, calls -/
theorem aw_nil {Φ : List D → Prop} (h : Φ []) : AW K tNil γ Φ := fun Hs0 H0 Hs H σ Q S q => q _ _ [] [] (.refl S.b) .nil h
theorem aw_cons {Φ : List D → Prop} {tr : TA} (h : EW K te γ fun d => AW K tr γ fun ds => Φ (d :: ds)) : AW K (tCons te tr) γ Φ := fun Hs0 H0 Hs H σ Q S q =>
  h Hs0 H0 Hs H σ _ S fun Hs1 H1 v d g1 r1 h1 => h1 Hs0 H0 Hs1 H1 σ _ (S.grow g1) fun Hs2 H2 vs ds g2 r2 p => q _ _ _ _ (g1.trans g2) (.cons (r1.mono g2.s) r2) p
theorem ew_cb {tr : TA} {r : List V → Hp → VK → Prop} (h : AW K tr γ fun ds => RWL K r ds Φ) : EW K (tCB r tr) γ Φ := fun Hs0 H0 Hs H σ Q S q =>
  h Hs0 H0 Hs H σ _ S fun Hs1 H1 vs ds g1 r1 h1 => h1 Hs1 H1 vs Q g1.b r1 fun Hs2 H2 w d g2 r2 p => q _ _ _ _ (g1.trans g2) r2 p
theorem en_cb {Φ : List D → Prop} {tr : TA} {r : List V → Hp → VK → Prop} (h : AW K tr γ fun ds => RNL K r ds Φ) : EN K (tCB r tr) γ Φ := fun Hs0 H0 Hs H σ Q S q =>
  h Hs0 H0 Hs H σ _ S fun Hs1 H1 vs ds g1 r1 h1 => h1 Hs1 H1 vs Q g1.b r1 fun Hs2 H2 a ws es g2 n1 n2 n3 n4 p => q _ _ a ws es (g1.trans g2) (Same.free g1.e n1) n2 n3 n4 p
/-- a method of a text -/
theorem ew_m0 {r : V → List V → Hp → VK → Prop} (h : EW K ta γ fun x => ∃ z, x = .str z ∧ RWM K r x [] Φ) : EW K (tM0 r ta) γ Φ := fun Hs0 H0 Hs H σ Q S q =>
  h Hs0 H0 Hs H σ _ S fun Hs1 H1 v x g1 r1 ⟨z, e, h1⟩ => by
    subst e
    have rz := r1
    cases r1
    exact ⟨⟨z, rfl⟩, h1 Hs1 H1 _ [] Q g1.b rz .nil fun Hs2 H2 w d g2 r2 p => q _ _ _ _ (g1.trans g2) r2 p⟩
theorem ew_m1 {r : V → List V → Hp → VK → Prop} (h : EW K ta γ fun x => ∃ z, x = .str z ∧ EW K tb γ fun y => RWM K r x [y] Φ) : EW K (tM1 r ta tb) γ Φ := fun Hs0 H0 Hs H σ Q S q =>
  h Hs0 H0 Hs H σ _ S fun Hs1 H1 v x g1 r1 ⟨z, e, h1⟩ => by
    subst e
    have rz := r1
    cases r1
    exact ⟨⟨z, rfl⟩, h1 Hs0 H0 Hs1 H1 σ _ (S.grow g1) fun Hs2 H2 w y g2 r2 h2 => h2 Hs2 H2 _ [w] Q g2.b (rz.mono g2.s) (.cons r2 .nil) fun Hs3 H3 w d g3 r3 p => q _ _ _ _ ((g1.trans g2).trans g3) r3 p⟩
theorem en_m1 {Φ : List D → Prop} {r : V → List V → Hp → VK → Prop} (h : EW K ta γ fun x => ∃ z, x = .str z ∧ EW K tb γ fun y => RNM K r x [y] Φ) : EN K (tM1 r ta tb) γ Φ := fun Hs0 H0 Hs H σ Q S q =>
  h Hs0 H0 Hs H σ _ S fun Hs1 H1 v x g1 r1 ⟨z, e, h1⟩ => by
    subst e
    have rz := r1
    cases r1
    exact ⟨⟨z, rfl⟩, h1 Hs0 H0 Hs1 H1 σ _ (S.grow g1) fun Hs2 H2 w y g2 r2 h2 => h2 Hs2 H2 _ [w] Q g2.b (rz.mono g2.s) (.cons r2 .nil) fun Hs3 H3 a ws es g3 n1 n2 n3 n4 p => q _ _ a ws es ((g1.trans g2).trans g3) (Same.free (g1.trans g2).e n1) n2 n3 n4 p⟩

/-! ### built-ins -/
theorem rwl_abs {i : Int} (k : Φ (.int (if i < 0 then -i else i))) : RWL K (fun xs H Q => ∃ i, xs = [.int i] ∧ Q (.int (if i < 0 then -i else i)) H) [.int i] Φ := fun Hs H vs Q b r q => by
  cases r with
  | cons h r => cases h; cases r; exact ⟨i, rfl, q _ _ _ _ (.refl b) (.int _) k⟩
theorem rwl_int {i : Int} (k : Φ (.int i)) : RWL K (fun xs H Q => (∃ i, xs = [.int i] ∧ Q (.int i) H) ∨ ∃ k, xs = [.bl k] ∧ Q (.int (if k then 1 else 0)) H) [.int i] Φ := fun Hs H vs Q b r q => by
  cases r with
  | cons h r => cases h; cases r; exact .inl ⟨i, rfl, q _ _ _ _ (.refl b) (.int _) k⟩
theorem rwl_max2 {i j : Int} (k : Φ (.int (if j > i then j else i))) : RWL K (fun xs H Q => ∃ i j, xs = [.int i, .int j] ∧ Q (.int (if j > i then j else i)) H) [.int i, .int j] Φ := fun Hs H vs Q b r q => by
  cases r with
  | cons h r => cases h; cases r with | cons h r => cases h; cases r; exact ⟨i, j, rfl, q _ _ _ _ (.refl b) (.int _) k⟩
theorem rwl_min2 {i j : Int} (k : Φ (.int (if j < i then j else i))) : RWL K (fun xs H Q => ∃ i j, xs = [.int i, .int j] ∧ Q (.int (if j < i then j else i)) H) [.int i, .int j] Φ := fun Hs H vs Q b r q => by
  cases r with
  | cons h r => cases h; cases r with | cons h r => cases h; cases r; exact ⟨i, j, rfl, q _ _ _ _ (.refl b) (.int _) k⟩
def rLen (K : PySem.W.Frag) : List V → Hp → VK → Prop := fun xs H Q => ∃ x n, xs = [x] ∧ LenV K x H n ∧ Q (.int n) H
theorem call_lenZ {X : Cx} : CallR X (.builtin "len") (rLen X.K) := call_len
theorem rwl_lenL {ds : List D} (k : Φ (.int ds.length)) : RWL K (rLen K) [.lst ds] Φ := fun Hs H vs Q b r q => by
  cases r with
  | cons h r =>
    cases r
    cases h with
    | lst h r => exact ⟨_, ds.length, rfl, .inl ⟨_, .of (b _ _ h), r.length.symm ▸ rfl⟩, q _ _ _ _ (.refl b) (.int _) k⟩
theorem rwl_lenT {ds : List D} (k : Φ (.int ds.length)) : RWL K (rLen K) [.tup ds] Φ := fun Hs H vs Q b r q => by
  cases r with
  | cons h r =>
    cases r
    cases h with
    | tup h r => exact ⟨_, ds.length, rfl, .inr ⟨_, sameT b h, r.length.symm ▸ rfl⟩, q _ _ _ _ (.refl b) (.int _) k⟩
theorem rwl_lenC {ns : List Int} (k : Φ (.int ns.length)) : RWL K (rLen K) [.scr ns] Φ := fun Hs H vs Q b r q => by
  cases r with
  | cons h r =>
    cases r
    cases h with
    | scr h => exact ⟨_, ns.length, rfl, .inl ⟨_, sameL b h, by simp⟩, q _ _ _ _ (.refl b) (.int _) k⟩
theorem rwl_lenS {z : Str} (l : z.length ≤ sizeS) (k : Φ (.int z.length)) : RWL K (rLen K) [.str z] Φ := fun Hs H vs Q b r q => by
  cases r with
  | cons h r =>
    cases r
    cases h
    exact ⟨_, z.length, rfl, ⟨sz_ok l, rfl⟩, q _ _ _ _ (.refl b) (.int _) k⟩
theorem rwl_strI {i : Int} (l : i.natAbs < 2 ^ 64) (k : Φ (.str (toString i))) : RWL K (fun xs H Q => ∃ i, xs = [.int i] ∧ i.natAbs.log2 < 1920 ∧ Q (.str (toString i)) H) [.int i] Φ := fun Hs H vs Q b r q => by
  cases r with
  | cons h r =>
    cases h; cases r
    refine ⟨i, rfl, ?_, q _ _ _ _ (.refl b) (.str _) k⟩
    by_cases h0 : i.natAbs = 0
    · rw [h0]; decide
    · exact Nat.lt_trans ((Nat.log2_lt h0).mpr l) (by decide)
def rListOf (K : PySem.W.Frag) : List V → Hp → VK → Prop := fun xs H Q => ∃ p ys, xs = [.ref p] ∧ (SqL K H p ys ∨ SqT K H p ys) ∧ ∀ l, H l = none → Q (.ref l) (upd H l (.lst ys))
theorem call_listZ {X : Cx} : CallR X (.type "list") (rListOf X.K) := call_list_of
theorem rnl_listL {ds : List D} {Φ : List D → Prop} (k : Φ ds) : RNL K (rListOf K) [.lst ds] Φ := fun Hs H vs Q b r q => by
  cases r with
  | cons h r =>
    cases r
    cases h with
    | lst h r => exact ⟨_, _, rfl, .inl (.of (b _ _ h)), fun p hp => q Hs _ p _ ds (.hid b hp) hp (b.free hp) upd_same r k⟩
theorem rnl_listT {ds : List D} {Φ : List D → Prop} (k : Φ ds) : RNL K (rListOf K) [.tup ds] Φ := fun Hs H vs Q b r q => by
  cases r with
  | cons h r =>
    cases r
    cases h with
    | tup h r => exact ⟨_, _, rfl, .inr (sameT b h), fun p hp => q Hs _ p _ ds (.hid b hp) hp (b.free hp) upd_same r k⟩
def rTupOf (K : PySem.W.Frag) : List V → Hp → VK → Prop := fun xs H Q => ∃ p ys, xs = [.ref p] ∧ ((SqL K H p ys ∧ ∀ l, H l = none → Q (.ref l) (upd H l (.tup ys))) ∨ (SqT K H p ys ∧ Q (.ref p) H))
theorem call_tupZ {X : Cx} : CallR X (.type "tuple") (rTupOf X.K) := call_tuple_of
theorem rwl_tupL {ds : List D} (k : Φ (.tup ds)) : RWL K (rTupOf K) [.lst ds] Φ := fun Hs H vs Q b r q => by
  cases r with
  | cons h r =>
    cases r
    cases h with
    | lst h r => exact ⟨_, _, rfl, .inl ⟨.of (b _ _ h), fun p hp => q _ _ _ _ (.new b hp) (.tup (.of upd_same) (RepL.mono (sameNew (b.free hp)) r)) k⟩⟩
theorem rwl_tupT {ds : List D} (k : Φ (.tup ds)) : RWL K (rTupOf K) [.tup ds] Φ := fun Hs H vs Q b r q => by
  cases r with
  | cons h r =>
    cases r
    cases h with
    | tup h r => exact ⟨_, _, rfl, .inr ⟨sameT b h, q _ _ _ _ (.refl b) (.tup h r) k⟩⟩
theorem rwl_all {bs : List Bool} (k : Φ (.bl (bs.all id))) : RWL K (rAll K) [.lst (bs.map .bl)] Φ := fun Hs H vs Q b r q => by
  cases r with
  | cons h r =>
    cases r
    cases h with
    | lst h r =>
      have e := r.bls; subst e
      exact ⟨_, bs, rfl, .of (b _ _ h), q _ _ _ _ (.refl b) (.bl _) k⟩
theorem rwl_any {bs : List Bool} (k : Φ (.bl (bs.any id))) : RWL K (rAny K) [.lst (bs.map .bl)] Φ := fun Hs H vs Q b r q => by
  cases r with
  | cons h r =>
    cases r
    cases h with
    | lst h r =>
      have e := r.bls; subst e
      exact ⟨_, bs, rfl, .of (b _ _ h), q _ _ _ _ (.refl b) (.bl _) k⟩
theorem rwl_sumI {ns : List Int} (k : Φ (.int ns.sum)) : RWL K (rSum K) [.lst (ns.map .int)] Φ := fun Hs H vs Q b r q => by
  cases r with
  | cons h r =>
    cases r
    cases h with
    | lst h r =>
      have e := r.ints; subst e
      exact ⟨_, ns, rfl, .of (b _ _ h), q _ _ _ _ (.refl b) (.int _) k⟩

/-! ### methods of texts -/
def rEnds : V → List V → Hp → VK → Prop := fun x xs H Q => ∃ a b, x = .str a ∧ xs = [.str b] ∧ Q (.bl (Txt.endswith a b)) H
theorem mt_endsZ {X : Cx} : MtR X "str.endswith" rEnds := mt_endswith
theorem rwm_ends {a b : Str} (k : Φ (.bl (Txt.endswith a b))) : RWM K rEnds (.str a) [.str b] Φ := fun Hs H v vs Q bb r1 r2 q => by
  cases r1
  cases r2 with
  | cons h r => cases h; cases r; exact ⟨a, b, rfl, rfl, q _ _ _ _ (.refl bb) (.bl _) k⟩
def rStarts : V → List V → Hp → VK → Prop := fun x xs H Q => ∃ a b, x = .str a ∧ xs = [.str b] ∧ Q (.bl (Txt.startswith a b)) H
theorem mt_startsZ {X : Cx} : MtR X "str.startswith" rStarts := mt_startswith
theorem rwm_starts {a b : Str} (k : Φ (.bl (Txt.startswith a b))) : RWM K rStarts (.str a) [.str b] Φ := fun Hs H v vs Q bb r1 r2 q => by
  cases r1
  cases r2 with
  | cons h r => cases h; cases r; exact ⟨a, b, rfl, rfl, q _ _ _ _ (.refl bb) (.bl _) k⟩
def rJoin (K : PySem.W.Frag) : V → List V → Hp → VK → Prop := fun x xs H Q => ∃ a p, ∃ ys : List Str, x = .str a ∧ xs = [.ref p] ∧ (SqL K H p (ys.map V.str) ∨ SqT K H p (ys.map V.str)) ∧ (ys.map Str.length).sum + ys.length * a.length ≤ 16777216 ∧ Q (.str (Txt.join a ys)) H
def rSplit : V → List V → Hp → VK → Prop := fun x xs H Q => ∃ a b, x = .str a ∧ xs = [.str b] ∧ (b.length == 0) = false ∧ a.length + 2 ≤ sizeLine ∧ rNewStrs (Txt.split a b) H Q
theorem mt_splitZ {X : Cx} : MtR X "str.split" rSplit := mt_split
theorem rnm_split {a b : Str} {Φ : List D → Prop} (hb : (b.length == 0) = false) (l : a.length + 2 ≤ sizeS) (k : Φ ((Txt.split a b).map .str)) : RNM K rSplit (.str a) [.str b] Φ := fun Hs H v vs Q bb r1 r2 q => by
  cases r1
  cases r2 with
  | cons h r => cases h; cases r; exact ⟨a, b, rfl, rfl, hb, sz_ok l, fun p hp => q Hs _ p _ _ (.hid bb hp) hp (bb.free hp) upd_same .ofStrs k⟩

/-! ### slices -/
theorem ow_none {Φ : Option Int → Prop} (k : Φ none) : OW K tNoPart γ Φ := fun Hs0 H0 Hs H σ Q S q => q _ _ _ (.refl S.b) k
theorem ow_some {Φ : Option Int → Prop} (h : EW K te γ fun d => ∃ i, d = .int i ∧ Φ (some i)) : OW K (tPart te) γ Φ := fun Hs0 H0 Hs H σ Q S q =>
  h Hs0 H0 Hs H σ _ S fun Hs' H' v d g r ⟨i, e, p⟩ => by
    subst e; cases r
    exact ⟨i, rfl, q _ _ _ g p⟩
def SlW (K : PySem.W.Frag) (r : V → Option Int → Option Int → Hp → VK → Prop) (x : D) (l u : Option Int) (Φ : D → Prop) : Prop := ∀ (Hs H : Hp) (v : V) (Q : VK), Same Hs H → Rep K Hs v x →
  (∀ Hs' H' w d, Grow Hs H Hs' H' → Rep K Hs' w d → Φ d → Q w H') → r v l u H Q
def SlN (K : PySem.W.Frag) (r : V → Option Int → Option Int → Hp → VK → Prop) (x : D) (l u : Option Int) (Φ : List D → Prop) : Prop := ∀ (Hs H : Hp) (v : V) (Q : VK), Same Hs H → Rep K Hs v x →
  (∀ Hs' H' a vs ds, Grow Hs H Hs' H' → H a = none → Hs' a = none → H' a = some (.lst vs) → RepL K Hs' vs ds → Φ ds → Q (.ref a) H') → r v l u H Q
theorem ew_sl {r : V → Option Int → Option Int → Hp → VK → Prop} {tl th : TO} (h : EW K ta γ fun x => OW K tl γ fun l => OW K th γ fun u => SlW K r x l u Φ) : EW K (tSl r ta tl th) γ Φ := fun Hs0 H0 Hs H σ Q S q =>
  h Hs0 H0 Hs H σ _ S fun Hs1 H1 v x g1 r1 h1 => h1 Hs0 H0 Hs1 H1 σ _ (S.grow g1) fun Hs2 H2 l g2 h2 => h2 Hs0 H0 Hs2 H2 σ _ ((S.grow g1).grow g2) fun Hs3 H3 u g3 h3 =>
    h3 Hs3 H3 v Q g3.b ((r1.mono g2.s).mono g3.s) fun Hs4 H4 w d g4 r4 p => q _ _ _ _ (((g1.trans g2).trans g3).trans g4) r4 p
theorem en_sl {Φ : List D → Prop} {r : V → Option Int → Option Int → Hp → VK → Prop} {tl th : TO} (h : EW K ta γ fun x => OW K tl γ fun l => OW K th γ fun u => SlN K r x l u Φ) : EN K (tSl r ta tl th) γ Φ := fun Hs0 H0 Hs H σ Q S q =>
  h Hs0 H0 Hs H σ _ S fun Hs1 H1 v x g1 r1 h1 => h1 Hs0 H0 Hs1 H1 σ _ (S.grow g1) fun Hs2 H2 l g2 h2 => h2 Hs0 H0 Hs2 H2 σ _ ((S.grow g1).grow g2) fun Hs3 H3 u g3 h3 =>
    h3 Hs3 H3 v Q g3.b ((r1.mono g2.s).mono g3.s) fun Hs4 H4 a ws es g4 n1 n2 n3 n4 p => q _ _ a ws es (((g1.trans g2).trans g3).trans g4) (Same.free ((g1.trans g2).trans g3).e n1) n2 n3 n4 p
theorem sl_S {z : Str} {l u : Option Int} (h : z.length ≤ sizeS) (k : Φ (.str (cutS z l u))) : SlW K rSlS (.str z) l u Φ := fun Hs H v Q b r q => by
  cases r
  exact ⟨z, rfl, sz_ok h, q _ _ _ _ (.refl b) (.str _) k⟩
def cutD (xs : List D) (lo hi : Option Int) : List D := (xs.drop (HT.sIx xs.length 0 lo)).take (HT.sIx xs.length xs.length hi - HT.sIx xs.length 0 lo)
theorem sln_L {ds : List D} {l u : Option Int} {Φ : List D → Prop} (k : Φ (cutD ds l u)) : SlN K (rSlL K) (.lst ds) l u Φ := fun Hs H v Q b r q => by
  cases r with
  | lst h r =>
    refine ⟨_, _, rfl, .of (b _ _ h), fun p hp => q Hs _ p _ _ (.hid b hp) hp (b.free hp) upd_same ?_ k⟩
    unfold cutV cutD
    rw [r.length]
    exact (r.drop _).take _

/-! ### displays -/
theorem ew_tup {tr : TA} (h : AW K tr γ fun ds => ds.length ≤ sizeS ∧ Φ (.tup ds)) : EW K (tTup tr) γ Φ := fun Hs0 H0 Hs H σ Q S q =>
  h Hs0 H0 Hs H σ _ S fun Hs1 H1 vs ds g1 r1 ⟨l, p⟩ => ⟨by rw [r1.length]; exact sz_ok l, fun a ha => q _ _ _ _ (g1.trans (.new g1.b ha)) (.tup (.of upd_same) (RepL.mono (sameNew (g1.b.free ha)) r1)) p⟩
theorem en_lst {Φ : List D → Prop} {tr : TA} (h : AW K tr γ fun ds => ds.length ≤ sizeS ∧ Φ ds) : EN K (tLst tr) γ Φ := fun Hs0 H0 Hs H σ Q S q =>
  h Hs0 H0 Hs H σ _ S fun Hs1 H1 vs ds g1 r1 ⟨l, p⟩ => ⟨by rw [r1.length]; exact sz_ok l, fun a ha => q _ _ a _ _ (g1.trans (.hid g1.b ha)) (g1.e.free ha) (g1.b.free ha) upd_same r1 p⟩
end
end Z

namespace Z
open PySem PySem.Spec L2

/-! ### what is walked -/
/-- from the shared part Hs on, the iterator gives the data ds -/
structure Yields (K : PySem.W.Frag) (Hs : Hp) (J : It) (ds : List D) : Prop where
  go : ∀ i Hs' H', Same Hs Hs' → Same Hs' H' → i < ds.length → J.go i H'
  yld : ∀ i Hs' H' d x H'', Same Hs Hs' → Same Hs' H' → ds[i]? = some d → J.yld i H' x H'' → ∃ Hs'', Grow Hs' H' Hs'' H'' ∧ Rep K Hs'' x d
  stop : ∀ Hs' H', Same Hs Hs' → Same Hs' H' → J.stop ds.length H'
def IW (K : PySem.W.Frag) (wi : TI) (γ : Gam) (Φ : List D → Prop) : Prop := ∀ (Hs0 H0 Hs H : Hp) (σ : St) (R : It → Hp → Prop), Sl K Hs0 H0 Hs H σ γ →
  (∀ Hs' H' J ds, Grow Hs H Hs' H' → Yields K Hs' J ds → Φ ds → R J H') → wi σ H R
/-- a target: the slots that it sets -/
def GW (K : PySem.W.Frag) (g : TG) (js : List Nat) (d : D) (γ : Gam) (Ψ : Gam → Prop) : Prop := ∀ (Hs0 H0 Hs H : Hp) (σ : St) (v : V) (R : St → Hp → Prop), Sl K Hs0 H0 Hs H σ γ → Rep K Hs v d →
  (∀ σ' γ', Sl K Hs0 H0 Hs H σ' γ' → (∀ vs : List Nat, (∀ j ∈ js, j ∈ vs) → wipe σ' vs = wipe σ vs) → Ψ γ' → R σ' H) → g v σ H R
def GWs (K : PySem.W.Frag) (g : TGs) (js : List Nat) (ds : List D) (γ : Gam) (Ψ : Gam → Prop) : Prop := ∀ (Hs0 H0 Hs H : Hp) (σ : St) (vs : List V) (R : St → Hp → Prop), Sl K Hs0 H0 Hs H σ γ → RepL K Hs vs ds →
  (∀ σ' γ', Sl K Hs0 H0 Hs H σ' γ' → (∀ vs : List Nat, (∀ j ∈ js, j ∈ vs) → wipe σ' vs = wipe σ vs) → Ψ γ' → R σ' H) → g vs σ H R
theorem wipe_set {σ : St} {j : Nat} {x : Option V} : ∀ {vs : List Nat}, j ∈ vs → wipe (σ.set j x) vs = wipe σ vs
  | [], h => by cases h
  | v :: vs, h => by
    show (wipe (σ.set j x) vs).set v none = (wipe σ vs).set v none
    by_cases hv : j ∈ vs
    · rw [wipe_set hv]
    · have e : j = v := by
        rcases List.mem_cons.mp h with q | q
        · exact q
        · exact absurd q hv
      subst e
      have : ∀ ws : List Nat, j ∉ ws → wipe (σ.set j x) ws = (wipe σ ws).set j x := by
        intro ws
        induction ws with
        | nil => intro _; rfl
        | cons w ws ih =>
          intro hw
          show (wipe (σ.set j x) ws).set w none = ((wipe σ ws).set w none).set j x
          rw [ih fun z => hw (List.mem_cons_of_mem _ z), List.set_comm]
          intro z; exact hw (z ▸ List.mem_cons_self)
      rw [this vs hv, List.set_set]
theorem wipe_wipe {σ : St} : ∀ {vs : List Nat}, wipe (wipe σ vs) vs = wipe σ vs := by
  intro vs
  have key : ∀ ws : List Nat, ∀ us : List Nat, (∀ w ∈ ws, w ∈ us) → ∀ τ : St, wipe (wipe τ ws) us = wipe τ us := by
    intro ws
    induction ws with
    | nil => intro us _ τ; rfl
    | cons w ws ih =>
      intro us h τ
      show wipe ((wipe τ ws).set w none) us = wipe τ us
      rw [wipe_set (h w List.mem_cons_self)]
      exact ih us (fun x hx => h x (List.mem_cons_of_mem _ hx)) τ
  exact key vs vs (fun _ h => h) σ
def wipeG (γ : Gam) : List Nat → Gam
  | [] => γ
  | v :: vs => (wipeG γ vs).set v none
theorem Sl.wipe {K : PySem.W.Frag} {Hs0 H0 Hs H : Hp} {σ : St} {γ : Gam} (S : Sl K Hs0 H0 Hs H σ γ) : ∀ vs : List Nat, Sl K Hs0 H0 Hs H (wipe σ vs) (wipeG γ vs)
  | [] => S
  | v :: vs => (S.wipe vs).drop v none
section
variable {K : PySem.W.Frag} {γ : Gam} {ta tb te : TE} {d : D} {i j : Nat} {Ψ : Gam → Prop}
theorem gw_name (h : Ψ (γ.set i (some (.sh d)))) : GW K (gName i) [i] d γ Ψ := fun Hs0 H0 Hs H σ v R S r q =>
  q _ _ (S.set i r) (fun vs hv => wipe_set (hv i List.mem_cons_self)) h
theorem gws_nil (h : Ψ γ) : GWs K gNil [] [] γ Ψ := fun Hs0 H0 Hs H σ vs R S r q => by
  cases r
  exact ⟨rfl, q _ _ S (fun _ _ => rfl) h⟩
theorem gws_cons {g : TG} {gs : TGs} {js ks : List Nat} {ds : List D} (h : GW K g js d γ fun γ1 => GWs K gs ks ds γ1 Ψ) : GWs K (gCons g gs) (js ++ ks) (d :: ds) γ Ψ := fun Hs0 H0 Hs H σ vs R S r q => by
  cases r with
  | cons r1 r2 =>
    refine ⟨_, _, rfl, h Hs0 H0 Hs H σ _ _ S r1 fun σ1 γ1 S1 w1 h1 => h1 Hs0 H0 Hs H σ1 _ _ S1 r2 fun σ2 γ2 S2 w2 h2 => q σ2 γ2 S2 (fun vs hv => ?_) h2⟩
    rw [w2 vs fun j hj => hv j (List.mem_append_right _ hj), w1 vs fun j hj => hv j (List.mem_append_left _ hj)]
theorem gw_tup {gs : TGs} {js : List Nat} {ds : List D} {n : Nat} (hn : ds.length = n) (h : GWs K gs js ds γ Ψ) : GW K (gTup K n gs) js (.tup ds) γ Ψ := fun Hs0 H0 Hs H σ v R S r q => by
  cases r with
  | tup h1 r1 => exact ⟨_, _, rfl, sameT S.b h1, by rw [r1.length]; exact hn, h Hs0 H0 Hs H σ _ R S r1 q⟩

theorem iw_list {Φ : List D → Prop} (h : EW K te γ fun d => ∃ ds, d = .lst ds ∧ Φ ds) : IW K (iList K te) γ Φ := fun Hs0 H0 Hs H σ R S q =>
  h Hs0 H0 Hs H σ _ S fun Hs1 H1 v x g1 r1 ⟨ds, e, p⟩ => by
    subst e
    cases r1 with
    | lst h1 r1 =>
      rename_i a vs
      refine ⟨a, rfl, ⟨vs, .of (g1.b _ _ h1)⟩, q Hs1 H1 _ ds g1 ⟨fun i Hs' H' e1 e2 hi => ?_, fun i Hs' H' d x H'' e1 e2 hd hy => ?_, fun Hs' H' e1 e2 => ?_⟩ p⟩
      · have hv : i < vs.length := by rw [r1.length]; exact hi
        exact ⟨vs, vs[i], .of (e2 _ _ (e1 _ _ h1)), by simp [hv]⟩
      · obtain ⟨rfl, hy⟩ := hy
        have hx := hy vs (.of (e2 _ _ (e1 _ _ h1)))
        obtain ⟨d', hd', rd⟩ := r1.get' hx
        rw [hd] at hd'; cases hd'
        exact ⟨Hs', .refl e2, rd.mono e1⟩
      · exact ⟨vs, .of (e2 _ _ (e1 _ _ h1)), by rw [r1.length]; exact Nat.le_refl _⟩
theorem iw_tup {Φ : List D → Prop} (h : EW K te γ fun d => ∃ ds, d = .tup ds ∧ Φ ds) : IW K (iTup K te) γ Φ := fun Hs0 H0 Hs H σ R S q =>
  h Hs0 H0 Hs H σ _ S fun Hs1 H1 v x g1 r1 ⟨ds, e, p⟩ => by
    subst e
    cases r1 with
    | tup h1 r1 =>
      rename_i a vs
      refine ⟨a, rfl, ⟨vs, sameT g1.b h1⟩, q Hs1 H1 _ ds g1 ⟨fun i Hs' H' e1 e2 hi => ?_, fun i Hs' H' d x H'' e1 e2 hd hy => ?_, fun Hs' H' e1 e2 => ?_⟩ p⟩
      · have hv : i < vs.length := by rw [r1.length]; exact hi
        exact ⟨vs, vs[i], sameT e2 (sameT e1 h1), by simp [hv]⟩
      · obtain ⟨rfl, hy⟩ := hy
        have hx := hy vs (sameT e2 (sameT e1 h1))
        obtain ⟨d', hd', rd⟩ := r1.get' hx
        rw [hd] at hd'; cases hd'
        exact ⟨Hs', .refl e2, rd.mono e1⟩
      · exact ⟨vs, sameT e2 (sameT e1 h1), by rw [r1.length]; exact Nat.le_refl _⟩
/-- lo, lo + 1, .. -/
def rng (lo : Int) (n : Nat) : List D := (List.range n).map fun (k : Nat) => D.int (lo + (k : Int))
theorem rng_len (lo : Int) (n : Nat) : (rng lo n).length = n := by unfold rng; rw [List.length_map, List.length_range]
theorem rng_get {lo : Int} {n i : Nat} {d : D} (h : (rng lo n)[i]? = some d) : i < n ∧ d = .int (lo + (i : Int)) := by
  unfold rng at h
  rw [List.getElem?_map] at h
  by_cases hi : i < n
  · rw [List.getElem?_range hi] at h
    exact ⟨hi, (Option.some.inj h).symm⟩
  · rw [List.getElem?_eq_none (by simpa using hi)] at h; cases h
theorem rng_yields {Hs : Hp} {lo : Int} {n : Nat} : Yields K Hs (Itr lo n) (rng lo n) :=
  ⟨fun i _ _ _ _ hi => by rw [rng_len] at hi; exact hi, fun i Hs' H' d x H'' _ e2 hd hy => by
    obtain ⟨rfl, rfl⟩ := hy
    obtain ⟨_, rfl⟩ := rng_get hd
    exact ⟨Hs', .refl e2, .int _⟩, fun _ _ _ _ => by rw [rng_len]; exact Nat.le_refl _⟩
theorem iw_range1 {Φ : List D → Prop} {tr : TA} (h : AW K tr γ fun ds => ∃ n : Int, ds = [.int n] ∧ n < 2 ^ 40 ∧ -(2 ^ 40) < n ∧ Φ (rng 0 n.toNat)) : IW K (iRng1 tr) γ Φ := fun Hs0 H0 Hs H σ R S q =>
  h Hs0 H0 Hs H σ _ S fun Hs1 H1 vs ds g1 r1 ⟨n, e, l, l2, p⟩ => by
    subst e
    cases r1 with
    | cons r1 r2 => cases r1; cases r2; exact ⟨n, rfl, by omega, by omega, q Hs1 H1 _ _ g1 rng_yields p⟩
theorem iw_range2 {Φ : List D → Prop} {tr : TA} (h : AW K tr γ fun ds => ∃ m n : Int, ds = [.int m, .int n] ∧ (m < 2 ^ 40 ∧ -(2 ^ 40) < m ∧ n < 2 ^ 40 ∧ -(2 ^ 40) < n) ∧ Φ (rng m (n - m).toNat)) : IW K (iRng2 tr) γ Φ := fun Hs0 H0 Hs H σ R S q =>
  h Hs0 H0 Hs H σ _ S fun Hs1 H1 vs ds g1 r1 ⟨m, n, e, ⟨l, l2, l3, l4⟩, p⟩ => by
    subst e
    cases r1 with
    | cons r1 r2 => cases r1; cases r2 with | cons r1 r2 => cases r1; cases r2; exact ⟨m, n, rfl, ⟨by omega, by omega, by omega, by omega⟩, q Hs1 H1 _ _ g1 rng_yields p⟩

/-! ### comprehensions -/
theorem en_lc {wi : TI} {g : TG} {js : List Nat} {tt : TT} {vs : List Nat} {Φ : List D → Prop} (hj : ∀ j ∈ js, j ∈ vs)
    (h : IW K wi γ fun ds => ∃ Iv : Nat → List D → Prop, Iv 0 [] ∧ (∀ i d acc, ds[i]? = some d → Iv i acc → acc.length < sizeS ∧ GW K g js d (wipeG γ vs) fun γ2 => TW K tt γ2 fun b => (b = true → EW K te γ2 fun y => Iv (i + 1) (acc ++ [y])) ∧ (b = false → Iv (i + 1) acc)) ∧
      ∀ acc, Iv ds.length acc → Φ acc) : EN K (tLc wi g tt te vs) γ Φ := fun Hs0 H0 Hs H σ Q S q =>
  h Hs0 H0 Hs H σ _ S fun Hs1 H1 J ds g1 Y ⟨Iv, i0, step, fin⟩ Dl hD => by
    have S1 := S.grow g1
    have HsD : Hs1 Dl = none := g1.b.free hD
    -- the state within: shared Hs', all H' (with the list at Dl, hidden)
    refine ⟨fun i m Hx => m = ds.length - i ∧ i ≤ ds.length ∧ ∃ Hs' ws acc, Grow Hs1 H1 Hs' Hx ∧ Hs' Dl = none ∧ Hx Dl = some (.lst ws) ∧ RepL K Hs' ws acc ∧ Iv i acc,
      ⟨ds.length, by simp, Nat.zero_le _, Hs1, [], [], .hid g1.b hD, HsD, upd_same, .nil, i0⟩, ?_⟩
    rintro i m Hx ⟨rfl, hi, Hs', ws, acc, gx, nD, hDl, rw', iv⟩
    by_cases hlt : i < ds.length
    · refine .inr ⟨Y.go i Hs' Hx gx.s gx.b hlt, fun H' => ∃ Hs'' ws acc, Grow Hs1 H1 Hs'' H' ∧ Hs'' Dl = none ∧ H' Dl = some (.lst ws) ∧ RepL K Hs'' ws acc ∧ Iv (i + 1) acc, fun H' ⟨a, b, c, d⟩ => ⟨ds.length - (i + 1), by omega, rfl, hlt, a, b, c, d⟩, fun x H'' hy => ?_⟩
      have hd : ds[i]? = some ds[i] := by simp [hlt]
      obtain ⟨Hs2, g2, rx⟩ := Y.yld i Hs' Hx ds[i] x H'' gx.s gx.b hd hy
      obtain ⟨sz, st⟩ := step i ds[i] acc hd iv
      have n2 : Hs2 Dl = none := g2.n _ _ hDl nD
      -- within the element the list at Dl is one of the hidden ones
      have S2 : Sl K Hs0 H0 Hs2 H'' (wipe σ vs) (wipeG γ vs) := ((S1.grow gx).grow g2).wipe vs
      refine st Hs0 H0 Hs2 H'' (wipe σ vs) x _ S2 rx fun σ2 γ2 S3 w3 h3 => ⟨by rw [w3 vs hj, wipe_wipe], ?_⟩
      refine h3 Hs0 H0 Hs2 H'' σ2 _ S3 fun Hs3 H3 b g3 ⟨p1, p2⟩ => ?_
      have n3 : Hs3 Dl = none := g3.n _ _ (g2.e _ _ hDl) n2
      have d3 : H3 Dl = some (.lst ws) := g3.e _ _ (g2.e _ _ hDl)
      have g13 : Grow Hs1 H1 Hs3 H3 := (gx.trans g2).trans g3
      cases b with
      | true =>
        rw [if_pos rfl]
        refine p1 rfl Hs0 H0 Hs3 H3 σ2 _ (S3.grow g3) fun Hs4 H4 y dy g4 r4 p4 => ?_
        have n4 : Hs4 Dl = none := g4.n _ _ d3 n3
        refine ⟨ws, g4.e _ _ d3, by rw [rw'.length]; exact Nat.lt_trans sz (by decide), Hs4, ws ++ [y], acc ++ [dy], ?_, n4, upd_same, (RepL.mono ((g2.trans g3).trans g4).s rw').append (.cons r4 .nil), p4⟩
        have g14 := g13.trans g4
        exact ⟨g14.s, fun b o e => by rw [upd_ne (ne_of_none e hD)]; exact g14.e _ _ e, fun b o e => by rw [upd_ne (ne_of_none e n4)]; exact g14.b _ _ e, g14.n⟩
      | false =>
        rw [if_neg Bool.false_ne_true]
        exact ⟨Hs3, ws, acc, g13, n3, d3, RepL.mono (g2.trans g3).s rw', p2 rfl⟩
    · have e : i = ds.length := by omega
      subst e
      refine .inl ⟨Y.stop Hs' Hx gx.s gx.b, q Hs' Hx Dl ws acc (g1.trans gx) (Same.free g1.e hD) nD hDl rw' (fin acc iv)⟩
end

/-! ### statements -/
structure Out where
  nx : Gam → Prop
  rt : D → Prop
  bk : Gam → Prop := fun _ => False
  ct : Gam → Prop := fun _ => False
def SW (K : PySem.W.Frag) (ts : TS) (γ : Gam) (Φ : Out) : Prop := ∀ (Hs0 H0 Hs H : Hp) (σ : St) (E : Ends), Sl K Hs0 H0 Hs H σ γ →
  (∀ Hs' H' σ' γ', Same Hs Hs' → Sl K Hs0 H0 Hs' H' σ' γ' → Φ.nx γ' → E.nx σ' H') →
  (∀ Hs' H' v d, Grow Hs0 H0 Hs' H' → Rep K Hs' v d → Φ.rt d → E.rt v H') →
  (∀ Hs' H' σ' γ', Same Hs Hs' → Sl K Hs0 H0 Hs' H' σ' γ' → Φ.bk γ' → E.bk σ' H') →
  (∀ Hs' H' σ' γ', Same Hs Hs' → Sl K Hs0 H0 Hs' H' σ' γ' → Φ.ct γ' → E.ct σ' H') → ts E σ H
section
variable {K : PySem.W.Frag} {γ : Gam} {ta tb te : TE} {t u : TT} {d : D} {i j : Nat} {Φ : Out} {ts tz tu : TS}
theorem sw_next (h : Φ.nx γ) : SW K tNext γ Φ := fun Hs0 H0 Hs H σ E S kn _ _ _ => kn Hs H σ γ (.refl _) S h
theorem sw_brk (h : Φ.bk γ) : SW K tBreak γ Φ := fun Hs0 H0 Hs H σ E S _ _ kb _ => kb Hs H σ γ (.refl _) S h
theorem sw_cont (h : Φ.ct γ) : SW K tCont γ Φ := fun Hs0 H0 Hs H σ E S _ _ _ kc => kc Hs H σ γ (.refl _) S h
theorem sw_seq (h : SW K ts γ { Φ with nx := fun γ1 => SW K tz γ1 Φ }) : SW K (tSeq ts tz) γ Φ := fun Hs0 H0 Hs H σ E S kn kr kb kc =>
  h Hs0 H0 Hs H σ _ S (fun Hs1 H1 σ1 γ1 e1 S1 h1 => h1 Hs0 H0 Hs1 H1 σ1 E S1 (fun Hs' H' σ' γ' e => kn Hs' H' σ' γ' (e1.trans e)) kr (fun Hs' H' σ' γ' e => kb Hs' H' σ' γ' (e1.trans e)) fun Hs' H' σ' γ' e => kc Hs' H' σ' γ' (e1.trans e)) kr kb kc
theorem sw_asg (h : EW K te γ fun d => Φ.nx (γ.set i (some (.sh d)))) : SW K (tAsg te (gName i)) γ Φ := fun Hs0 H0 Hs H σ E S kn kr _ _ =>
  h Hs0 H0 Hs H σ _ S fun Hs' H' v d g r p => kn Hs' H' _ _ g.s ((S.grow g).set i r) p
/-- a new list of its own -/
theorem sw_asgN (h : EN K te γ fun ds => Φ.nx (γ.set i (some (.ow ds)))) : SW K (tAsg te (gName i)) γ Φ := fun Hs0 H0 Hs H σ E S kn kr _ _ =>
  h Hs0 H0 Hs H σ _ S fun Hs' H' a vs ds g n1 n2 n3 n4 p => kn Hs' H' _ _ g.s ((S.grow g).own i (Same.free S.gr.e n1) n2 n3 n4 fun j es h1 h2 => by
    obtain ⟨v, hv, b, ws, rfl, _, k2, _⟩ := S.ok j _ h1
    rw [hv] at h2; cases h2
    rw [n1] at k2; cases k2) p
theorem sw_asgG {g : TG} {js : List Nat} (h : EW K te γ fun d => GW K g js d γ Φ.nx) : SW K (tAsg te g) γ Φ := fun Hs0 H0 Hs H σ E S kn kr _ _ =>
  h Hs0 H0 Hs H σ _ S fun Hs' H' v d gr r p => p Hs0 H0 Hs' H' σ v _ (S.grow gr) r fun σ' γ' S' _ q => kn Hs' H' σ' γ' gr.s S' q
theorem sw_par (h : AW K ta' γ fun ds => ∃ x y, ds = [x, y] ∧ Φ.nx ((γ.set i (some (.sh x))).set j (some (.sh y)))) : SW K (tPar i j ta') γ Φ := fun Hs0 H0 Hs H σ E S kn kr _ _ =>
  h Hs0 H0 Hs H σ _ S fun Hs' H' vs ds g r ⟨x, y, e, p⟩ => by
    subst e
    cases r with
    | cons r1 r => cases r with | cons r2 r => cases r; exact ⟨_, _, rfl, kn Hs' H' _ _ g.s (((S.grow g).set i r1).set j r2) p⟩
theorem sw_augI {f : Int → Int → Int} {a : Int} (hx : γ[i]? = some (some (.sh (.int a)))) (h : EW K te γ fun d => ∃ b, d = .int b ∧ Φ.nx (γ.set i (some (.sh (.int (f a b)))))) : SW K (tAug i te (ipI f)) γ Φ := fun Hs0 H0 Hs H σ E S kn kr _ _ => by
  obtain ⟨v, hv, r⟩ := S.ok i _ hx
  cases r
  refine ⟨.int a, hv, h Hs0 H0 Hs H σ _ S fun Hs' H' v d g r ⟨b, e, p⟩ => ?_⟩
  subst e
  cases r
  exact ⟨a, b, rfl, rfl, kn Hs' H' _ _ g.s ((S.grow g).set i (.int _)) p⟩
theorem sw_if (h : TW K t γ fun b => (b = true → SW K ts γ Φ) ∧ (b = false → SW K tz γ Φ)) : SW K (tIfS t ts tz) γ Φ := fun Hs0 H0 Hs H σ E S kn kr kb kc =>
  h Hs0 H0 Hs H σ _ S fun Hs1 H1 b g ⟨p1, p2⟩ => by
    cases b with
    | true => exact p1 rfl Hs0 H0 Hs1 H1 σ E (S.grow g) (fun Hs' H' σ' γ' e => kn Hs' H' σ' γ' (g.s.trans e)) kr (fun Hs' H' σ' γ' e => kb Hs' H' σ' γ' (g.s.trans e)) fun Hs' H' σ' γ' e => kc Hs' H' σ' γ' (g.s.trans e)
    | false => exact p2 rfl Hs0 H0 Hs1 H1 σ E (S.grow g) (fun Hs' H' σ' γ' e => kn Hs' H' σ' γ' (g.s.trans e)) kr (fun Hs' H' σ' γ' e => kb Hs' H' σ' γ' (g.s.trans e)) fun Hs' H' σ' γ' e => kc Hs' H' σ' γ' (g.s.trans e)
theorem sw_ret (h : EW K te γ Φ.rt) : SW K (tRet te) γ Φ := fun Hs0 H0 Hs H σ E S kn kr _ _ =>
  h Hs0 H0 Hs H σ _ S fun Hs' H' v d g r p => kr Hs' H' v d (S.gr.trans g) r p
theorem sw_retN (h : Φ.rt .non) : SW K tRetN γ Φ := fun Hs0 H0 Hs H σ E S kn kr _ _ => kr Hs H .non .non S.gr .non h
theorem sw_drop (h : EW K te γ fun _ => Φ.nx γ) : SW K (tDrop te) γ Φ := fun Hs0 H0 Hs H σ E S kn kr _ _ =>
  h Hs0 H0 Hs H σ _ S fun Hs' H' v d g r p => kn Hs' H' σ γ g.s (S.grow g) p
/-- its own list becomes a datum -/
theorem sw_frz (i : Nat) {ds : List D} (hg : γ[i]? = some (some (.ow ds))) (h : SW K ts (γ.set i (some (.sh (.lst ds)))) Φ) : SW K ts γ Φ := fun Hs0 H0 Hs H σ E S kn kr kb kc => by
  obtain ⟨Hs1, e1, S1⟩ := S.freeze i hg
  exact h Hs0 H0 Hs1 H σ E S1 (fun Hs' H' σ' γ' e => kn Hs' H' σ' γ' (e1.trans e)) kr (fun Hs' H' σ' γ' e => kb Hs' H' σ' γ' (e1.trans e)) fun Hs' H' σ' γ' e => kc Hs' H' σ' γ' (e1.trans e)
theorem SW.mono {Φ Ψ : Out} (h : SW K ts γ Φ) (k1 : ∀ x, Φ.nx x → Ψ.nx x) (k2 : ∀ x, Φ.rt x → Ψ.rt x) (k3 : ∀ x, Φ.bk x → Ψ.bk x) (k4 : ∀ x, Φ.ct x → Ψ.ct x) : SW K ts γ Ψ := fun Hs0 H0 Hs H σ E S kn kr kb kc =>
  h Hs0 H0 Hs H σ E S (fun a b c d e f g => kn a b c d e f (k1 _ g)) (fun a b c d e f g => kr a b c d e f (k2 _ g)) (fun a b c d e f g => kb a b c d e f (k3 _ g)) (fun a b c d e f g => kc a b c d e f (k4 _ g))

/-! ### its own list -/
theorem own_at {Hs0 H0 Hs H : Hp} {σ : St} {ds : List D} (S : Sl K Hs0 H0 Hs H σ γ) (hg : γ[i]? = some (some (.ow ds))) : ∃ a vs, σ[i]? = some (some (.ref a)) ∧ Hs a = none ∧ H a = some (.lst vs) ∧ RepL K Hs vs ds := by
  obtain ⟨v, hv, a, vs, rfl, h1, h2, h3⟩ := S.ok i _ hg
  exact ⟨a, vs, hv, h1, h2, h3⟩
theorem sw_app {ds : List D} (hg : γ[i]? = some (some (.ow ds))) (l : ds.length < sizeS) (h : EW K te γ fun d => Φ.nx (γ.set i (some (.ow (ds ++ [d]))))) : SW K (tDrop (tBM K "list" rAppend (tVar i) (tCons te tNil))) γ Φ := fun Hs0 H0 Hs H σ E S kn kr _ _ => by
  obtain ⟨a, vs, hv, h1, h2, h3⟩ := own_at S hg
  refine ⟨.ref a, hv, .inl ⟨rfl, _, .of h2⟩, h Hs0 H0 Hs H σ _ S fun Hs' H' v d g r p => ?_⟩
  have S' := S.grow g
  refine ⟨a, vs, v, rfl, rfl, g.e _ _ h2, by rw [h3.length]; exact Nat.lt_trans l (by decide), ?_⟩
  exact kn Hs' _ σ _ g.s (S'.put i hg hv (g.n _ _ h2 h1) ((RepL.mono g.s h3).append (.cons r .nil))) p
theorem sw_setI {ds : List D} {n : Nat} (hg : γ[i]? = some (some (.ow ds))) (h : EW K te γ fun d => EW K tb γ fun y => ∃ k : Int, y = .int k ∧ ∃ n, ixN ds.length k = some n ∧ Φ.nx (γ.set i (some (.ow (ds.set n d))))) : SW K (tAsg te (gSub (tVar i) tb rSetL)) γ Φ := fun Hs0 H0 Hs H σ E S kn kr _ _ => by
  obtain ⟨a, vs, hv, h1, h2, h3⟩ := own_at S hg
  refine h Hs0 H0 Hs H σ _ S fun Hs1 H1 v d g1 r1 h' => ⟨.ref a, hv, h' Hs0 H0 Hs1 H1 σ _ (S.grow g1) fun Hs2 H2 w y g2 r2 ⟨k, e, n, hn, p⟩ => ?_⟩
  subst e
  cases r2
  have g := g1.trans g2
  refine ⟨a, vs, k, n, rfl, rfl, g.e _ _ h2, by rw [h3.length]; exact hn, ?_⟩
  exact kn Hs2 _ σ _ g.s ((S.grow g).put i hg hv (g.n _ _ h2 h1) (RepL.set (r1.mono g2.s) n (RepL.mono g.s h3))) p
theorem ew_lenO {ds : List D} {Φ : D → Prop} (hg : γ[i]? = some (some (.ow ds))) (k : Φ (.int ds.length)) : EW K (tCB (rLen K) (tCons (tVar i) tNil)) γ Φ := fun Hs0 H0 Hs H σ Q S q => by
  obtain ⟨a, vs, hv, h1, h2, h3⟩ := own_at S hg
  exact ⟨.ref a, hv, _, ds.length, rfl, .inl ⟨_, .of h2, h3.length.symm ▸ rfl⟩, q _ _ _ _ (.refl S.b) (.int _) k⟩
theorem ew_ixO {ds : List D} {Φ : D → Prop} (hg : γ[i]? = some (some (.ow ds))) (h : EW K tb γ fun y => ∃ k : Int, y = .int k ∧ ∃ d, atI ds k = some d ∧ Φ d) : EW K (tOp (rIxL K) (tVar i) tb) γ Φ := fun Hs0 H0 Hs H σ Q S q => by
  obtain ⟨a, vs, hv, h1, h2, h3⟩ := own_at S hg
  refine ⟨.ref a, hv, h Hs0 H0 Hs H σ _ S fun Hs1 H1 w y g1 r1 ⟨k, e, d, hd, p⟩ => ?_⟩
  subst e
  cases r1
  obtain ⟨v, k1, k2⟩ := rep_at (RepL.mono g1.s h3) hd
  exact ⟨a, vs, k, v, rfl, rfl, .of (g1.e _ _ h2), k1, q _ _ _ _ g1 k2 p⟩
theorem ew_niO {xs : List Str} {Φ : D → Prop} (hg : γ[i]? = some (some (.ow (xs.map .str)))) (h : EW K ta γ fun y => ∃ z, y = .str z ∧ Φ (.bl (!decide (z ∈ xs)))) : EW K (tOp (rIn K true) ta (tVar i)) γ Φ := fun Hs0 H0 Hs H σ Q S q => by
  obtain ⟨a, vs, hv, h1, h2, h3⟩ := own_at S hg
  refine h Hs0 H0 Hs H σ _ S fun Hs1 H1 w y g1 r1 ⟨z, e, p⟩ => ⟨.ref a, hv, ?_⟩
  subst e
  cases r1
  have e := (RepL.mono g1.s h3).strs
  subst e
  refine ⟨a, _, rfl, .inl (.of (g1.e _ _ h2)), rfl, str_flat xs, q _ _ _ _ g1 (.bl _) ?_⟩
  rw [inV_str]; exact p
theorem ew_inO {xs : List Str} {Φ : D → Prop} (hg : γ[i]? = some (some (.ow (xs.map .str)))) (h : EW K ta γ fun y => ∃ z, y = .str z ∧ Φ (.bl (decide (z ∈ xs)))) : EW K (tOp (rIn K false) ta (tVar i)) γ Φ := fun Hs0 H0 Hs H σ Q S q => by
  obtain ⟨a, vs, hv, h1, h2, h3⟩ := own_at S hg
  refine h Hs0 H0 Hs H σ _ S fun Hs1 H1 w y g1 r1 ⟨z, e, p⟩ => ⟨.ref a, hv, ?_⟩
  subst e
  cases r1
  have e := (RepL.mono g1.s h3).strs
  subst e
  refine ⟨a, _, rfl, .inl (.of (g1.e _ _ h2)), rfl, str_flat xs, q _ _ _ _ g1 (.bl _) ?_⟩
  rw [inV_str]; exact p

/-! ### loops -/
theorem sw_for {wi : TI} {g : TG} {js : List Nat} (h : IW K wi γ fun ds => ∃ I : Nat → Gam → Prop, I 0 γ ∧
    (∀ i d γ', ds[i]? = some d → I i γ' → GW K g js d γ' fun γ2 => SW K tu γ2 { nx := I (i + 1), rt := Φ.rt, bk := Φ.nx, ct := I (i + 1) }) ∧ ∀ γ', I ds.length γ' → Φ.nx γ') : SW K (tFor wi g tu) γ Φ := fun Hs0 H0 Hs H σ E S kn kr kb kc =>
  h Hs0 H0 Hs H σ _ S fun Hs1 H1 J ds g1 Y ⟨I, i0, step, fin⟩ => by
    refine ⟨fun i m σ' H' => m = ds.length - i ∧ i ≤ ds.length ∧ ∃ Hs' γ', Same Hs1 Hs' ∧ Sl K Hs0 H0 Hs' H' σ' γ' ∧ I i γ', ⟨ds.length, by simp, Nat.zero_le _, Hs1, γ, .refl _, S.grow g1, i0⟩, ?_⟩
    rintro i m σ' H' ⟨rfl, hi, Hs', γ', e', S', iv⟩
    by_cases hlt : i < ds.length
    · refine .inr ⟨Y.go i Hs' H' e' S'.b hlt, fun σ2 H2 => ∃ Hs2 γ2, Same Hs1 Hs2 ∧ Sl K Hs0 H0 Hs2 H2 σ2 γ2 ∧ I (i + 1) γ2, fun σ2 H2 ⟨a, b, c⟩ => ⟨ds.length - (i + 1), by omega, rfl, hlt, a, b, c⟩, fun x H'' hy => ?_⟩
      have hd : ds[i]? = some ds[i] := by simp [hlt]
      obtain ⟨Hs2, g2, rx⟩ := Y.yld i Hs' H' ds[i] x H'' e' S'.b hd hy
      have e2 := e'.trans g2.s
      refine step i ds[i] γ' hd iv Hs0 H0 Hs2 H'' σ' x _ (S'.grow g2) rx fun σ3 γ3 S3 _ h3 => ?_
      refine h3 Hs0 H0 Hs2 H'' σ3 _ S3 (fun Hs4 H4 σ4 γ4 e4 S4 q => ⟨Hs4, γ4, e2.trans e4, S4, q⟩) kr (fun Hs4 H4 σ4 γ4 e4 S4 q => kn Hs4 H4 σ4 γ4 ((g1.s.trans e2).trans e4) S4 q) (fun Hs4 H4 σ4 γ4 e4 S4 q => ⟨Hs4, γ4, e2.trans e4, S4, q⟩)
    · have e : i = ds.length := by omega
      subst e
      exact .inl ⟨Y.stop Hs' H' e' S'.b, kn Hs' H' σ' γ' (g1.s.trans e') S' (fin γ' iv)⟩
theorem sw_while (I : Nat → Gam → Prop) (m0 : Nat) (h0 : I m0 γ) (hs : ∀ m γ', I m γ' → TW K t γ' fun b => (b = true → SW K tu γ' { nx := fun γ2 => ∃ m', m' < m ∧ I m' γ2, rt := Φ.rt, bk := Φ.nx, ct := fun γ2 => ∃ m', m' < m ∧ I m' γ2 }) ∧ (b = false → Φ.nx γ')) :
    SW K (tWhile t tu) γ Φ := fun Hs0 H0 Hs H σ E S kn kr kb kc => by
  refine ⟨fun m σ' H' => ∃ Hs' γ', Same Hs Hs' ∧ Sl K Hs0 H0 Hs' H' σ' γ' ∧ I m γ', ⟨m0, Hs, γ, .refl _, S, h0⟩, ?_⟩
  rintro m σ' H' ⟨Hs', γ', e', S', iv⟩
  refine hs m γ' iv Hs0 H0 Hs' H' σ' _ S' fun Hs2 H2 b g2 ⟨p1, p2⟩ => ?_
  cases b with
  | true =>
    rw [if_pos rfl]
    refine ⟨fun σ3 H3 => ∃ m', m' < m ∧ ∃ Hs3 γ3, Same Hs Hs3 ∧ Sl K Hs0 H0 Hs3 H3 σ3 γ3 ∧ I m' γ3, fun σ3 H3 ⟨m', a, b⟩ => ⟨m', a, b⟩, ?_⟩
    refine p1 rfl Hs0 H0 Hs2 H2 σ' _ (S'.grow g2) (fun Hs4 H4 σ4 γ4 e4 S4 ⟨m', l, q⟩ => ⟨m', l, Hs4, γ4, (e'.trans g2.s).trans e4, S4, q⟩) kr (fun Hs4 H4 σ4 γ4 e4 S4 q => kn Hs4 H4 σ4 γ4 ((e'.trans g2.s).trans e4) S4 q) (fun Hs4 H4 σ4 γ4 e4 S4 ⟨m', l, q⟩ => ⟨m', l, Hs4, γ4, (e'.trans g2.s).trans e4, S4, q⟩)
  | false =>
    rw [if_neg Bool.false_ne_true]
    exact kn Hs2 H2 σ' γ' (e'.trans g2.s) (S'.grow g2) (p2 rfl)
end

/-! ### defs -/
/-- a def by its data: n arguments with pre, its answer with post -/
def spD (K : PySem.W.Frag) (n : Nat) (pre : List D → Prop) (post : List D → D → Prop) : Sp := fun vs H Q _ => ∃ Hs ds, Same Hs H ∧ RepL K Hs vs ds ∧ ds.length = n ∧ pre ds ∧
  ∀ Hs' H' v d, Grow Hs H Hs' H' → Rep K Hs' v d → post ds d → Q v H'
def CallOk (n : Nat) (pre : List D → Prop) (post : List D → D → Prop) (Φ : D → Prop) (ds : List D) : Prop := ds.length = n ∧ pre ds ∧ ∀ d, post ds d → Φ d
theorem call_ok {n : Nat} {pre : List D → Prop} {post : List D → D → Prop} {Φ : D → Prop} {ds : List D} (l : ds.length = n) (h : pre ds) (k : ∀ d, post ds d → Φ d) : CallOk n pre post Φ ds := ⟨l, h, k⟩
theorem ew_call {K : PySem.W.Frag} {γ : Gam} {Φ : D → Prop} {n : Nat} {pre : List D → Prop} {post : List D → D → Prop} {E : XK} {tr : TA} (h : AW K tr γ fun ds => CallOk n pre post Φ ds) : EW K (tCall (spD K n pre post) [] E tr) γ Φ := fun Hs0 H0 Hs H σ Q S q =>
  h Hs0 H0 Hs H σ _ S fun Hs1 H1 vs ds g1 r1 ⟨l, p, k⟩ => ⟨Hs1, ds, g1.b, by rw [List.append_nil]; exact r1, l, p, fun Hs2 H2 v d g2 r2 ps => q _ _ _ _ (g1.trans g2) r2 (k d ps)⟩
def gam0 (n : Nat) (ds : List D) : Gam := ds.map (fun d => some (.sh d)) ++ List.replicate (n - ds.length) none
theorem sl_start {K : PySem.W.Frag} {Hs H : Hp} {N : List Str} {vs : List V} {ds : List D} (b : Same Hs H) (r : RepL K Hs vs ds) : Sl K Hs H Hs H (L2.start N vs) (gam0 N.length ds) := by
  have lk : ∀ (i : Nat) (s : Slot), (gam0 N.length ds)[i]? = some (some s) → ∃ d, s = .sh d ∧ ds[i]? = some d := fun i s h => by
    unfold gam0 at h
    by_cases hi : i < ds.length
    · rw [List.getElem?_append_left (by simpa using hi), List.getElem?_map] at h
      cases e : ds[i]? with
      | none => rw [e] at h; cases h
      | some d => rw [e] at h; cases h; exact ⟨d, rfl, rfl⟩
    · rw [List.getElem?_append_right (by simpa using hi), List.getElem?_replicate] at h
      split at h <;> cases h
  refine ⟨.refl b, ?_, fun i s h => ?_, fun i es a h _ => ?_, fun i j es fs a h _ _ _ => ?_⟩
  · unfold L2.start gam0
    rw [List.length_append, List.length_append, List.length_map, List.length_map, List.length_replicate, List.length_replicate, r.length]
  · obtain ⟨d, rfl, hd⟩ := lk i s h
    obtain ⟨v, hv, rv⟩ := r.get hd
    refine ⟨v, ?_, rv⟩
    unfold L2.start
    have hi : i < vs.length := (List.getElem?_eq_some_iff.mp hv).1
    rw [List.getElem?_append_left (by simpa using hi), List.getElem?_map, hv]; rfl
  · obtain ⟨d, e, _⟩ := lk i _ h; cases e
  · obtain ⟨d, e, _⟩ := lk i _ h; cases e
section
variable {P : Program} {w : World} {K : PySem.W.Frag} {mg : Str → Option Value} {base : Heap}
/-- THE RULE: a def by its body over data -/
theorem def_ok {x qual : Str} {st : Stmt} {f : Addr} {fd : FuncData} {N ps : List Str} {k : Nat} {pre : List D → Prop} {post : List D → D → Prop} (F : Fun K x qual st f fd) (S : FnScope N ps (defScope st))
    (hbody : ∀ (cdv : Value) (A : Around) (outer : List Env) (s : Shared) (H : Hp) (E : XK), Room k (A.deeper (PyProof.Rows.envOfC qual (defScope st) s.heap.objs.size f cdv)) → ∀ ds, ds.length = ps.length → pre ds →
      ∃ t, PSs (cxOf CX0 P w K mg base N qual (defScope st) f cdv A outer s H E).nox (defBody st) t ∧ SW K t (gam0 N.length ds) { nx := fun _ => post ds .non, rt := post ds }) : FnOk P w K mg base CX0 (k + 1) f fd ps (spD K ps.length pre post) := by
  refine F.ok S (fun vs H Q E h => ?_) (fun cdv A outer s H vs Q E hr h => ?_)
  · obtain ⟨Hs, ds, _, r, l, _⟩ := h
    rw [r.length]; exact l
  · obtain ⟨Hs, ds, b, r, l, p, q⟩ := h
    obtain ⟨t, ht, hw⟩ := hbody cdv A outer s H E hr ds l p
    exact ⟨t, ht, hw Hs H Hs H _ _ (sl_start b r) (fun Hs' H' σ' γ' e S' p => q Hs' H' _ _ S'.gr .non p) (fun Hs' H' v d g r p => q Hs' H' v d g r p) (fun _ _ _ _ _ _ z => z.elim) (fun _ _ _ _ _ _ z => z.elim)⟩
end
end Z

namespace Z
open PySem PySem.Spec L2
section
variable {K : PySem.W.Frag} {γ : Gam} {Φ Ψ : D → Prop} {ta tb tc te : TE} {d x y : D} {i j : Nat}

/-! ### ints -/
theorem rw_add {i j : Int} (k : Φ (.int (i + j))) : RW2 K (rI0 fun i j => .int (i + j)) (.int i) (.int j) Φ := rw_I0 rfl k
theorem rw_sub {i j : Int} (k : Φ (.int (i - j))) : RW2 K (rI0 fun i j => .int (i - j)) (.int i) (.int j) Φ := rw_I0 rfl k
theorem rw_mul {i j : Int} (c : CMul i j) (k : Φ (.int (i * j))) : RW2 K (rI CMul fun i j => .int (i * j)) (.int i) (.int j) Φ := rw_I c rfl k
theorem rw_fdiv {i j : Int} (c : CDiv i j) (k : Φ (.int (i / j))) : RW2 K (rI CDiv fun i j => .int (i / j)) (.int i) (.int j) Φ := rw_I c rfl k
theorem rw_mod {i j : Int} (c : 0 < j) (k : Φ (.int (i % j))) : RW2 K (rI (fun _ j => 0 < j) fun i j => .int (i % j)) (.int i) (.int j) Φ := rw_I c rfl k
theorem rw_pow {i j : Int} (c : CPow i j) (k : Φ (.int (i ^ j.toNat))) : RW2 K (rI CPow fun i j => .int (i ^ j.toNat)) (.int i) (.int j) Φ := rw_I c rfl k
theorem rw_lt {i j : Int} (k : Φ (.bl (decide (i < j)))) : RW2 K (rI0 fun i j => .bl (decide (i < j))) (.int i) (.int j) Φ := rw_I0 rfl k
theorem rw_le {i j : Int} (k : Φ (.bl (decide (i ≤ j)))) : RW2 K (rI0 fun i j => .bl (decide (i ≤ j))) (.int i) (.int j) Φ := rw_I0 rfl k
theorem rw_gt {i j : Int} (k : Φ (.bl (decide (j < i)))) : RW2 K (rI0 fun i j => .bl (decide (j < i))) (.int i) (.int j) Φ := rw_I0 rfl k
theorem rw_ge {i j : Int} (k : Φ (.bl (decide (j ≤ i)))) : RW2 K (rI0 fun i j => .bl (decide (j ≤ i))) (.int i) (.int j) Φ := rw_I0 rfl k
theorem ew_neg {g : Int → V} (h : EW K ta γ fun d => ∃ i, d = .int i ∧ plainV (g i) = true ∧ Φ (ofV (g i))) : EW K (tUn (rU g) ta) γ Φ := fun Hs0 H0 Hs H σ Q S q =>
  h Hs0 H0 Hs H σ _ S fun Hs' H' v d gr r ⟨i, e, pl, p⟩ => by
    subst e; cases r
    exact ⟨i, rfl, q _ _ _ _ gr (.ofV pl) p⟩
theorem ew_isN (h : EW K ta γ fun d => ∃ b, ((d = .non ↔ b = true)) ∧ Φ (.bl b)) : EW K (tIsN ta) γ Φ := fun Hs0 H0 Hs H σ Q S q =>
  h Hs0 H0 Hs H σ _ S fun Hs' H' v d g r ⟨b, e, p⟩ => by
    have eb : decide (v = V.non) = b := by
      cases b with
      | true => rw [e.mpr rfl] at r; cases r; rfl
      | false =>
        refine decide_eq_false fun z => ?_
        subst z
        cases r
        exact absurd (e.mp rfl) (by decide)
    show Q (.bl (decide (v = .non))) H'
    rw [eb]
    exact q _ _ _ _ g (.bl _) p
theorem ew_notN (h : EW K ta γ fun d => ∃ b, ((d = .non ↔ b = true)) ∧ Φ (.bl (!b))) : EW K (tNotN ta) γ Φ := fun Hs0 H0 Hs H σ Q S q =>
  h Hs0 H0 Hs H σ _ S fun Hs' H' v d g r ⟨b, e, p⟩ => by
    have eb : decide (v = V.non) = b := by
      cases b with
      | true => rw [e.mpr rfl] at r; cases r; rfl
      | false =>
        refine decide_eq_false fun z => ?_
        subst z
        cases r
        exact absurd (e.mp rfl) (by decide)
    show Q (.bl (!decide (v = .non))) H'
    rw [eb]
    exact q _ _ _ _ g (.bl _) p

/-- an item of a list or a tuple -/
theorem rw_ixQL {ds : List D} {i : Int} (h : atI ds i = some d) (k : Φ d) : RW2 K (rIx K) (.lst ds) (.int i) Φ := fun Hs H v u Q b r1 r2 q => .inl (rw_ixL h k Hs H v u Q b r1 r2 q)
theorem rw_ixQT {ds : List D} {i : Int} (h : atI ds i = some d) (k : Φ d) : RW2 K (rIx K) (.tup ds) (.int i) Φ := fun Hs H v u Q b r1 r2 q => .inr (.inl (rw_ixT h k Hs H v u Q b r1 r2 q))
/-! ### kinds -/
def tyD : D → String
  | .non => "NoneType"
  | .bl _ => "bool"
  | .int _ => "int"
  | .str _ => "str"
  | .lst _ => "list"
  | .tup _ => "tuple"
  | .scr _ => "list"
  | .ty _ => "type"
def goodTy : D → Bool
  | .scr _ => false
  | .ty _ => false
  | _ => true
theorem tyX_of {Hs H : Hp} {v : V} (b : Same Hs H) (r : Rep K Hs v x) (g : goodTy x = true) : TyX K H v (.type (tyD x)) := by
  cases r with
  | non => exact .base .non
  | bl b => exact .base (.bl b)
  | int i => exact .base (.int i)
  | str x => exact .base (.str x)
  | lst h r => exact .base (.lst (b _ _ h))
  | tup h r =>
    rcases sameT b h with (h | ⟨o, h⟩) | ⟨o, its, n, h1, h2, _⟩
    · exact .base (.tup h)
    · exact .fTuple h
    · exact .kTuple h1 h2
  | ty n => cases g
  | scr h => cases g
theorem rwl_isi {n : String} {b : Bool} (g : goodTy x = true) (hk : kitB (tyD x) n = some b) (hc : ClsV (.ty n) (.type n)) (k : Φ (.bl b)) : RWL K (rIsi K) [x, .ty n] Φ := fun Hs H vs Q bb r q => by
  cases r with
  | cons h r =>
    cases r with
    | cons h2 r =>
      cases h2; cases r
      exact ⟨_, .ty n, .type (tyD x), .type n, b, rfl, hc, tyX_of bb h g, kit_ty hk, q _ _ _ _ (.refl bb) (.bl _) k⟩

/-! ### texts -/
def rJoinZ (K : PySem.W.Frag) : V → List V → Hp → VK → Prop := fun x xs H Q => ∃ a p, ∃ ys : List Str, x = .str a ∧ xs = [.ref p] ∧ (SqL K H p (ys.map V.str) ∨ SqT K H p (ys.map V.str)) ∧ (ys.map (·.length)).sum + ys.length * a.length ≤ 16777216 ∧ Q (.str (Txt.join a ys)) H
theorem mt_joinZ {X : Cx} : MtR X "str.join" (rJoinZ X.K) := mt_join
theorem rwm_joinL {a : Str} {ys : List Str} (l : (ys.map (·.length)).sum + ys.length * a.length ≤ sizeS) (k : Φ (.str (Txt.join a ys))) : RWM K (rJoinZ K) (.str a) [.lst (ys.map .str)] Φ := fun Hs H v vs Q bb r1 r2 q => by
  cases r1
  cases r2 with
  | cons h r =>
    cases r
    cases h with
    | lst h r =>
      have e := r.strs; subst e
      exact ⟨a, _, ys, rfl, rfl, .inl (.of (bb _ _ h)), Nat.le_trans l (by decide), q _ _ _ _ (.refl bb) (.str _) k⟩
theorem rwm_joinT {a : Str} {ys : List Str} (l : (ys.map (·.length)).sum + ys.length * a.length ≤ sizeS) (k : Φ (.str (Txt.join a ys))) : RWM K (rJoinZ K) (.str a) [.tup (ys.map .str)] Φ := fun Hs H v vs Q bb r1 r2 q => by
  cases r1
  cases r2 with
  | cons h r =>
    cases r
    cases h with
    | tup h r =>
      have e := r.strs; subst e
      exact ⟨a, _, ys, rfl, rfl, .inr (sameT bb h), Nat.le_trans l (by decide), q _ _ _ _ (.refl bb) (.str _) k⟩
def tJoined (ts : List TE) : TE := fun σ H Q => tJs ts Str.empty σ H fun out H1 => Q (.str out) H1
theorem pe_joinedZ {X : Cx} {v1 v2 : Expr} {rest : List Expr} {ts : List TE} {pos : Pos} (h : PJ X (v1 :: v2 :: rest) ts) : PE X (.JoinedStr (v1 :: v2 :: rest) pos) (tJoined ts) := pe_joined h
def JW (K : PySem.W.Frag) (ts : List TE) (acc : Str) (γ : Gam) (Φ : Str → Prop) : Prop := ∀ (Hs0 H0 Hs H : Hp) (σ : L2.St) (Q : Str → Hp → Prop), Sl K Hs0 H0 Hs H σ γ → (∀ Hs' H' z, Grow Hs H Hs' H' → Φ z → Q z H') → tJs ts acc σ H Q
theorem jw_nil {acc : Str} {Φ : Str → Prop} (h : Φ acc) : JW K [] acc γ Φ := fun Hs0 H0 Hs H σ Q S q => q _ _ _ (.refl S.b) h
theorem jw_cons {ts : List TE} {acc : Str} {Φ : Str → Prop} (h : EW K te γ fun d => ∃ y, d = .str y ∧ (acc ++ y).length ≤ sizeS ∧ JW K ts (acc ++ y) γ Φ) : JW K (te :: ts) acc γ Φ := fun Hs0 H0 Hs H σ Q S q =>
  h Hs0 H0 Hs H σ _ S fun Hs' H' v d g r ⟨y, e, l, p⟩ => by
    subst e; cases r
    exact ⟨y, rfl, sz_ok l, p Hs0 H0 Hs' H' σ Q (S.grow g) fun Hs2 H2 z g2 p2 => q _ _ _ (g.trans g2) p2⟩
theorem ew_joined {ts : List TE} (h : JW K ts Str.empty γ fun z => Φ (.str z)) : EW K (tJoined ts) γ Φ := fun Hs0 H0 Hs H σ Q S q =>
  h Hs0 H0 Hs H σ _ S fun Hs' H' z g p => q _ _ _ _ g (.str _) p
theorem ew_fmtS (h : EW K te γ fun d => ∃ z, d = .str z ∧ z.length ≤ sizeS ∧ Φ (.str z)) : EW K (tFmt te) γ Φ := fun Hs0 H0 Hs H σ Q S q =>
  h Hs0 H0 Hs H σ _ S fun Hs' H' v d g r ⟨z, e, l, p⟩ => by
    subst e; cases r
    exact .inl ⟨z, rfl, sz_ok l, q _ _ _ _ g (.str _) p⟩
theorem ew_fmtI (h : EW K te γ fun d => ∃ i : Int, d = .int i ∧ i.natAbs < 2 ^ 64 ∧ Φ (.str (toString i))) : EW K (tFmt te) γ Φ := fun Hs0 H0 Hs H σ Q S q =>
  h Hs0 H0 Hs H σ _ S fun Hs' H' v d g r ⟨i, e, l, p⟩ => by
    subst e; cases r
    refine .inr ⟨i, rfl, ?_, q _ _ _ _ g (.str _) p⟩
    by_cases h0 : i.natAbs = 0
    · rw [h0]; decide
    · exact Nat.lt_trans ((Nat.log2_lt h0).mpr l) (by decide)
/-- a text, sign by sign -/
def signs (z : Str) : List D := z.cps.toList.map fun c => .str ⟨#[c]⟩
theorem iw_str {Φ : List D → Prop} (h : EW K te γ fun d => ∃ z, d = .str z ∧ Φ (signs z)) : IW K (iStr te) γ Φ := fun Hs0 H0 Hs H σ R S q =>
  h Hs0 H0 Hs H σ _ S fun Hs1 H1 v x g1 r1 ⟨z, e, p⟩ => by
    subst e; cases r1
    have ln : (signs z).length = z.cps.toList.length := by unfold signs; rw [List.length_map]
    refine ⟨z, rfl, q Hs1 H1 _ _ g1 ⟨fun i Hs' H' e1 e2 hi => ?_, fun i Hs' H' d x H'' e1 e2 hd hy => ?_, fun Hs' H' e1 e2 => ?_⟩ p⟩
    · rw [ln] at hi
      first
        | exact hi
        | exact (by simpa using hi)
        | exact ⟨_, List.getElem?_eq_getElem hi⟩
    · unfold signs at hd
      rw [List.getElem?_map] at hd
      cases e : z.cps.toList[i]? with
      | none => rw [e] at hd; cases hd
      | some c =>
        rw [e] at hd
        have hd' : D.str ⟨#[c]⟩ = d := Option.some.inj hd
        subst hd'
        obtain ⟨rfl, hx⟩ := hy
        first
          | (obtain ⟨c', hc, rfl⟩ := hx; rw [Array.getElem?_toList] at e; rw [e] at hc; cases hc; exact ⟨Hs', .refl e2, .str _⟩)
    · rw [ln]
      first
        | exact Nat.le_refl _
        | simp
theorem en_revL {Φ : List D → Prop} (h : EW K ta γ fun x => ∃ ds, x = .lst ds ∧ Φ ds.reverse) : EN K (tRevL K ta) γ Φ := fun Hs0 H0 Hs H σ Q S q =>
  h Hs0 H0 Hs H σ _ S fun Hs1 H1 v x g1 r1 ⟨ds, e, p⟩ => by
    subst e
    cases r1 with
    | lst h1 r1 =>
      exact ⟨_, _, rfl, .of (g1.b _ _ h1), fun a ha => q Hs1 _ a _ _ (g1.trans (.hid g1.b ha)) (g1.e.free ha) (g1.b.free ha) upd_same r1.reverse p⟩
end

/-! ### defs by name -/
section
variable {P : Program} {w : World} {K : PySem.W.Frag} {mg : Str → Option Value} {base : Heap}
structure Df (P : Program) (w : World) (K : PySem.W.Frag) (mg : Str → Option Value) (base : Heap) (x : Str) (k : Nat) (ps : List Str) (n : Nat) (pre : List D → Prop) (post : List D → D → Prop) : Prop where
  ex : ∃ f fd, mg x = some (.ref f) ∧ PySem.W.keepIn K (.ref f) = true ∧ Binds K fd ps [] ∧ FnOk P w K mg base CX0 k f fd ps (spD K n pre post) ∧ ∃ oc od osl, K.lookup f = some ⟨oc, od, .func fd, osl⟩
theorem pe_df {X : Cx} {x : Str} {k j : Nat} {ps : List Str} {n : Nat} {pre : List D → Prop} {post : List D → D → Prop} {p pos : Pos} {e : Expr} {es : List Expr} {t : TA} (g : Df X.prog X.w X.K X.mg X.base x j ps n pre post) (hr : Room k X.A) (hj : j ≤ k) (hg : Gl X x)
    (ha : PA X (e :: es) t) (hdb : (x == ("__debug__" : Str)) = false := by decide) (he : starEach (e :: es) X.env = (false, eval e X.env) :: starEach es X.env := by rfl) (hpl : (backTo pos (starEach es X.env)).any (·.1) = false := by rfl) :
    PE X (.Call (.Name x p) (e :: es) [] pos) (tCall (spD X.K n pre post) [] E0 t) := by
  obtain ⟨f, fd, h1, h2, h3, h4, _⟩ := g.ex
  exact pe_call h4 (hr.mono hj) hg h1 h2 h3 .nil pass0 ha hdb he hpl
/-- THE RULE for a def by its facts -/
theorem df_mk {x : Str} {params : Arguments} {body : List Stmt} {scope : Scope} {f : Addr} {fd : FuncData} {N ps : List Str} {k : Nat} {pre : List D → Prop} {post : List D → D → Prop} (F : FunD K x x params body scope [] [] f fd) (hm : mg x = some (.ref f)) (S : FnScope N ps scope)
    (hb : ∀ (kV doc pm : Value) (an : Option Addr) (cdv ct : Value) (us : List Value), us.length = ps.length → bindArgs (PySem.W.fnOf x x params body scope .none kV doc pm an cdv ct) ⟨us, []⟩ = pure (ps.zip us))
    (hbody : ∀ (cdv : Value) (A : Around) (outer : List Env) (s : Shared) (H : Hp) (E : XK), Room k (A.deeper (PyProof.Rows.envOfC x scope s.heap.objs.size f cdv)) → ∀ ds, ds.length = ps.length → pre ds →
      ∃ t, PSs (cxOf CX0 P w K mg base N x scope f cdv A outer s H E).nox body t ∧ SW K t (gam0 N.length ds) { nx := fun _ => post ds .non, rt := post ds }) : Df P w K mg base x (k + 1) ps ps.length pre post := by
  obtain ⟨oc, od, dV, kV, doc, pm, an, cdv, ct, osl, e1, lk, _⟩ := id F.ex
  refine ⟨f, fd, hm, F.kp, F.bindsN hb, F.ok S (fun vs H Q E h => ?_) (fun cdv A outer s H vs Q E hr h => ?_), oc, od, osl, lk⟩
  · obtain ⟨Hs, ds, _, r, l, _⟩ := h
    rw [r.length]; exact l
  · obtain ⟨Hs, ds, b, r, l, p, q⟩ := h
    obtain ⟨t, ht, hw⟩ := hbody cdv A outer s H E hr ds l p
    exact ⟨t, ht.nox, hw Hs H Hs H _ _ (sl_start b r) (fun Hs' H' σ' γ' e S' p => q Hs' H' _ _ S'.gr .non p) (fun Hs' H' v d g r p => q Hs' H' v d g r p) (fun _ _ _ _ _ _ z => z.elim) (fun _ _ _ _ _ _ z => z.elim)⟩
theorem df_void {x : Str} {params : Arguments} {body : List Stmt} {scope : Scope} {f : Addr} {fd : FuncData} {ps : List Str} {n : Nat} {pre : List D → Prop} {post : List D → D → Prop} (F : FunD K x x params body scope [] [] f fd) (hm : mg x = some (.ref f))
    (hb : ∀ (kV doc pm : Value) (an : Option Addr) (cdv ct : Value) (us : List Value), us.length = ps.length → bindArgs (PySem.W.fnOf x x params body scope .none kV doc pm an cdv ct) ⟨us, []⟩ = pure (ps.zip us)) (hp : ∀ ds, ¬ pre ds) : Df P w K mg base x 0 ps n pre post := by
  obtain ⟨oc, od, dV, kV, doc, pm, an, cdv, ct, osl, e1, lk, _⟩ := id F.ex
  exact ⟨f, fd, hm, F.kp, F.bindsN hb, ⟨fun vs H Q E ⟨_, ds, _, _, _, p, _⟩ => (hp ds p).elim, fun _ _ _ _ _ _ _ _ _ _ _ _ _ ⟨_, ds, _, _, _, p, _⟩ => (hp ds p).elim⟩, oc, od, osl, lk⟩
theorem Df.imp {x : Str} {k : Nat} {ps : List Str} {n : Nat} {pre pre' : List D → Prop} {post post' : List D → D → Prop} (g : Df P w K mg base x k ps n pre post) (h1 : ∀ ds, ds.length = n → pre' ds → pre ds) (h2 : ∀ ds d, pre' ds → post ds d → post' ds d) : Df P w K mg base x k ps n pre' post' := by
  obtain ⟨f, fd, a, b, c, F, lk⟩ := g.ex
  refine ⟨f, fd, a, b, c, F.imp fun vs H Q E ⟨Hs, ds, bb, r, l, p, q⟩ => ⟨Hs, ds, bb, r, l, h1 ds l p, fun Hs' H' v d g r ps => q Hs' H' v d g r (h2 ds d p ps)⟩, lk⟩
/-- a module's constant -/
theorem pe_gs {X : Cx} {x z : Str} {pos : Pos} (hm : ∃ t, X.mg x = some (.str z t)) (hg : Gl X x) (hd : (x == ("__debug__" : Str)) = false := by decide) : PE X (.Name x pos) (tC (.str z)) := by
  obtain ⟨t, h⟩ := hm
  exact pe_glob hg h ⟨_, rfl⟩ hd
theorem pe_gi {X : Cx} {x : Str} {z : Int} {pos : Pos} (hm : ∃ t, X.mg x = some (.int z t)) (hg : Gl X x) (hd : (x == ("__debug__" : Str)) = false := by decide) : PE X (.Name x pos) (tC (.int z)) := by
  obtain ⟨t, h⟩ := hm
  exact pe_glob hg h ⟨_, rfl⟩ hd
/-- the law's def, by its data -/
def spLawZ (K : PySem.W.Frag) : Sp := fun vs H Q _ => ∃ (a : Addr) (ns : List Int), vs = [.ref a] ∧ SqL K H a (ns.map V.int) ∧ ns.length ≤ 63 ∧ ∀ H', Q (.bl true) H'
theorem law_ofF {x qual : Str} {params : Arguments} {body : List Stmt} {scope : Scope} {dvs : List V} {kws : List (Str × V)} {k : Nat} {ps : List Str} {pre : List D → Prop} {post : List D → D → Prop} {f : Addr} {fd : FuncData} (F : FunD K x qual params body scope dvs kws f fd) (hm : mg x = some (.ref f))
    (g : Df P w K mg base x k ps 1 pre post) (hp : ∀ ns : List Int, ns.length ≤ 63 → pre [.scr ns]) (hq : ∀ ns d, post [.scr ns] d → d = .bl true) : FnOk P w K mg base CX0 k f fd ps (spLawZ K) := by
  obtain ⟨f', fd', a, b, c, F', oc, od, osl, lk⟩ := g.ex
  have e := a.symm.trans hm
  cases e
  obtain ⟨oc2, od2, dV, kV, doc, pm, an, cdv, ct, osl2, e1, lk2, _⟩ := id F.ex
  have e2 := lk.symm.trans lk2
  have e3 : fd' = fd := by cases e2; rfl
  subst e3
  refine F'.imp fun vs H Q E ⟨a, ns, e, h, l, q⟩ => ⟨H, [.scr ns], .refl _, ?_, rfl, hp ns l, fun Hs' H' v d g r ps => ?_⟩
  · subst e; exact .cons (.scr h) .nil
  · have e := hq ns d ps
    subst e
    cases r
    exact q H'
end
end Z

namespace Z
open PySem PySem.Spec L2
section
variable {K : PySem.W.Frag} {γ : Gam} {Φ Ψ : D → Prop} {ta tb tc te : TE} {d x y : D} {i j : Nat} {Φo : Out}
/-! ### its own list: pop(k), insert(k, e) -/
theorem RepL.eraseIdx {K : PySem.W.Frag} {H : Hp} : ∀ {vs : List V} {ds : List D} (i : Nat), RepL K H vs ds → RepL K H (vs.eraseIdx i) (ds.eraseIdx i)
  | _, _, _, .nil => .nil
  | _, _, 0, .cons _ r => r
  | _, _, i + 1, .cons q r => .cons q (RepL.eraseIdx i r)
def rPopZ : V → List V → Hp → VK → Prop := fun x vs H Q => ∃ l xs i k y, x = .ref l ∧ vs = [.int i] ∧ H l = some (.lst xs) ∧ -(2 ^ 63) ≤ i ∧ i < 2 ^ 63 ∧ seqIndex? i xs.length = some k ∧ xs[k]? = some y ∧ Q y (upd H l (.lst (xs.eraseIdx k)))
theorem mt_popZ {X : Cx} : MtR X "list.pop" rPopZ := mt_popAt
theorem sw_popAt {ds : List D} (hg : γ[i]? = some (some (.ow ds))) (h : EW K te γ fun d => ∃ k : Nat, d = .int (k : Int) ∧ k < ds.length ∧ ds.length ≤ sizeS ∧ Φo.nx (γ.set i (some (.ow (ds.eraseIdx k))))) :
    SW K (tDrop (tBM K "list" rPopZ (tVar i) (tCons te tNil))) γ Φo := fun Hs0 H0 Hs H σ E S kn kr _ _ => by
  obtain ⟨a, vs, hv, h1, h2, h3⟩ := own_at S hg
  refine ⟨.ref a, hv, .inl ⟨rfl, _, .of h2⟩, h Hs0 H0 Hs H σ _ S fun Hs' H' v d g r ⟨k, e, hk, hl, p⟩ => ?_⟩
  subst e
  cases r
  have hk2 : k < vs.length := by rw [h3.length]; exact hk
  have hl2 : ds.length ≤ 1000000 := hl
  have hs : seqIndex? (k : Int) vs.length = some k := (ixN_seq (by unfold ixN; rw [if_pos (by omega), if_pos (by omega)]; simp)).1
  refine ⟨a, vs, k, k, vs[k], rfl, rfl, g.e _ _ h2, by omega, by omega, hs, by simp [hk2], ?_⟩
  exact kn Hs' _ σ _ g.s ((S.grow g).put i hg hv (g.n _ _ h2 h1) (RepL.eraseIdx k (RepL.mono g.s h3))) p
def rInsZ : V → List V → Hp → VK → Prop := fun x vs H Q => ∃ (l : Addr) (xs : List V) (i : Int) (y : V), x = .ref l ∧ vs = [.int i, y] ∧ H l = some (.lst xs) ∧ xs.length < sizeLine ∧ 0 ≤ i ∧ i < 2 ^ 63 ∧
    Q .non (upd H l (.lst (xs.take i.toNat ++ [y] ++ xs.drop i.toNat)))
theorem mt_insZ {X : Cx} : MtR X "list.insert" rInsZ := mt_insert
theorem sw_insert {ds : List D} (hg : γ[i]? = some (some (.ow ds))) (hl : ds.length < sizeS) (h : EW K tb γ fun y => ∃ k : Nat, y = .int (k : Int) ∧ k ≤ ds.length ∧ EW K te γ fun d => Φo.nx (γ.set i (some (.ow (ds.take k ++ [d] ++ ds.drop k))))) :
    SW K (tDrop (tBM K "list" rInsZ (tVar i) (tCons tb (tCons te tNil)))) γ Φo := fun Hs0 H0 Hs H σ E S kn kr _ _ => by
  obtain ⟨a, vs, hv, h1, h2, h3⟩ := own_at S hg
  have hl2 : ds.length < 1000000 := hl
  refine ⟨.ref a, hv, .inl ⟨rfl, _, .of h2⟩, h Hs0 H0 Hs H σ _ S fun Hs1 H1 v d g1 r1 ⟨k, e, hk, h'⟩ => ?_⟩
  subst e
  cases r1
  refine h' Hs0 H0 Hs1 H1 σ _ (S.grow g1) fun Hs2 H2 u d g2 r2 p => ?_
  have g := g1.trans g2
  refine ⟨a, vs, k, u, rfl, rfl, g.e _ _ h2, by rw [h3.length]; exact Nat.lt_trans hl (by decide), by omega, by omega, ?_⟩
  rw [Int.toNat_natCast]
  have r3 := RepL.mono g.s h3
  exact kn Hs2 _ σ _ g.s ((S.grow g).put i hg hv (g.n _ _ h2 h1) (((r3.take k).append (.cons r2 .nil)).append (r3.drop k))) p
/-- tuples of any length -/
theorem rw_catA {ds es : List D} (l : ds.length + es.length ≤ sizeS) (k : Φ (.tup (ds ++ es))) : RW2 K (rCatA K) (.tup ds) (.tup es) Φ := fun Hs H v u Q b r1 r2 q => by
  cases r1 with
  | tup h1 r1 =>
    cases r2 with
    | tup h2 r2 =>
      refine ⟨_, _, _, _, rfl, rfl, sameT b h1, sameT b h2, by rw [r1.length, r2.length]; exact sz_ok l, ?_⟩
      first
        | (refine ⟨fun e => ?_, fun e => ?_, fun e e' p hp => ?_⟩
           · subst e; cases r1; exact q _ _ _ _ (.refl b) (.tup h2 r2) k
           · subst e; cases r2; rw [List.append_nil] at k; exact q _ _ _ _ (.refl b) (.tup h1 r1) k
           · exact q _ _ _ _ (.new b hp) (.tup (.of upd_same) (RepL.mono (sameNew (b.free hp)) (r1.append r2))) k)
        | (refine ⟨fun e => ?_, fun e e' => ?_, fun e e' p hp => ?_⟩
           · subst e; cases r1; exact q _ _ _ _ (.refl b) (.tup h2 r2) k
           · subst e'; cases r2; rw [List.append_nil] at k; exact q _ _ _ _ (.refl b) (.tup h1 r1) k
           · exact q _ _ _ _ (.new b hp) (.tup (.of upd_same) (RepL.mono (sameNew (b.free hp)) (r1.append r2))) k)
theorem slw_new {r : V → Option Int → Option Int → Hp → VK → Prop} {l u : Option Int} (h : SlN K r x l u fun ds => Φ (.lst ds)) : SlW K r x l u Φ := fun Hs H v Q b r1 q => h Hs H v Q b r1 fun Hs' H' a vs ds g h1 h2 h3 h4 p =>
  let ⟨g', r'⟩ := en_grow g h1 h2 h3 h4
  q _ _ _ _ g' r' p
theorem sl_TA {ds : List D} {l u : Option Int} (k : Φ (.tup (cutD ds l u))) : SlW K (rSlA K) (.tup ds) l u Φ := fun Hs H v Q b r q => by
  cases r with
  | tup h r =>
    refine ⟨_, _, rfl, sameT b h, fun e => ?_, fun _ p hp => ?_⟩
    · have e2 : cutD ds l u = ds := by
        unfold cutD
        rw [r.length] at e
        rw [e.1, e.2, List.drop_zero, Nat.sub_zero, List.take_length]
      rw [e2] at k
      exact q _ _ _ _ (.refl b) (.tup h r) k
    · refine q _ _ _ _ (.new b hp) (.tup (.of upd_same) (RepL.mono (sameNew (b.free hp)) ?_)) k
      unfold cutV cutD
      rw [r.length]
      exact (r.drop _).take _
/-! ### where it does not matter which -/
theorem at_ex {α : Type} {xs : List α} {i : Int} (h0 : 0 ≤ i) (h1 : i < xs.length) : ∃ x, x ∈ xs ∧ atI xs i = some x := by
  obtain ⟨n, rfl⟩ := Int.eq_ofNat_of_zero_le h0
  have hn : n < xs.length := by omega
  exact ⟨xs[n], List.getElem_mem hn, atI_nat (List.getElem?_eq_getElem hn)⟩
theorem rw_ixSe {z : Str} {i : Int} (l : z.length ≤ sizeS) (h0 : 0 ≤ i) (h1 : i < z.length) (k : ∀ c, c ∈ z.cps.toList → Φ (.str ⟨#[c]⟩)) : RW2 K rIxS (.str z) (.int i) Φ := by
  obtain ⟨c, hc, h⟩ := at_ex (xs := z.cps.toList) h0 (by simpa [Str.length] using h1)
  exact rw_ixS l h (k c hc)
/-- a sign of a text of known length -/
theorem rw_ixSk {z : Str} {i : Int} (L : Nat) (hL : z.length = L) (l : L ≤ 1000000) (h0 : 0 ≤ i) (h1 : i < (L : Int)) (k : ∀ c, Φ (.str ⟨#[c]⟩)) : RW2 K rIxS (.str z) (.int i) Φ := rw_ixSe (by rw [hL]; exact l) h0 (by rw [hL]; exact h1) fun c _ => k c
theorem rw_ixLe {ds : List D} {i : Int} (h0 : 0 ≤ i) (h1 : i < ds.length) (k : ∀ d, d ∈ ds → Φ d) : RW2 K (rIxL K) (.lst ds) (.int i) Φ := by
  obtain ⟨d, hd, h⟩ := at_ex h0 h1
  exact rw_ixL h (k d hd)
theorem rw_ixTe {ds : List D} {i : Int} (h0 : 0 ≤ i) (h1 : i < ds.length) (k : ∀ d, d ∈ ds → Φ d) : RW2 K (rIxT K) (.tup ds) (.int i) Φ := by
  obtain ⟨d, hd, h⟩ := at_ex h0 h1
  exact rw_ixT h (k d hd)
/-- a list of draws: ints from 0 to 999 -/
def Drw (ns : List Int) : Prop := ∀ n ∈ ns, 0 ≤ n ∧ n < 1000
theorem rw_ixI {ns : List Int} {i : Int} (h0 : 0 ≤ i) (h1 : i < ns.length) (hd : Drw ns) (k : ∀ n, 0 ≤ n → n < 1000 → Φ (.int n)) : RW2 K (rIxL K) (.lst (ns.map .int)) (.int i) Φ :=
  rw_ixLe h0 (by rw [List.length_map]; exact h1) fun d hm => by
    obtain ⟨n, hn, rfl⟩ := List.mem_map.mp hm
    exact k n (hd n hn).1 (hd n hn).2
theorem cut_map {α : Type} (f : α → D) (ns : List α) (lo hi : Option Int) : cutD (ns.map f) lo hi = (((ns.drop (HT.sIx ns.length 0 lo)).take (HT.sIx ns.length ns.length hi - HT.sIx ns.length 0 lo))).map f := by
  unfold cutD
  rw [List.length_map, List.map_take, List.map_drop]
theorem sln_I {ns : List Int} {l u : Option Int} {Φ : List D → Prop} (hd : Drw ns) (k : ∀ ms : List Int, Drw ms → ms.length ≤ ns.length → Φ (ms.map .int)) : SlN K (rSlL K) (.lst (ns.map .int)) l u Φ := by
  refine sln_L ?_
  rw [cut_map]
  refine k _ (fun n hn => hd n (List.mem_of_mem_drop (List.mem_of_mem_take hn))) ?_
  rw [List.length_take, List.length_drop]; omega
/-- [e for draw in draws] where e gives short texts -/
theorem en_lcS {wi : TI} {vs : List Nat} {Φ : List D → Prop} (L : Nat) (hj : j ∈ vs) (h : IW K wi γ fun ds => ds.length < sizeS ∧ (∀ d ∈ ds, EW K te ((wipeG γ vs).set j (some (.sh d))) fun y => ∃ z, y = .str z ∧ z.length ≤ L) ∧
      ∀ ys : List Str, ys.length = ds.length → (∀ y ∈ ys, y.length ≤ L) → Φ (ys.map .str)) : EN K (tLc wi (gName j) tYes te vs) γ Φ := by
  refine en_lc (js := [j]) (fun k hk => by rw [List.mem_singleton.mp hk]; exact hj) fun Hs0 H0 Hs H σ R S q => h Hs0 H0 Hs H σ R S fun Hs' H' J ds g Y ⟨hl, he, hf⟩ => q Hs' H' J ds g Y ?_
  refine ⟨fun i acc => i ≤ ds.length ∧ ∃ ys : List Str, acc = ys.map .str ∧ ys.length = i ∧ ∀ y ∈ ys, y.length ≤ L, ⟨Nat.zero_le _, [], rfl, rfl, fun _ h => by cases h⟩, fun i d acc hd hi => ?_, fun acc hi => ?_⟩
  · obtain ⟨_, ys, rfl, h2, h3⟩ := hi
    have hi2 : i < ds.length := (List.getElem?_eq_some_iff.mp hd).1
    refine ⟨by rw [List.length_map, h2]; omega, gw_name (tw_yes ⟨fun _ => ?_, fun z => by cases z⟩)⟩
    refine (he d (List.mem_of_getElem? hd)).mono fun y ⟨z, e, hz⟩ => ⟨hi2, ys ++ [z], by rw [List.map_append, e]; rfl, by rw [List.length_append, h2]; rfl, fun y hy => ?_⟩
    rcases List.mem_append.mp hy with q | q
    · exact h3 y q
    · rw [List.mem_singleton.mp q]; exact hz
  · obtain ⟨_, ys, rfl, h2, h3⟩ := hi
    exact hf ys h2 h3
end
end Z

namespace Z
open PySem PySem.Spec L2
/-- a statement, then the rest, with a word between them -/
theorem sw_cut {K : PySem.W.Frag} {γ : Gam} {ts tz : TS} {Φ : Out} (M : Gam → Prop) (h : SW K ts γ { Φ with nx := M }) (k : ∀ γ', M γ' → SW K tz γ' Φ) : SW K (tSeq ts tz) γ Φ := sw_seq (h.mono k (fun _ z => z) (fun _ z => z) fun _ z => z)
/-- a slot's datum, known by what is true of it -/
theorem sw_gen {K : PySem.W.Frag} {γ : Gam} {ts : TS} {Φ : Out} {d : D} (i : Nat) (P : D → Prop) (hg : γ[i]? = some (some (.sh d))) (hp : P d) (h : ∀ d', P d' → SW K ts (γ.set i (some (.sh d'))) Φ) : SW K ts γ Φ := by
  have q := h d hp
  have e : γ.set i (some (.sh d)) = γ := by
    apply List.ext_getElem?
    intro j
    by_cases hj : i = j
    · subst hj
      have hi : i < γ.length := (List.getElem?_eq_some_iff.mp hg).1
      rw [List.getElem?_set_self hi, hg]
    · rw [List.getElem?_set_ne hj]
  rw [e] at q
  exact q
section
variable (K : PySem.W.Frag) {X : Cx}
theorem ix_listK (h : X.K = K) : IxR X (rIxL K) := h ▸ ix_list
theorem ix_tupK (h : X.K = K) : IxR X (rIxT K) := h ▸ ix_tup
theorem ix_seqK (h : X.K = K) : IxR X (rIx K) := h ▸ ix_seq
theorem op_inK (h : X.K = K) : OpR X (compareOp .In) (rIn K false) := h ▸ op_in_seq
theorem op_niK (h : X.K = K) : OpR X (compareOp .NotIn) (rIn K true) := h ▸ op_notIn_seq
theorem op_catK (h : X.K = K) : OpR X (binaryOp .Add) (rCatA K) := h ▸ op_catA
theorem call_lenK (h : X.K = K) : CallR X (.builtin "len") (rLen K) := h ▸ call_lenZ
theorem call_tupK (h : X.K = K) : CallR X (.type "tuple") (rTupOf K) := h ▸ call_tupZ
theorem call_listK (h : X.K = K) : CallR X (.type "list") (rListOf K) := h ▸ call_listZ
theorem cr_allK (hc : X.calm = true) (h : X.K = K) : CallR X (.builtin "all") (rAll K) := h ▸ cr_all hc
theorem cr_anyK (hc : X.calm = true) (h : X.K = K) : CallR X (.builtin "any") (rAny K) := h ▸ cr_any hc
theorem cr_sumK (hc : X.calm = true) (h : X.K = K) : CallR X (.builtin "sum") (rSum K) := h ▸ cr_sum hc
theorem call_isiK (h : X.K = K) : CallR X (.builtin "isinstance") (rIsi K) := h ▸ call_isi
theorem sl_listK (h : X.K = K) : SlR X (rSlL K) := h ▸ sl_list
theorem sl_tupK (h : X.K = K) : SlR X (rSlA K) := h ▸ sl_tupA
theorem mt_joinK (h : X.K = K) : MtR X "str.join" (rJoinZ K) := h ▸ mt_joinZ
theorem pi_listK (h : X.K = K) {tg l : Expr} {tl : TE} (hl : PE X l tl) : PI X tg l (iList K tl) := h ▸ pi_list hl
theorem pi_tupK (h : X.K = K) {tg l : Expr} {tl : TE} (hl : PE X l tl) : PI X tg l (iTup K tl) := h ▸ pi_tup hl
theorem pe_revLK (h : X.K = K) {e : Expr} {te : TE} {k : Nat} {p1 p2 p3 pos : Pos} (he : PE X e te) : PE X (.Subscript e (.Slice none none (some (.UnaryOp .USub (.Constant (.int 1) k p1) p2)) p3) pos) (tRevL K te) := h ▸ pe_revL he
theorem pg_tupK (h : X.K = K) {es : List Expr} {k : Nat} {t : TGs} {n : Nat} {pos : Pos} (hc : X.calm = true) (hh : PGs X es t)
    (hn : (assignEach es X.env).length = n := by rfl) (hst : (assignEach es X.env).findIdx? (·.1) = none := by rfl) : PG X (.Tuple es k pos) (gTup K n t) := h ▸ pg_tup hc hh hn hst
theorem pe_dfK (h : X.K = K) {x : Str} {k j : Nat} {ps : List Str} {n : Nat} {pre : List D → Prop} {post : List D → D → Prop} {p pos : Pos} {e : Expr} {es : List Expr} {t : TA} (g : Df X.prog X.w K X.mg X.base x j ps n pre post) (hr : Room k X.A) (hj : j ≤ k) (hg : Gl X x)
    (ha : PA X (e :: es) t) (hdb : (x == ("__debug__" : Str)) = false := by decide) (he : starEach (e :: es) X.env = (false, eval e X.env) :: starEach es X.env := by rfl) (hpl : (backTo pos (starEach es X.env)).any (·.1) = false := by rfl) :
    PE X (.Call (.Name x p) (e :: es) [] pos) (tCall (spD K n pre post) [] E0 t) := by
  subst h
  exact pe_df g hr hj hg ha hdb he hpl
theorem pe_bmK (h : X.K = K) {T id : String} {name : Str} {r : V → List V → Hp → VK → Prop} {o e : Expr} {es : List Expr} {to : TE} {t : TA} {apos cpos : Pos} (pa : PlainAttrs T) (slot : PySem.Slot T name id) (hty : typeOf (.builtin id) = pure (.type "method_descriptor")) (hm : MtR X id r) (ho : PE X o to) (ha : PA X (e :: es) t)
    (hbase : attributeBase o name X.env (eval o X.env) = eval o X.env := by rfl)
    (hfew : ((backTo cpos (starEach (e :: es) X.env)).all (fun x => !x.1) && (backToKw cpos (keywordEach [] X.env)).all (fun x => x.1.isSome)
      && decide ((e :: es).length + ([] : List Keyword).length + (if ([] : List Keyword).isEmpty then 0 else 1) < 30)) = true := by rfl)
    (hline : (apos.endLine == cpos.line) = true := by rfl) (hs : starEach (e :: es) X.env = (false, eval e X.env) :: starEach es X.env := by rfl) (hplain : (backTo cpos (starEach es X.env)).any (·.1) = false := by rfl) :
    PE X (.Call (.Attribute o name apos) (e :: es) [] cpos) (tBM K T r to t) := by
  subst h
  exact pe_bm pa slot hty hm ho ha hbase hfew hline hs hplain
end
end Z

namespace Z
open PySem PySem.Spec L2
def top (i : Nat) : Stmt := PySem.Challenge.pw_twiceeach_k00_symbols_and_fresh_names.main.body.getD i (.Pass ⟨0, 0, 0, 0⟩)
/-! ### texts as lists of signs -/
theorem len_tl (x : Str) : x.length = (TL.tl x).length := TL.len_tl x
theorem len_add (x y : Str) : (x ++ y).length = x.length + y.length := by rw [TL.len_tl, TL.tl_append, List.length_append, ← TL.len_tl, ← TL.len_tl]
theorem len_one (c : Nat) : (⟨#[c]⟩ : Str).length = 1 := rfl
theorem tl_one (c : Nat) : TL.tl ⟨#[c]⟩ = [c] := rfl
theorem ltS_one (c d : Nat) : ltS ⟨#[c]⟩ ⟨#[d]⟩ = decide (c < d) := by
  unfold ltS
  show decide ((([c] : List Nat)) < [d]) = decide (c < d)
  by_cases h : c < d
  · rw [decide_eq_true h, decide_eq_true]
    exact List.Lex.rel h
  · rw [decide_eq_false h, decide_eq_false]
    intro q
    cases q with
    | rel q => exact h q
    | cons q => cases q
theorem str_of (x : Str) : x = ⟨(TL.tl x).toArray⟩ := (TL.mk_tl x).symm
theorem one_of {x : Str} (h : x.length = 1) : ∃ c, x = ⟨#[c]⟩ := by
  rw [TL.len_tl] at h
  match e : TL.tl x, h with
  | [c], _ => exact ⟨c, by rw [str_of x, e]⟩
theorem inS_one (c : Nat) (z : Str) : inS ⟨#[c]⟩ z = decide (c ∈ TL.tl z) := PySem.StrLaws.found_one z c
theorem subAt_eqL (x y : Str) (i : Nat) : Builtin.Str.subAt x y i = (((TL.tl x).drop i).take y.length == TL.tl y) := PySem.StrLaws.subAt_eq x y i
theorem ends_one (x : Str) (c : Nat) : Txt.endswith x ⟨#[c]⟩ = decide ((TL.tl x).getLast? = some c) := by
  unfold Txt.endswith
  rw [subAt_eqL, len_one, len_tl x, tl_one]
  rcases List.eq_nil_or_concat (TL.tl x) with e | ⟨l, a, e⟩
  · rw [e]; rfl
  · rw [e]
    simp only [List.concat_eq_append, List.length_append, List.length_singleton, Nat.add_sub_cancel, List.getLast?_append, List.getLast?_singleton]
    rw [List.drop_left]
    by_cases h : a = c
    · subst h; simp
    · simp [h]
/-- z[:-1] -/
theorem tl_cut_last (x : Str) : TL.tl (cutS x none (some (-1))) = (TL.tl x).dropLast := by
  unfold cutS
  show (((TL.tl x).drop (HT.sIx x.length 0 none)).take (HT.sIx x.length x.length (some (-1)) - HT.sIx x.length 0 none)) = _
  have e : HT.sIx x.length x.length (some (-1)) = x.length - 1 := by
    show (if (-1 : Int) < 0 then ((-1) + (x.length : Int)).toNat else min ((-1 : Int)).toNat x.length) = x.length - 1
    rw [if_pos (by decide)]; omega
  rw [e]
  show ((TL.tl x).drop 0).take (x.length - 1 - 0) = _
  rw [List.drop_zero, List.dropLast_eq_take, len_tl]; rfl
theorem tl_cut_from (x : Str) (n : Nat) : TL.tl (cutS x (some (n : Int)) none) = (TL.tl x).drop n := by
  unfold cutS
  show (((TL.tl x).drop (HT.sIx x.length 0 (some (n : Int)))).take (x.length - HT.sIx x.length 0 (some (n : Int)))) = _
  have e : HT.sIx x.length 0 (some (n : Int)) = min n x.length := HT.sIx_nat _ _ _
  rw [e, len_tl]
  by_cases h : n ≤ (TL.tl x).length
  · rw [Nat.min_eq_left h, List.take_of_length_le (by rw [List.length_drop]; exact Nat.le_refl _)]
  · rw [Nat.min_eq_right (by omega), List.drop_length, List.drop_eq_nil_of_le (by omega)]; simp
theorem len_cut (z : Str) (lo hi : Option Int) : (cutS z lo hi).length ≤ z.length := cutS_length z lo hi
theorem ext_tl {x y : Str} (h : TL.tl x = TL.tl y) : x = y := TL.ext_tl h
/-! ### the walk over data, one step -/
theorem ew_ci {K : PySem.W.Frag} {γ : Gam} {Φ : D → Prop} {i : Int} (k : Φ (.int i)) : EW K (tC (.int i)) γ Φ := ew_c rfl k
theorem ew_cs {K : PySem.W.Frag} {γ : Gam} {Φ : D → Prop} {i : Str} (k : Φ (.str i)) : EW K (tC (.str i)) γ Φ := ew_c rfl k
theorem ew_cb' {K : PySem.W.Frag} {γ : Gam} {Φ : D → Prop} {i : Bool} (k : Φ (.bl i)) : EW K (tC (.bl i)) γ Φ := ew_c rfl k
theorem ew_cn {K : PySem.W.Frag} {γ : Gam} {Φ : D → Prop} (k : Φ .non) : EW K (tC .non) γ Φ := ew_c rfl k
theorem ew_ct {K : PySem.W.Frag} {γ : Gam} {Φ : D → Prop} {n : String} (k : Φ (.ty n)) : EW K (tC (.ty n)) γ Φ := ew_c rfl k
theorem ew_ng {K : PySem.W.Frag} {γ : Gam} {Φ : D → Prop} {ta : TE} (h : EW K ta γ fun d => ∃ i, d = .int i ∧ Φ (.int (-i))) : EW K (tUn (rU fun i => .int (-i)) ta) γ Φ := ew_neg (h.mono fun d ⟨i, e, p⟩ => ⟨i, e, rfl, p⟩)
theorem signs_get {z : Str} {i : Nat} {d : D} (h : (signs z)[i]? = some d) : ∃ c, (TL.tl z)[i]? = some c ∧ d = .str ⟨#[c]⟩ := by
  unfold signs at h
  rw [List.getElem?_map] at h
  cases e : (TL.tl z)[i]? with
  | none => rw [show z.cps.toList[i]? = none from e] at h; cases h
  | some c => rw [show z.cps.toList[i]? = some c from e] at h; exact ⟨c, rfl, (Option.some.inj h).symm⟩
theorem signs_len (z : Str) : (signs z).length = (TL.tl z).length := by unfold signs; rw [List.length_map]
theorem take_map_succ {α β : Type} {l : List α} {i : Nat} {c : α} (f : α → β) (h : l[i]? = some c) : (l.take (i + 1)).map f = (l.take i).map f ++ [f c] := by
  rw [List.take_add_one, h]; simp
/-- 'a' <= e <= 'z' of one sign -/
theorem ew_between {K : PySem.W.Frag} {γ : Gam} {Φ : D → Prop} {te : TE} (a b : Nat) (h : EW K te γ fun d => ∃ c, d = .str ⟨#[c]⟩ ∧ Φ (.bl (decide (a ≤ c) && decide (c ≤ b)))) : EW K (tChain rLeS rLeS (tC (.str ⟨#[a]⟩)) te (tC (.str ⟨#[b]⟩))) γ Φ := by
  refine ew_chain (ew_cs (h.mono fun d q => ?_))
  obtain ⟨c, rfl, p⟩ := q
  refine rw_leS ⟨_, rfl, fun h1 => ?_, fun h1 => ?_⟩
  · refine ew_cs (rw_leS ?_)
    rw [ltS_one] at h1 ⊢
    have e : (!decide (b < c)) = (decide (a ≤ c) && decide (c ≤ b)) := by
      have h2 : ¬ c < a := by simpa using h1
      by_cases h3 : b < c <;> simp [h3] <;> omega
    rw [e]; exact p
  · rw [ltS_one] at h1
    have h2 : c < a := by simpa using h1
    have e : false = (decide (a ≤ c) && decide (c ≤ b)) := by simp; omega
    rw [e]; exact p


local macro_rules | `(tactic| walk_at "zl") => `(tactic| first | (show _ ≤ (1000000 : Nat); omega) | omega | decide | assumption | (show _ ≤ (1000000 : Nat); simp only [len_add, len_one]; omega))
set_option hygiene false in
local macro_rules | `(tactic| walk_at "eE") => `(tactic| first
  | with_reducible refine ew_ci ?_
  | with_reducible refine ew_cs ?_
  | with_reducible refine ew_cb' ?_
  | with_reducible refine ew_cn ?_
  | with_reducible refine ew_ct ?_
  | ((with_reducible refine' ew_var ?hg ?_); (case hg => rfl))
  | ((with_reducible show EW _ (tCB _ (tCons (tVar _) tNil)) _ _); (refine' ew_lenO ?hg ?_); (case hg => rfl))
  | ((with_reducible show EW _ (tOp (rIxL _) (tVar _) _) _ _); (refine' ew_ixO ?hg ?_); (case hg => rfl))
  | ((with_reducible show EW _ (tOp (rIn _ _) _ (tVar _)) _ _); (refine' ew_niO ?hg ?_); (case hg => rfl))
  | ((with_reducible show EW _ (tOp (rIn _ _) _ (tVar _)) _ _); (refine' ew_inO ?hg ?_); (case hg => rfl))
  | with_reducible refine ew_op ?_
  | with_reducible refine ew_ng ?_
  | with_reducible refine ew_cb ?_
  | ((with_reducible show EW _ (tCall _ _ _ _) _ _); refine ew_call ?_)
  | with_reducible refine ew_chain ?_
  | with_reducible refine ew_if ?_
  | with_reducible refine ew_andV ?_
  | with_reducible refine ew_orV ?_
  | with_reducible refine ew_notV ?_
  | with_reducible refine ew_m0 ?_
  | with_reducible refine ew_m1 ?_
  | with_reducible refine ew_sl ?_
  | with_reducible refine ew_tup ?_
  | with_reducible refine ew_new (en_lst ?_)
  | with_reducible refine ew_joined ?_
  | ((with_reducible show EW _ (tRevL _ _) _ _); refine ew_new (en_revL ?_)))
set_option hygiene false in
local macro_rules | `(tactic| walk_at "eR") => `(tactic| first
  | ((with_reducible show RW2 _ (rI0 _) _ _ _); first
    | with_reducible refine rw_add ?_ | with_reducible refine rw_sub ?_ | with_reducible refine rw_lt ?_ | with_reducible refine rw_le ?_ | with_reducible refine rw_gt ?_ | with_reducible refine rw_ge ?_
    | refine rw_add ?_ | refine rw_sub ?_ | refine rw_lt ?_ | refine rw_le ?_ | refine rw_gt ?_ | refine rw_ge ?_)
  | ((with_reducible show RW2 _ (rI _ _) _ _ _); first
    | (refine rw_mod (by walk_at "zl") ?_)
    | (refine rw_fdiv (by exact ⟨by walk_at "zl", by walk_at "zl"⟩) ?_)
    | (refine rw_mul (by show (_ ∧ _) ∨ _; first | exact .inl ⟨by omega, by omega⟩ | exact .inr ⟨by omega, by omega⟩) ?_)
    | (refine rw_pow ⟨by decide, by decide, by decide⟩ ?_))
  | ((with_reducible show RW2 _ rEq _ _ _); first | refine rw_eqI ?_ | refine rw_eqS ?_ | refine rw_eqB ?_)
  | ((with_reducible show RW2 _ rNe _ _ _); first | refine rw_neI ?_ | refine rw_neS ?_)
  | ((with_reducible show RW2 _ rLtS _ _ _); refine rw_ltS ?_)
  | ((with_reducible show RW2 _ rLeS _ _ _); refine rw_leS ?_)
  | ((with_reducible show RW2 _ rGtS _ _ _); refine rw_gtS ?_)
  | ((with_reducible show RW2 _ rGeS _ _ _); refine rw_geS ?_)
  | ((with_reducible show RW2 _ rInSt _ _ _); refine rw_inS ?_)
  | ((with_reducible show RW2 _ rNiSt _ _ _); refine rw_niS ?_)
  | ((with_reducible show RW2 _ rAddStr _ _ _); refine rw_addStr (by walk_at "zl") ?_)
  | ((with_reducible show RW2 _ (rIn _ _) _ _ _); first | refine rw_inL ?_ | refine rw_inT ?_ | refine rw_niL ?_ | refine rw_niT ?_)
  | ((with_reducible show RW2 _ (rIxL _) _ _ _); first
    | (refine' rw_ixL ?hg ?_; (case hg => assumption))
    | (refine' rw_ixC ?hg ?_; (case hg => assumption))
    | (refine rw_ixI (by omega) (by omega) (by assumption) ?_; intro nD n0D n1D))
  | ((with_reducible show RW2 _ (rIxT _) _ _ _); (refine' rw_ixT ?hg ?_; (case hg => assumption)))
  | ((with_reducible show RW2 _ rIxS _ _ _); (refine' rw_ixS (by walk_at "zl") ?hg ?_; (case hg => assumption)))
  | ((with_reducible show RW2 _ (rIx _) _ _ _); first | (refine' rw_ixQL ?hg ?_; (case hg => assumption)) | (refine' rw_ixQT ?hg ?_; (case hg => assumption)))
  | ((with_reducible show RW2 _ rCat _ _ _); refine rw2_new (rn_cat (by walk_at "zl") ?_))
  | ((with_reducible show RW2 _ (rCatA _) _ _ _); refine rw_catA (by walk_at "zl") ?_))
set_option hygiene false in
local macro_rules | `(tactic| walk_at "eL") => `(tactic| first
  | ((with_reducible show RWL _ (rIsi _) _ _); first | refine rwl_isi (b := true) rfl (by rfl) (.ty _) ?_ | refine rwl_isi (b := false) rfl (by rfl) (.ty _) ?_)
  | ((with_reducible show RWL _ (rLen _) _ _); first | refine rwl_lenL ?_ | refine rwl_lenT ?_ | refine rwl_lenC ?_ | refine rwl_lenS (by walk_at "zl") ?_)
  | ((with_reducible show RWL _ (rTupOf _) _ _); first | refine rwl_tupL ?_ | refine rwl_tupT ?_)
  | ((with_reducible show RWL _ (rListOf _) _ _); first | refine rwl_new (rnl_listL ?_) | refine rwl_new (rnl_listT ?_))
  | ((with_reducible show RWL _ (rAll _) _ _); refine rwl_all ?_)
  | refine rwl_int ?_ | refine rwl_abs ?_ | refine rwl_min2 ?_ | refine rwl_max2 ?_)
set_option hygiene false in
local macro_rules | `(tactic| walk_at "eO") => `(tactic| first
  | with_reducible refine aw_cons ?_
  | with_reducible refine aw_nil ?_
  | with_reducible refine tw_test ?_
  | with_reducible refine tw_B ?_
  | with_reducible refine tw_and ?_
  | with_reducible refine tw_or ?_
  | with_reducible refine tw_not ?_
  | with_reducible refine tw_yes ?_
  | with_reducible refine ow_none ?_
  | with_reducible refine ow_some ?_
  | ((with_reducible show IW _ (iList _ _) _ _); refine iw_list ?_)
  | ((with_reducible show IW _ (iTup _ _) _ _); refine iw_tup ?_)
  | with_reducible refine iw_range1 ?_
  | with_reducible refine iw_range2 ?_
  | with_reducible refine iw_str ?_
  | with_reducible refine gw_name ?_
  | ((with_reducible show GW _ (gTup _ _ _) _ _ _ _); (refine' gw_tup ?hg ?_); (case hg => rfl))
  | with_reducible refine gws_cons ?_
  | with_reducible refine gws_nil ?_
  | with_reducible refine jw_nil ?_
  | with_reducible refine jw_cons ?_
  | with_reducible refine en_cb ?_
  | with_reducible refine en_op ?_
  | with_reducible refine en_m1 ?_
  | with_reducible refine en_sl ?_
  | with_reducible refine en_lst ?_
  | ((with_reducible show EN _ (tRevL _ _) _ _); refine en_revL ?_)
  | ((with_reducible show SlW _ rSlS _ _ _ _); refine sl_S (by walk_at "zl") ?_)
  | ((with_reducible show SlW _ (rSlA _) _ _ _ _); refine sl_TA ?_)
  | ((with_reducible show SlW _ (rSlL _) _ _ _ _); first | (refine slw_new (sln_I (by assumption) ?_); intro msD hmD lmD) | refine slw_new (sln_L ?_))
  | ((with_reducible show SlN _ (rSlL _) _ _ _ _); refine sln_L ?_)
  | ((with_reducible show RWM _ rEnds _ _ _); refine rwm_ends ?_)
  | ((with_reducible show RWM _ rStarts _ _ _); refine rwm_starts ?_)
  | ((with_reducible show RNL _ (rListOf _) _ _); first | refine rnl_listL ?_ | refine rnl_listT ?_)
  | ((with_reducible show RN2 _ rCat _ _ _); refine rn_cat (by walk_at "zl") ?_)
  | ((with_reducible show _ ≤ sizeS ∧ _); refine ⟨by walk_at "zl", ?_⟩)
  | ((with_reducible show _ < sizeS ∧ _); refine ⟨by walk_at "zl", ?_⟩))
set_option hygiene false in
local macro_rules | `(tactic| walk_at "e1") => `(tactic| first
  | ((with_reducible show EW _ _ _ _); (walk_at "eE"))
  | ((with_reducible show RW2 _ _ _ _ _); (walk_at "eR"))
  | ((with_reducible show RWL _ _ _ _); (walk_at "eL"))
  | (walk_at "eO")
  | refine ⟨_, rfl, ?_⟩
  | ((with_reducible show ∃ _, atI _ _ = some _ ∧ _); refine ⟨_, by assumption, ?_⟩))
local macro_rules | `(tactic| walk_at "e") => `(tactic| repeat (walk_at "e1"))
local macro_rules | `(tactic| walk_at "T") => `(tactic| refine ⟨fun _ => ?_, fun q => by cases q⟩)
local macro_rules | `(tactic| walk_at "F") => `(tactic| refine ⟨(fun q => by cases q), fun _ => ?_⟩)

/-! ### the mathematics -/
def lowB (c : Nat) : Bool := decide (97 ≤ c) && decide (c ≤ 122)
def tailB (c : Nat) : Bool := lowB c || (decide (48 ≤ c) && decide (c ≤ 57))
def capB (c : Nat) : Bool := decide (65 ≤ c) && decide (c ≤ 90)
def isLetterL : List Nat → Bool
  | [c] => lowB c
  | _ => false
def isNameL : List Nat → Bool
  | c :: r => decide (r.length ≤ 3) && (capB c && r.all tailB)
  | [] => false
theorem isName_cons (c : Nat) (r : List Nat) : isNameL (c :: r) = (decide (r.length ≤ 3) && (capB c && r.all tailB)) := rfl
theorem between_one (c a b : Nat) : ((!ltS ⟨#[c]⟩ ⟨#[a]⟩) && !ltS ⟨#[b]⟩ ⟨#[c]⟩) = (decide (a ≤ c) && decide (c ≤ b)) := by
  rw [ltS_one, ltS_one]
  by_cases h1 : c < a <;> by_cases h2 : b < c <;> simp [h1, h2] <;> omega
/-- name_of -/
def nmS (z : Str) : Str := if Txt.endswith z "~" = true then cutS z none (some (-1)) else z
def tnS (z : Str) : Str := if Txt.endswith z "~" = true then cutS z none (some (-1)) else if isNameL (TL.tl (nmS z)) = true then z ++ "~" else z
theorem len_nm (z : Str) : (nmS z).length ≤ z.length := by
  unfold nmS
  split
  · exact len_cut _ _ _
  · exact Nat.le_refl _
abbrev s_is_letter : Stmt := top 2
abbrev N_is_letter : List Str := ["symbol"]
abbrev P_is_letter : List Str := ["symbol"]
theorem sc_is_letter : FnScope N_is_letter P_is_letter (defScope s_is_letter) := ⟨rfl, rfl, rfl, by decide +kernel, rfl, by decide +kernel, by decide +kernel⟩
def pre_is_letter : List D → Prop := fun ds => ∃ z, ds = [.str z] ∧ z.length ≤ 100
def post_is_letter : List D → D → Prop := fun ds d => ∀ z, ds = [.str z] → d = .bl (isLetterL (TL.tl z))
set_option maxHeartbeats 4000000 in
theorem df_is_letter {P : Program} {w : World} {K : PySem.W.Frag} {mg : Str → Option Value} {base : Heap} {f : Addr} {fd : FuncData} (F : FunD K "is_letter" "is_letter" (defArgs s_is_letter) (defBody s_is_letter) (defScope s_is_letter) [] [] f fd) (hm : mg "is_letter" = some (.ref f)) (n_len : mg "len" = none) :
    Df P w K mg base "is_letter" 1 P_is_letter 1 pre_is_letter post_is_letter := by
  refine df_mk F hm sc_is_letter (fun _ _ _ _ _ _ us hl => match us, hl with | [_], _ => rfl) fun cdv A outer s H E hr ds hl hp => ⟨_,
    (pss_one (ps_ret (pe_and (pe_cmpR op_eq (pe_callB (call_lenK K rfl) (by rfl) n_len PySem.boot_len (pa_cons (pv 0) pa_nil)) pe_int (nomark _)) (pe_one (pe_chain op_leS op_leS pe_str (pv 0) pe_str))))), ?_⟩
  obtain ⟨a0, rfl⟩ : ∃ a0, ds = [a0] := match ds, hl with | [_], _ => ⟨_, rfl⟩
  obtain ⟨z, e, hz⟩ := hp
  cases e
  refine sw_ret ?_
  walk_at "e"
  refine ⟨fun h => ?_, fun h => ?_⟩
  · obtain ⟨c, rfl⟩ := one_of (x := z) (by have := of_decide_eq_true h; omega)
    refine ew_between 97 122 ?_
    walk_at "e"
    intro z' e; cases e
    rfl
  · intro z' e; cases e
    have h2 : z.length ≠ 1 := by have := of_decide_eq_false h; omega
    rw [len_tl] at h2
    match e : TL.tl z, h2 with
    | [], _ => rfl
    | [c], h2 => exact absurd rfl h2
    | _ :: _ :: _, _ => rfl
abbrev s_is_turned : Stmt := top 5
abbrev N_is_turned : List Str := ["symbol"]
abbrev P_is_turned : List Str := ["symbol"]
theorem sc_is_turned : FnScope N_is_turned P_is_turned (defScope s_is_turned) := ⟨rfl, rfl, rfl, by decide +kernel, rfl, by decide +kernel, by decide +kernel⟩
def pre_is_turned : List D → Prop := fun ds => ∃ z, ds = [.str z] ∧ z.length ≤ 100
def post_is_turned : List D → D → Prop := fun ds d => ∀ z, ds = [.str z] → d = .bl (Txt.endswith z "~")
set_option maxHeartbeats 4000000 in
theorem df_is_turned {P : Program} {w : World} {K : PySem.W.Frag} {mg : Str → Option Value} {base : Heap} {f : Addr} {fd : FuncData} (F : FunD K "is_turned" "is_turned" (defArgs s_is_turned) (defBody s_is_turned) (defScope s_is_turned) [] [] f fd) (hm : mg "is_turned" = some (.ref f)) (c_TURN : ∃ t, mg "TURN" = some (.str "~" t)) :
    Df P w K mg base "is_turned" 1 P_is_turned 1 pre_is_turned post_is_turned := by
  refine df_mk F hm sc_is_turned (fun _ _ _ _ _ _ us hl => match us, hl with | [_], _ => rfl) fun cdv A outer s H E hr ds hl hp => ⟨_,
    (pss_one (ps_ret (pe_m1 PySem.F.slot_str_endswith PySem.F.type_str_endswith mt_endsZ (pv 0) (pe_gs c_TURN (by rfl))))), ?_⟩
  obtain ⟨a0, rfl⟩ : ∃ a0, ds = [a0] := match ds, hl with | [_], _ => ⟨_, rfl⟩
  obtain ⟨z, e, hz⟩ := hp
  cases e
  refine sw_ret ?_
  walk_at "e"
  intro z' e; cases e
  rfl
abbrev s_name_of : Stmt := top 6
abbrev N_name_of : List Str := ["symbol"]
abbrev P_name_of : List Str := ["symbol"]
theorem sc_name_of : FnScope N_name_of P_name_of (defScope s_name_of) := ⟨rfl, rfl, rfl, by decide +kernel, rfl, by decide +kernel, by decide +kernel⟩
def pre_name_of : List D → Prop := fun ds => ∃ z, ds = [.str z] ∧ z.length ≤ 100
def post_name_of : List D → D → Prop := fun ds d => ∀ z, ds = [.str z] → d = .str (nmS z)
set_option maxHeartbeats 4000000 in
theorem df_name_of {P : Program} {w : World} {K : PySem.W.Frag} {mg : Str → Option Value} {base : Heap} {f : Addr} {fd : FuncData} (F : FunD K "name_of" "name_of" (defArgs s_name_of) (defBody s_name_of) (defScope s_name_of) [] [] f fd) (hm : mg "name_of" = some (.ref f)) (g_is_turned : Df P w K mg base "is_turned" 1 P_is_turned 1 pre_is_turned post_is_turned) :
    Df P w K mg base "name_of" 2 P_name_of 1 pre_name_of post_name_of := by
  refine df_mk F hm sc_name_of (fun _ _ _ _ _ _ us hl => match us, hl with | [_], _ => rfl) fun cdv A outer s H E hr ds hl hp => ⟨_,
    (pss_cons (ps_if (pt_val (pe_dfK K rfl g_is_turned hr (by decide) (by rfl) (pa_cons (pv 0) pa_nil))) (pss_one (ps_ret (pe_slice sl_str (pv 0) po_none (po_some (pe_un un_neg pe_int))))) pss_nil)
    (pss_one (ps_ret (pv 0)))), ?_⟩
  obtain ⟨a0, rfl⟩ : ∃ a0, ds = [a0] := match ds, hl with | [_], _ => ⟨_, rfl⟩
  obtain ⟨z, e, hz⟩ := hp
  cases e
  refine sw_seq (sw_if ?_)
  walk_at "e"
  refine call_ok rfl ⟨_, rfl, hz⟩ fun d hd => ?_
  obtain rfl := hd _ rfl
  walk_at "e"
  refine ⟨fun h => ?_, fun h => ?_⟩
  · refine sw_ret ?_
    walk_at "e"
    intro z' e; cases e
    unfold nmS; rw [if_pos h]
  · refine sw_next ?_
    refine sw_ret ?_
    walk_at "e"
    intro z' e; cases e
    unfold nmS; rw [h, if_neg (by decide)]
abbrev s_is_name : Stmt := top 3
abbrev N_is_name : List Str := ["text", "sign"]
abbrev P_is_name : List Str := ["text"]
theorem sc_is_name : FnScope N_is_name P_is_name (defScope s_is_name) := ⟨rfl, rfl, rfl, by decide +kernel, rfl, by decide +kernel, by decide +kernel⟩
def pre_is_name : List D → Prop := fun ds => ∃ z, ds = [.str z] ∧ z.length ≤ 100
def post_is_name : List D → D → Prop := fun ds d => ∀ z, ds = [.str z] → d = .bl (isNameL (TL.tl z))
set_option maxHeartbeats 4000000 in
theorem df_is_name {P : Program} {w : World} {K : PySem.W.Frag} {mg : Str → Option Value} {base : Heap} {f : Addr} {fd : FuncData} (F : FunD K "is_name" "is_name" (defArgs s_is_name) (defBody s_is_name) (defScope s_is_name) [] [] f fd) (hm : mg "is_name" = some (.ref f)) (n_all : mg "all" = none) (n_len : mg "len" = none) :
    Df P w K mg base "is_name" 1 P_is_name 1 pre_is_name post_is_name := by
  refine df_mk F hm sc_is_name (fun _ _ _ _ _ _ us hl => match us, hl with | [_], _ => rfl) fun cdv A outer s H E hr ds hl hp => ⟨_,
    (pss_cons (ps_if (PW.pt (pw_or (pt_not (pt_chain op_le op_le pe_int (pe_callB (call_lenK K rfl) (by rfl) n_len PySem.boot_len (pa_cons (pv 0) pa_nil)) pe_int)) (pw_or1 (pt_not (pt_chain op_leS op_leS pe_str (pe_ix ix_str (pv 0) pe_int (fun _ _ => rfl)) pe_str))))) (pss_one (ps_ret pe_bl)) pss_nil)
    (pss_one (ps_ret (pe_callB (cr_allK K rfl rfl) (by rfl) n_all (by decide +kernel) (pa_cons (pe_lc (own := [("sign", 1)]) rfl sc_is_name.nd (pi_str (pe_slice sl_str (pv 0) (po_some pe_int) po_none)) (blkOk_by (N := N_is_name) (sc := defScope s_is_name) (by decide +kernel)) (fun _ _ _ _ _ => (pg_name (i := 1) sc_is_name.nd rfl (by first | exact Or.inl rfl | exact Or.inr rfl))) (fun _ _ _ _ _ => pts_nil) (fun _ _ _ _ _ => (pe_or (pe_chain op_leS op_leS pe_str (pv 1) pe_str) (pe_one (pe_chain op_leS op_leS pe_str (pv 1) pe_str))))) pa_nil))))), ?_⟩
  obtain ⟨a0, rfl⟩ : ∃ a0, ds = [a0] := match ds, hl with | [_], _ => ⟨_, rfl⟩
  obtain ⟨z, e, hz⟩ := hp
  cases e
  have lz := len_tl z
  have no : (¬ (1 ≤ (TL.tl z).length ∧ (TL.tl z).length ≤ 4)) → isNameL (TL.tl z) = false := fun h => by
    match e : TL.tl z, h with
    | [], _ => rfl
    | c :: r, h =>
      rw [List.length_cons] at h
      rw [isName_cons, decide_eq_false (by omega)]; rfl
  have fal : isNameL (TL.tl z) = false → SW K (tRet (tC (V.bl false))) (gam0 N_is_name.length [D.str z]) { nx := fun _ => False, rt := post_is_name [D.str z] } := fun h => by
    refine sw_ret ?_
    walk_at "e"
    intro z' e; cases e; rw [h]
  refine sw_seq (sw_if ?_)
  walk_at "e"
  refine ⟨fun h => ?_, fun h => ?_⟩
  · walk_at "e"
    refine ⟨fun h2 => ?_, fun h2 => ?_⟩
    · walk_at "T"
      exact (fal (no (by simp at h2; omega))).mono (fun _ z => z.elim) (fun _ z => z) (fun _ z => z) fun _ z => z
    · have h3 : 1 ≤ (TL.tl z).length ∧ (TL.tl z).length ≤ 4 := by simp at h h2; omega
      obtain ⟨c, r, ecr⟩ : ∃ c r, TL.tl z = c :: r := by
        match e : TL.tl z, h3 with
        | c :: r, _ => exact ⟨c, r, rfl⟩
      have h4 : r.length ≤ 3 := by rw [ecr, List.length_cons] at h3; omega
      have i0 : atI z.cps.toList 0 = some c := atI_nat (j := 0) (by show (TL.tl z)[0]? = some c; rw [ecr]; rfl)
      have nm : isNameL (TL.tl z) = (capB c && r.all tailB) := by
        rw [ecr, isName_cons, decide_eq_true h4]; rfl
      refine tw_not (tw_test (ew_between 65 90 ?_))
      walk_at "e"
      refine ⟨fun h5 => ?_, fun h5 => ?_⟩
      · have h6 : capB c = false := by unfold capB; revert h5; cases (decide (65 ≤ c) && decide (c ≤ 90)) <;> simp
        exact (fal (by rw [nm, h6]; rfl)).mono (fun _ z => z.elim) (fun _ z => z) (fun _ z => z) fun _ z => z
      · have h6 : capB c = true := by unfold capB; revert h5; cases (decide (65 ≤ c) && decide (c ≤ 90)) <;> simp
        refine sw_next ?_
        refine sw_ret ?_
        walk_at "e"
        refine ew_new (en_lc (js := [1]) (by decide) ?_)
        walk_at "e"
        have er : TL.tl (cutS z (some ((1 : Nat) : Int)) none) = r := by rw [tl_cut_from, ecr]; rfl
        refine ⟨fun i acc => acc = ((r.take i).map tailB).map D.bl, rfl, fun i d acc hd hi => ⟨?_, ?_⟩, fun acc hi => ?_⟩
        · rw [hi]; simp; show _ < (1000000 : Nat); omega
        · obtain ⟨x, hx, rfl⟩ := signs_get hd
          rw [show TL.tl (cutS z (some 1) none) = r from er] at hx
          have fin : ∀ b, b = tailB x → acc ++ [D.bl b] = ((r.take (i + 1)).map tailB).map D.bl := fun b e => by
            rw [take_map_succ tailB hx, List.map_append, ← hi, e]; rfl
          walk_at "e"
          walk_at "T"
          refine ew_orV (ew_between 97 122 ?_)
          walk_at "e"
          refine ⟨fun h7 => ?_, fun h7 => ?_⟩
          · refine fin _ ?_
            unfold tailB lowB; rw [h7]; rfl
          · refine ew_between 48 57 ?_
            walk_at "e"
            refine fin _ ?_
            unfold tailB lowB; rw [h7]; rfl
        · have e2 : acc = (r.map tailB).map D.bl := by
            rw [hi, signs_len, show TL.tl (cutS z (some 1) none) = r from er, List.take_length]
          subst e2
          walk_at "e"
          intro z' e; cases e
          rw [nm, h6, List.all_map]; rfl
  · walk_at "e"
    walk_at "T"
    walk_at "T"
    exact (fal (no (by simp at h; omega))).mono (fun _ z => z.elim) (fun _ z => z) (fun _ z => z) fun _ z => z
abbrev s_is_piece : Stmt := top 4
abbrev N_is_piece : List Str := ["symbol"]
abbrev P_is_piece : List Str := ["symbol"]
theorem sc_is_piece : FnScope N_is_piece P_is_piece (defScope s_is_piece) := ⟨rfl, rfl, rfl, by decide +kernel, rfl, by decide +kernel, by decide +kernel⟩
def pre_is_piece : List D → Prop := fun ds => ∃ z, ds = [.str z] ∧ z.length ≤ 100
def post_is_piece : List D → D → Prop := fun ds d => ∀ z, ds = [.str z] → d = .bl (isNameL (TL.tl (nmS z)))
set_option maxHeartbeats 4000000 in
theorem df_is_piece {P : Program} {w : World} {K : PySem.W.Frag} {mg : Str → Option Value} {base : Heap} {f : Addr} {fd : FuncData} (F : FunD K "is_piece" "is_piece" (defArgs s_is_piece) (defBody s_is_piece) (defScope s_is_piece) [] [] f fd) (hm : mg "is_piece" = some (.ref f)) (g_is_name : Df P w K mg base "is_name" 1 P_is_name 1 pre_is_name post_is_name) (g_name_of : Df P w K mg base "name_of" 2 P_name_of 1 pre_name_of post_name_of) :
    Df P w K mg base "is_piece" 3 P_is_piece 1 pre_is_piece post_is_piece := by
  refine df_mk F hm sc_is_piece (fun _ _ _ _ _ _ us hl => match us, hl with | [_], _ => rfl) fun cdv A outer s H E hr ds hl hp => ⟨_,
    (pss_one (ps_ret (pe_dfK K rfl g_is_name hr (by decide) (by rfl) (pa_cons (pe_dfK K rfl g_name_of hr (by decide) (by rfl) (pa_cons (pv 0) pa_nil)) pa_nil)))), ?_⟩
  obtain ⟨a0, rfl⟩ : ∃ a0, ds = [a0] := match ds, hl with | [_], _ => ⟨_, rfl⟩
  obtain ⟨z, e, hz⟩ := hp
  cases e
  refine sw_ret ?_
  walk_at "e"
  refine call_ok rfl ⟨_, rfl, hz⟩ fun d hd => ?_
  obtain rfl := hd _ rfl
  walk_at "e"
  refine call_ok rfl ⟨_, rfl, Nat.le_trans (len_nm z) hz⟩ fun d hd => ?_
  obtain rfl := hd _ rfl
  intro z' e; cases e
  rfl
abbrev s_turned_symbol : Stmt := top 7
abbrev N_turned_symbol : List Str := ["symbol"]
abbrev P_turned_symbol : List Str := ["symbol"]
theorem sc_turned_symbol : FnScope N_turned_symbol P_turned_symbol (defScope s_turned_symbol) := ⟨rfl, rfl, rfl, by decide +kernel, rfl, by decide +kernel, by decide +kernel⟩
def pre_turned_symbol : List D → Prop := fun ds => ∃ z, ds = [.str z] ∧ z.length ≤ 100
def post_turned_symbol : List D → D → Prop := fun ds d => ∀ z, ds = [.str z] → d = .str (tnS z)
set_option maxHeartbeats 4000000 in
theorem df_turned_symbol {P : Program} {w : World} {K : PySem.W.Frag} {mg : Str → Option Value} {base : Heap} {f : Addr} {fd : FuncData} (F : FunD K "turned_symbol" "turned_symbol" (defArgs s_turned_symbol) (defBody s_turned_symbol) (defScope s_turned_symbol) [] [] f fd) (hm : mg "turned_symbol" = some (.ref f)) (c_TURN : ∃ t, mg "TURN" = some (.str "~" t)) (g_is_piece : Df P w K mg base "is_piece" 3 P_is_piece 1 pre_is_piece post_is_piece) (g_is_turned : Df P w K mg base "is_turned" 1 P_is_turned 1 pre_is_turned post_is_turned) :
    Df P w K mg base "turned_symbol" 4 P_turned_symbol 1 pre_turned_symbol post_turned_symbol := by
  refine df_mk F hm sc_turned_symbol (fun _ _ _ _ _ _ us hl => match us, hl with | [_], _ => rfl) fun cdv A outer s H E hr ds hl hp => ⟨_,
    (pss_cons (ps_if (pt_val (pe_dfK K rfl g_is_turned hr (by decide) (by rfl) (pa_cons (pv 0) pa_nil))) (pss_one (ps_ret (pe_slice sl_str (pv 0) po_none (po_some (pe_un un_neg pe_int))))) pss_nil)
    (pss_cons (ps_if (pt_val (pe_dfK K rfl g_is_piece hr (by decide) (by rfl) (pa_cons (pv 0) pa_nil))) (pss_one (ps_ret (pe_op op_addStr (pv 0) (pe_gs c_TURN (by rfl))))) pss_nil)
    (pss_one (ps_ret (pv 0))))), ?_⟩
  obtain ⟨a0, rfl⟩ : ∃ a0, ds = [a0] := match ds, hl with | [_], _ => ⟨_, rfl⟩
  obtain ⟨z, e, hz⟩ := hp
  cases e
  refine sw_seq (sw_if ?_)
  walk_at "e"
  refine call_ok rfl ⟨_, rfl, hz⟩ fun d hd => ?_
  obtain rfl := hd _ rfl
  walk_at "e"
  refine ⟨fun h => ?_, fun h => ?_⟩
  · refine sw_ret ?_
    walk_at "e"
    intro z' e; cases e
    unfold tnS; rw [if_pos h]
  · refine sw_next ?_
    refine sw_seq (sw_if ?_)
    walk_at "e"
    refine call_ok rfl ⟨_, rfl, hz⟩ fun d hd => ?_
    obtain rfl := hd _ rfl
    walk_at "e"
    refine ⟨fun h2 => ?_, fun h2 => ?_⟩
    · refine sw_ret ?_
      walk_at "e"
      refine rw_addStr (by show _ ≤ (1000000 : Nat); rw [show (Str.ofString "~").length = 1 from rfl]; omega) ?_
      intro z' e; cases e
      unfold tnS; rw [h, if_neg (by decide), if_pos h2]
    · refine sw_next ?_
      refine sw_ret ?_
      walk_at "e"
      intro z' e; cases e
      unfold tnS; rw [h, if_neg (by decide), h2, if_neg (by decide)]

/-! ### fresh names -/
def nmN (k : Nat) : Str := "N" ++ Str.ofString (toString ((k : Nat) : Int))
theorem tl_nmN (k : Nat) : TL.tl (nmN k) = 78 :: TL.numL k := by
  unfold nmN
  rw [TL.tl_append, TL.tl_num]; rfl
theorem nmN_inj {i j : Nat} (h : nmN i = nmN j) : i = j := by
  have q := congrArg TL.tl h
  rw [tl_nmN, tl_nmN] at q
  exact TL.numL_inj (List.cons.inj q).2
theorem nmN_len {k : Nat} (h : k < 10 ^ 6) : (nmN k).length ≤ 7 := by
  rw [len_tl, tl_nmN, List.length_cons]
  have := TL.numL_len (by decide : 0 < 6) h
  omega
def frB (xs : List Str) (k : Nat) : List Nat := (List.range k).filter fun i => !decide (nmN i ∈ xs)
def bdB (xs : List Str) (k : Nat) : List Nat := (List.range k).filter fun i => decide (nmN i ∈ xs)
theorem frB_yes {xs : List Str} {k : Nat} (h : (!decide (nmN k ∈ xs)) = true) : frB xs (k + 1) = frB xs k ++ [k] := by
  unfold frB; rw [List.range_succ, List.filter_append, List.filter_cons, if_pos h]; rfl
theorem frB_no {xs : List Str} {k : Nat} (h : (!decide (nmN k ∈ xs)) = false) : frB xs (k + 1) = frB xs k := by
  unfold frB; rw [List.range_succ, List.filter_append, List.filter_cons, if_neg (by rw [h]; decide)]; simp
theorem fr_bd (xs : List Str) : ∀ k, (frB xs k).length + (bdB xs k).length = k
  | 0 => rfl
  | k + 1 => by
    have ih := fr_bd xs k
    unfold frB bdB at ih ⊢
    rw [List.range_succ, List.filter_append, List.filter_append, List.length_append, List.length_append]
    by_cases h : nmN k ∈ xs
    · simp only [List.filter_cons, List.filter_nil, decide_eq_true h, Bool.not_true, Bool.false_eq_true, if_false, if_true, List.length_nil, List.length_singleton]; omega
    · simp only [List.filter_cons, List.filter_nil, decide_eq_false h, Bool.not_false, Bool.false_eq_true, if_false, if_true, List.length_nil, List.length_singleton]; omega
theorem sub_len : ∀ {l xs : List Str}, l.Nodup → (∀ x ∈ l, x ∈ xs) → l.length ≤ xs.length
  | [], _, _, _ => Nat.zero_le _
  | a :: l, xs, nd, h => by
    have ha := h a List.mem_cons_self
    have ih := sub_len (l := l) (xs := xs.erase a) (List.nodup_cons.mp nd).2 fun x hx => by
      have ne : x ≠ a := fun e => (List.nodup_cons.mp nd).1 (e ▸ hx)
      exact (List.mem_erase_of_ne ne).mpr (h x (List.mem_cons_of_mem _ hx))
    rw [List.length_erase_of_mem ha] at ih
    have : 0 < xs.length := List.length_pos_of_mem ha
    rw [List.length_cons]; omega
theorem nd_map : ∀ {l : List Nat}, l.Nodup → (l.map nmN).Nodup
  | [], _ => List.nodup_nil
  | a :: l, h => by
    rw [List.map_cons, List.nodup_cons]
    refine ⟨fun q => ?_, nd_map (List.nodup_cons.mp h).2⟩
    obtain ⟨b, hb, e⟩ := List.mem_map.mp q
    exact (List.nodup_cons.mp h).1 (nmN_inj e ▸ hb)
theorem fr_len (xs : List Str) (k : Nat) : k ≤ (frB xs k).length + xs.length := by
  have e := fr_bd xs k
  have q : ((bdB xs k).map nmN).length ≤ xs.length := sub_len (nd_map (List.nodup_range.sublist List.filter_sublist)) fun x hx => by
    obtain ⟨i, hi, rfl⟩ := List.mem_map.mp hx
    exact of_decide_eq_true (List.mem_filter.mp hi).2
  rw [List.length_map] at q
  omega
def frL (xs : List Str) (m : Nat) : List Str := ((frB xs (xs.length + m)).take m).map nmN
theorem frB_pre (xs : List Str) {j k : Nat} (h : j ≤ k) : ∃ r, frB xs k = frB xs j ++ r := by
  obtain ⟨d, rfl⟩ := Nat.exists_eq_add_of_le h
  refine ⟨((List.range d).map (j + ·)).filter fun i => !decide (nmN i ∈ xs), ?_⟩
  unfold frB
  rw [List.range_add, List.filter_append]
theorem fr_end {xs : List Str} {k m : Nat} (hk : k ≤ xs.length + m) (hm : (frB xs k).length = m) : (frB xs k).map nmN = frL xs m := by
  obtain ⟨r, e⟩ := frB_pre xs hk
  unfold frL
  rw [e, List.take_left' hm]
theorem fr_lenL (xs : List Str) (m : Nat) : (frL xs m).length = m := by
  unfold frL
  have := fr_len xs (xs.length + m)
  rw [List.length_map, List.length_take]; omega
theorem fr_mem {xs : List Str} {m : Nat} {x : Str} (h : x ∈ frL xs m) : ∃ i, i < xs.length + m ∧ x = nmN i := by
  unfold frL at h
  obtain ⟨i, hi, rfl⟩ := List.mem_map.mp h
  have h2 := (List.mem_filter.mp (List.mem_of_mem_take hi)).1
  exact ⟨i, List.mem_range.mp h2, rfl⟩
theorem empty_add (x : Str) : Str.empty ++ x = x := by
  apply ext_tl
  rw [TL.tl_append]; rfl
abbrev s_fresh_names : Stmt := top 8
abbrev N_fresh_names : List Str := ["names", "many", "found", "number", "name"]
abbrev P_fresh_names : List Str := ["names", "many"]
theorem sc_fresh_names : FnScope N_fresh_names P_fresh_names (defScope s_fresh_names) := ⟨rfl, rfl, rfl, by decide +kernel, rfl, by decide +kernel, by decide +kernel⟩
def pre_fresh_names : List D → Prop := fun ds => ∃ (xs : List Str) (m : Nat), ds = [.tup (xs.map .str), .int ((m : Nat) : Int)] ∧ xs.length ≤ 1000 ∧ m ≤ 1000
def post_fresh_names : List D → D → Prop := fun ds d => ∀ (xs : List Str) (m : Nat), ds = [.tup (xs.map .str), .int ((m : Nat) : Int)] → d = .tup ((frL xs m).map .str)
set_option maxHeartbeats 4000000 in
theorem df_fresh_names {P : Program} {w : World} {K : PySem.W.Frag} {mg : Str → Option Value} {base : Heap} {f : Addr} {fd : FuncData} (F : FunD K "fresh_names" "fresh_names" (defArgs s_fresh_names) (defBody s_fresh_names) (defScope s_fresh_names) [] [] f fd) (hm : mg "fresh_names" = some (.ref f)) (n_len : mg "len" = none) (n_tuple : mg "tuple" = none) :
    Df P w K mg base "fresh_names" 1 P_fresh_names 2 pre_fresh_names post_fresh_names := by
  refine df_mk F hm sc_fresh_names (fun _ _ _ _ _ _ us hl => match us, hl with | [_, _], _ => rfl) fun cdv A outer s H E hr ds hl hp => ⟨_,
    (pss_cons (ps_set (i := 2) sc_fresh_names.nd rfl (by first | exact Or.inl rfl | exact Or.inr rfl) (pe_lst pa_nil))
    (pss_cons (ps_set (i := 3) sc_fresh_names.nd rfl (by first | exact Or.inl rfl | exact Or.inr rfl) pe_int)
    (pss_cons (ps_while PassesOwn.never (pt_cmpR op_lt (pe_callB (call_lenK K rfl) (by rfl) n_len PySem.boot_len (pa_cons (pv 2) pa_nil)) (pv 1) (nomark _)) (pss_cons (ps_set (i := 4) sc_fresh_names.nd rfl (by first | exact Or.inl rfl | exact Or.inr rfl) (pe_joinedZ (.cons pe_str (.cons (pe_fmt (pv 3)) .nil))))
    (pss_cons (ps_if (pt_cmpR (op_niK K rfl) (pv 4) (pv 0) rfl) (pss_one (ps_expr (pe_bmK K rfl PySem.F.plainAttrs_list PySem.F.slot_list_append PySem.F.type_list_append mt_append (pv 2) (pa_cons (pv 4) pa_nil)))) pss_nil)
    (pss_one (ps_aug (i := 3) sc_fresh_names.nd rfl (by first | exact Or.inl rfl | exact Or.inr rfl) pe_int ip_add)))))
    (pss_one (ps_ret (pe_callTy (call_tupK K rfl) (by rfl) n_tuple (by decide +kernel) (pa_cons (pv 2) pa_nil))))))), ?_⟩
  obtain ⟨a0, a1, rfl⟩ : ∃ a0 a1, ds = [a0, a1] := match ds, hl with | [_, _], _ => ⟨_, _, rfl⟩
  obtain ⟨xs, m, e, hx, hm2⟩ := hp
  cases e
  refine sw_seq (sw_asgN ?_)
  walk_at "e"
  refine sw_seq (sw_asg ?_)
  walk_at "e"
  refine sw_seq (sw_while (fun q γ => ∃ k nmv, q = xs.length + m - k ∧ k ≤ xs.length + m ∧ (frB xs k).length ≤ m ∧ γ = [some (.sh (.tup (xs.map .str))), some (.sh (.int ((m : Nat) : Int))), some (.ow (((frB xs k).map nmN).map .str)), some (.sh (.int ((k : Nat) : Int))), nmv]) (xs.length + m) ⟨0, none, rfl, Nat.zero_le _, Nat.zero_le _, rfl⟩ ?_)
  rintro q γ ⟨k, nmv, rfl, hk, hl1, rfl⟩
  walk_at "e"
  refine ⟨fun h => ?_, fun h => ?_⟩
  · have h1 : (frB xs k).length < m := by simp at h; exact h
    have hk2 : k < xs.length + m := by have := fr_len xs k; omega
    refine sw_seq (sw_asg ?_)
    walk_at "e"
    refine ew_fmtI ?_
    walk_at "e"
    have hn : Str.empty ++ Str.ofString "N" ++ Str.ofString (toString ((k : Nat) : Int)) = nmN k := by rw [empty_add]; rfl
    refine ⟨by omega, _, rfl, ?_⟩
    rw [hn]
    have hn7 := nmN_len (k := k) (by omega)
    walk_at "e"
    refine sw_seq (sw_if ?_)
    walk_at "e"
    refine ⟨fun h2 => ?_, fun h2 => ?_⟩
    · refine sw_app rfl (by rw [List.length_map, List.length_map]; show _ < (1000000 : Nat); omega) ?_
      walk_at "e"
      refine sw_augI rfl ?_
      walk_at "e"
      refine ⟨xs.length + m - (k + 1), by omega, k + 1, some (.sh (.str (nmN k))), rfl, by omega, ?_, ?_⟩
      · rw [frB_yes h2, List.length_append]; simp; omega
      · rw [frB_yes h2, List.map_append, List.map_append]; rfl
    · refine sw_next ?_
      refine sw_augI rfl ?_
      walk_at "e"
      refine ⟨xs.length + m - (k + 1), by omega, k + 1, some (.sh (.str (nmN k))), rfl, by omega, ?_, ?_⟩
      · rw [frB_no h2]; exact hl1
      · rw [frB_no h2]; rfl
  · have h1 : (frB xs k).length = m := by simp at h; omega
    refine sw_frz 2 rfl ?_
    refine sw_ret ?_
    walk_at "e"
    intro xs' m' e
    have e1 : xs.map D.str = xs'.map D.str := by injection e with a b; injection a
    have e2 : m = m' := by injection e with a b; injection b with b1; injection b1 with b2; exact Int.ofNat.inj b2
    have e3 : xs = xs' := (List.map_inj_right (fun a b h => D.str.inj h)).mp e1
    subst e2 e3
    rw [fr_end hk h1]

/-! ### the law's own helpers -/
def okD : Nat → D → Prop
  | 0, .tup _ => False
  | 0, .lst _ => False
  | n + 1, .tup ds => ds.length ≤ 100000 ∧ ∀ x ∈ ds, okD n x
  | n + 1, .lst ds => ds.length ≤ 100000 ∧ ∀ x ∈ ds, okD n x
  | _, .scr _ => False
  | _, .ty _ => False
  | _, _ => True
theorem ew_isN0 {K : PySem.W.Frag} {γ : Gam} {Φ : D → Prop} {te : TE} (h : EW K te γ fun d => d ≠ .non ∧ Φ (.bl false)) : EW K (tIsN te) γ Φ := ew_isN (h.mono fun d ⟨e, p⟩ => ⟨false, ⟨fun z => absurd z e, fun z => by cases z⟩, p⟩)
theorem ew_isN1 {K : PySem.W.Frag} {γ : Gam} {Φ : D → Prop} {te : TE} (h : EW K te γ fun d => d = .non ∧ Φ (.bl true)) : EW K (tIsN te) γ Φ := ew_isN (h.mono fun d ⟨e, p⟩ => ⟨true, ⟨fun _ => rfl, fun _ => e⟩, p⟩)
theorem sw_ifA {K : PySem.W.Frag} {γ : Gam} {t : TT} {ts tz : TS} {Φ : Out} (h : TW K t γ fun _ => True) (h1 : SW K ts γ Φ) (h2 : SW K tz γ Φ) : SW K (tIfS t ts tz) γ Φ := sw_if (h.mono fun _ _ => ⟨fun _ => h1, fun _ => h2⟩)
abbrev s__law_cell : Stmt := top 10
abbrev N__law_cell : List Str := ["_law_script", "_law_k"]
abbrev P__law_cell : List Str := ["_law_script", "_law_k"]
theorem sc__law_cell : FnScope N__law_cell P__law_cell (defScope s__law_cell) := ⟨rfl, rfl, rfl, by decide +kernel, rfl, by decide +kernel, by decide +kernel⟩
def pre__law_cell : List D → Prop := fun ds => ∃ (ns : List Int) (k : Nat), ds = [.scr ns, .int (k : Int)]
def post__law_cell : List D → D → Prop := fun ds d => ∃ n : Int, d = .int n
set_option maxHeartbeats 4000000 in
theorem df__law_cell {P : Program} {w : World} {K : PySem.W.Frag} {mg : Str → Option Value} {base : Heap} {f : Addr} {fd : FuncData} (F : FunD K "_law_cell" "_law_cell" (defArgs s__law_cell) (defBody s__law_cell) (defScope s__law_cell) [] [] f fd) (hm : mg "_law_cell" = some (.ref f)) (n_len : mg "len" = none) :
    Df P w K mg base "_law_cell" 1 P__law_cell 2 pre__law_cell post__law_cell := by
  refine df_mk F hm sc__law_cell (fun _ _ _ _ _ _ us hl => match us, hl with | [_, _], _ => rfl) fun cdv A outer s H E hr ds hl hp => ⟨_,
    (pss_cons (ps_if (pt_cmpR op_lt (pv 1) (pe_callB (call_lenK K rfl) (by rfl) n_len PySem.boot_len (pa_cons (pv 0) pa_nil)) (nomark _)) (pss_one (ps_ret (pe_ix (ix_listK K rfl) (pv 0) (pv 1) (fun _ _ => rfl)))) pss_nil)
    (pss_one (ps_ret pe_int))), ?_⟩
  obtain ⟨a0, a1, rfl⟩ : ∃ a0 a1, ds = [a0, a1] := match ds, hl with | [_, _], _ => ⟨_, _, rfl⟩
  obtain ⟨ns, k, e⟩ := hp
  cases e
  refine sw_seq (sw_if ?_)
  walk_at "e"
  refine ⟨fun h => ?_, fun h => ?_⟩
  · have h1 : k < ns.length := by simp at h; exact h
    have h2 : atI ns (k : Int) = some ns[k] := atI_nat (List.getElem?_eq_getElem h1)
    refine sw_ret ?_
    walk_at "e"
    exact ⟨_, rfl⟩
  · refine sw_next ?_
    refine sw_ret ?_
    walk_at "e"
    exact ⟨_, rfl⟩
abbrev s__law_draws : Stmt := top 11
abbrev N__law_draws : List Str := ["_law_cell_here", "_law_many", "_law_left", "_law_digits", "_law_mixed", "_law_draws_here", "_law_k"]
abbrev P__law_draws : List Str := ["_law_cell_here", "_law_many"]
theorem sc__law_draws : FnScope N__law_draws P__law_draws (defScope s__law_draws) := ⟨rfl, rfl, rfl, by decide +kernel, rfl, by decide +kernel, by decide +kernel⟩
def pre__law_draws : List D → Prop := fun ds => ∃ (c : Int) (m : Nat), ds = [.int c, .int (m : Int)] ∧ m ≤ 1000
def post__law_draws : List D → D → Prop := fun ds d => ∀ (c : Int) (m : Nat), ds = [.int c, .int (m : Int)] → ∃ ns : List Int, d = .lst (ns.map .int) ∧ ns.length = m ∧ ∀ n ∈ ns, 0 ≤ n ∧ n < 1000
set_option maxHeartbeats 4000000 in
theorem df__law_draws {P : Program} {w : World} {K : PySem.W.Frag} {mg : Str → Option Value} {base : Heap} {f : Addr} {fd : FuncData} (F : FunD K "_law_draws" "_law_draws" (defArgs s__law_draws) (defBody s__law_draws) (defScope s__law_draws) [] [] f fd) (hm : mg "_law_draws" = some (.ref f)) (n_abs : mg "abs" = none) (n_int : mg "int" = none) (n_range : mg "range" = none) :
    Df P w K mg base "_law_draws" 1 P__law_draws 2 pre__law_draws post__law_draws := by
  refine df_mk F hm sc__law_draws (fun _ _ _ _ _ _ us hl => match us, hl with | [_, _], _ => rfl) fun cdv A outer s H E hr ds hl hp => ⟨_,
    (pss_cons (ps_set (i := 2) sc__law_draws.nd rfl (by first | exact Or.inl rfl | exact Or.inr rfl) (pe_callB call_abs (by rfl) n_abs (by decide +kernel) (pa_cons (pv 0) pa_nil)))
    (pss_cons (ps_set (i := 3) sc__law_draws.nd rfl (by first | exact Or.inl rfl | exact Or.inr rfl) (pe_cmpR op_ge (pv 2) (pe_op op_pow pe_int pe_int) (nomark _)))
    (pss_cons (ps_set (i := 4) sc__law_draws.nd rfl (by first | exact Or.inl rfl | exact Or.inr rfl) (pe_op op_mod (pe_callTy call_int1 (by rfl) n_int (by decide +kernel) (pa_cons (pv 2) pa_nil)) pe_int))
    (pss_cons (ps_set (i := 5) sc__law_draws.nd rfl (by first | exact Or.inl rfl | exact Or.inr rfl) (pe_lst pa_nil))
    (pss_cons (ps_for PassesOwn.never rfl (pi_range1 (by rfl) n_range (pa_cons (pv 1) pa_nil)) (pg_name (i := 6) sc__law_draws.nd rfl (by first | exact Or.inl rfl | exact Or.inr rfl)) (pss_cons (ps_set (i := 4) sc__law_draws.nd rfl (by first | exact Or.inl rfl | exact Or.inr rfl) (pe_op op_mod (pe_callTy call_int1 (by rfl) n_int (by decide +kernel) (pa_cons (pe_op op_add (pe_op op_add (pe_op op_mul (pv 4) pe_int) (pe_op op_mul pe_int (pv 6))) pe_int) pa_nil)) pe_int))
    (pss_one (ps_if (PW.pt (pw_and (pt_val (pv 3)) (pw_and1 (pt_cmpR op_gt (pv 2) pe_int (nomark _))))) (pss_cons (ps_expr (pe_bmK K rfl PySem.F.plainAttrs_list PySem.F.slot_list_append PySem.F.type_list_append mt_append (pv 5) (pa_cons (pe_op op_mod (pe_callTy call_int1 (by rfl) n_int (by decide +kernel) (pa_cons (pv 2) pa_nil)) pe_int) pa_nil)))
    (pss_one (ps_set (i := 2) sc__law_draws.nd rfl (by first | exact Or.inl rfl | exact Or.inr rfl) (pe_op op_fdiv (pv 2) pe_int)))) (pss_one (ps_expr (pe_bmK K rfl PySem.F.plainAttrs_list PySem.F.slot_list_append PySem.F.type_list_append mt_append (pv 5) (pa_cons (pe_op op_mod (pe_op op_mod (pe_callTy call_int1 (by rfl) n_int (by decide +kernel) (pa_cons (pe_op op_add (pe_op op_add (pe_op op_mul (pv 4) (pv 4)) (pe_op op_mul pe_int (pv 4))) (pv 6)) pa_nil)) pe_int) pe_int) pa_nil))))))))
    (pss_one (ps_ret (pv 5)))))))), ?_⟩
  obtain ⟨a0, a1, rfl⟩ : ∃ a0 a1, ds = [a0, a1] := match ds, hl with | [_, _], _ => ⟨_, _, rfl⟩
  obtain ⟨c, m, e, hm2⟩ := hp
  cases e
  refine sw_seq (sw_asg ?_)
  walk_at "e"
  refine sw_seq (sw_asg ?_)
  walk_at "e"
  refine sw_seq (sw_asg ?_)
  walk_at "e"
  refine sw_seq (sw_asgN ?_)
  walk_at "e"
  refine sw_seq (sw_for (js := [6]) ?_)
  walk_at "e"
  refine ⟨by omega, by omega, fun i γ => ∃ (L x : Int) (b : Bool) (ns : List Int) (kv : Option Slot), 0 ≤ x ∧ x < 1000003 ∧ ns.length = i ∧ (∀ n ∈ ns, 0 ≤ n ∧ n < 1000) ∧ γ = [some (.sh (.int c)), some (.sh (.int (m : Int))), some (.sh (.int L)), some (.sh (.bl b)), some (.sh (.int x)), some (.ow (ns.map .int)), kv],
    ⟨_, _, _, [], none, Int.emod_nonneg _ (by decide), Int.emod_lt_of_pos _ (by decide), rfl, (fun _ h => by cases h), rfl⟩, ?_, ?_⟩
  · rintro i d γ hd ⟨L, x, b, ns, kv, hx0, hx1, hl1, hns, rfl⟩
    obtain ⟨hi, rfl⟩ := rng_get hd
    walk_at "e"
    refine sw_seq (sw_asg ?_)
    walk_at "e"
    have ap : ∀ y : Int, (∀ n ∈ ns ++ [y % 1000], 0 ≤ n ∧ n < 1000) := fun y n hn => by
      rcases List.mem_append.mp hn with h | h
      · exact hns n h
      · rw [List.mem_singleton.mp h]
        exact ⟨Int.emod_nonneg _ (by decide), Int.emod_lt_of_pos _ (by decide)⟩
    refine sw_ifA ?_ ?_ ?_
    · walk_at "e"
      refine ⟨fun h => ?_, fun h => trivial⟩
      walk_at "e"
      trivial
    · refine sw_seq (sw_app rfl (by rw [List.length_map, hl1]; show _ < (1000000 : Nat); omega) ?_)
      walk_at "e"
      refine sw_asg ?_
      walk_at "e"
      refine ⟨L / 1000, (x * 48271 + 13 * (0 + (i : Int)) + 11) % 1000003, b, ns ++ [L % 1000], some (.sh (.int (0 + (i : Int)))), Int.emod_nonneg _ (by decide), Int.emod_lt_of_pos _ (by decide), by rw [List.length_append, hl1]; rfl, ap _, ?_⟩
      rw [List.map_append]; rfl
    · refine sw_app rfl (by rw [List.length_map, hl1]; show _ < (1000000 : Nat); omega) ?_
      walk_at "e"
      refine ⟨L, (x * 48271 + 13 * (0 + (i : Int)) + 11) % 1000003, b, ns ++ [((((x * 48271 + 13 * (0 + (i : Int)) + 11) % 1000003) * ((x * 48271 + 13 * (0 + (i : Int)) + 11) % 1000003) + 7 * ((x * 48271 + 13 * (0 + (i : Int)) + 11) % 1000003) + (0 + (i : Int))) % 999983) % 1000], some (.sh (.int (0 + (i : Int)))), Int.emod_nonneg _ (by decide), Int.emod_lt_of_pos _ (by decide), by rw [List.length_append, hl1]; rfl, ap _, ?_⟩
      rw [List.map_append]; rfl
  · rintro γ ⟨L, x, b, ns, kv, hx0, hx1, hl1, hns, rfl⟩
    rw [rng_len] at hl1
    refine sw_frz 5 rfl ?_
    refine sw_ret ?_
    walk_at "e"
    intro c' m' e
    have e2 : m = m' := by injection e with a b; injection b with b1; injection b1 with b2; exact Int.ofNat.inj b2
    exact ⟨ns, rfl, by rw [hl1, ← e2]; rfl, hns⟩
abbrev s__law_same : Stmt := top 12
abbrev N__law_same : List Str := ["_law_actual", "_law_due", "_law_k", "_law_key"]
abbrev P__law_same : List Str := ["_law_actual", "_law_due"]
theorem sc__law_same : FnScope N__law_same P__law_same (defScope s__law_same) := ⟨rfl, rfl, rfl, by decide +kernel, rfl, by decide +kernel, by decide +kernel⟩
def preR__law_same : Nat → List D → Prop
  | 0, _ => False
  | n + 1, ds => ∃ d, ds = [d, d] ∧ okD n d
abbrev pre__law_same := preR__law_same 5
def post__law_same : List D → D → Prop := fun ds d => d = .bl true
set_option maxHeartbeats 4000000 in
theorem df__law_same_step {P : Program} {w : World} {K : PySem.W.Frag} {mg : Str → Option Value} {base : Heap} {f : Addr} {fd : FuncData} (F : FunD K "_law_same" "_law_same" (defArgs s__law_same) (defBody s__law_same) (defScope s__law_same) [] [] f fd) (hm : mg "_law_same" = some (.ref f)) (n_bool : mg "bool" = none) (n_dict : mg "dict" = none) (n_int : mg "int" = none) (n_isinstance : mg "isinstance" = none) (n_len : mg "len" = none) (n_list : mg "list" = none) (n_range : mg "range" = none) (n_str : mg "str" = none) (n_tuple : mg "tuple" = none) {kL n : Nat} (g__law_same : Df P w K mg base "_law_same" kL P__law_same 2 (preR__law_same n) post__law_same) :
    Df P w K mg base "_law_same" (kL + 1) P__law_same 2 (preR__law_same (n + 1)) post__law_same := by
  refine df_mk F hm sc__law_same (fun _ _ _ _ _ _ us hl => match us, hl with | [_, _], _ => rfl) fun cdv A outer s H E hr ds hl hp => ⟨_,
    (pss_cons (ps_if (pt_cmp (pc_isN (pv 1)) rfl) (pss_one (ps_ret (pe_cmp (pc_isN (pv 0)) rfl))) pss_nil)
    (pss_cons (ps_if (PW.pt (pw_or (pt_val (pe_callB (call_isiK K rfl) (by rfl) n_isinstance (by decide +kernel) (pa_cons (pv 1) (pa_cons (pe_bltn (v := .ty "tuple") (by rfl) n_tuple (by decide +kernel) rfl) pa_nil)))) (pw_or1 (pt_val (pe_callB (call_isiK K rfl) (by rfl) n_isinstance (by decide +kernel) (pa_cons (pv 1) (pa_cons (pe_bltn (v := .ty "list") (by rfl) n_list (by decide +kernel) rfl) pa_nil))))))) (pss_cons (ps_if (PW.pt (pw_or (PW.pt (pw_and (pt_val (pe_callB (call_isiK K rfl) (by rfl) n_isinstance (by decide +kernel) (pa_cons (pv 1) (pa_cons (pe_bltn (v := .ty "tuple") (by rfl) n_tuple (by decide +kernel) rfl) pa_nil)))) (pw_and1 (pt_not (pt_val (pe_callB (call_isiK K rfl) (by rfl) n_isinstance (by decide +kernel) (pa_cons (pv 0) (pa_cons (pe_bltn (v := .ty "tuple") (by rfl) n_tuple (by decide +kernel) rfl) pa_nil)))))))) (pw_or1 (PW.pt (pw_and (pt_val (pe_callB (call_isiK K rfl) (by rfl) n_isinstance (by decide +kernel) (pa_cons (pv 1) (pa_cons (pe_bltn (v := .ty "list") (by rfl) n_list (by decide +kernel) rfl) pa_nil)))) (pw_and1 (pt_not (pt_val (pe_callB (call_isiK K rfl) (by rfl) n_isinstance (by decide +kernel) (pa_cons (pv 0) (pa_cons (pe_bltn (v := .ty "list") (by rfl) n_list (by decide +kernel) rfl) pa_nil))))))))))) (pss_one (ps_ret pe_bl)) pss_nil)
    (pss_cons (ps_if (pt_cmpR op_ne (pe_callB (call_lenK K rfl) (by rfl) n_len PySem.boot_len (pa_cons (pv 0) pa_nil)) (pe_callB (call_lenK K rfl) (by rfl) n_len PySem.boot_len (pa_cons (pv 1) pa_nil)) (nomark _)) (pss_one (ps_ret pe_bl)) pss_nil)
    (pss_cons (ps_for PassesOwn.never rfl (pi_range1 (by rfl) n_range (pa_cons (pe_callB (call_lenK K rfl) (by rfl) n_len PySem.boot_len (pa_cons (pv 1) pa_nil)) pa_nil)) (pg_name (i := 2) sc__law_same.nd rfl (by first | exact Or.inl rfl | exact Or.inr rfl)) (pss_one (ps_if (pt_not (pt_val (pe_dfK K rfl g__law_same hr (Nat.le_refl _) (by rfl) (pa_cons (pe_ix (ix_seqK K rfl) (pv 0) (pv 2) (fun _ _ => rfl)) (pa_cons (pe_ix (ix_seqK K rfl) (pv 1) (pv 2) (fun _ _ => rfl)) pa_nil))))) (pss_one (ps_ret pe_bl)) pss_nil)))
    (pss_one (ps_ret pe_bl))))) pss_nil)
    (pss_cons (ps_if (pt_val (pe_callB (call_isiK K rfl) (by rfl) n_isinstance (by decide +kernel) (pa_cons (pv 1) (pa_cons (pe_bltn (v := .ty "dict") (by rfl) n_dict (by decide +kernel) rfl) pa_nil)))) pss_never pss_nil)
    (pss_cons (ps_if (pt_val (pe_callB (call_isiK K rfl) (by rfl) n_isinstance (by decide +kernel) (pa_cons (pv 1) (pa_cons (pe_bltn (v := .ty "bool") (by rfl) n_bool (by decide +kernel) rfl) pa_nil)))) (pss_one (ps_ret (pe_and (pe_callB (call_isiK K rfl) (by rfl) n_isinstance (by decide +kernel) (pa_cons (pv 0) (pa_cons (pe_bltn (v := .ty "bool") (by rfl) n_bool (by decide +kernel) rfl) pa_nil))) (pe_one (pe_cmpR op_eq (pv 0) (pv 1) (nomark _)))))) pss_nil)
    (pss_cons (ps_if (pt_val (pe_callB (call_isiK K rfl) (by rfl) n_isinstance (by decide +kernel) (pa_cons (pv 1) (pa_cons (pe_bltn (v := .ty "int") (by rfl) n_int (by decide +kernel) rfl) pa_nil)))) (pss_one (ps_ret (pe_and (pe_callB (call_isiK K rfl) (by rfl) n_isinstance (by decide +kernel) (pa_cons (pv 0) (pa_cons (pe_bltn (v := .ty "int") (by rfl) n_int (by decide +kernel) rfl) pa_nil))) (pe_and (pe_not (pe_callB (call_isiK K rfl) (by rfl) n_isinstance (by decide +kernel) (pa_cons (pv 0) (pa_cons (pe_bltn (v := .ty "bool") (by rfl) n_bool (by decide +kernel) rfl) pa_nil)))) (pe_one (pe_cmpR op_eq (pv 0) (pv 1) (nomark _))))))) pss_nil)
    (pss_one (ps_ret (pe_and (pe_callB (call_isiK K rfl) (by rfl) n_isinstance (by decide +kernel) (pa_cons (pv 0) (pa_cons (pe_bltn (v := .ty "str") (by rfl) n_str (by decide +kernel) rfl) pa_nil))) (pe_one (pe_cmpR op_eq (pv 0) (pv 1) (nomark _))))))))))), ?_⟩
  obtain ⟨a0, a1, rfl⟩ : ∃ a0 a1, ds = [a0, a1] := match ds, hl with | [_, _], _ => ⟨_, _, rfl⟩
  obtain ⟨x, e, hx⟩ := hp
  cases e
  cases a0 with
  | scr ns => cases n <;> exact hx.elim
  | ty ns => cases n <;> exact hx.elim
  | non =>
    refine sw_seq (sw_if (tw_B (ew_isN1 ?_)))
    walk_at "e"
    refine ⟨rfl, _, rfl, ?_⟩
    walk_at "T"
    refine sw_ret (ew_isN1 ?_)
    walk_at "e"
    exact ⟨rfl, rfl⟩
  | bl b =>
    refine sw_seq (sw_if (tw_B (ew_isN0 ?_)))
    walk_at "e"
    refine ⟨(fun z => by cases z), _, rfl, ?_⟩
    walk_at "F"
    refine sw_next ?_
    refine sw_seq (sw_if ?_)
    walk_at "e"
    walk_at "F"
    walk_at "e"
    walk_at "F"
    refine sw_next ?_
    refine sw_seq (sw_if ?_)
    walk_at "e"
    walk_at "F"
    refine sw_next ?_
    refine sw_seq (sw_if ?_)
    walk_at "e"
    walk_at "T"
    refine sw_ret ?_
    walk_at "e"
    walk_at "T"
    walk_at "e"
    exact congrArg D.bl (decide_eq_true rfl)
  | int i =>
    refine sw_seq (sw_if (tw_B (ew_isN0 ?_)))
    walk_at "e"
    refine ⟨(fun z => by cases z), _, rfl, ?_⟩
    walk_at "F"
    refine sw_next ?_
    refine sw_seq (sw_if ?_)
    walk_at "e"
    walk_at "F"
    walk_at "e"
    walk_at "F"
    refine sw_next ?_
    refine sw_seq (sw_if ?_)
    walk_at "e"
    walk_at "F"
    refine sw_next ?_
    refine sw_seq (sw_if ?_)
    walk_at "e"
    walk_at "F"
    refine sw_next ?_
    refine sw_seq (sw_if ?_)
    walk_at "e"
    walk_at "T"
    refine sw_ret ?_
    walk_at "e"
    walk_at "T"
    walk_at "e"
    walk_at "T"
    walk_at "e"
    exact congrArg D.bl (decide_eq_true rfl)
  | str z =>
    refine sw_seq (sw_if (tw_B (ew_isN0 ?_)))
    walk_at "e"
    refine ⟨(fun z => by cases z), _, rfl, ?_⟩
    walk_at "F"
    refine sw_next ?_
    refine sw_seq (sw_if ?_)
    walk_at "e"
    walk_at "F"
    walk_at "e"
    walk_at "F"
    refine sw_next ?_
    refine sw_seq (sw_if ?_)
    walk_at "e"
    walk_at "F"
    refine sw_next ?_
    refine sw_seq (sw_if ?_)
    walk_at "e"
    walk_at "F"
    refine sw_next ?_
    refine sw_seq (sw_if ?_)
    walk_at "e"
    walk_at "F"
    refine sw_next ?_
    refine sw_ret ?_
    walk_at "e"
    walk_at "T"
    walk_at "e"
    exact congrArg D.bl (decide_eq_true rfl)
  | tup xs =>
    cases n with
    | zero => exact hx.elim
    | succ n =>
      obtain ⟨hl1, hx⟩ := hx
      refine sw_seq (sw_if (tw_B (ew_isN0 ?_)))
      walk_at "e"
      refine ⟨(fun z => by cases z), _, rfl, ?_⟩
      walk_at "F"
      refine sw_next ?_
      refine sw_seq (sw_if ?_)
      walk_at "e"
      walk_at "T"
      walk_at "T"
      refine sw_seq (sw_if ?_)
      walk_at "e"
      walk_at "T"
      walk_at "e"
      walk_at "F"
      walk_at "e"
      walk_at "F"
      walk_at "F"
      refine sw_next ?_
      refine sw_seq (sw_if ?_)
      walk_at "e"
      refine ⟨fun h => absurd h (by simp), fun _ => ?_⟩
      refine sw_next ?_
      refine sw_seq (sw_for (js := [2]) ?_)
      walk_at "e"
      refine ⟨by omega, by omega, (fun i γ => ∃ kv, γ = [some (.sh (.tup xs)), some (.sh (.tup xs)), kv, none]), ⟨none, rfl⟩, ?_, ?_⟩
      · rintro i d γ hd ⟨kv, rfl⟩
        obtain ⟨hi, rfl⟩ := rng_get hd
        have hi2 : i < xs.length := by simpa using hi
        have ha : atI xs (0 + (i : Int)) = some xs[i] := by rw [Int.zero_add]; exact atI_nat (List.getElem?_eq_getElem hi2)
        walk_at "e"
        refine sw_if ?_
        walk_at "e"
        refine call_ok rfl ⟨_, rfl, hx _ (List.getElem_mem hi2)⟩ fun d hd => ?_
        obtain rfl := hd
        walk_at "e"
        walk_at "F"
        exact sw_next ⟨_, rfl⟩
      · rintro γ ⟨kv, rfl⟩
        refine sw_ret ?_
        walk_at "e"
        rfl
  | lst xs =>
    cases n with
    | zero => exact hx.elim
    | succ n =>
      obtain ⟨hl1, hx⟩ := hx
      refine sw_seq (sw_if (tw_B (ew_isN0 ?_)))
      walk_at "e"
      refine ⟨(fun z => by cases z), _, rfl, ?_⟩
      walk_at "F"
      refine sw_next ?_
      refine sw_seq (sw_if ?_)
      walk_at "e"
      walk_at "F"
      walk_at "e"
      walk_at "T"
      refine sw_seq (sw_if ?_)
      walk_at "e"
      walk_at "F"
      walk_at "F"
      walk_at "e"
      walk_at "T"
      walk_at "e"
      walk_at "F"
      refine sw_next ?_
      refine sw_seq (sw_if ?_)
      walk_at "e"
      refine ⟨fun h => absurd h (by simp), fun _ => ?_⟩
      refine sw_next ?_
      refine sw_seq (sw_for (js := [2]) ?_)
      walk_at "e"
      refine ⟨by omega, by omega, (fun i γ => ∃ kv, γ = [some (.sh (.lst xs)), some (.sh (.lst xs)), kv, none]), ⟨none, rfl⟩, ?_, ?_⟩
      · rintro i d γ hd ⟨kv, rfl⟩
        obtain ⟨hi, rfl⟩ := rng_get hd
        have hi2 : i < xs.length := by simpa using hi
        have ha : atI xs (0 + (i : Int)) = some xs[i] := by rw [Int.zero_add]; exact atI_nat (List.getElem?_eq_getElem hi2)
        walk_at "e"
        refine sw_if ?_
        walk_at "e"
        refine call_ok rfl ⟨_, rfl, hx _ (List.getElem_mem hi2)⟩ fun d hd => ?_
        obtain rfl := hd
        walk_at "e"
        walk_at "F"
        exact sw_next ⟨_, rfl⟩
      · rintro γ ⟨kv, rfl⟩
        refine sw_ret ?_
        walk_at "e"
        rfl
theorem df__law_same {P : Program} {w : World} {K : PySem.W.Frag} {mg : Str → Option Value} {base : Heap} {f : Addr} {fd : FuncData} (F : FunD K "_law_same" "_law_same" (defArgs s__law_same) (defBody s__law_same) (defScope s__law_same) [] [] f fd) (hm : mg "_law_same" = some (.ref f)) (n_bool : mg "bool" = none) (n_dict : mg "dict" = none) (n_int : mg "int" = none) (n_isinstance : mg "isinstance" = none) (n_len : mg "len" = none) (n_list : mg "list" = none) (n_range : mg "range" = none) (n_str : mg "str" = none) (n_tuple : mg "tuple" = none) :
    Df P w K mg base "_law_same" 5 P__law_same 2 pre__law_same post__law_same :=
  (df__law_same_step F hm n_bool n_dict n_int n_isinstance n_len n_list n_range n_str n_tuple (df__law_same_step F hm n_bool n_dict n_int n_isinstance n_len n_list n_range n_str n_tuple (df__law_same_step F hm n_bool n_dict n_int n_isinstance n_len n_list n_range n_str n_tuple (df__law_same_step F hm n_bool n_dict n_int n_isinstance n_len n_list n_range n_str n_tuple (df__law_same_step F hm n_bool n_dict n_int n_isinstance n_len n_list n_range n_str n_tuple (df_void F hm (fun _ _ _ _ _ _ us hl => match us, hl with | [_, _], _ => rfl) fun _ h => h))))))

theorem cap_in (c : Nat) : inS ⟨#[c]⟩ "ABCDEFGHIJKLMNOPQRSTUVWXYZ" = capB c := by
  rw [inS_one, show TL.tl ("ABCDEFGHIJKLMNOPQRSTUVWXYZ" : Str) = [65, 66, 67, 68, 69, 70, 71, 72, 73, 74, 75, 76, 77, 78, 79, 80, 81, 82, 83, 84, 85, 86, 87, 88, 89, 90] from rfl]
  unfold capB
  rw [← Bool.decide_and]
  apply decide_eq_decide.mpr
  simp only [List.mem_cons, List.not_mem_nil, or_false]
  omega
theorem low_in (c : Nat) : inS ⟨#[c]⟩ "abcdefghijklmnopqrstuvwxyz" = lowB c := by
  rw [inS_one, show TL.tl ("abcdefghijklmnopqrstuvwxyz" : Str) = [97, 98, 99, 100, 101, 102, 103, 104, 105, 106, 107, 108, 109, 110, 111, 112, 113, 114, 115, 116, 117, 118, 119, 120, 121, 122] from rfl]
  unfold lowB
  rw [← Bool.decide_and]
  apply decide_eq_decide.mpr
  simp only [List.mem_cons, List.not_mem_nil, or_false]
  omega
theorem tail_in (c : Nat) : inS ⟨#[c]⟩ "abcdefghijklmnopqrstuvwxyz0123456789" = tailB c := by
  rw [inS_one, show TL.tl ("abcdefghijklmnopqrstuvwxyz0123456789" : Str) = [97, 98, 99, 100, 101, 102, 103, 104, 105, 106, 107, 108, 109, 110, 111, 112, 113, 114, 115, 116, 117, 118, 119, 120, 121, 122, 48, 49, 50, 51, 52, 53, 54, 55, 56, 57] from rfl]
  unfold tailB lowB
  rw [← Bool.decide_and, ← Bool.decide_and, ← Bool.decide_or]
  apply decide_eq_decide.mpr
  simp only [List.mem_cons, List.not_mem_nil, or_false]
  omega
abbrev s__law_is_name : Stmt := top 13
abbrev N__law_is_name : List Str := ["_law_text", "_law_sign"]
abbrev P__law_is_name : List Str := ["_law_text"]
theorem sc__law_is_name : FnScope N__law_is_name P__law_is_name (defScope s__law_is_name) := ⟨rfl, rfl, rfl, by decide +kernel, rfl, by decide +kernel, by decide +kernel⟩
def pre__law_is_name : List D → Prop := fun ds => ∃ z, ds = [.str z] ∧ z.length ≤ 100
def post__law_is_name : List D → D → Prop := fun ds d => ∀ z, ds = [.str z] → d = .bl (isNameL (TL.tl z))
set_option maxHeartbeats 4000000 in
theorem df__law_is_name {P : Program} {w : World} {K : PySem.W.Frag} {mg : Str → Option Value} {base : Heap} {f : Addr} {fd : FuncData} (F : FunD K "_law_is_name" "_law_is_name" (defArgs s__law_is_name) (defBody s__law_is_name) (defScope s__law_is_name) [] [] f fd) (hm : mg "_law_is_name" = some (.ref f)) (n_len : mg "len" = none) :
    Df P w K mg base "_law_is_name" 1 P__law_is_name 1 pre__law_is_name post__law_is_name := by
  refine df_mk F hm sc__law_is_name (fun _ _ _ _ _ _ us hl => match us, hl with | [_], _ => rfl) fun cdv A outer s H E hr ds hl hp => ⟨_,
    (pss_cons (ps_if (PW.pt (pw_or (pt_cmpR op_lt (pe_callB (call_lenK K rfl) (by rfl) n_len PySem.boot_len (pa_cons (pv 0) pa_nil)) pe_int (nomark _)) (pw_or (pt_cmpR op_gt (pe_callB (call_lenK K rfl) (by rfl) n_len PySem.boot_len (pa_cons (pv 0) pa_nil)) pe_int (nomark _)) (pw_or1 (pt_cmpR op_niSt (pe_ix ix_str (pv 0) pe_int (fun _ _ => rfl)) pe_str rfl))))) (pss_one (ps_ret pe_bl)) pss_nil)
    (pss_cons (ps_for PassesOwn.never rfl (pi_str (pe_slice sl_str (pv 0) (po_some pe_int) po_none)) (pg_name (i := 1) sc__law_is_name.nd rfl (by first | exact Or.inl rfl | exact Or.inr rfl)) (pss_one (ps_if (pt_cmpR op_niSt (pv 1) pe_str rfl) (pss_one (ps_ret pe_bl)) pss_nil)))
    (pss_one (ps_ret pe_bl)))), ?_⟩
  obtain ⟨a0, rfl⟩ : ∃ a0, ds = [a0] := match ds, hl with | [_], _ => ⟨_, rfl⟩
  obtain ⟨z, e, hz⟩ := hp
  cases e
  have lz := len_tl z
  have no : (¬ (1 ≤ (TL.tl z).length ∧ (TL.tl z).length ≤ 4)) → isNameL (TL.tl z) = false := fun h => by
    match e : TL.tl z, h with
    | [], _ => rfl
    | c :: r, h =>
      rw [List.length_cons] at h
      rw [isName_cons, decide_eq_false (by omega)]; rfl
  have fal : isNameL (TL.tl z) = false → SW K (tRet (tC (V.bl false))) (gam0 N__law_is_name.length [D.str z]) { nx := fun _ => False, rt := post__law_is_name [D.str z] } := fun h => by
    refine sw_ret ?_
    walk_at "e"
    intro z' e; cases e; rw [h]
  refine sw_seq (sw_if ?_)
  walk_at "e"
  refine ⟨fun h => ?_, fun h => ?_⟩
  · walk_at "T"
    exact (fal (no (by simp at h; omega))).mono (fun _ z => z.elim) (fun _ z => z) (fun _ z => z) fun _ z => z
  · walk_at "e"
    refine ⟨fun h2 => ?_, fun h2 => ?_⟩
    · walk_at "T"
      exact (fal (no (by simp at h2; omega))).mono (fun _ z => z.elim) (fun _ z => z) (fun _ z => z) fun _ z => z
    · have h3 : 1 ≤ (TL.tl z).length ∧ (TL.tl z).length ≤ 4 := by simp at h h2; omega
      obtain ⟨c, r, ecr⟩ : ∃ c r, TL.tl z = c :: r := by
        match e : TL.tl z, h3 with
        | c :: r, _ => exact ⟨c, r, rfl⟩
      have h4 : r.length ≤ 3 := by rw [ecr, List.length_cons] at h3; omega
      have i0 : atI z.cps.toList 0 = some c := atI_nat (j := 0) (by show (TL.tl z)[0]? = some c; rw [ecr]; rfl)
      have nm : isNameL (TL.tl z) = (capB c && r.all tailB) := by
        rw [ecr, isName_cons, decide_eq_true h4]; rfl
      walk_at "e"
      rw [show inS ⟨#[c]⟩ (Str.ofString "ABCDEFGHIJKLMNOPQRSTUVWXYZ") = capB c from cap_in c]
      refine ⟨fun h5 => ?_, fun h5 => ?_⟩
      · have h6 : capB c = false := by revert h5; cases capB c <;> simp
        exact (fal (by rw [nm, h6]; rfl)).mono (fun _ z => z.elim) (fun _ z => z) (fun _ z => z) fun _ z => z
      · have h6 : capB c = true := by revert h5; cases capB c <;> simp
        refine sw_next ?_
        refine sw_seq (sw_for (js := [1]) ?_)
        walk_at "e"
        have er : TL.tl (cutS z (some ((1 : Nat) : Int)) none) = r := by rw [tl_cut_from, ecr]; rfl
        refine ⟨fun i γ => (r.take i).all tailB = true ∧ ∃ kv, γ = [some (.sh (.str z)), kv], ⟨rfl, none, rfl⟩, ?_, ?_⟩
        · rintro i d γ hd ⟨ha, kv, rfl⟩
          obtain ⟨x, hx, rfl⟩ := signs_get hd
          rw [show TL.tl (cutS z (some 1) none) = r from er] at hx
          walk_at "e"
          refine sw_if ?_
          walk_at "e"
          rw [show inS ⟨#[x]⟩ (Str.ofString "abcdefghijklmnopqrstuvwxyz0123456789") = tailB x from tail_in x]
          refine ⟨fun h7 => ?_, fun h7 => ?_⟩
          · have h8 : tailB x = false := by revert h7; cases tailB x <;> simp
            refine sw_ret ?_
            walk_at "e"
            intro z' e; cases e
            rw [nm, h6, List.all_eq_false.mpr ⟨x, List.mem_of_getElem? hx, by rw [h8]; decide⟩]; rfl
          · have h8 : tailB x = true := by revert h7; cases tailB x <;> simp
            refine sw_next ⟨?_, _, rfl⟩
            rw [List.take_add_one, hx, List.all_append, ha]; simp [h8]
        · rintro γ ⟨ha, kv, rfl⟩
          rw [signs_len, show TL.tl (cutS z (some 1) none) = r from er, List.take_length] at ha
          refine sw_ret ?_
          walk_at "e"
          intro z' e; cases e
          rw [nm, h6, ha]; rfl

theorem join_len (ys : List Str) (L : Nat) (h : ∀ y ∈ ys, y.length ≤ L) : (Txt.join Str.empty ys).length ≤ ys.length * L := by
  rw [len_tl, TL.join_eq, TL.tl_join]
  have key : ∀ zs : List (List Nat), (∀ z ∈ zs, z.length ≤ L) → (TL.joinL [] zs).length ≤ zs.length * L := by
    intro zs
    induction zs with
    | nil => intro _; exact Nat.zero_le _
    | cons z zs ih =>
      intro hz
      have h1 := hz z List.mem_cons_self
      have h2 := ih fun w hw => hz w (List.mem_cons_of_mem _ hw)
      cases zs with
      | nil => show z.length ≤ (0 + 1) * L; omega
      | cons y r =>
        show (z ++ ([] ++ TL.joinL [] (y :: r))).length ≤ _
        rw [List.nil_append, List.length_append]
        have e : (z :: y :: r).length * L = L + (y :: r).length * L := by rw [List.length_cons (a := z), Nat.succ_mul]; omega
        rw [e]; omega
  have q := key (ys.map TL.tl) fun z hz => by
    obtain ⟨y, hy, rfl⟩ := List.mem_map.mp hz
    rw [← len_tl]; exact h y hy
  rw [List.length_map] at q
  exact q
theorem sum_len : ∀ (ys : List Str) (L : Nat), (∀ y ∈ ys, y.length ≤ L) → (ys.map (·.length)).sum ≤ ys.length * L
  | [], _, _ => Nat.zero_le _
  | y :: ys, L, h => by
    have h1 := h y List.mem_cons_self
    have h2 := sum_len ys L fun w hw => h w (List.mem_cons_of_mem _ hw)
    rw [List.map_cons, List.sum_cons, List.length_cons, Nat.succ_mul]; omega
/-- ''.join of some short texts -/
theorem rwm_joinE {K : PySem.W.Frag} {Φ : D → Prop} {ys : List Str} (L n : Nat) (hn : ys.length ≤ n) (hs : ∀ y ∈ ys, y.length ≤ L) (hnl : n * L ≤ 1000000) (k : ∀ z : Str, z.length ≤ n * L → Φ (.str z)) : RWM K (rJoinZ K) (.str Str.empty) [.lst (ys.map .str)] Φ := by
  have h1 : ys.length * L ≤ n * L := Nat.mul_le_mul_right _ hn
  refine rwm_joinL ?_ (k _ (Nat.le_trans (join_len ys L hs) h1))
  rw [show Str.empty.length = 0 from rfl, Nat.mul_zero, Nat.add_zero]
  exact Nat.le_trans (Nat.le_trans (sum_len ys L hs) h1) hnl
theorem mem_strs {xs : List Str} {d : D} (h : d ∈ xs.map D.str) : ∃ z, d = .str z ∧ z ∈ xs := by
  obtain ⟨z, hz, rfl⟩ := List.mem_map.mp h
  exact ⟨z, rfl, hz⟩
abbrev s__law_string : Stmt := top 14
abbrev N__law_string : List Str := ["_law_draws_here", "_law_signs", "_law_capitals", "_law_tails", "_law_odd", "_law_form", "_law_size", "_law_name", "_law_at", "_law_sign", "_law_draw"]
abbrev P__law_string : List Str := ["_law_draws_here"]
theorem sc__law_string : FnScope N__law_string P__law_string (defScope s__law_string) := ⟨rfl, rfl, rfl, by decide +kernel, rfl, by decide +kernel, by decide +kernel⟩
def pre__law_string : List D → Prop := fun ds => ∃ ns : List Int, ds = [.lst (ns.map .int)] ∧ ns.length = 9 ∧ Drw ns
def post__law_string : List D → D → Prop := fun ds d => ∃ z : Str, d = .str z ∧ z.length ≤ 30
set_option maxHeartbeats 4000000 in
theorem df__law_string {P : Program} {w : World} {K : PySem.W.Frag} {mg : Str → Option Value} {base : Heap} {f : Addr} {fd : FuncData} (F : FunD K "_law_string" "_law_string" (defArgs s__law_string) (defBody s__law_string) (defScope s__law_string) [] [] f fd) (hm : mg "_law_string" = some (.ref f)) (n_int : mg "int" = none) (n_len : mg "len" = none) :
    Df P w K mg base "_law_string" 1 P__law_string 1 pre__law_string post__law_string := by
  refine df_mk F hm sc__law_string (fun _ _ _ _ _ _ us hl => match us, hl with | [_], _ => rfl) fun cdv A outer s H E hr ds hl hp => ⟨_,
    (pss_cons (ps_set (i := 1) sc__law_string.nd rfl (by first | exact Or.inl rfl | exact Or.inr rfl) (pe_op op_addStr pe_str pe_str))
    (pss_cons (ps_set (i := 2) sc__law_string.nd rfl (by first | exact Or.inl rfl | exact Or.inr rfl) pe_str)
    (pss_cons (ps_set (i := 3) sc__law_string.nd rfl (by first | exact Or.inl rfl | exact Or.inr rfl) pe_str)
    (pss_cons (ps_set (i := 4) sc__law_string.nd rfl (by first | exact Or.inl rfl | exact Or.inr rfl) (pe_lst (pa_cons pe_str (pa_cons pe_str (pa_cons pe_str (pa_cons pe_str (pa_cons pe_str (pa_cons pe_str (pa_cons pe_str (pa_cons pe_str (pa_cons pe_str (pa_cons pe_str (pa_cons pe_str (pa_cons pe_str (pa_cons pe_str (pa_cons pe_str (pa_cons pe_str (pa_cons pe_str (pa_cons pe_str (pa_cons pe_str pa_nil))))))))))))))))))))
    (pss_cons (ps_set (i := 4) sc__law_string.nd rfl (by first | exact Or.inl rfl | exact Or.inr rfl) (pe_op op_cat (pv 4) (pe_lst (pa_cons pe_str (pa_cons pe_str pa_nil)))))
    (pss_cons (ps_set (i := 5) sc__law_string.nd rfl (by first | exact Or.inl rfl | exact Or.inr rfl) (pe_op op_mod (pe_callTy call_int1 (by rfl) n_int (by decide +kernel) (pa_cons (pe_ix (ix_listK K rfl) (pv 0) pe_int (fun _ _ => rfl)) pa_nil)) pe_int))
    (pss_cons (ps_set (i := 6) sc__law_string.nd rfl (by first | exact Or.inl rfl | exact Or.inr rfl) (pe_op op_mod (pe_callTy call_int1 (by rfl) n_int (by decide +kernel) (pa_cons (pe_ix (ix_listK K rfl) (pv 0) pe_int (fun _ _ => rfl)) pa_nil)) pe_int))
    (pss_cons (ps_set (i := 7) sc__law_string.nd rfl (by first | exact Or.inl rfl | exact Or.inr rfl) (pe_op op_addStr (pe_ix ix_str (pv 2) (pe_op op_mod (pe_callTy call_int1 (by rfl) n_int (by decide +kernel) (pa_cons (pe_ix (ix_listK K rfl) (pv 0) pe_int (fun _ _ => rfl)) pa_nil)) pe_int) (fun _ _ => rfl)) (pe_m1 PySem.F.slot_str_join PySem.F.type_str_join (mt_joinK K rfl) pe_str (pe_lc (own := [("_law_draw", 10)]) rfl sc__law_string.nd (pi_listK K rfl (pe_slice (sl_listK K rfl) (pv 0) (po_some pe_int) (po_some (pe_op op_add pe_int (pv 6))))) (blkOk_by (N := N__law_string) (sc := defScope s__law_string) (by decide +kernel)) (fun _ _ _ _ _ => (pg_name (i := 10) sc__law_string.nd rfl (by first | exact Or.inl rfl | exact Or.inr rfl))) (fun _ _ _ _ _ => pts_nil) (fun _ _ _ _ _ => (pe_ix ix_str (pv 3) (pe_op op_mod (pe_callTy call_int1 (by rfl) n_int (by decide +kernel) (pa_cons (pv 10) pa_nil)) pe_int) (fun _ _ => rfl)))))))
    (pss_cons (ps_set (i := 8) sc__law_string.nd rfl (by first | exact Or.inl rfl | exact Or.inr rfl) (pe_op op_mod (pe_callTy call_int1 (by rfl) n_int (by decide +kernel) (pa_cons (pe_ix (ix_listK K rfl) (pv 0) pe_int (fun _ _ => rfl)) pa_nil)) (pe_op op_add (pe_callB (call_lenK K rfl) (by rfl) n_len PySem.boot_len (pa_cons (pv 7) pa_nil)) pe_int)))
    (pss_cons (ps_set (i := 9) sc__law_string.nd rfl (by first | exact Or.inl rfl | exact Or.inr rfl) (pe_ix ix_str (pv 1) (pe_op op_mod (pe_callTy call_int1 (by rfl) n_int (by decide +kernel) (pa_cons (pe_ix (ix_listK K rfl) (pv 0) pe_int (fun _ _ => rfl)) pa_nil)) (pe_callB (call_lenK K rfl) (by rfl) n_len PySem.boot_len (pa_cons (pv 1) pa_nil))) (fun _ _ => rfl)))
    (pss_cons (ps_if (pt_cmpR op_eq (pv 5) pe_int (nomark _)) (pss_one (ps_ret (pe_m1 PySem.F.slot_str_join PySem.F.type_str_join (mt_joinK K rfl) pe_str (pe_lc (own := [("_law_draw", 10)]) rfl sc__law_string.nd (pi_listK K rfl (pe_slice (sl_listK K rfl) (pv 0) (po_some pe_int) (po_some (pe_op op_add pe_int (pe_op op_mod (pe_callTy call_int1 (by rfl) n_int (by decide +kernel) (pa_cons (pe_ix (ix_listK K rfl) (pv 0) pe_int (fun _ _ => rfl)) pa_nil)) pe_int))))) (blkOk_by (N := N__law_string) (sc := defScope s__law_string) (by decide +kernel)) (fun _ _ _ _ _ => (pg_name (i := 10) sc__law_string.nd rfl (by first | exact Or.inl rfl | exact Or.inr rfl))) (fun _ _ _ _ _ => pts_nil) (fun _ _ _ _ _ => (pe_ix ix_str (pv 1) (pe_op op_mod (pe_callTy call_int1 (by rfl) n_int (by decide +kernel) (pa_cons (pv 10) pa_nil)) (pe_callB (call_lenK K rfl) (by rfl) n_len PySem.boot_len (pa_cons (pv 1) pa_nil))) (fun _ _ => rfl))))))) pss_nil)
    (pss_cons (ps_if (pt_cmpR op_eq (pv 5) pe_int (nomark _)) (pss_one (ps_ret (pv 7))) pss_nil)
    (pss_cons (ps_if (pt_cmpR op_eq (pv 5) pe_int (nomark _)) (pss_one (ps_ret (pe_op op_addStr (pv 7) pe_str))) pss_nil)
    (pss_cons (ps_if (pt_cmpR op_eq (pv 5) pe_int (nomark _)) (pss_one (ps_ret (pe_ix ix_str (pv 3) (pe_op op_mod (pe_callTy call_int1 (by rfl) n_int (by decide +kernel) (pa_cons (pe_ix (ix_listK K rfl) (pv 0) pe_int (fun _ _ => rfl)) pa_nil)) pe_int) (fun _ _ => rfl)))) pss_nil)
    (pss_cons (ps_if (pt_cmpR op_eq (pv 5) pe_int (nomark _)) (pss_one (ps_ret (pe_op op_addStr (pe_op op_addStr (pe_slice sl_str (pv 7) po_none (po_some (pv 8))) (pv 9)) (pe_slice sl_str (pv 7) (po_some (pv 8)) po_none)))) pss_nil)
    (pss_cons (ps_if (pt_cmpR op_eq (pv 5) pe_int (nomark _)) (pss_one (ps_ret (pe_op op_addStr (pe_op op_addStr (pe_slice sl_str (pv 7) po_none (po_some (pv 8))) (pv 9)) (pe_slice sl_str (pv 7) (po_some (pe_op op_add (pv 8) pe_int)) po_none)))) pss_nil)
    (pss_cons (ps_if (pt_cmpR op_eq (pv 5) pe_int (nomark _)) (pss_one (ps_ret (pe_op op_addStr (pe_op op_addStr (pe_op op_addStr (pe_slice sl_str (pv 7) po_none (po_some (pv 8))) (pv 9)) (pe_slice sl_str (pv 7) (po_some (pv 8)) po_none)) pe_str))) pss_nil)
    (pss_cons (ps_if (pt_cmpR op_eq (pv 5) pe_int (nomark _)) (pss_one (ps_ret (pe_ix (ix_listK K rfl) (pv 4) (pe_op op_mod (pe_callTy call_int1 (by rfl) n_int (by decide +kernel) (pa_cons (pe_ix (ix_listK K rfl) (pv 0) pe_int (fun _ _ => rfl)) pa_nil)) pe_int) (fun _ _ => rfl)))) pss_nil)
    (pss_one (ps_ret (pv 9))))))))))))))))))))), ?_⟩
  obtain ⟨a0, rfl⟩ : ∃ a0, ds = [a0] := match ds, hl with | [_], _ => ⟨_, rfl⟩
  obtain ⟨ns, e, hl1, hdr⟩ := hp
  cases e
  refine sw_seq (sw_asg ?_)
  walk_at "e"
  obtain ⟨S, hS⟩ : ∃ S : Str, S = Str.ofString " !\"#$&'()*+,-./0123456789:;<=>?@ABCDEFGHIJKLMNOPQRSTUVWXYZ[\\]^_`" ++ Str.ofString "abcdefghijklmnopqrstuvwxyz{|}~\n\t" := ⟨_, rfl⟩
  have hS1 : S.length = 96 := by rw [hS]; rfl
  rw [← hS]
  refine sw_seq (sw_asg ?_)
  walk_at "e"
  refine sw_seq (sw_asg ?_)
  walk_at "e"
  refine sw_seq (sw_asg ?_)
  walk_at "e"
  refine sw_seq (sw_asg ?_)
  walk_at "e"
  refine sw_gen 4 (fun d => ∃ ds, d = .lst ds ∧ ds.length = 20 ∧ ∀ d ∈ ds, ∃ z : Str, d = .str z ∧ z.length ≤ 30) rfl ⟨_, rfl, rfl, (by
    intro d hd
    simp only [List.cons_append, List.nil_append, List.mem_cons, List.not_mem_nil, or_false] at hd
    rcases hd with rfl | rfl | rfl | rfl | rfl | rfl | rfl | rfl | rfl | rfl | rfl | rfl | rfl | rfl | rfl | rfl | rfl | rfl | rfl | rfl <;> exact ⟨_, rfl, by decide⟩)⟩ fun d hd => ?_
  obtain ⟨ds, rfl, hO1, hO2⟩ := hd
  refine sw_seq (sw_asg ?_)
  walk_at "e"
  refine sw_seq (sw_asg ?_)
  walk_at "e"
  refine sw_seq (sw_asg ?_)
  walk_at "e"
  refine rw_ixSk 26 rfl (by decide) (by omega) (by omega) fun c => ?_
  walk_at "e"
  refine ew_new (en_lcS 1 (by decide) ?_)
  walk_at "e"
  refine ⟨by rw [List.length_map]; show _ < (1000000 : Nat); omega, fun d hd => ?_, fun ys h1 h2 => ?_⟩
  · obtain ⟨n, hn, rfl⟩ := List.mem_map.mp hd
    obtain ⟨q0, q1⟩ := hmD n hn
    walk_at "e"
    exact rw_ixSk 36 rfl (by decide) (by omega) (by omega) fun c => ⟨_, rfl, Nat.le_refl 1⟩
  rw [List.length_map] at h1
  refine rwm_joinE 1 9 (by omega) h2 (by decide) fun z hz => ?_
  walk_at "e"
  generalize hN : (⟨#[c]⟩ ++ z : Str) = Nm
  have hN1 : Nm.length ≤ 10 := by rw [← hN, len_add, len_one]; omega
  refine sw_seq (sw_asg ?_)
  walk_at "e"
  refine sw_gen 8 (fun d => ∃ k : Int, d = .int k) rfl ⟨_, rfl⟩ fun d hd => ?_
  obtain ⟨k, rfl⟩ := hd
  refine sw_seq (sw_asg ?_)
  walk_at "e"
  refine rw_ixSk 96 hS1 (by decide) (Int.emod_nonneg _ (by omega)) (by rw [hS1]; exact Int.emod_lt_of_pos _ (by decide)) fun c2 => ?_
  have one : (Str.ofString "~").length = 1 := rfl
  have o2 : (⟨#[c2]⟩ : Str).length = 1 := rfl
  refine sw_seq (sw_if ?_)
  walk_at "e"
  refine ⟨fun _ => ?_, fun _ => ?_⟩
  · refine sw_ret ?_
    walk_at "e"
    refine ew_new (en_lcS 1 (by decide) ?_)
    walk_at "e"
    refine ⟨by rw [List.length_map]; show _ < (1000000 : Nat); omega, fun d hd => ?_, fun ys h1 h2 => ?_⟩
    · obtain ⟨n, hn, rfl⟩ := List.mem_map.mp hd
      obtain ⟨q0, q1⟩ := hmD n hn
      walk_at "e"
      exact rw_ixSk 96 hS1 (by decide) (Int.emod_nonneg _ (by omega)) (by rw [hS1]; exact Int.emod_lt_of_pos _ (by decide)) fun c => ⟨_, rfl, Nat.le_refl 1⟩
    rw [List.length_map] at h1
    exact rwm_joinE 1 9 (by omega) h2 (by decide) fun z hz => ⟨_, rfl, by omega⟩
  refine sw_next ?_
  refine sw_seq (sw_if ?_)
  walk_at "e"
  refine ⟨fun _ => ?_, fun _ => ?_⟩
  · refine sw_ret ?_
    walk_at "e"
    omega
  refine sw_next ?_
  refine sw_seq (sw_if ?_)
  walk_at "e"
  refine ⟨fun _ => ?_, fun _ => ?_⟩
  · refine sw_ret ?_
    walk_at "e"
    rw [len_add]; omega
  refine sw_next ?_
  refine sw_seq (sw_if ?_)
  walk_at "e"
  refine ⟨fun _ => ?_, fun _ => ?_⟩
  · refine sw_ret ?_
    walk_at "e"
    exact rw_ixSk 36 rfl (by decide) (by omega) (by omega) fun c => ⟨_, rfl, by rw [len_one]; decide⟩
  refine sw_next ?_
  have c1 := len_cut Nm none (some k)
  have c3 := len_cut Nm (some k) none
  have c4 := len_cut Nm (some (k + 1)) none
  refine sw_seq (sw_if ?_)
  walk_at "e"
  refine ⟨fun _ => ?_, fun _ => ?_⟩
  · refine sw_ret ?_
    walk_at "e"
    rw [len_add, len_add]; omega
  refine sw_next ?_
  refine sw_seq (sw_if ?_)
  walk_at "e"
  refine ⟨fun _ => ?_, fun _ => ?_⟩
  · refine sw_ret ?_
    walk_at "e"
    rw [len_add, len_add]; omega
  refine sw_next ?_
  refine sw_seq (sw_if ?_)
  walk_at "e"
  refine ⟨fun _ => ?_, fun _ => ?_⟩
  · refine sw_ret ?_
    walk_at "e"
    rw [len_add, len_add, len_add]; omega
  refine sw_next ?_
  refine sw_seq (sw_if ?_)
  walk_at "e"
  refine ⟨fun _ => ?_, fun _ => ?_⟩
  · refine sw_ret ?_
    walk_at "e"
    exact rw_ixLe (by omega) (by omega) fun d hd => hO2 d hd
  refine sw_next ?_
  refine sw_ret ?_
  walk_at "e"
  omega

/-! ### names and turns -/
theorem ends_tilde (z : Str) : Txt.endswith z "~" = decide ((TL.tl z).getLast? = some 126) := ends_one z 126
theorem tl_tilde (z : Str) : TL.tl (z ++ "~") = TL.tl z ++ [126] := by rw [TL.tl_append]; rfl
theorem ends_add (z : Str) : Txt.endswith (z ++ "~") "~" = true := by
  rw [ends_tilde, tl_tilde]; simp
theorem cut_add (z : Str) : cutS (z ++ "~") none (some (-1)) = z := by
  apply ext_tl
  rw [tl_cut_last, tl_tilde]; simp
theorem add_cut {z : Str} (h : Txt.endswith z "~" = true) : cutS z none (some (-1)) ++ "~" = z := by
  apply ext_tl
  rw [tl_tilde, tl_cut_last]
  rw [ends_tilde] at h
  have h2 := of_decide_eq_true h
  obtain ⟨l, e⟩ := List.getLast?_eq_some_iff.mp h2
  rw [e]; simp
theorem tail_no {c : Nat} (h : tailB c = true) : c ≠ 126 := by
  unfold tailB lowB at h
  intro e
  subst e
  exact absurd h (by decide)
theorem cap_no {c : Nat} (h : capB c = true) : c ≠ 126 := by
  unfold capB at h
  intro e
  subst e
  exact absurd h (by decide)
theorem name_no_end {z : Str} (h : isNameL (TL.tl z) = true) : Txt.endswith z "~" = false := by
  rw [ends_tilde]
  match e : TL.tl z, h with
  | c :: r, h =>
    rw [isName_cons] at h
    simp only [Bool.and_eq_true] at h
    obtain ⟨_, h2, h3⟩ := h
    refine decide_eq_false fun q => ?_
    have hm := List.mem_of_getLast? q
    rcases List.mem_cons.mp hm with e | hm
    · exact cap_no h2 e.symm
    · exact tail_no (List.all_eq_true.mp h3 _ hm) rfl
theorem one_no_end {c : Nat} (h : c ≠ 126) : Txt.endswith ⟨#[c]⟩ "~" = false := by
  rw [ends_tilde]
  exact decide_eq_false fun q => h (Option.some.inj q)
theorem nm_no {z : Str} (h : Txt.endswith z "~" = false) : nmS z = z := by unfold nmS; rw [h, if_neg (by decide)]
theorem nm_yes {z : Str} (h : Txt.endswith z "~" = true) : nmS z = cutS z none (some (-1)) := by unfold nmS; rw [if_pos h]
theorem tn_yes {z : Str} (h : Txt.endswith z "~" = true) : tnS z = cutS z none (some (-1)) := by unfold tnS; rw [if_pos h]
theorem tn_name {z : Str} (h : Txt.endswith z "~" = false) (h2 : isNameL (TL.tl z) = true) : tnS z = z ++ "~" := by unfold tnS; rw [h, if_neg (by decide), nm_no h, if_pos h2]
theorem tn_no {z : Str} (h : Txt.endswith z "~" = false) (h2 : isNameL (TL.tl z) = false) : tnS z = z := by unfold tnS; rw [h, if_neg (by decide), nm_no h, h2, if_neg (by decide)]
/-- a letter or the mark -/
theorem single_no {z : Str} (h : isLetterL (TL.tl z) = true ∨ z = "#") : Txt.endswith z "~" = false ∧ isNameL (TL.tl z) = false := by
  rcases h with h | h
  · match e : TL.tl z, h with
    | [c], h =>
      have h1 : lowB c = true := h
      have e2 : z = ⟨#[c]⟩ := by rw [str_of z, e]
      refine ⟨by rw [e2]; exact one_no_end fun q => by subst q; exact absurd h1 (by decide), ?_⟩
      rw [isName_cons]
      have : capB c = false := by
        unfold lowB at h1
        simp only [Bool.and_eq_true, decide_eq_true_eq] at h1
        unfold capB
        rw [decide_eq_false (show ¬ c ≤ 90 by omega), Bool.and_false]
      rw [this]; rfl
  · subst h
    exact ⟨one_no_end (by decide), by decide⟩
abbrev s__law_good_string : Stmt := top 15
abbrev N__law_good_string : List Str := ["_law_text", "_law_name", "_law_letter", "_law_piece", "_law_due"]
abbrev P__law_good_string : List Str := ["_law_text"]
theorem sc__law_good_string : FnScope N__law_good_string P__law_good_string (defScope s__law_good_string) := ⟨rfl, rfl, rfl, by decide +kernel, rfl, by decide +kernel, by decide +kernel⟩
def pre__law_good_string : List D → Prop := fun ds => ∃ z, ds = [.str z] ∧ z.length ≤ 50
def post__law_good_string : List D → D → Prop := fun ds d => d = .bl true
set_option maxHeartbeats 4000000 in
theorem df__law_good_string {P : Program} {w : World} {K : PySem.W.Frag} {mg : Str → Option Value} {base : Heap} {f : Addr} {fd : FuncData} (F : FunD K "_law_good_string" "_law_good_string" (defArgs s__law_good_string) (defBody s__law_good_string) (defScope s__law_good_string) [] [] f fd) (hm : mg "_law_good_string" = some (.ref f)) (n_len : mg "len" = none) (g__law_is_name : Df P w K mg base "_law_is_name" 1 P__law_is_name 1 pre__law_is_name post__law_is_name) (g__law_same : Df P w K mg base "_law_same" 5 P__law_same 2 pre__law_same post__law_same) (g_is_letter : Df P w K mg base "is_letter" 1 P_is_letter 1 pre_is_letter post_is_letter) (g_is_name : Df P w K mg base "is_name" 1 P_is_name 1 pre_is_name post_is_name) (g_is_piece : Df P w K mg base "is_piece" 3 P_is_piece 1 pre_is_piece post_is_piece) (g_name_of : Df P w K mg base "name_of" 2 P_name_of 1 pre_name_of post_name_of) (g_turned_symbol : Df P w K mg base "turned_symbol" 4 P_turned_symbol 1 pre_turned_symbol post_turned_symbol) :
    Df P w K mg base "_law_good_string" 6 P__law_good_string 1 pre__law_good_string post__law_good_string := by
  refine df_mk F hm sc__law_good_string (fun _ _ _ _ _ _ us hl => match us, hl with | [_], _ => rfl) fun cdv A outer s H E hr ds hl hp => ⟨_,
    (pss_cons (ps_set (i := 1) sc__law_good_string.nd rfl (by first | exact Or.inl rfl | exact Or.inr rfl) (pv 0))
    (pss_cons (ps_if (pt_val (pe_m1 PySem.F.slot_str_endswith PySem.F.type_str_endswith mt_endsZ (pv 0) pe_str)) (pss_one (ps_set (i := 1) sc__law_good_string.nd rfl (by first | exact Or.inl rfl | exact Or.inr rfl) (pe_slice sl_str (pv 0) po_none (po_some (pe_un un_neg pe_int))))) pss_nil)
    (pss_cons (ps_set (i := 2) sc__law_good_string.nd rfl (by first | exact Or.inl rfl | exact Or.inr rfl) (pe_and (pe_cmpR op_eq (pe_callB (call_lenK K rfl) (by rfl) n_len PySem.boot_len (pa_cons (pv 0) pa_nil)) pe_int (nomark _)) (pe_one (pe_cmpR op_inSt (pv 0) pe_str rfl))))
    (pss_cons (ps_set (i := 3) sc__law_good_string.nd rfl (by first | exact Or.inl rfl | exact Or.inr rfl) (pe_dfK K rfl g__law_is_name hr (by decide) (by rfl) (pa_cons (pv 1) pa_nil)))
    (pss_cons (ps_if (PW.pt (pw_or (pt_not (pt_val (pe_dfK K rfl g__law_same hr (by decide) (by rfl) (pa_cons (pe_dfK K rfl g_is_letter hr (by decide) (by rfl) (pa_cons (pv 0) pa_nil)) (pa_cons (pv 2) pa_nil))))) (pw_or1 (pt_not (pt_val (pe_dfK K rfl g__law_same hr (by decide) (by rfl) (pa_cons (pe_dfK K rfl g_is_name hr (by decide) (by rfl) (pa_cons (pv 0) pa_nil)) (pa_cons (pe_dfK K rfl g__law_is_name hr (by decide) (by rfl) (pa_cons (pv 0) pa_nil)) pa_nil)))))))) (pss_one (ps_ret pe_bl)) pss_nil)
    (pss_cons (ps_if (pt_not (pt_val (pe_dfK K rfl g__law_same hr (by decide) (by rfl) (pa_cons (pe_dfK K rfl g_is_piece hr (by decide) (by rfl) (pa_cons (pv 0) pa_nil)) (pa_cons (pv 3) pa_nil))))) (pss_one (ps_ret pe_bl)) pss_nil)
    (pss_cons (ps_if (PW.pt (pw_and (pt_not (pt_val (pv 2))) (pw_and (pt_not (pt_val (pv 3))) (pw_and1 (pt_cmpR op_ne (pv 0) pe_str (nomark _)))))) (pss_one (ps_ret pe_bl)) pss_nil)
    (pss_cons (ps_set (i := 4) sc__law_good_string.nd rfl (by first | exact Or.inl rfl | exact Or.inr rfl) (pv 0))
    (pss_cons (ps_if (pt_not (pt_val (pv 3))) (pss_one (ps_set (i := 1) sc__law_good_string.nd rfl (by first | exact Or.inl rfl | exact Or.inr rfl) (pv 0))) (pss_one (ps_if (pt_cmpR op_eq (pv 1) (pv 0) (nomark _)) (pss_one (ps_set (i := 4) sc__law_good_string.nd rfl (by first | exact Or.inl rfl | exact Or.inr rfl) (pe_op op_addStr (pv 0) pe_str))) (pss_one (ps_set (i := 4) sc__law_good_string.nd rfl (by first | exact Or.inl rfl | exact Or.inr rfl) (pv 1))))))
    (pss_cons (ps_if (PW.pt (pw_or (pt_not (pt_val (pe_dfK K rfl g__law_same hr (by decide) (by rfl) (pa_cons (pe_dfK K rfl g_name_of hr (by decide) (by rfl) (pa_cons (pv 0) pa_nil)) (pa_cons (pv 1) pa_nil))))) (pw_or1 (pt_not (pt_val (pe_dfK K rfl g__law_same hr (by decide) (by rfl) (pa_cons (pe_dfK K rfl g_turned_symbol hr (by decide) (by rfl) (pa_cons (pv 0) pa_nil)) (pa_cons (pv 4) pa_nil)))))))) (pss_one (ps_ret pe_bl)) pss_nil)
    (pss_one (ps_ret (pe_and (pe_dfK K rfl g__law_same hr (by decide) (by rfl) (pa_cons (pe_dfK K rfl g_name_of hr (by decide) (by rfl) (pa_cons (pv 4) pa_nil)) (pa_cons (pv 1) pa_nil))) (pe_one (pe_dfK K rfl g__law_same hr (by decide) (by rfl) (pa_cons (pe_dfK K rfl g_turned_symbol hr (by decide) (by rfl) (pa_cons (pv 4) pa_nil)) (pa_cons (pv 0) pa_nil))))))))))))))))), ?_⟩
  obtain ⟨a0, rfl⟩ : ∃ a0, ds = [a0] := match ds, hl with | [_], _ => ⟨_, rfl⟩
  obtain ⟨z, e, hz⟩ := hp
  cases e
  have one : (Str.ofString "~").length = 1 := rfl
  have lnm := len_nm z
  refine sw_seq (sw_asg ?_)
  walk_at "e"
  refine sw_cut (fun γ => γ = [some (.sh (.str z)), some (.sh (.str (nmS z))), none, none, none]) ?_ ?_
  · refine sw_if ?_
    walk_at "e"
    refine ⟨fun h => ?_, fun h => ?_⟩
    · refine sw_asg ?_
      walk_at "e"
      rw [nm_yes h]; rfl
    · refine sw_next ?_
      rw [nm_no h]; rfl
  rintro _ rfl
  refine sw_cut (fun γ => γ = [some (.sh (.str z)), some (.sh (.str (nmS z))), some (.sh (.bl (isLetterL (TL.tl z)))), none, none]) ?_ ?_
  · refine sw_asg ?_
    walk_at "e"
    refine ⟨fun h => ?_, fun h => ?_⟩
    · obtain ⟨c, rfl⟩ := one_of (x := z) (by have := of_decide_eq_true h; omega)
      walk_at "e"
      rw [show inS ⟨#[c]⟩ (Str.ofString "abcdefghijklmnopqrstuvwxyz") = lowB c from low_in c]
      rfl
    · have h2 : z.length ≠ 1 := by have := of_decide_eq_false h; omega
      rw [len_tl] at h2
      have e : isLetterL (TL.tl z) = false := by
        match e : TL.tl z, h2 with
        | [], _ => rfl
        | [c], h2 => exact absurd rfl h2
        | _ :: _ :: _, _ => rfl
      rw [e]; rfl
  rintro _ rfl
  refine sw_seq (sw_asg ?_)
  walk_at "e"
  refine call_ok rfl ⟨_, rfl, by omega⟩ fun d hd => ?_
  obtain rfl := hd _ rfl
  -- the three questions
  refine sw_seq (sw_if ?_)
  walk_at "e"
  refine call_ok rfl ⟨_, rfl, by omega⟩ fun d hd => ?_
  obtain rfl := hd _ rfl
  walk_at "e"
  refine call_ok rfl ⟨_, rfl, trivial⟩ fun d hd => ?_
  obtain rfl := hd
  walk_at "e"
  walk_at "F"
  walk_at "e"
  refine call_ok rfl ⟨_, rfl, by omega⟩ fun d hd => ?_
  obtain rfl := hd _ rfl
  walk_at "e"
  refine call_ok rfl ⟨_, rfl, by omega⟩ fun d hd => ?_
  obtain rfl := hd _ rfl
  walk_at "e"
  refine call_ok rfl ⟨_, rfl, trivial⟩ fun d hd => ?_
  obtain rfl := hd
  walk_at "e"
  walk_at "F"
  refine sw_next ?_
  refine sw_seq (sw_if ?_)
  walk_at "e"
  refine call_ok rfl ⟨_, rfl, by omega⟩ fun d hd => ?_
  obtain rfl := hd _ rfl
  walk_at "e"
  refine call_ok rfl ⟨_, rfl, trivial⟩ fun d hd => ?_
  obtain rfl := hd
  walk_at "e"
  walk_at "F"
  refine sw_next ?_
  refine sw_cut (fun γ => (isLetterL (TL.tl z) = true ∨ isNameL (TL.tl (nmS z)) = true ∨ z = "#") ∧ γ = [some (.sh (.str z)), some (.sh (.str (nmS z))), some (.sh (.bl (isLetterL (TL.tl z)))), some (.sh (.bl (isNameL (TL.tl (nmS z))))), none]) ?_ ?_
  · refine sw_if ?_
    walk_at "e"
    refine ⟨fun h => ?_, fun h => ?_⟩
    · walk_at "e"
      refine ⟨fun h2 => ?_, fun h2 => ?_⟩
      · walk_at "e"
        refine ⟨fun h3 => ?_, fun h3 => ?_⟩
        · refine sw_ret ?_
          walk_at "e"
          rfl
        · refine sw_next ?_
          exact ⟨.inr (.inr (by simpa using h3)), rfl⟩
      · walk_at "F"
        refine sw_next ?_
        exact ⟨.inr (.inl (by simpa using h2)), rfl⟩
    · walk_at "F"
      refine sw_next ?_
      exact ⟨.inl (by simpa using h), rfl⟩
  rintro _ ⟨hc, rfl⟩
  refine sw_seq (sw_asg ?_)
  walk_at "e"
  refine sw_cut (fun γ => ∃ nm du, nmS z = nm ∧ tnS z = du ∧ nmS du = nm ∧ tnS du = z ∧ du.length ≤ 60 ∧ γ = [some (.sh (.str z)), some (.sh (.str nm)), some (.sh (.bl (isLetterL (TL.tl z)))), some (.sh (.bl (isNameL (TL.tl (nmS z))))), some (.sh (.str du))]) ?_ ?_
  · refine sw_if ?_
    walk_at "e"
    refine ⟨fun h => ?_, fun h => ?_⟩
    · have hp0 : isNameL (TL.tl (nmS z)) = false := by simpa using h
      obtain ⟨e1, e2⟩ := single_no (z := z) (by
        rcases hc with q | q | q
        · exact .inl q
        · rw [hp0] at q; cases q
        · exact .inr q)
      refine sw_asg ?_
      walk_at "e"
      exact ⟨z, z, nm_no e1, tn_no e1 e2, nm_no e1, tn_no e1 e2, by omega, rfl⟩
    · have hp0 : isNameL (TL.tl (nmS z)) = true := by simpa using h
      refine sw_if ?_
      walk_at "e"
      refine ⟨fun h2 => ?_, fun h2 => ?_⟩
      · have e0 : nmS z = z := of_decide_eq_true h2
        have e1 : Txt.endswith z "~" = false := by
          cases q : Txt.endswith z "~" with
          | false => rfl
          | true =>
            have q2 := congrArg Str.length (add_cut q)
            rw [← nm_yes q, e0, len_add] at q2
            have : (("~" : Str)).length = 1 := rfl
            omega
        rw [e0] at hp0
        refine sw_asg ?_
        walk_at "e"
        refine ⟨z, z ++ "~", e0, tn_name e1 hp0, by rw [nm_yes (ends_add z), cut_add], by rw [tn_yes (ends_add z), cut_add], by rw [len_add]; have : (("~" : Str)).length = 1 := rfl; omega, ?_⟩
        rw [e0]; rfl
      · have e0 : nmS z ≠ z := of_decide_eq_false h2
        have e1 : Txt.endswith z "~" = true := by
          cases q : Txt.endswith z "~" with
          | true => rfl
          | false => exact absurd (nm_no q) e0
        have e2 := name_no_end hp0
        refine sw_asg ?_
        walk_at "e"
        exact ⟨nmS z, nmS z, rfl, by rw [tn_yes e1, nm_yes e1], nm_no e2, by rw [tn_name e2 hp0, nm_yes e1, add_cut e1], by omega, rfl⟩
  rintro _ ⟨nm, du, e1, e2, e3, e4, hdu, rfl⟩
  refine sw_seq (sw_if ?_)
  walk_at "e"
  refine call_ok rfl ⟨_, rfl, by omega⟩ fun d hd => ?_
  obtain rfl := hd _ rfl
  rw [e1]
  walk_at "e"
  refine call_ok rfl ⟨_, rfl, trivial⟩ fun d hd => ?_
  obtain rfl := hd
  walk_at "e"
  walk_at "F"
  walk_at "e"
  refine call_ok rfl ⟨_, rfl, by omega⟩ fun d hd => ?_
  obtain rfl := hd _ rfl
  rw [e2]
  walk_at "e"
  refine call_ok rfl ⟨_, rfl, trivial⟩ fun d hd => ?_
  obtain rfl := hd
  walk_at "e"
  walk_at "F"
  refine sw_next ?_
  refine sw_ret ?_
  walk_at "e"
  refine call_ok rfl ⟨_, rfl, by omega⟩ fun d hd => ?_
  obtain rfl := hd _ rfl
  rw [e3]
  walk_at "e"
  refine call_ok rfl ⟨_, rfl, trivial⟩ fun d hd => ?_
  obtain rfl := hd
  walk_at "e"
  walk_at "T"
  walk_at "e"
  refine call_ok rfl ⟨_, rfl, by omega⟩ fun d hd => ?_
  obtain rfl := hd _ rfl
  rw [e4]
  walk_at "e"
  refine call_ok rfl ⟨_, rfl, trivial⟩ fun d hd => ?_
  obtain rfl := hd
  rfl

theorem erase_map {α β : Type} (f : α → β) : ∀ (xs : List α) (i : Nat), (xs.map f).eraseIdx i = (xs.eraseIdx i).map f
  | [], _ => rfl
  | _ :: _, 0 => rfl
  | x :: xs, i + 1 => congrArg (f x :: ·) (erase_map f xs i)
abbrev s__law_given : Stmt := top 16
abbrev N__law_given : List Str := ["_law_draws_here", "_law_others", "_law_many", "_law_names", "_law_draw", "_law_name", "_law_k"]
abbrev P__law_given : List Str := ["_law_draws_here"]
theorem sc__law_given : FnScope N__law_given P__law_given (defScope s__law_given) := ⟨rfl, rfl, rfl, by decide +kernel, rfl, by decide +kernel, by decide +kernel⟩
def pre__law_given : List D → Prop := fun ds => ∃ ns : List Int, ds = [.lst (ns.map .int)] ∧ ns.length = 11 ∧ Drw ns
def post__law_given : List D → D → Prop := fun ds d => ∃ xs : List Str, d = .lst (xs.map .str) ∧ xs.length ≤ 300
set_option maxHeartbeats 4000000 in
theorem df__law_given {P : Program} {w : World} {K : PySem.W.Frag} {mg : Str → Option Value} {base : Heap} {f : Addr} {fd : FuncData} (F : FunD K "_law_given" "_law_given" (defArgs s__law_given) (defBody s__law_given) (defScope s__law_given) [] [] f fd) (hm : mg "_law_given" = some (.ref f)) (n_int : mg "int" = none) (n_len : mg "len" = none) (n_range : mg "range" = none) (n_str : mg "str" = none) :
    Df P w K mg base "_law_given" 1 P__law_given 1 pre__law_given post__law_given := by
  refine df_mk F hm sc__law_given (fun _ _ _ _ _ _ us hl => match us, hl with | [_], _ => rfl) fun cdv A outer s H E hr ds hl hp => ⟨_,
    (pss_cons (ps_set (i := 1) sc__law_given.nd rfl (by first | exact Or.inl rfl | exact Or.inr rfl) (pe_lst (pa_cons pe_str (pa_cons pe_str (pa_cons pe_str (pa_cons pe_str (pa_cons pe_str (pa_cons pe_str (pa_cons pe_str (pa_cons pe_str (pa_cons pe_str (pa_cons pe_str (pa_cons pe_str (pa_cons pe_str pa_nil))))))))))))))
    (pss_cons (ps_set (i := 2) sc__law_given.nd rfl (by first | exact Or.inl rfl | exact Or.inr rfl) (pe_op op_mod (pe_callTy call_int1 (by rfl) n_int (by decide +kernel) (pa_cons (pe_ix (ix_listK K rfl) (pv 0) pe_int (fun _ _ => rfl)) pa_nil)) pe_int))
    (pss_cons (ps_if (pt_cmpR op_eq (pe_op op_mod (pe_callTy call_int1 (by rfl) n_int (by decide +kernel) (pa_cons (pe_ix (ix_listK K rfl) (pv 0) pe_int (fun _ _ => rfl)) pa_nil)) pe_int) pe_int (nomark _)) (pss_one (ps_set (i := 2) sc__law_given.nd rfl (by first | exact Or.inl rfl | exact Or.inr rfl) (pe_op op_add pe_int (pe_op op_mod (pe_callTy call_int1 (by rfl) n_int (by decide +kernel) (pa_cons (pe_ix (ix_listK K rfl) (pv 0) pe_int (fun _ _ => rfl)) pa_nil)) pe_int)))) pss_nil)
    (pss_cons (ps_setLc (i := 3) (own := [("_law_k", 6)]) rfl sc__law_given.nd rfl rfl (sw_true rfl rfl rfl (by decide +kernel)) (pi_range1 (by rfl) n_range (pa_cons (pv 2) pa_nil)) (blkOk_by (N := N__law_given) (sc := defScope s__law_given) (by decide +kernel)) (fun _ _ _ _ _ => (pg_name (i := 6) sc__law_given.nd rfl (by first | exact Or.inl rfl | exact Or.inr rfl))) (fun _ _ _ _ _ => pts_nil) (fun _ _ _ _ _ => (pe_op op_addStr pe_str (pe_callTy call_str_int (by rfl) n_str (by decide +kernel) (pa_cons (pv 6) pa_nil)))))
    (pss_cons (ps_if (PW.pt (pw_and (pt_cmpR op_gt (pe_op op_mod (pe_callTy call_int1 (by rfl) n_int (by decide +kernel) (pa_cons (pe_ix (ix_listK K rfl) (pv 0) pe_int (fun _ _ => rfl)) pa_nil)) pe_int) pe_int (nomark _)) (pw_and1 (pt_cmpR op_gt (pv 2) pe_int (nomark _))))) (pss_one (ps_expr (pe_bmK K rfl PySem.F.plainAttrs_list PySem.F.slot_list_pop PySem.F.type_list_pop mt_popZ (pv 3) (pa_cons (pe_op op_mod (pe_callTy call_int1 (by rfl) n_int (by decide +kernel) (pa_cons (pe_ix (ix_listK K rfl) (pv 0) pe_int (fun _ _ => rfl)) pa_nil)) (pv 2)) pa_nil)))) pss_nil)
    (pss_cons (ps_for PassesOwn.never rfl (pi_listK K rfl (pe_slice (sl_listK K rfl) (pv 0) (po_some pe_int) (po_some (pe_op op_add pe_int (pe_op op_mod (pe_callTy call_int1 (by rfl) n_int (by decide +kernel) (pa_cons (pe_ix (ix_listK K rfl) (pv 0) pe_int (fun _ _ => rfl)) pa_nil)) pe_int))))) (pg_name (i := 4) sc__law_given.nd rfl (by first | exact Or.inl rfl | exact Or.inr rfl)) (pss_cons (ps_set (i := 5) sc__law_given.nd rfl (by first | exact Or.inl rfl | exact Or.inr rfl) (pe_ix (ix_listK K rfl) (pv 1) (pe_op op_mod (pe_callTy call_int1 (by rfl) n_int (by decide +kernel) (pa_cons (pe_op op_fdiv (pv 4) pe_int) pa_nil)) pe_int) (fun _ _ => rfl)))
    (pss_one (ps_if (pt_cmpR (op_niK K rfl) (pv 5) (pv 3) rfl) (pss_one (ps_expr (pe_bmK K rfl PySem.F.plainAttrs_list PySem.F.slot_list_insert PySem.F.type_list_insert mt_insZ (pv 3) (pa_cons (pe_op op_mod (pe_callTy call_int1 (by rfl) n_int (by decide +kernel) (pa_cons (pv 4) pa_nil)) (pe_op op_add (pe_callB (call_lenK K rfl) (by rfl) n_len PySem.boot_len (pa_cons (pv 3) pa_nil)) pe_int)) (pa_cons (pv 5) pa_nil))))) pss_nil))))
    (pss_cons (ps_if (pt_cmpR op_eq (pe_op op_mod (pe_callTy call_int1 (by rfl) n_int (by decide +kernel) (pa_cons (pe_ix (ix_listK K rfl) (pv 0) pe_int (fun _ _ => rfl)) pa_nil)) pe_int) pe_int (nomark _)) (pss_one (ps_ret (pe_revLK K rfl (pv 3)))) pss_nil)
    (pss_one (ps_ret (pv 3)))))))))), ?_⟩
  obtain ⟨a0, rfl⟩ : ∃ a0, ds = [a0] := match ds, hl with | [_], _ => ⟨_, rfl⟩
  obtain ⟨ns, e, hl1, hdr⟩ := hp
  cases e
  refine sw_seq (sw_asg ?_)
  walk_at "e"
  refine sw_gen 1 (fun d => ∃ xs : List Str, d = .lst (xs.map .str) ∧ xs.length = 12) rfl ⟨["N00", "N0a", "N01", "N", "Na", "M0", "N9z", "X", "O1", "N1a0", "N002", "Nn1"], rfl, rfl⟩ fun d hd => ?_
  obtain ⟨os, rfl, hos⟩ := hd
  refine sw_seq (sw_asg ?_)
  walk_at "e"
  refine sw_gen 2 (fun d => ∃ m : Nat, d = .int (m : Int) ∧ m ≤ 200) rfl ⟨(nD % 13).toNat, by rw [Int.toNat_of_nonneg (by omega)], by omega⟩ fun d hd => ?_
  obtain ⟨m0, rfl, hm0⟩ := hd
  refine sw_cut (fun γ => ∃ m : Nat, m ≤ 200 ∧ γ = [some (.sh (.lst (ns.map .int))), some (.sh (.lst (os.map .str))), some (.sh (.int (m : Int))), none, none, none, none]) ?_ ?_
  · refine sw_if ?_
    walk_at "e"
    refine ⟨fun _ => ?_, fun _ => ?_⟩
    · refine sw_asg ?_
      walk_at "e"
      refine ⟨(95 + nD % 20).toNat, by omega, ?_⟩
      rw [Int.toNat_of_nonneg (by omega)]; rfl
    · refine sw_next ?_
      exact ⟨m0, hm0, rfl⟩
  rintro _ ⟨m, hm, rfl⟩
  refine sw_seq (sw_asgN (en_lcS 30 (by decide) ?_))
  walk_at "e"
  refine ⟨by omega, by omega, by rw [rng_len]; show _ < (1000000 : Nat); omega, fun d hd => ?_, fun ys h1 h2 => ?_⟩
  · obtain ⟨k, hk, rfl⟩ := List.mem_map.mp hd
    have hk2 : k < m := by have := List.mem_range.mp hk; omega
    walk_at "e"
    refine rwl_strI (by omega) ?_
    rw [Int.zero_add]
    have q := nmN_len (k := k) (by omega)
    refine rw_addStr ?_ ⟨_, rfl, ?_⟩
    · have q2 : (nmN k).length = (Str.ofString "N").length + (Str.ofString (toString ((k : Nat) : Int))).length := len_add _ _
      show _ ≤ (1000000 : Nat); omega
    · have q2 : ((Str.ofString "N") ++ (Str.ofString (toString ((k : Nat) : Int)))).length = (nmN k).length := rfl
      omega
  rw [rng_len] at h1
  refine sw_cut (fun γ => ∃ xs : List Str, xs.length ≤ 200 ∧ γ = [some (.sh (.lst (ns.map .int))), some (.sh (.lst (os.map .str))), some (.sh (.int (m : Int))), some (.ow (xs.map .str)), none, none, none]) ?_ ?_
  · have nxt : ys.length ≤ 200 := by omega
    refine sw_if ?_
    walk_at "e"
    refine ⟨fun _ => ?_, fun _ => ?_⟩
    · walk_at "e"
      refine ⟨fun h => ?_, fun h => ?_⟩
      · have hm0 : 0 < m := by simpa using h
        refine sw_popAt rfl ?_
        walk_at "e"
        have hr0 := Int.emod_nonneg nD (by omega : (m : Int) ≠ 0)
        have hr1 := Int.emod_lt_of_pos nD (by omega : (0 : Int) < (m : Int))
        refine ⟨(nD % (m : Int)).toNat, by rw [Int.toNat_of_nonneg hr0], by rw [List.length_map]; omega, by rw [List.length_map]; show _ ≤ (1000000 : Nat); omega, ys.eraseIdx (nD % (m : Int)).toNat, ?_, ?_⟩
        · rw [List.length_eraseIdx]; split <;> omega
        · rw [← erase_map]; rfl
      · refine sw_next ?_
        exact ⟨ys, nxt, rfl⟩
    · walk_at "F"
      refine sw_next ?_
      exact ⟨ys, nxt, rfl⟩
  rintro _ ⟨xs, hxs, rfl⟩
  refine sw_seq (sw_for (js := [4]) ?_)
  walk_at "e"
  refine ⟨fun i γ => ∃ (xs : List Str) (dv nv : Option Slot), xs.length ≤ 200 + i ∧ γ = [some (.sh (.lst (ns.map .int))), some (.sh (.lst (os.map .str))), some (.sh (.int (m : Int))), some (.ow (xs.map .str)), dv, nv, none], ⟨xs, none, none, hxs, rfl⟩, ?_, ?_⟩
  · rintro i d γ hd ⟨xs, dv, nv, hxs, rfl⟩
    have hi : i < msD.length := by have := (List.getElem?_eq_some_iff.mp hd).1; rw [List.length_map] at this; exact this
    obtain ⟨n, hn, rfl⟩ := List.mem_map.mp (List.mem_of_getElem? hd)
    obtain ⟨q0, q1⟩ := hmD n hn
    walk_at "e"
    refine sw_seq (sw_asg ?_)
    walk_at "e"
    refine rw_ixLe (by omega) (by rw [List.length_map, hos]; omega) fun d hd => ?_
    obtain ⟨z, rfl, hz⟩ := mem_strs hd
    refine sw_if ?_
    walk_at "e"
    refine ⟨fun _ => ?_, fun _ => ?_⟩
    · refine sw_insert rfl (by rw [List.length_map]; show _ < (1000000 : Nat); omega) ?_
      walk_at "e"
      have hr0 := Int.emod_nonneg n (by omega : ((xs.map D.str).length : Int) + 1 ≠ 0)
      have hr1 := Int.emod_lt_of_pos n (by omega : (0 : Int) < ((xs.map D.str).length : Int) + 1)
      refine ⟨(n % (((xs.map D.str).length : Int) + 1)).toNat, by rw [Int.toNat_of_nonneg hr0], by omega, ?_⟩
      walk_at "e"
      refine ⟨xs.take (n % (((xs.map D.str).length : Int) + 1)).toNat ++ [z] ++ xs.drop (n % (((xs.map D.str).length : Int) + 1)).toNat, some (.sh (.int n)), some (.sh (.str z)), ?_, ?_⟩
      · rw [List.length_append, List.length_append, List.length_take, List.length_drop, List.length_singleton]; omega
      · rw [List.map_append, List.map_append, List.map_take, List.map_drop]; rfl
    · refine sw_next ?_
      exact ⟨xs, _, _, by omega, rfl⟩
  · rintro γ ⟨xs, dv, nv, hxs, rfl⟩
    rw [List.length_map] at hxs
    refine sw_frz 3 rfl ?_
    refine sw_seq (sw_if ?_)
    walk_at "e"
    refine ⟨fun _ => ?_, fun _ => ?_⟩
    · refine sw_ret ?_
      walk_at "e"
      exact ⟨xs.reverse, by rw [List.map_reverse], by rw [List.length_reverse]; omega⟩
    · refine sw_next ?_
      refine sw_ret ?_
      walk_at "e"
      omega

abbrev s__law_fresh : Stmt := top 17
abbrev N__law_fresh : List Str := ["_law_names", "_law_many", "_law_found", "_law_number", "_law_name"]
abbrev P__law_fresh : List Str := ["_law_names", "_law_many"]
theorem sc__law_fresh : FnScope N__law_fresh P__law_fresh (defScope s__law_fresh) := ⟨rfl, rfl, rfl, by decide +kernel, rfl, by decide +kernel, by decide +kernel⟩
def pre__law_fresh : List D → Prop := fun ds => ∃ (xs : List Str) (m : Nat), ds = [.lst (xs.map .str), .int ((m : Nat) : Int)] ∧ xs.length ≤ 1000 ∧ m ≤ 1000
def post__law_fresh : List D → D → Prop := fun ds d => ∀ (xs : List Str) (m : Nat), ds = [.lst (xs.map .str), .int ((m : Nat) : Int)] → d = .tup ((frL xs m).map .str)
set_option maxHeartbeats 4000000 in
theorem df__law_fresh {P : Program} {w : World} {K : PySem.W.Frag} {mg : Str → Option Value} {base : Heap} {f : Addr} {fd : FuncData} (F : FunD K "_law_fresh" "_law_fresh" (defArgs s__law_fresh) (defBody s__law_fresh) (defScope s__law_fresh) [] [] f fd) (hm : mg "_law_fresh" = some (.ref f)) (n_len : mg "len" = none) (n_range : mg "range" = none) (n_str : mg "str" = none) (n_tuple : mg "tuple" = none) :
    Df P w K mg base "_law_fresh" 1 P__law_fresh 2 pre__law_fresh post__law_fresh := by
  refine df_mk F hm sc__law_fresh (fun _ _ _ _ _ _ us hl => match us, hl with | [_, _], _ => rfl) fun cdv A outer s H E hr ds hl hp => ⟨_,
    (pss_cons (ps_set (i := 2) sc__law_fresh.nd rfl (by first | exact Or.inl rfl | exact Or.inr rfl) (pe_lst pa_nil))
    (pss_cons (ps_for PassesOwn.never rfl (pi_range1 (by rfl) n_range (pa_cons (pe_op op_add (pe_callB (call_lenK K rfl) (by rfl) n_len PySem.boot_len (pa_cons (pv 0) pa_nil)) (pv 1)) pa_nil)) (pg_name (i := 3) sc__law_fresh.nd rfl (by first | exact Or.inl rfl | exact Or.inr rfl)) (pss_cons (ps_set (i := 4) sc__law_fresh.nd rfl (by first | exact Or.inl rfl | exact Or.inr rfl) (pe_op op_addStr pe_str (pe_callTy call_str_int (by rfl) n_str (by decide +kernel) (pa_cons (pv 3) pa_nil))))
    (pss_one (ps_if (PW.pt (pw_and (pt_cmpR (op_niK K rfl) (pv 4) (pv 0) rfl) (pw_and1 (pt_cmpR op_lt (pe_callB (call_lenK K rfl) (by rfl) n_len PySem.boot_len (pa_cons (pv 2) pa_nil)) (pv 1) (nomark _))))) (pss_one (ps_expr (pe_bmK K rfl PySem.F.plainAttrs_list PySem.F.slot_list_append PySem.F.type_list_append mt_append (pv 2) (pa_cons (pv 4) pa_nil)))) pss_nil))))
    (pss_one (ps_ret (pe_callTy (call_tupK K rfl) (by rfl) n_tuple (by decide +kernel) (pa_cons (pv 2) pa_nil)))))), ?_⟩
  obtain ⟨a0, a1, rfl⟩ : ∃ a0 a1, ds = [a0, a1] := match ds, hl with | [_, _], _ => ⟨_, _, rfl⟩
  obtain ⟨xs, m, e, hx, hm2⟩ := hp
  cases e
  refine sw_seq (sw_asgN ?_)
  walk_at "e"
  refine sw_seq (sw_for (js := [3]) ?_)
  walk_at "e"
  have el : (((xs.map D.str).length : Int) + (m : Int)).toNat = xs.length + m := by rw [List.length_map]; omega
  rw [el]
  refine ⟨by rw [List.length_map]; omega, by rw [List.length_map]; omega, fun i γ => ∃ kv nv, γ = [some (.sh (.lst (xs.map .str))), some (.sh (.int (m : Int))), some (.ow ((((frB xs i).take m).map nmN).map .str)), kv, nv], ⟨none, none, by rw [show (frB xs 0).take m = [] from List.take_nil]; rfl⟩, ?_, ?_⟩
  · rintro i d γ hd ⟨kv, nv, rfl⟩
    obtain ⟨hi, rfl⟩ := rng_get hd
    rw [Int.zero_add]
    have q := nmN_len (k := i) (by omega)
    walk_at "e"
    refine sw_seq (sw_asg ?_)
    walk_at "e"
    refine rwl_strI (by omega) ?_
    refine rw_addStr ?_ ?_
    · have q2 : (nmN i).length = (Str.ofString "N").length + (Str.ofString (toString ((i : Nat) : Int))).length := len_add _ _
      show _ ≤ (1000000 : Nat); omega
    rw [show Str.ofString "N" ++ Str.ofString (toString ((i : Nat) : Int)) = nmN i from rfl]
    have lt : ((frB xs i).take m).length ≤ m := by rw [List.length_take]; omega
    refine sw_if ?_
    walk_at "e"
    refine ⟨fun h => ?_, fun h => ?_⟩
    · walk_at "e"
      refine ⟨fun h2 => ?_, fun h2 => ?_⟩
      · have h3 : (frB xs i).length < m := by simp at h2; omega
        refine sw_app rfl (by rw [List.length_map, List.length_map]; show _ < (1000000 : Nat); omega) ?_
        walk_at "e"
        refine ⟨some (.sh (.int (i : Int))), some (.sh (.str (nmN i))), ?_⟩
        rw [frB_yes h, List.take_of_length_le (by omega), List.take_of_length_le (by rw [List.length_append, List.length_singleton]; omega), List.map_append, List.map_append]; rfl
      · have h3 : m ≤ (frB xs i).length := by simp at h2; omega
        refine sw_next ?_
        refine ⟨some (.sh (.int (i : Int))), some (.sh (.str (nmN i))), ?_⟩
        rw [frB_yes h, List.take_append_of_le_length h3]; rfl
    · walk_at "F"
      refine sw_next ?_
      refine ⟨some (.sh (.int (i : Int))), some (.sh (.str (nmN i))), ?_⟩
      rw [frB_no h]; rfl
  · rintro γ ⟨kv, nv, rfl⟩
    rw [rng_len]
    refine sw_frz 2 rfl ?_
    refine sw_ret ?_
    walk_at "e"
    intro xs' m' e
    have e1 : xs.map D.str = xs'.map D.str := by injection e with a b; injection a
    have e2 : m = m' := by injection e with a b; injection b with b1; injection b1 with b2; exact Int.ofNat.inj b2
    have e3 : xs = xs' := (List.map_inj_right (fun a b h => D.str.inj h)).mp e1
    subst e2 e3
    rfl

theorem frB_mem {xs ys : List Str} (h : ∀ z, z ∈ xs ↔ z ∈ ys) (k : Nat) : frB xs k = frB ys k := by
  unfold frB
  congr 1
  funext i
  rw [decide_eq_decide.mpr (h _)]
theorem frL_mem {xs ys : List Str} (h : ∀ z, z ∈ xs ↔ z ∈ ys) (hl : xs.length = ys.length) (m : Nat) : frL xs m = frL ys m := by
  unfold frL
  rw [frB_mem h, hl]
theorem okD_strs (n : Nat) (xs : List Str) (h : xs.length ≤ 100000) : okD (n + 1) (.tup (xs.map .str)) :=
  ⟨by rw [List.length_map]; exact h, fun x hx => by
    obtain ⟨z, rfl, _⟩ := mem_strs hx
    cases n <;> trivial⟩
abbrev s_law : Stmt := top 18
abbrev N_law : List Str := ["_law_script", "_law_text", "_law_k", "_law_draws_here", "_law_names", "_law_many", "_law_due", "_law_more"]
abbrev P_law : List Str := ["_law_script"]
theorem sc_law : FnScope N_law P_law (defScope s_law) := ⟨rfl, rfl, rfl, by decide +kernel, rfl, by decide +kernel, by decide +kernel⟩
def pre_law : List D → Prop := fun ds => ∃ ns : List Int, ds = [.scr ns] ∧ ns.length ≤ 63
def post_law : List D → D → Prop := fun ds d => d = .bl true
set_option maxHeartbeats 4000000 in
theorem df_law {P : Program} {w : World} {K : PySem.W.Frag} {mg : Str → Option Value} {base : Heap} {f : Addr} {fd : FuncData} (F : FunD K "law" "law" (defArgs s_law) (defBody s_law) (defScope s_law) [] [] f fd) (hm : mg "law" = some (.ref f)) (n_int : mg "int" = none) (n_list : mg "list" = none) (n_range : mg "range" = none) (n_tuple : mg "tuple" = none) (g__law_cell : Df P w K mg base "_law_cell" 1 P__law_cell 2 pre__law_cell post__law_cell) (g__law_draws : Df P w K mg base "_law_draws" 1 P__law_draws 2 pre__law_draws post__law_draws) (g__law_fresh : Df P w K mg base "_law_fresh" 1 P__law_fresh 2 pre__law_fresh post__law_fresh) (g__law_given : Df P w K mg base "_law_given" 1 P__law_given 1 pre__law_given post__law_given) (g__law_good_string : Df P w K mg base "_law_good_string" 6 P__law_good_string 1 pre__law_good_string post__law_good_string) (g__law_same : Df P w K mg base "_law_same" 5 P__law_same 2 pre__law_same post__law_same) (g__law_string : Df P w K mg base "_law_string" 1 P__law_string 1 pre__law_string post__law_string) (g_fresh_names : Df P w K mg base "fresh_names" 1 P_fresh_names 2 pre_fresh_names post_fresh_names) :
    Df P w K mg base "law" 7 P_law 1 pre_law post_law := by
  refine df_mk F hm sc_law (fun _ _ _ _ _ _ us hl => match us, hl with | [_], _ => rfl) fun cdv A outer s H E hr ds hl hp => ⟨_,
    (pss_cons (ps_for PassesOwn.never rfl (pi_listK K rfl (pe_lst (pa_cons pe_str (pa_cons pe_str (pa_cons pe_str (pa_cons pe_str (pa_cons pe_str (pa_cons pe_str (pa_cons pe_str (pa_cons pe_str (pa_cons pe_str (pa_cons pe_str (pa_cons pe_str (pa_cons pe_str (pa_cons pe_str (pa_cons pe_str (pa_cons pe_str (pa_cons pe_str (pa_cons pe_str (pa_cons pe_str pa_nil)))))))))))))))))))) (pg_name (i := 1) sc_law.nd rfl (by first | exact Or.inl rfl | exact Or.inr rfl)) (pss_one (ps_if (pt_not (pt_val (pe_dfK K rfl g__law_good_string hr (by decide) (by rfl) (pa_cons (pv 1) pa_nil)))) (pss_one (ps_ret pe_bl)) pss_nil)))
    (pss_cons (ps_for PassesOwn.never rfl (pi_range1 (by rfl) n_range (pa_cons pe_int pa_nil)) (pg_name (i := 2) sc_law.nd rfl (by first | exact Or.inl rfl | exact Or.inr rfl)) (pss_one (ps_if (pt_not (pt_val (pe_dfK K rfl g__law_good_string hr (by decide) (by rfl) (pa_cons (pe_dfK K rfl g__law_string hr (by decide) (by rfl) (pa_cons (pe_dfK K rfl g__law_draws hr (by decide) (by rfl) (pa_cons (pe_op op_add (pe_dfK K rfl g__law_cell hr (by decide) (by rfl) (pa_cons (pv 0) (pa_cons (pe_op op_add pe_int (pv 2)) pa_nil))) (pv 2)) (pa_cons pe_int pa_nil))) pa_nil)) pa_nil)))) (pss_one (ps_ret pe_bl)) pss_nil)))
    (pss_cons (ps_set (i := 3) sc_law.nd rfl (by first | exact Or.inl rfl | exact Or.inr rfl) (pe_dfK K rfl g__law_draws hr (by decide) (by rfl) (pa_cons (pe_dfK K rfl g__law_cell hr (by decide) (by rfl) (pa_cons (pv 0) (pa_cons pe_int pa_nil))) (pa_cons pe_int pa_nil))))
    (pss_cons (ps_set (i := 4) sc_law.nd rfl (by first | exact Or.inl rfl | exact Or.inr rfl) (pe_dfK K rfl g__law_given hr (by decide) (by rfl) (pa_cons (pv 3) pa_nil)))
    (pss_cons (ps_set (i := 5) sc_law.nd rfl (by first | exact Or.inl rfl | exact Or.inr rfl) (pe_op op_mod (pe_callTy call_int1 (by rfl) n_int (by decide +kernel) (pa_cons (pe_ix (ix_listK K rfl) (pv 3) pe_int (fun _ _ => rfl)) pa_nil)) pe_int))
    (pss_cons (ps_set (i := 6) sc_law.nd rfl (by first | exact Or.inl rfl | exact Or.inr rfl) (pe_dfK K rfl g__law_fresh hr (by decide) (by rfl) (pa_cons (pv 4) (pa_cons (pv 5) pa_nil))))
    (pss_cons (ps_if (PW.pt (pw_or (pt_not (pt_val (pe_dfK K rfl g__law_same hr (by decide) (by rfl) (pa_cons (pe_dfK K rfl g_fresh_names hr (by decide) (by rfl) (pa_cons (pe_callTy (call_tupK K rfl) (by rfl) n_tuple (by decide +kernel) (pa_cons (pv 4) pa_nil)) (pa_cons (pv 5) pa_nil))) (pa_cons (pv 6) pa_nil))))) (pw_or1 (pt_not (pt_val (pe_dfK K rfl g__law_same hr (by decide) (by rfl) (pa_cons (pe_dfK K rfl g_fresh_names hr (by decide) (by rfl) (pa_cons (pe_callTy (call_tupK K rfl) (by rfl) n_tuple (by decide +kernel) (pa_cons (pe_revLK K rfl (pv 4)) pa_nil)) (pa_cons (pv 5) pa_nil))) (pa_cons (pv 6) pa_nil)))))))) (pss_one (ps_ret pe_bl)) pss_nil)
    (pss_cons (ps_if (pt_not (pt_val (pe_dfK K rfl g__law_same hr (by decide) (by rfl) (pa_cons (pe_dfK K rfl g_fresh_names hr (by decide) (by rfl) (pa_cons (pe_tup pa_nil) (pa_cons (pv 5) pa_nil))) (pa_cons (pe_dfK K rfl g__law_fresh hr (by decide) (by rfl) (pa_cons (pe_lst pa_nil) (pa_cons (pv 5) pa_nil))) pa_nil))))) (pss_one (ps_ret pe_bl)) pss_nil)
    (pss_cons (ps_set (i := 7) sc_law.nd rfl (by first | exact Or.inl rfl | exact Or.inr rfl) (pe_dfK K rfl g__law_fresh hr (by decide) (by rfl) (pa_cons (pe_op op_cat (pv 4) (pe_callTy (call_listK K rfl) (by rfl) n_list (by decide +kernel) (pa_cons (pv 6) pa_nil))) (pa_cons (pv 5) pa_nil))))
    (pss_one (ps_ret (pe_dfK K rfl g__law_same hr (by decide) (by rfl) (pa_cons (pe_dfK K rfl g_fresh_names hr (by decide) (by rfl) (pa_cons (pe_op (op_catK K rfl) (pe_callTy (call_tupK K rfl) (by rfl) n_tuple (by decide +kernel) (pa_cons (pv 4) pa_nil)) (pv 6)) (pa_cons (pv 5) pa_nil))) (pa_cons (pv 7) pa_nil)))))))))))))), ?_⟩
  obtain ⟨a0, rfl⟩ : ∃ a0, ds = [a0] := match ds, hl with | [_], _ => ⟨_, rfl⟩
  obtain ⟨ns, e, hns⟩ := hp
  cases e
  refine sw_seq (sw_for (js := [1]) ?_)
  walk_at "e"
  refine ⟨fun i γ => ∃ tv, γ = [some (.sh (.scr ns)), tv, none, none, none, none, none, none], ⟨none, rfl⟩, ?_, ?_⟩
  · rintro i d γ hd ⟨tv, rfl⟩
    have hz : ∃ z : Str, d = .str z ∧ z.length ≤ 50 := by
      have hm := List.mem_of_getElem? hd
      clear hd
      simp only [List.mem_cons, List.not_mem_nil, or_false] at hm
      rcases hm with rfl | rfl | rfl | rfl | rfl | rfl | rfl | rfl | rfl | rfl | rfl | rfl | rfl | rfl | rfl | rfl | rfl | rfl <;> exact ⟨_, rfl, by decide⟩
    obtain ⟨z, rfl, hz⟩ := hz
    walk_at "e"
    refine sw_if ?_
    walk_at "e"
    refine call_ok rfl ⟨_, rfl, hz⟩ fun d hd => ?_
    obtain rfl := hd
    walk_at "e"
    walk_at "F"
    exact sw_next ⟨_, rfl⟩
  rintro γ ⟨tv, rfl⟩
  refine sw_seq (sw_for (js := [2]) ?_)
  walk_at "e"
  refine ⟨by decide, by decide, fun i γ => ∃ kv, γ = [some (.sh (.scr ns)), tv, kv, none, none, none, none, none], ⟨none, rfl⟩, ?_, ?_⟩
  · rintro i d γ hd ⟨kv, rfl⟩
    obtain ⟨hi, rfl⟩ := rng_get hd
    walk_at "e"
    refine sw_if ?_
    walk_at "e"
    refine call_ok rfl ⟨ns, 1 + i, by rw [show (1 + (0 + (i : Int))) = ((1 + i : Nat) : Int) by omega]⟩ fun d hd => ?_
    obtain ⟨c, rfl⟩ := hd
    walk_at "e"
    refine call_ok rfl ⟨_, 9, rfl, by decide⟩ fun d hd => ?_
    obtain ⟨ms, rfl, h1, h2⟩ := hd _ 9 rfl
    walk_at "e"
    refine call_ok rfl ⟨ms, rfl, h1, h2⟩ fun d hd => ?_
    obtain ⟨z, rfl, hz⟩ := hd
    walk_at "e"
    refine call_ok rfl ⟨_, rfl, by omega⟩ fun d hd => ?_
    obtain rfl := hd
    walk_at "e"
    walk_at "F"
    exact sw_next ⟨_, rfl⟩
  rintro γ ⟨kv, rfl⟩
  refine sw_seq (sw_asg ?_)
  walk_at "e"
  refine call_ok rfl ⟨ns, 0, rfl⟩ fun d hd => ?_
  obtain ⟨c, rfl⟩ := hd
  walk_at "e"
  refine call_ok rfl ⟨_, 11, rfl, by decide⟩ fun d hd => ?_
  obtain ⟨ms, rfl, h1, hdr⟩ := hd _ 11 rfl
  have hdr : Drw ms := hdr
  refine sw_seq (sw_asg ?_)
  walk_at "e"
  refine call_ok rfl ⟨ms, rfl, h1, hdr⟩ fun d hd => ?_
  obtain ⟨xs, rfl, hxs⟩ := hd
  refine sw_seq (sw_asg ?_)
  walk_at "e"
  refine sw_gen 5 (fun d => ∃ m : Nat, d = .int (m : Int) ∧ m ≤ 6) rfl ⟨(nD % 6).toNat, by rw [Int.toNat_of_nonneg (by omega)], by omega⟩ fun d hd => ?_
  obtain ⟨m, rfl, hm2⟩ := hd
  have lf := fr_lenL xs m
  refine sw_seq (sw_asg ?_)
  walk_at "e"
  refine call_ok rfl ⟨xs, m, rfl, by omega, by omega⟩ fun d hd => ?_
  obtain rfl := hd xs m rfl
  refine sw_seq (sw_if ?_)
  walk_at "e"
  refine call_ok rfl ⟨xs, m, rfl, by omega, by omega⟩ fun d hd => ?_
  obtain rfl := hd xs m rfl
  walk_at "e"
  refine call_ok rfl ⟨_, rfl, okD_strs 3 _ (by omega)⟩ fun d hd => ?_
  obtain rfl := hd
  walk_at "e"
  walk_at "F"
  walk_at "e"
  refine call_ok rfl ⟨xs.reverse, m, by rw [List.map_reverse], by rw [List.length_reverse]; omega, by omega⟩ fun d hd => ?_
  obtain rfl := hd xs.reverse m (by rw [List.map_reverse])
  rw [frL_mem (xs := xs.reverse) (ys := xs) (fun z => List.mem_reverse) List.length_reverse m]
  walk_at "e"
  refine call_ok rfl ⟨_, rfl, okD_strs 3 _ (by omega)⟩ fun d hd => ?_
  obtain rfl := hd
  walk_at "e"
  walk_at "F"
  refine sw_next ?_
  refine sw_seq (sw_if ?_)
  walk_at "e"
  refine call_ok rfl ⟨[], m, rfl, by decide, by omega⟩ fun d hd => ?_
  obtain rfl := hd [] m rfl
  walk_at "e"
  refine call_ok rfl ⟨[], m, rfl, by decide, by omega⟩ fun d hd => ?_
  obtain rfl := hd [] m rfl
  walk_at "e"
  refine call_ok rfl ⟨_, rfl, okD_strs 3 _ (by have := fr_lenL [] m; omega)⟩ fun d hd => ?_
  obtain rfl := hd
  walk_at "e"
  walk_at "F"
  refine sw_next ?_
  have am : xs.map D.str ++ (frL xs m).map D.str = (xs ++ frL xs m).map D.str := by rw [List.map_append]
  have la : (xs ++ frL xs m).length ≤ 400 := by rw [List.length_append]; omega
  refine sw_seq (sw_asg ?_)
  walk_at "e"
  refine rw2_new (rn_cat (by rw [List.length_map, List.length_map]; show _ ≤ (1000000 : Nat); omega) ?_)
  walk_at "e"
  rw [am]
  refine call_ok rfl ⟨xs ++ frL xs m, m, rfl, by omega, by omega⟩ fun d hd => ?_
  obtain rfl := hd _ m rfl
  refine sw_ret ?_
  walk_at "e"
  refine rw_catA (by rw [List.length_map, List.length_map]; show _ ≤ (1000000 : Nat); omega) ?_
  walk_at "e"
  rw [am]
  refine call_ok rfl ⟨xs ++ frL xs m, m, rfl, by omega, by omega⟩ fun d hd => ?_
  obtain rfl := hd _ m rfl
  walk_at "e"
  refine call_ok rfl ⟨_, rfl, okD_strs 3 _ (by have := fr_lenL (xs ++ frL xs m) m; omega)⟩ fun d hd => ?_
  obtain rfl := hd
  rfl
def d_is_letter : He.DefD := ⟨("is_letter", none), "is_letter", "is_letter", defArgs s_is_letter, defBody s_is_letter, defScope s_is_letter, [], []⟩
def d_is_turned : He.DefD := ⟨("is_turned", none), "is_turned", "is_turned", defArgs s_is_turned, defBody s_is_turned, defScope s_is_turned, [], []⟩
def d_name_of : He.DefD := ⟨("name_of", none), "name_of", "name_of", defArgs s_name_of, defBody s_name_of, defScope s_name_of, [], []⟩
def d_is_name : He.DefD := ⟨("is_name", none), "is_name", "is_name", defArgs s_is_name, defBody s_is_name, defScope s_is_name, [], []⟩
def d_is_piece : He.DefD := ⟨("is_piece", none), "is_piece", "is_piece", defArgs s_is_piece, defBody s_is_piece, defScope s_is_piece, [], []⟩
def d_turned_symbol : He.DefD := ⟨("turned_symbol", none), "turned_symbol", "turned_symbol", defArgs s_turned_symbol, defBody s_turned_symbol, defScope s_turned_symbol, [], []⟩
def d_fresh_names : He.DefD := ⟨("fresh_names", none), "fresh_names", "fresh_names", defArgs s_fresh_names, defBody s_fresh_names, defScope s_fresh_names, [], []⟩
def d__law_cell : He.DefD := ⟨("_law_cell", none), "_law_cell", "_law_cell", defArgs s__law_cell, defBody s__law_cell, defScope s__law_cell, [], []⟩
def d__law_draws : He.DefD := ⟨("_law_draws", none), "_law_draws", "_law_draws", defArgs s__law_draws, defBody s__law_draws, defScope s__law_draws, [], []⟩
def d__law_same : He.DefD := ⟨("_law_same", none), "_law_same", "_law_same", defArgs s__law_same, defBody s__law_same, defScope s__law_same, [], []⟩
def d__law_is_name : He.DefD := ⟨("_law_is_name", none), "_law_is_name", "_law_is_name", defArgs s__law_is_name, defBody s__law_is_name, defScope s__law_is_name, [], []⟩
def d__law_string : He.DefD := ⟨("_law_string", none), "_law_string", "_law_string", defArgs s__law_string, defBody s__law_string, defScope s__law_string, [], []⟩
def d__law_good_string : He.DefD := ⟨("_law_good_string", none), "_law_good_string", "_law_good_string", defArgs s__law_good_string, defBody s__law_good_string, defScope s__law_good_string, [], []⟩
def d__law_given : He.DefD := ⟨("_law_given", none), "_law_given", "_law_given", defArgs s__law_given, defBody s__law_given, defScope s__law_given, [], []⟩
def d__law_fresh : He.DefD := ⟨("_law_fresh", none), "_law_fresh", "_law_fresh", defArgs s__law_fresh, defBody s__law_fresh, defScope s__law_fresh, [], []⟩
def d_law : He.DefD := ⟨("law", none), "law", "law", defArgs s_law, defBody s_law, defScope s_law, [], []⟩
def fnL : List He.DefD := [d_is_letter, d_is_turned, d_name_of, d_is_name, d_is_piece, d_turned_symbol, d_fresh_names, d__law_cell, d__law_draws, d__law_same, d__law_is_name, d__law_string, d__law_good_string, d__law_given, d__law_fresh, d_law]
def faL : List He.Fa := [.glo "is_letter", .glo "is_turned", .glo "name_of", .glo "is_name", .glo "is_piece", .glo "turned_symbol", .glo "fresh_names", .glo "_law_cell", .glo "_law_draws", .glo "_law_same", .glo "_law_is_name", .glo "_law_string", .glo "_law_good_string", .glo "_law_given", .glo "_law_fresh", .glo "law", .free "abs", .free "all", .free "bool", .free "dict", .free "int", .free "isinstance", .free "len", .free "list", .free "range", .free "str", .free "tuple", .str "TURN" "~"]
abbrev Rw : PySem.W.OpenRow := PySem.W.OpenLaw.row PySem.Challenge.rw_twiceeach_k00_symbols_and_fresh_names
abbrev hk : PySem.W.Hook := He.hookD 4 faL fnL
def ob (s : PySem.W.SharedT) : He.AlD := He.obsDG 4 faL fnL (HandSHeadRun.getT s)
theorem ob_eq (s : PySem.W.SharedT) : ob s = hk.obs s.abs := He.obsDG_eq (HandSHeadRun.getT_eq s)
def looseL : List Str := ["__name__", "TURN", "is_letter", "is_name", "is_piece", "is_turned", "name_of", "turned_symbol", "fresh_names", "_law_cell", "_law_draws", "_law_same", "_law_is_name", "_law_string", "_law_good_string", "_law_given", "_law_fresh"]
set_option maxHeartbeats 0 in
theorem run (w : World) : HandSHeadRun.RunEq Rw (PySem.W.view Rw.prog [18]) hk ob 4000 looseL w := by
  intro os
  kernel_rfl
theorem facts {P : Program} {w : World} {K : PySem.W.Frag} {h : Heap} {mg : Str → Option Value} {f : Addr} (X : K.In h) (G : h.Ns mainGlobals mg) (hfa : mg ("law" : Str) = some (.ref f)) (c : He.SaysD faL fnL K) :
    ∃ fd : FuncData, (∀ (s : Shared) (v : Value), BindsTo s fd ⟨[v], []⟩ [("_law_script", v)]) ∧ ∀ base : Heap, K.In base → base.Ns mainGlobals mg → FnOk P w K mg base CX0 7 f fd ["_law_script"] (spLawZ K) := by
  obtain ⟨f_is_letter, F_is_letter⟩ := c.def_ 0 (d := d_is_letter) rfl
  have m_is_letter := He.glo_ok X G (c.fact 0 (f := .glo "is_letter") rfl)
  obtain ⟨f_is_turned, F_is_turned⟩ := c.def_ 1 (d := d_is_turned) rfl
  have m_is_turned := He.glo_ok X G (c.fact 1 (f := .glo "is_turned") rfl)
  obtain ⟨f_name_of, F_name_of⟩ := c.def_ 2 (d := d_name_of) rfl
  have m_name_of := He.glo_ok X G (c.fact 2 (f := .glo "name_of") rfl)
  obtain ⟨f_is_name, F_is_name⟩ := c.def_ 3 (d := d_is_name) rfl
  have m_is_name := He.glo_ok X G (c.fact 3 (f := .glo "is_name") rfl)
  obtain ⟨f_is_piece, F_is_piece⟩ := c.def_ 4 (d := d_is_piece) rfl
  have m_is_piece := He.glo_ok X G (c.fact 4 (f := .glo "is_piece") rfl)
  obtain ⟨f_turned_symbol, F_turned_symbol⟩ := c.def_ 5 (d := d_turned_symbol) rfl
  have m_turned_symbol := He.glo_ok X G (c.fact 5 (f := .glo "turned_symbol") rfl)
  obtain ⟨f_fresh_names, F_fresh_names⟩ := c.def_ 6 (d := d_fresh_names) rfl
  have m_fresh_names := He.glo_ok X G (c.fact 6 (f := .glo "fresh_names") rfl)
  obtain ⟨f__law_cell, F__law_cell⟩ := c.def_ 7 (d := d__law_cell) rfl
  have m__law_cell := He.glo_ok X G (c.fact 7 (f := .glo "_law_cell") rfl)
  obtain ⟨f__law_draws, F__law_draws⟩ := c.def_ 8 (d := d__law_draws) rfl
  have m__law_draws := He.glo_ok X G (c.fact 8 (f := .glo "_law_draws") rfl)
  obtain ⟨f__law_same, F__law_same⟩ := c.def_ 9 (d := d__law_same) rfl
  have m__law_same := He.glo_ok X G (c.fact 9 (f := .glo "_law_same") rfl)
  obtain ⟨f__law_is_name, F__law_is_name⟩ := c.def_ 10 (d := d__law_is_name) rfl
  have m__law_is_name := He.glo_ok X G (c.fact 10 (f := .glo "_law_is_name") rfl)
  obtain ⟨f__law_string, F__law_string⟩ := c.def_ 11 (d := d__law_string) rfl
  have m__law_string := He.glo_ok X G (c.fact 11 (f := .glo "_law_string") rfl)
  obtain ⟨f__law_good_string, F__law_good_string⟩ := c.def_ 12 (d := d__law_good_string) rfl
  have m__law_good_string := He.glo_ok X G (c.fact 12 (f := .glo "_law_good_string") rfl)
  obtain ⟨f__law_given, F__law_given⟩ := c.def_ 13 (d := d__law_given) rfl
  have m__law_given := He.glo_ok X G (c.fact 13 (f := .glo "_law_given") rfl)
  obtain ⟨f__law_fresh, F__law_fresh⟩ := c.def_ 14 (d := d__law_fresh) rfl
  have m__law_fresh := He.glo_ok X G (c.fact 14 (f := .glo "_law_fresh") rfl)
  obtain ⟨f_law, F_law⟩ := c.def_ 15 (d := d_law) rfl
  have m_law := He.glo_ok X G (c.fact 15 (f := .glo "law") rfl)
  have n_abs := He.free_ok X G (c.fact 16 (f := .free "abs") rfl)
  have n_all := He.free_ok X G (c.fact 17 (f := .free "all") rfl)
  have n_bool := He.free_ok X G (c.fact 18 (f := .free "bool") rfl)
  have n_dict := He.free_ok X G (c.fact 19 (f := .free "dict") rfl)
  have n_int := He.free_ok X G (c.fact 20 (f := .free "int") rfl)
  have n_isinstance := He.free_ok X G (c.fact 21 (f := .free "isinstance") rfl)
  have n_len := He.free_ok X G (c.fact 22 (f := .free "len") rfl)
  have n_list := He.free_ok X G (c.fact 23 (f := .free "list") rfl)
  have n_range := He.free_ok X G (c.fact 24 (f := .free "range") rfl)
  have n_str := He.free_ok X G (c.fact 25 (f := .free "str") rfl)
  have n_tuple := He.free_ok X G (c.fact 26 (f := .free "tuple") rfl)
  have c_TURN := He.str_ok X G (c.fact 27 (f := .str "TURN" "~") rfl)
  have e := hfa.symm.trans m_law
  cases e
  have b := FunD.bindsA (ps := ["_law_script"]) F_law fun _ _ _ _ _ _ us hl => match us, hl with | [_], _ => rfl
  refine ⟨f_law, fun s v => b s [v] rfl, fun base _ _ => ?_⟩
  have g_is_letter := df_is_letter (P := P) (w := w) (base := base) F_is_letter m_is_letter n_len
  have g_is_turned := df_is_turned (P := P) (w := w) (base := base) F_is_turned m_is_turned c_TURN
  have g_name_of := df_name_of (P := P) (w := w) (base := base) F_name_of m_name_of g_is_turned
  have g_is_name := df_is_name (P := P) (w := w) (base := base) F_is_name m_is_name n_all n_len
  have g_is_piece := df_is_piece (P := P) (w := w) (base := base) F_is_piece m_is_piece g_is_name g_name_of
  have g_turned_symbol := df_turned_symbol (P := P) (w := w) (base := base) F_turned_symbol m_turned_symbol c_TURN g_is_piece g_is_turned
  have g_fresh_names := df_fresh_names (P := P) (w := w) (base := base) F_fresh_names m_fresh_names n_len n_tuple
  have g__law_cell := df__law_cell (P := P) (w := w) (base := base) F__law_cell m__law_cell n_len
  have g__law_draws := df__law_draws (P := P) (w := w) (base := base) F__law_draws m__law_draws n_abs n_int n_range
  have g__law_same := df__law_same (P := P) (w := w) (base := base) F__law_same m__law_same n_bool n_dict n_int n_isinstance n_len n_list n_range n_str n_tuple
  have g__law_is_name := df__law_is_name (P := P) (w := w) (base := base) F__law_is_name m__law_is_name n_len
  have g__law_string := df__law_string (P := P) (w := w) (base := base) F__law_string m__law_string n_int n_len
  have g__law_good_string := df__law_good_string (P := P) (w := w) (base := base) F__law_good_string m__law_good_string n_len g__law_is_name g__law_same g_is_letter g_is_name g_is_piece g_name_of g_turned_symbol
  have g__law_given := df__law_given (P := P) (w := w) (base := base) F__law_given m__law_given n_int n_len n_range n_str
  have g__law_fresh := df__law_fresh (P := P) (w := w) (base := base) F__law_fresh m__law_fresh n_len n_range n_str n_tuple
  have g_law := df_law (P := P) (w := w) (base := base) F_law m_law n_int n_list n_range n_tuple g__law_cell g__law_draws g__law_fresh g__law_given g__law_good_string g__law_same g__law_string g_fresh_names
  exact law_ofF F_law m_law g_law (fun ns hn => by first | exact ⟨_, rfl, hn⟩ | exact hn | trivial | exact ⟨rfl, hn⟩) (fun ns d h => by first | exact h | exact h rfl)
end Z
open PySem PySem.W PySem.Calls PyProof.Rows
set_option maxRecDepth 100000 in
set_option maxHeartbeats 0 in
theorem PySem.Challenge.cw_twiceeach_k00_symbols_and_fresh_names_holds : PySem.Challenge.rw_twiceeach_k00_symbols_and_fresh_names.Holds := by
  w_on; o_law
  refine HandSHeadRun.head_any (r := OpenLaw.row PySem.Challenge.rw_twiceeach_k00_symbols_and_fresh_names) (q := view (OpenLaw.row PySem.Challenge.rw_twiceeach_k00_symbols_and_fresh_names).prog [18]) (H := Z.hk) (ob := Z.ob) (M := 4000) (loose := Z.looseL) (d := HandSHeadRun.topDef (OpenLaw.row PySem.Challenge.rw_twiceeach_k00_symbols_and_fresh_names).prog 18) (kwd := []) Z.ob_eq
    (by kernel_rfl) (fun s => by kernel_rfl) Z.run (by kernel_rfl) (by kernel_rfl) (by kernel_rfl) (by rfl) (by first | assumption | decide +kernel) (by decide +kernel) ⟨rfl, rfl, rfl, rfl, rfl, by decide +kernel⟩ ?hw ?hc
  case hw => w_witness2
  case hc =>
    refine L2.walk_ofE (l := PySem.Challenge.rw_twiceeach_k00_symbols_and_fresh_names) (n := 63) (k := 7) (x := "_law_script") (CX := L2.CX0) rfl (by decide) (by kernel_rfl) ⟨rfl, by decide, by decide⟩ ?F (fun _ _ _ _ z => z)
    intro w mg fa h Y G hmg0
    obtain ⟨K, KX, c⟩ := Y
    have hmg : mg ("law" : PySem.Str) = some (.ref fa) := by
      have e : (HandSHeadRun.topDef (OpenLaw.row PySem.Challenge.rw_twiceeach_k00_symbols_and_fresh_names).prog 18).name = ("law" : PySem.Str) := by kernel_rfl
      rw [← e]
      exact hmg0
    obtain ⟨fd, hb, hF⟩ := Z.facts (P := (PySem.Challenge.rw_twiceeach_k00_symbols_and_fresh_names).prog) (w := w) KX G hmg c
    exact ⟨K, fd, Z.spLawZ K, KX, hb, fun H a ns hl _ hS => ⟨a, ns, rfl, hS, hl, fun _ => rfl⟩, hF⟩
#print axioms PySem.Challenge.cw_twiceeach_k00_symbols_and_fresh_names_holds
