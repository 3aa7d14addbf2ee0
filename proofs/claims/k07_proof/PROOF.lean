import PyProof.Rows.All
import Wide.All
import OpenK.AllK
import Wide.FinOn
import KE.KStateDown
import Lean
import HandS.ForMost
import HandS.IsInst
import HandS.FStr
import HandS.Style
import HandS.TupAny
import HandS.Defaults
import HandS.More
import HandS.WordsExc
import HandS.Head0
import HandS.Head1
import HandS.Head2
import HandS.HeadEnd
import HandS.HeadHook1
import HandS.HeadHook2
import HandS.GenList
import PyProof.TupleOfGen
import HandS.AnyAll
import HandS.Star
import HandS.Text
import HandS.List
import HandS.Iter
import PyProof.WalkInts
import PyProof.SliceStr2
import PyProof.StrOps2
import KE.KRevSl
import KE.KSuper
import KE.KExcSuper
import HandS.Nested
import HandS.ExcInit
import HandS.Exc
import KE.KExcIs
import HandS.ExcIs
import HandS.ExcField
import HandS.ExcOwn
import HandS.TryOnly
import HandS.TryMany
import HandS.HeadHook4
import HandS.HeadWalk
import HandS.RevTup
import PyProof.FitsInt
import PyProof.StrLawsRepr
import HandS.FltList
import PySem.Challenge.RW_twiceeach_k07_row_texts_there_and_back
set_option Elab.async false
set_option linter.all false
set_option maxRecDepth 100000
set_option maxHeartbeats 4000000
namespace L2
open PySem PySem.Spec PyProof.Rows GenW
section
variable {P : Program} {w : World} {outer : List Env} {H : Hp} {sc s : Shared} {ex : List Addr} {Q : List V → Hp → Prop} {EX : XK} {A : Around} {k : Nat} {E : Value → Shared → Prop}
/-- what stands once a generator is drained into the list at S -/
structure Drained (P : Program) (w : World) (outer : List Env) (H : Hp) (sc : Shared) (ex : List Addr) (Q : List V → Hp → Prop) (s' : Shared) (S : Addr) (acc : Array Value) (H' : Hp) (ys : List V) : Prop where
  vals : Vals ys acc.toList
  le : ys.length ≤ sizeLine
  os : s'.os = sc.os
  bare : AllBare s'.gens
  un : Un (frs outer) ex H H' sc.heap s'.heap
  hok : HOk P w H' s'.heap
  no : H' S = none
  q : Q ys H'
theorem gen_ne_list : ((Value.type "generator" == Value.type "list") || (Value.type "generator" == Value.type "tuple")) = false := by decide
/-- the items of a generator that has not begun, collected -/
theorem collectG (hr : Room (k + 3) A) (hfr : A.frames = some outer) {u : Value} (h : GMade P w k outer H sc ex Q EX u s) {Q' : List Value → Shared → Prop}
    (hQ : ∀ S s' acc c H' ys, s.heap.objs.size ≤ S → s'.heap.get? S = some (lstObj acc c) → Drained P w outer H sc ex Q s' S acc H' ys → Q' acc.toList s')
    (hexc : ∀ e s' g, CX P w outer H sc EX e s' → NotStop (model P w) e s'.heap ∧ E e (s'.setGen g .finished)) : wpAny (model P w) A.in1.in1 (collect u) Q' E s := by
  obtain ⟨a, g, c, rfl, _, ha2, hg, hgs, hos, hb, hl, _, wake⟩ := h
  have nSa : s.heap.objs.size ≠ a := fun e => absurd ha2 (by rw [e]; exact Nat.lt_irrefl _)
  have nSc : s.heap.objs.size ≠ cStatics := fun e => by
    obtain ⟨_, hn, _⟩ := hl
    exact absurd hn.lt (by rw [e]; exact Nat.lt_irrefl _)
  unfold collect
  refine wpAny_bind (wpAny_runValue (codeAny_builtin F.entry_proto_collect (by
    rw [Around.under_plainId F.plain_proto_collect _]
    show wpAny _ A.in1.in1.in1 (newList [] >>= fun l => again (.builtin "list.__iadd__" ⟨[l, .ref a], []⟩)) _ _ s
    refine wpAny_bind (wpAny_newObj_type (wpAny_pure ⟨plainId_quiet F.plain_list_iadd _, codeAny_builtin F.entry_list_iadd ?_⟩))
    rw [Around.under_plainId F.plain_list_iadd _]
    show wpAny _ A.in1.in1.in1 (Builtin.List.listExtendWith (.ref s.heap.objs.size) (.ref a) (.ref s.heap.objs.size)) _ _ _
    unfold Builtin.List.listExtendWith
    have kk : ∀ b o, s.heap.get? b = some o → (s.heap.push { cls := .type "list", data := .seq ([] : List Value).toArray }).get? b = some o := fun b o e => Heap.get?_push_of_some _ e
    have up : ∀ (h : Heap) (f : Obj → Obj), (∀ b o, s.heap.get? b = some o → h.get? b = some o) → ∀ b o, s.heap.get? b = some o → (h.update s.heap.objs.size f).get? b = some o :=
      fun h f q b o e => by
        rw [Heap.get?_update_other _ _ (fun z => absurd (Heap.lt_size e) (by rw [z]; exact Nat.lt_irrefl _))]
        exact q b o e
    have gt : ∀ {h : Heap}, (∀ b o, s.heap.get? b = some o → h.get? b = some o) → h.IsGen a g := hg.keeps
    refine wpAny_bind (wpAny_typeOf (Heap.IsGen.typeIs (s := { s with heap := _ }) (gt kk)) ?_)
    have e1 : Builtin.List.listSameRef (.ref s.heap.objs.size) (.ref a) = false := by unfold Builtin.List.listSameRef; simp [nSa]
    simp only [e1, gen_ne_list, Bool.or_false, Bool.false_eq_true, if_false]
    refine wpAny_bind (wpAny_pyIter_gen (s := { s with heap := _ }) (gt kk) (wpAny_bind (wpAny_holding ?_)))
    unfold Builtin.List.listLengthHint
    refine wpAny_bind (wpAny_specialOf (Heap.IsGen.typeIs (s := { s with heap := _ }) (gt kk)) F.gen_no_len ?_)
    show wpAny _ A.in1.in1.in1 (specialOf (Value.ref a) (Str.ofString "__length_hint__") >>= _) _ _ _
    refine wpAny_bind (wpAny_specialOf (Heap.IsGen.typeIs (s := { s with heap := _ }) (gt kk)) F.gen_no_hint (wpAny_pure ?_))
    show wpAny _ A.in1.in1.in1 (rule "list.extend.makes-room" >>= fun _ => Builtin.List.listTouch (.ref s.heap.objs.size) >>= fun _ => again (.builtin "list.extend.loop" ⟨[.ref s.heap.objs.size, .ref a, .ref s.heap.objs.size], []⟩)) _ _ _
    have o1 : (s.heap.push { cls := .type "list", data := .seq ([] : List Value).toArray }).get? s.heap.objs.size = some { cls := .type "list", data := .seq ([] : List Value).toArray } := Heap.get?_push_size _ rfl
    refine wpAny_bind (wpAny_rule (wpAny_bind ?_))
    show wpAny _ A.in1.in1.in1 (updateSeq s.heap.objs.size (·.push .none) >>= fun _ => updateSeq s.heap.objs.size (·.pop)) _ _ _
    have o2 := Heap.get?_update_self (Obj.mapSeq (·.push Value.none)) o1 rfl
    have o3 := Heap.get?_update_self (Obj.mapSeq (·.pop)) o2 rfl
    refine wpAny_bind (wpAny_updateSeq o1 rfl (wpAny_updateSeq (hz := by seq_fits) o2 rfl ?_))
    have k3 := up _ (Obj.mapSeq (·.pop)) (up _ (Obj.mapSeq (·.push Value.none)) kk)
    refine wpAny_pure ⟨plainId_quiet F.plain_extend_loop _, ?_⟩
    refine drain (P := P) (w := w) (outer := outer) (H := H) (sc := sc) (ex := ex) (Q := Q) (EX := EX) (A := A.in1.in1) (g := g) hr.hd (by have := hr.dp; show A.depth < _; omega) nSa nSc ?_ (fun e s' hc => hexc e s' g hc) sizeLine _ (gt k3) (hl.keeps k3) ⟨_, hgs, rfl, ?_⟩
    · intro s' acc c' H' ys q1 q2 q3 q4 q5 q6 q7 q8 q9
      show wpAny _ A.in1.in1 (load s.heap.objs.size >>= _) _ _ s'
      exact wpAny_bind (wpAny_load q1 (wpAny_pure (hQ _ s' acc c' H' ys (Nat.le_refl _) q1 ⟨q2, q3, q4, q5, q6, q7, q8, q9⟩)))
    · refine wake _ _ _ ⟨hr.hd, ?_, ?_⟩ hfr (Nat.le_refl _) k3 ⟨_, o3⟩ hos (allBare_setGen (s := { s with heap := _ }) hb rfl)
      · have := hr.dp
        show A.depth + 3 * k + 5 < _
        omega
      · have := hr.un
        show A.units + 1 + 1 + 1 + 1 + 16 * k + 200 < _
        omega)))
/-- tuple(g) -/
theorem tupleG (hr : Room (k + 3) A) (hfr : A.frames = some outer) {u : Value} (h : GMade P w k outer H sc ex Q EX u s) {Q' : Value → Shared → Prop}
    (hQ : ∀ S s' acc c H' ys, s.heap.objs.size ≤ S → s'.heap.get? S = some (lstObj acc c) → Drained P w outer H sc ex Q s' S acc H' ys → Q' (.ref s'.heap.objs.size) { s' with heap := s'.heap.push { cls := .type "tuple", data := .seq acc } })
    (hexc : ∀ e s' g, CX P w outer H sc EX e s' → NotStop (model P w) e s'.heap ∧ E e (s'.setGen g .finished)) : wpAny (model P w) A (call (.type "tuple") [u]) Q' E s := by
  have hT : ∃ a, u = .ref a ∧ s.TypeIs (.ref a) "generator" := by
    obtain ⟨a, g, c, rfl, _, _, hg, _⟩ := id h
    exact ⟨a, rfl, hg.typeIs⟩
  obtain ⟨a, rfl, hT⟩ := hT
  refine callType_codes (Q₁ := fun o t => t.TypeIs o "tuple" ∧ Q' o t) F.called_tuple (F.typeCall_tuple_1 _) F.entry_object_init ?_ fun o t ht => ⟨ht.1, F.args_object_init_2 o _, object_init_meets F.called_tuple.init.lookup F.called_tuple.made (by decide) P w A.in1 _ t ⟨ht.1, rfl, ht.2⟩⟩
  refine codeAny_of_tree ?_
  show wpAny _ A.in1.in1 (do checkBuiltinCall "tuple.__new__" ⟨[.type "tuple", .ref a], []⟩; again (.builtin "tuple.__new__" ⟨[.type "tuple", .ref a], []⟩)) _ _ s
  refine wpAny_bind (wpAny_of_eq (F.newCall_tuple_1 _) (wpAny_pure ⟨plainId_quiet F.plain_tuple_new _,
    codeAny_builtin F.entry_tuple_new ?_⟩))
  rw [Around.under_plainId F.plain_tuple_new _]
  have x1 := sub_tuple_self
  have x2 := init_tuple_lookup
  have x3 := madeHere_tuple
  wp_walk using wpAny_typeOf hT, collectG hr hfr h
  · intro S s' acc c H' ys q0 q1 q2
    show wpAny _ _ (Builtin.Tuple.tupleExact acc.toList.toArray >>= fun v => ret v) _ _ _
    unfold Builtin.Tuple.tupleExact
    have e : acc.toList.toArray = acc := by simp
    rw [e]
    have le : acc.size ≤ sizeLine := by
      have h1 := q2.vals.length
      have h2 := q2.le
      have h3 : acc.toList.length = acc.size := by simp
      omega
    exact wpAny_bind (wpAny_newObj_type (wpAny_pure ⟨⟨_, Heap.get?_push_size _ rfl, rfl⟩, hQ S s' acc c H' ys q0 q1 q2⟩) le)
  · exact fun e s' g hc => hexc e s' g hc
end
end L2

namespace L2
open PySem PySem.Spec PyProof.Rows GenW
section
variable {X : Cx} {k : Nat}
theorem notE0 {P : Program} {w : World} {outer : List Env} {H : Hp} {s : Shared} {e : Value} {s' : Shared} (h : CX P w outer H s E0 e s') : False := by
  obtain ⟨_, _, _, _, _, _, _, _, _, _, _, _, z⟩ := h
  exact z
def tTupG (tg : TGen) : TE := fun σ H Q => tg σ H fun out H2 => ∀ p, H2 p = none → Q (.ref p) (upd H2 p (.tup out))
/-- tuple(g), g a generator that lets nothing out -/
theorem pe_tupG {e : Expr} {tg : TGen} {nm : Str} {p pos : Pos} (h : PGen X k e tg E0) (hr : Room (k + 3) X.A) (hg : Gl X nm) (hmg : X.mg nm = none) (hv : bootBuiltins nm = some (.type "tuple")) (hnm : nm ≠ "__name__" := by decide) (hdb : (nm == ("__debug__" : Str)) = false := by decide)
    (he : starEach [e] X.env = (false, eval e X.env) :: starEach [] X.env := by rfl) : PE X (.Call (.Name nm p) [e] [] pos) (tTupG tg) := by
  refine ⟨fun pins s σ H Q I hq => wpAny_Call_Name_kw (ld_blt I hg hmg hv ?_ hnm hdb)⟩
  refine PyProof.Rows.callWith_type1 ?_ he rfl
  rw [he]
  show wpAny _ _ (spliced ((false, eval e X.env) :: backTo pos (starEach [] X.env))) _ _ s
  refine Calls.spliced_cons (thn (h.run pins s σ H _ I hq) fun u s1 ⟨H1, sc, ex, I1, hex, hG⟩ => Calls.spliced_nil ?_)
  refine tupleG hr I1.ok.frames hG (fun S s' acc c H' ys q0 q1 d => ?_) fun e s' g hc => (notE0 hc).elim
  have I2 : Inv X pins σ H' s' := I1.call' (ch := ex) d.os d.un d.hok d.bare hex
  have nw : (s'.heap.push { cls := .type "tuple", data := .seq acc }).get? s'.heap.objs.size = some { cls := .type "tuple", data := .seq acc } := Heap.get?_push_size _ rfl
  refine ⟨.ref s'.heap.objs.size, upd H' s'.heap.objs.size (.tup ys), ?_, rfl, d.q _ (I2.hok.fresh (Nat.le_refl _))⟩
  exact I2.laid (t' := s'.toks) (fun b o z => Heap.get?_push_of_some _ z) (Nat.le_refl _) ⟨d.le, acc.toList, d.vals, ⟨_, nw, rfl, 0, by simp⟩⟩
end
end L2

namespace L2
open PySem PySem.Spec PyProof.Rows GenW GxR
/-- the frame of a generator expression -/
abbrev Cx.gx (X : Cx) (A : Around) (s : Shared) (H : Hp) (cenv : Env) (fp : List Addr) (pn : List (Addr × Obj)) : Cx :=
  { X with A := A.deeper cenv, s_0 := s, H_0 := H, env := cenv, outer := X.stack, stack := cenv :: X.stack, ex := fp, fn := fun _ => false, pn := pn, xe := fun _ _ => False }
/-- its scope: the target's names (with their places in N), the walked thing at «.0», what it captures; no cells -/
structure GenB (N : List Str) (sc scope : Scope) (own : List (Str × Nat)) : Prop extends BlkOk N sc scope own where
  co : scope.isCoroutine = false
  nocell : ∀ y ∈ scope.names, y.2 ≠ .cell
  dot : scope.names.lookup (".0" : Str) = some NameKind.local
section
variable {X : Cx} {pins : List (Addr × Obj)} {σ : L2.St} {H : Hp} {s s6 : Shared}
theorem gen_start {A : Around} {scope : Scope} {own : List (Str × Nat)} {fp : List Addr} {code : Value} {pn ip : List (Addr × Obj)} {m : Str → Option Value} (I : Inv X pins σ H s) (ok : GenB X.N X.env.scope scope own) (hN : X.N.Nodup) (hfp : ∀ b ∈ fp, FpOk X pins H b ∧ b < s.heap.objs.size)
    (hA : A.handled = none) (hfr : A.frames = some X.stack) (hm : s6.heap.Ns s.heap.objs.size m) (kp : ∀ b o, s.heap.get? b = some o → s6.heap.get? b = some o) (os : s6.os = s.os) (bare : AllBare s6.gens)
    (hp : ∀ p ∈ pn ++ ip, s6.heap.get? p.1 = some p.2 ∧ s.heap.objs.size < p.1 ∧ ∀ v, p.2.data ≠ .cell v) :
    Inv (X.gx A s H (genEnv scope (cloFrom X.env.cells scope.names []) s.heap.objs.size code builtinsNs X.env) fp pn) ip (wipe σ (own.map (·.2))) H s6 := by
  have hfree : ∀ y ∈ scope.names, y.2 = .free → ∃ c, X.env.cells.lookup y.1 = some c := fun y hy e => (ok.free y hy e).elim (fun k => I.ok.has _ (.inl k)) fun k => I.ok.has _ (.inr k)
  generalize hce : genEnv scope (cloFrom X.env.cells scope.names []) s.heap.objs.size code builtinsNs X.env = ce
  have eL : ce.locals = s.heap.objs.size := by rw [← hce]; rfl
  have eC : ce.cells = cloFrom X.env.cells scope.names [] := by rw [← hce]; rfl
  have eS : ce.scope = scope := by rw [← hce]; rfl
  have eF : ce.frame = some ce.locals := by rw [← hce]; rfl
  have cm : ∀ {y c}, ce.cells.lookup y = some c → X.env.cells.lookup y = some c ∧ c < s.heap.objs.size := fun {y c} e => by
    rw [eC] at e
    rcases cloFrom_mem (PySem.mem_of_lookup e) with z | ⟨h1, rfl⟩
    · cases z
    · obtain ⟨c, hc⟩ := hfree _ h1 rfl
      obtain ⟨w, q⟩ := I.cell _ _ hc
      rw [hc]
      exact ⟨rfl, q.lt⟩
  have look : ∀ {y}, scope.names.lookup y = some .free → ∃ c, ce.cells.lookup y = some c ∧ X.env.cells.lookup y = some c := fun {y} hl => by
    obtain ⟨c, e⟩ := mem_lookup (cloFrom_has (cells := X.env.cells) (acc := []) (PySem.mem_of_lookup hl))
    rw [← eC] at e
    exact ⟨c, e, (cm e).1⟩
  have nc : ∀ y, scope.names.lookup y ≠ some .cell := fun y e => ok.nocell _ (PySem.mem_of_lookup e) rfl
  have okB : (X.gx A s H ce fp pn).Ok := by
    constructor
    · exact I.ok.mod
    · show ce.scope.kind = _
      rw [eS]; exact ok.kind
    · show ce.globals = _
      rw [← hce]; exact I.ok.glob
    · show ce.builtins = _
      rw [← hce]; rfl
    · show s.heap.objs.size ≤ ce.locals
      rw [eL]; exact Nat.le_refl _
    · exact fun y z c e1 e2 => I.ok.inj y z c (cm e1).1 (cm e2).1
    · intro y hy
      have hy : ce.scope.names.lookup y = some .cell ∨ ce.scope.names.lookup y = some .free := hy
      rw [eS] at hy
      rcases hy with hy | hy
      · exact absurd hy (nc y)
      · obtain ⟨c, h1, _⟩ := look hy
        exact ⟨c, h1⟩
    · exact fun y c z => absurd z Bool.false_ne_true
    · exact fun _ => hA
    · exact Around.frames_deeper hfr
    · exact .inr ⟨rfl, eF⟩
    · intro b hb
      refine ⟨?_, fun y c e z => (hfp b hb).1.2.2.2.2.1 y c (cm e).1 z⟩
      show b ≠ ce.locals
      rw [eL]; exact Nat.ne_of_lt (hfp b hb).2
    · exact I.bs
    · exact Nat.le_trans I.ok.bsz I.sz
    · intro b o e hb
      rcases (hfp b hb).1.2.2.2.1 with z | z
      · exact I.ok.noex b o e z
      · exact absurd (Nat.lt_of_lt_of_le (Heap.lt_size e) (Nat.le_trans I.ok.bsz z)) (Nat.lt_irrefl _)
    · intro b hb z
      rcases List.mem_cons.mp (I.stkSub b z) with z | z
      · exact (hfp b hb).1.2.1 z
      · exact (hfp b hb).1.2.2.1 z
    · exact I.stack
    · exact I.stkFree
  refine ⟨okB, os, bare, Un.kept kp, ⟨m, ?_, fun i y av e1 e2 e3 => ?_⟩, fun y c e => ?_, ?_, fun y c e => I.freeC y c (cm e).1, fun p hq => ?_, I.hok.kept kp, by rw [wipe_length]; exact I.len⟩
  · show Heap.Ns _ ce.locals _
    rw [eL]; exact hm
  · obtain ⟨e2, hne⟩ := wipe_some e2
    have e3 : Vis ce.scope y := e3
    rw [eS] at e3
    have no : ∀ k, scope.names.lookup y = some k → ¬ (k = .local ∨ k = .cell) := fun k e hh => by
      rcases ok.own _ (PySem.mem_of_lookup e) hh with e' | e'
      · obtain ⟨p, hp, hpy⟩ := List.mem_map.mp e'
        have z := ok.ix p hp
        rw [show p.1 = y from hpy] at z
        exact hne (List.mem_map.mpr ⟨p, hp, nodup_ix hN z e1⟩)
      · exact e' (List.mem_of_getElem? e1)
    rcases e3 with e3 | e3 | e3
    · exact absurd (.inl rfl) (no _ e3)
    · exact absurd (.inr rfl) (no _ e3)
    · obtain ⟨m0, hn0, hl⟩ := I.loc
      obtain ⟨w, r, q⟩ := hl i y av e1 e2 ((ok.free _ (PySem.mem_of_lookup e3) rfl).elim (fun k => .inr (.inl k)) fun k => .inr (.inr k))
      have kf : ce.scope.names.lookup y = some .free := by rw [eS]; exact e3
      refine ⟨w, r, .inr ⟨.inr kf, ?_⟩⟩
      obtain ⟨c, h1, h2⟩ := look e3
      rcases q with ⟨k, _⟩ | ⟨_, c', e', z⟩
      · have k : X.env.scope.names.lookup y = some .local := k
        rcases ok.free _ (PySem.mem_of_lookup e3) rfl with k' | k' <;> rw [show X.env.scope.names.lookup y = _ from k'] at k <;> cases k
      · rw [h2] at e'; cases e'
        exact ⟨c, h1, z.keeps kp⟩
  · obtain ⟨w, z⟩ := I.cell y c (cm e).1
    exact ⟨w, z.keeps kp⟩
  · show H ce.locals = none
    rw [eL]; exact I.hok.fresh (Nat.le_refl _)
  · obtain ⟨h1, h2, h3⟩ := hp p hq
    have ge := Nat.le_of_lt h2
    refine ⟨h1, I.hok.fresh ge, ?_, fun z => ?_, h3⟩
    · show p.1 ≠ ce.locals
      rw [eL]; exact Nat.ne_of_gt h2
    · rcases List.mem_cons.mp (I.stkSub p.1 z) with z | z
      · have := I.lt
        rw [← z] at this
        exact absurd (Nat.lt_of_lt_of_le this ge) (Nat.lt_irrefl _)
      · exact I.nofs ge z
end
end L2

namespace L2
open PySem PySem.Spec PyProof.Rows GenW GxR
theorem over_gloop {A : Around} {elt : Expr} {cs : List Comprehension} {sc : Scope} {p : Pos} {it acc : Value} {env : Env} : A.over (.compLoop (.GeneratorExp elt cs sc p) 0 it acc env) [] = A.deeper env := rfl
theorem over_gstart {A : Around} {elt : Expr} {cs : List Comprehension} {sc : Scope} {p : Pos} {it acc : Value} {env : Env} : A.over (.compStart (.GeneratorExp elt cs sc p) 0 it acc env) [] = A.deeper env := rfl
end L2

namespace L2
open PySem PySem.Spec PyProof.Rows GenW GxR
/-- one turn of a generator expression: ys is out -/
def GeTurn (J : It) (g : TG) (tt : TT) (te : TE) (vs : List Nat) (σ : L2.St) (cont : List V → Hp → Prop) (W : Nat → Nat → List V → Hp → Prop) : Prop := ∀ i m ys H, W i m ys H →
  (J.stop i H ∧ cont ys H) ∨ (J.go i H ∧ ∃ Nx : List V → Hp → Prop, (∀ ys' H', Nx ys' H' → ∃ m', m' < m ∧ W (i + 1) m' ys' H') ∧ ∀ x H', J.yld i H x H' → g x (wipe σ vs) H' fun σ2 H2 => wipe σ2 vs = wipe σ vs ∧ tt σ2 H2 fun b H3 =>
    if b = true then te σ2 H3 fun y H4 => ys.length < sizeLine ∧ Nx (ys ++ [y]) H4 else Nx ys H3)
section
variable {X : Cx}
theorem segF {α : Type} {M : Model} {A : Around} {R : GenEnd} {Y : Protocol} {n : Nat} {s₀ s : Shared} {c : Code} {β : Type} {m : Sem α} {K : α → Sem β} {K' : β → Sem PySem.Fin} {J' : Value → Sem PySem.Fin} {gd lv} {B : Around} {Q : α → Shared → Prop} (e : A.over c [] = B) (h : wpAny M B m Q (fun _ _ => False) s)
    (k : ∀ a s', Q a s' → Seg M A R Y n s₀ c ((K a).wrap K' J' gd lv) [] s') : Seg M A R Y n s₀ c ((m >>= K).wrap K' J' gd lv) [] s := by
  refine seg_bind_wrap ?_
  rw [e]
  exact wpAny_mono h k fun _ _ z => z.elim
theorem seg_gx {A : Around} {s4 : Shared} {H4 : Hp} {ce : Env} {fp : List Addr} {elt tg iter : Expr} {ifs : List Expr} {scope : Scope} {pos : Pos} {it a S : Addr} {gi : Nat} {go : Obj} {J : It} {tn : Nat → Heap → Prop} {g : TG} {tt : TT} {te : TE} {vs : List Nat} {σ : L2.St}
    {cont : List V → Hp → Prop} {W : Nat → Nat → List V → Hp → Prop} (hc : X.calm = true) (T : Turn X.prog X.w X.K tg J fp it tn) (pg : PG (X.gx A s4 H4 ce fp [(a, go)]) tg g) (pt : PTs (X.gx A s4 H4 ce fp [(a, go)]) ifs tt) (pe : PE (X.gx A s4 H4 ce fp [(a, go)]) elt te)
    (hco : ce.scope.isCoroutine = false) (turn : GeTurn J g tt te vs σ cont W) (hgo : ∀ h : Heap, h.get? a = some go → h.IsGen a gi) (haS : a ≠ S) (haf : a ∉ fp) (hSf : S ∉ fp) (hAp : Apart (X.gx A s4 H4 ce fp [(a, go)]) S) :
    ∀ (m i n : Nat) (ys : List V) (s₀ s : Shared) (H : Hp), n + ys.length = sizeLine → GI (X.gx A s4 H4 ce fp [(a, go)]) S [] ys (wipe σ vs) H s → tn i s.heap → (∀ b ∈ fp, H b = none) → W i m ys H →
      Seg (model X.prog X.w) A (REnd X.prog X.w X.stack H4 s4 fp S a gi cont E0) (YItem s4 S a gi) n s₀ (.compLoop (.GeneratorExp elt [⟨tg, iter, ifs, 0⟩] scope pos) 0 (.ref it) .none ce)
        ((model X.prog X.w).den (.compLoop (.GeneratorExp elt [⟨tg, iter, ifs, 0⟩] scope pos) 0 (.ref it) .none ce)) [] s := by
  have ov : A.over (.compLoop (.GeneratorExp elt [⟨tg, iter, ifs, 0⟩] scope pos) 0 (.ref it) .none ce) [] = A.deeper ce := over_gloop
  have pnS : ∀ p ∈ (X.gx A s4 H4 ce fp [(a, go)]).pn, p.1 ≠ S := fun p hp => by rw [List.mem_singleton.mp hp]; exact haS
  have stat : ∀ {σ' : L2.St} {H' : Hp} {s' : Shared} {ob : Obj}, Inv (X.gx A s4 H4 ce fp [(a, go)]) [(S, ob)] σ' H' s' → (∀ b ∈ fp, H' b = none) → ∀ b ∈ fp, FpOk (X.gx A s4 H4 ce fp [(a, go)]) [(S, ob)] H' b := fun {σ' H' s' ob} I' hn b hb =>
    ⟨hn b hb, (I'.ok.exf b hb).1, I'.ok.exfs b hb, .inl hb, fun x c e => (I'.ok.exf b hb).2 x c e, fun p hp z => by
      rcases List.mem_cons.mp (show p ∈ [(a, go), (S, ob)] from hp) with q | q
      · subst q; exact haf (by rw [show a = b from z]; exact hb)
      · rw [List.mem_singleton.mp q] at z; exact hSf (by rw [show S = b from z]; exact hb)⟩
  intro m
  induction m using Nat.strongRecOn with
  | ind m ih =>
    intro i n ys s₀ s H hn hI st nf w
    show Seg _ A _ _ n s₀ _ ((compTurn (.GeneratorExp elt [⟨tg, iter, ifs, 0⟩] scope pos) 0 (.ref it) .none ce).onRaise (leaving ce)) [] s
    rw [compTurn_gen, Sem.onRaise_eq_wrap]
    refine seg_bind_wrap (wpAny_standAt ?_)
    obtain ⟨acc, c0, ra, I⟩ := hI
    rcases turn i m ys H w with ⟨stop, q⟩ | ⟨gg, Nx, hNx, step⟩
    · have td := T.done (X.gx A s4 H4 ce fp [(a, go)]) rfl rfl rfl hc i _ s _ H (fun _ _ => False) I (stat I nf) st stop
      refine segF ov td fun r s1 ⟨hr, I1⟩ => ?_
      subst hr
      obtain ⟨p1, p2, _⟩ := I1.pin (S, lstObj acc c0) (List.mem_append_right _ List.mem_cons_self)
      exact seg_end (.ok .next) (.inl ⟨.inr rfl, H, ys, acc, c0, I1.os, I1.bare, I1.base, I1.hok, p2, p1, ra, by omega, q⟩)
    · have ti := T.item (X.gx A s4 H4 ce fp [(a, go)]) rfl rfl rfl hc i _ s _ H (fun _ _ => False) I (stat I nf) st gg
      refine segF ov ti fun r s1 ⟨u, hr, h1⟩ => ?_
      subst hr
      refine segF ov h1 fun _ s2 ⟨x, H2, I2, r2, y2, st2, n2⟩ => ?_
      have I2' := I2.pinned (stat I2 n2) (T.obj _ _ st2)
      refine segF ov (pg.run _ s2 _ H2 x u _ I2' r2 (step x H2 y2)) fun _ s3 ⟨σ3, H3, I3, hw3, q3⟩ => ?_
      refine segF ov (pt.run _ s3 σ3 H3 _ I3 q3) fun b s5 ⟨H5, I5, q5⟩ => ?_
      -- the turn's end
      have hl : (wipe σ vs).length = σ3.length := by rw [← hw3, wipe_length]
      have fin : ∀ {s' : Shared} {H' : Hp} {ys' : List V} {n' : Nat} {s₀' : Shared}, n' + ys'.length = sizeLine → GI (X.gx A s4 H4 ce fp [(a, go)]) S (pinsAt fp s2.heap) ys' σ3 H' s' → Nx ys' H' →
          Seg (model X.prog X.w) A (REnd X.prog X.w X.stack H4 s4 fp S a gi cont E0) (YItem s4 S a gi) n' s₀' (.compLoop (.GeneratorExp elt [⟨tg, iter, ifs, 0⟩] scope pos) 0 (.ref it) .none ce)
            ((model X.prog X.w).den (.compLoop (.GeneratorExp elt [⟨tg, iter, ifs, 0⟩] scope pos) 0 (.ref it) .none ce)) [] s' := fun {s' H' ys' n' s₀'} hn' ⟨acc', c', ra', I'⟩ nx => by
        obtain ⟨m', hm, w'⟩ := hNx ys' H' nx
        have pin' : ∀ b ∈ fp, ∀ o, s2.heap.get? b = some o → s'.heap.get? b = some o ∧ H' b = none := fun b hb o e =>
          let z := I'.pin (b, o) (List.mem_append_right _ (List.mem_cons_of_mem _ (mem_pinsAt hb e)))
          ⟨z.1, z.2.1⟩
        have I'' : Inv (X.gx A s4 H4 ce fp [(a, go)]) [(S, lstObj acc' c')] σ3 H' s' := Inv.unpinned (pins := [(S, lstObj acc' c')]) (pl := pinsAt fp s2.heap) I'
        refine ih m' hm (i + 1) n' ys' s₀' s' H' hn' ⟨acc', c', ra', I''.weak hl fun j v e => ?_⟩ (T.keep _ _ _ st2 fun b hb o e => (pin' b hb o e).1) (fun b hb => ?_) w'
        · rw [← hw3] at e
          exact (wipe_some e).1
        · obtain ⟨o, e, _⟩ := T.obj _ _ st2 b hb
          exact (pin' b hb o e).2
      cases b with
      | false =>
        simp only [Bool.false_eq_true, if_false] at q5 ⊢
        exact seg_again rfl (fin hn ⟨acc, c0, ra, I5⟩ q5)
      | true =>
        simp only [if_true] at q5 ⊢
        have hy : ∀ v, yieldOut ce v = yieldValue v := fun v => by unfold yieldOut; rw [hco]; rfl
        simp only [hy]
        rw [Sem.bind_eq_wrap', Sem.bind_eq_wrap', Sem.wrap_wrap, Sem.wrap_wrap]
        refine seg_wrap ?_
        rw [ov]
        refine wpAny_mono (pe.run _ s5 σ3 H5 _ I5 q5) (fun v s6 ⟨yv, H6, I6, r6, le, nx⟩ => ?_) fun _ _ z => z.elim
        obtain ⟨n, rfl⟩ : ∃ k, n = k + 1 := ⟨n - 1, by omega⟩
        have G6 : GI (X.gx A s4 H4 ce fp [(a, go)]) S (pinsAt fp s2.heap) ys σ3 H6 s6 := ⟨acc, c0, ra, I6⟩
        obtain ⟨p1, p2, _⟩ := I6.pin (S, lstObj acc c0) (List.mem_append_right _ List.mem_cons_self)
        have pa := (I6.pin (a, go) (List.mem_append_left _ (List.mem_singleton.mpr rfl))).1
        have ipS : ∀ p ∈ pinsAt fp s2.heap, p.1 ≠ S := fun p hp z => hSf (by rw [← z]; exact (of_pinsAt hp).1)
        have sz : acc.size = ys.length := by
          have e1 := ra.length
          have e2 : acc.toList.length = acc.size := by simp
          omega
        refine seg_at (seg_yield rfl rfl rfl ⟨I6.os, I6.bare, I6.nolimit, hgo _ pa, ⟨acc, c0, p1, by rw [sz]; exact hn⟩, fun s7 z => ?_⟩)
        refine seg_again rfl (fin ?_ (G6.woken pnS ipS hAp r6 z) nx)
        rw [List.length_append, List.length_singleton]; omega
end
end L2

namespace L2
open PySem PySem.Spec PyProof.Rows GenW GxR
def tGx (P : Addr) (wi : TI) (g : TG) (tt : TT) (te : TE) (vs : List Nat) : TGen := fun σ H cont => wi σ H fun J H1 => TabG H1 P ∧ ∀ H2, Tabbed P H1 H2 → ∃ W : Nat → Nat → List V → Hp → Prop, (∃ m, W 0 m [] H2) ∧ GeTurn J g tt te vs σ cont W
section
variable {X : Cx}
/-- (elt for tg in iter if ..): a generator that has not begun; the def's table may have grown -/
theorem pgen_gx {c P : Addr} {k : Nat} {elt tg iter : Expr} {ifs : List Expr} {scope : Scope} {own : List (Str × Nat)} {gpos : Pos} {wi : TI} {g : TG} {tt : TT} {te : TE} (hr : Room k X.A) (hc : X.calm = true) (hN : X.N.Nodup) (TB : TabB X.base X.mg c P) (hcode : X.env.code = .ref c) (ok : GenB X.N X.env.scope scope own) (hi : PI X tg iter wi)
    (hg : ∀ (A : Around) (s : Shared) (H : Hp) (C : Addr) (cl : List (Str × Addr)) (code : Value) (fp : List Addr) (pn : List (Addr × Obj)), Room k (A.deeper (genEnv scope cl C code builtinsNs X.env)) → PG (X.gx A s H (genEnv scope cl C code builtinsNs X.env) fp pn) tg g)
    (ht : ∀ (A : Around) (s : Shared) (H : Hp) (C : Addr) (cl : List (Str × Addr)) (code : Value) (fp : List Addr) (pn : List (Addr × Obj)), Room k (A.deeper (genEnv scope cl C code builtinsNs X.env)) → PTs (X.gx A s H (genEnv scope cl C code builtinsNs X.env) fp pn) ifs tt)
    (he : ∀ (A : Around) (s : Shared) (H : Hp) (C : Addr) (cl : List (Str × Addr)) (code : Value) (fp : List Addr) (pn : List (Addr × Obj)), Room k (A.deeper (genEnv scope cl C code builtinsNs X.env)) → PE (X.gx A s H (genEnv scope cl C code builtinsNs X.env) fp pn) elt te)
    (hs : ∀ v, genFold iter X.env v = pure v) : PGen X (k + 1) (.GeneratorExp elt [⟨tg, iter, ifs, 0⟩] scope gpos) (tGx P wi g tt te (own.map (·.2))) E0 := by
  refine ⟨fun pins s σ H cont I h => ?_⟩
  have hfree : ∀ y ∈ scope.names, y.2 = .free → ∃ c, X.env.cells.lookup y.1 = some c := fun y hy e => (ok.free y hy e).elim (fun k => I.ok.has _ (.inl k)) fun k => I.ok.has _ (.inr k)
  refine wpAny_GeneratorExp_make ok.co (closure_ok hfree) ok.nocell ok.dot ok.kind (by have := hr.dp; omega) ?_ hs
  refine thn (hi.run pins s σ H _ I h) fun xv s1 hx => thn hx fun itv s2 h2 => ?_
  obtain ⟨it, fp, tn, J, H2, rfl, I2, T, st2, f2, ⟨ps, hP, ht3⟩, rest⟩ := h2
  have hPs : s2.heap.get? P = some { cls := .none, data := .fields ps } := I2.hok P _ hP
  have cd : PySem.W.CodeHd s2.heap c P := TB.code.keeps I2.bk
  have nPf : ∀ b ∈ fp, b ≠ P := fun b hb e => by
    have z := (f2 b hb).1
    rw [e, hP] at z; cases z
  refine ⟨I2.nolimit, ?_⟩
  -- the code is there: the table at P is ps ++ more
  have cont2 : ∀ (code : Value) (h3 : Heap) (tk : Nat) (more : Array Value), Heap.ExtBut P s2.heap h3 → s2.heap.objs.size ≤ h3.objs.size → h3.get? P = some { cls := .none, data := .fields (ps ++ more) } → TriplesOk (ps ++ more).toList →
      wpAny (model X.prog X.w) X.A (builtinsFor X.env.globals X.env.builtins) (fun bi s₄ =>
        ∀ h', h'.Ns s₄.heap.objs.size (fun y => if y = ".0" then some (.ref it) else none) → Heap.SameBut s₄.heap.objs.size (s₄.heap.push { cls := .type "frame", data := .dict #[] }) h' →
          (fun u s' => ∃ H1 sc ex, Inv X pins σ H1 sc ∧ ExOk X pins ex ∧ GMade X.prog X.w (k + 1) X.stack H1 sc ex cont E0 u s') (.ref h'.objs.size) { s₄ with
            gens := s₄.gens.push (.fresh (.compStart (.GeneratorExp elt [⟨tg, iter, ifs, 0⟩] scope gpos) 0 (.ref it) .none (genEnv scope (cloFrom X.env.cells scope.names []) s₄.heap.objs.size code bi X.env))),
            toks := s₄.toks + 1 + 1 + 1,
            heap := h'.push { cls := .type "generator", data := .fields #[.int s₄.gens.size 0, .str "<genexpr>" (s₄.toks + 1), .str (X.env.qual ++ "<genexpr>") (s₄.toks + 1 + 1)] } }) X.xe { s2 with heap := h3, toks := tk } := by
    intro code h3 tk more hx hsz hP3 htr
    obtain ⟨bm, ob, e1, e2, e3, e4, e5, e6, e7, e8⟩ := TB.bm
    have keep3 : ∀ b u, b ≠ P → s2.heap.get? b = some u → h3.get? b = some u := fun b u hb e => hx b u hb e
    refine wpAny_builtinsFor (m := X.mg) (by rw [I2.ok.glob]; exact (I2.mod.glob.keeps I2.bk).extBut hx TB.gP) e1 e2 (keep3 _ _ e4 (I2.bk _ _ e5)) e6 e7 e8 ?_
    have I4 : Inv X pins σ (upd H2 P (.tbl (ps ++ more))) { s2 with heap := h3, toks := tk } := inv_tab (g' := s2.gens) (d' := s2.drawn) (t' := tk) I2 hP keep3 hP3 I2.bare
    have nf4 : ∀ b ∈ fp, upd H2 P (.tbl (ps ++ more)) b = none := fun b hb => by rw [upd_ne (nPf b hb)]; exact (f2 b hb).1
    obtain ⟨W, ⟨m0, w0⟩, turn⟩ := rest (upd H2 P (.tbl (ps ++ more))) ⟨⟨ps ++ more, upd_same, htr⟩, fun b hb => upd_ne hb⟩
    have k24 : ∀ b u, b ≠ P → s2.heap.get? b = some u → ({ s2 with heap := h3, toks := tk } : Shared).heap.get? b = some u := keep3
    have z24 : s2.heap.objs.size ≤ ({ s2 with heap := h3, toks := tk } : Shared).heap.objs.size := hsz
    revert I4 nf4 w0 k24 z24
    generalize ({ s2 with heap := h3, toks := tk } : Shared) = s4
    generalize upd H2 P (.tbl (ps ++ more)) = H4
    intro I4 nf4 w0 k24 z24 h' hn' sb
    have sz : h'.objs.size = s4.heap.objs.size + 1 := by rw [sb.1, Heap.size_push]
    have k4 : ∀ b o, s4.heap.get? b = some o → h'.get? b = some o := fun b o e => sb.extBut b o (fun z => absurd (Heap.lt_size e) (by rw [z]; exact Nat.lt_irrefl _)) (Heap.get?_push_of_some _ e)
    generalize hgo : ({ cls := .type "generator", data := .fields #[.int s4.gens.size 0, .str "<genexpr>" (s4.toks + 1), .str (X.env.qual ++ "<genexpr>") (s4.toks + 1 + 1)] } : Obj) = go
    have isg : ∀ h : Heap, h.get? h'.objs.size = some go → h.IsGen h'.objs.size s4.gens.size := fun h e => ⟨go, _, _, e, by rw [← hgo], by rw [← hgo], by rw [← hgo]⟩
    have gnc : ∀ v, go.data ≠ .cell v := fun v z => by rw [← hgo] at z; cases z
    have pgo : (h'.push go).get? h'.objs.size = some go := Heap.get?_push_size _ (by rw [← hgo]; rfl)
    have k5 : ∀ b o, s4.heap.get? b = some o → (h'.push go).get? b = some o := fun b o e => Heap.get?_push_of_some _ (k4 b o e)
    have fl : ∀ b ∈ fp, b < s4.heap.objs.size := fun b hb => by
      obtain ⟨o, e, _⟩ := T.obj _ _ st2 b hb
      exact Nat.lt_of_lt_of_le (Heap.lt_size e) z24
    refine ⟨H4, s4, fp, I4, fun b hb => (f2 b hb).2.2.2 |> fun q => ⟨q.1, (f2 b hb).2.1, q.2.1, q.2.2⟩, h'.objs.size, s4.gens.size, _, rfl, by rw [sz]; exact Nat.le_succ _, by show _ < (h'.push go).objs.size; rw [Heap.size_push]; exact Nat.lt_succ_self _, isg _ pgo, Array.getElem?_push_size .., rfl, AllBare.push I4.bare rfl, I4.nolimit.keeps k5, k5, ?_⟩
    intro A S s6 hrA hfrA hS kp6 hSo os6 ba6
    obtain ⟨cS, eS⟩ := hSo
    have hS' : h'.objs.size + 1 ≤ S := by
      have z : (h'.push go).objs.size ≤ S := hS
      rw [Heap.size_push] at z
      exact z
    have l4 : s4.heap.objs.size < h'.objs.size := by rw [sz]; exact Nat.lt_succ_self _
    have lS : h'.objs.size < S := hS'
    have l4S : s4.heap.objs.size < S := Nat.lt_trans l4 lS
    have k46 : ∀ b o, s4.heap.get? b = some o → s6.heap.get? b = some o := fun b o e => kp6 b o (k5 b o e)
    have hf4 : ∀ b ∈ fp, FpOk X pins H4 b ∧ b < s4.heap.objs.size := fun b hb => ⟨⟨nf4 b hb, (f2 b hb).2⟩, fl b hb⟩
    have I6 := gen_start (code := code) (pn := [(h'.objs.size, go)]) (ip := [(S, lstObj #[] cS)]) I4 ok hN hf4 hrA.hd hfrA ((hn'.push go).keeps kp6) k46 os6 ba6 fun p hp => by
      rcases List.mem_cons.mp (show p ∈ [(h'.objs.size, go), (S, lstObj #[] cS)] from hp) with z | z
      · subst z
        exact ⟨kp6 _ _ pgo, by show _ < h'.objs.size; rw [sz]; exact Nat.lt_succ_self _, gnc⟩
      · rw [List.mem_singleton.mp z]
        exact ⟨eS, l4S, fun v q => by cases q⟩
    have hR := hrA.deeper (genEnv scope (cloFrom X.env.cells scope.names []) s4.heap.objs.size code builtinsNs X.env)
    have pg := hg A s4 H4 s4.heap.objs.size (cloFrom X.env.cells scope.names []) code fp [(h'.objs.size, go)] hR
    have pt := ht A s4 H4 s4.heap.objs.size (cloFrom X.env.cells scope.names []) code fp [(h'.objs.size, go)] hR
    have pe := he A s4 H4 s4.heap.objs.size (cloFrom X.env.cells scope.names []) code fp [(h'.objs.size, go)] hR
    have hco : (genEnv scope (cloFrom X.env.cells scope.names []) s4.heap.objs.size code builtinsNs X.env).scope.isCoroutine = false := ok.co
    have eL : (genEnv scope (cloFrom X.env.cells scope.names []) s4.heap.objs.size code builtinsNs X.env).locals = s4.heap.objs.size := rfl
    revert I6 pg pt pe hco eL
    generalize genEnv scope (cloFrom X.env.cells scope.names []) s4.heap.objs.size code builtinsNs X.env = ce
    intro I6 pg pt pe hco eL
    have ap : Apart (X.gx A s4 H4 ce fp [(h'.objs.size, go)]) S := by
      refine ⟨Nat.le_of_lt l4S, by show S ≠ ce.locals; rw [eL]; exact Nat.ne_of_gt l4S, fun y c e z => ?_⟩
      obtain ⟨v, ob, ho, hd⟩ := I6.cell y c e
      rw [z, eS] at ho
      cases ho
      have hd2 : (lstObj #[] cS).data = .cell v := by first | exact hd | exact hd.1 | exact hd.2
      cases hd2
    have st6 : tn 0 s6.heap := T.keep _ _ _ st2 fun b hb o e => k46 b o (k24 b o (nPf b hb) e)
    have loop := seg_gx (pos := gpos) (scope := scope) (iter := iter) (S := S) (a := h'.objs.size) (gi := s4.gens.size) hc T pg pt pe hco turn isg (Nat.ne_of_lt lS) (fun hm => absurd (Nat.lt_trans l4 (fl _ hm)) (Nat.lt_irrefl _)) (fun hm => absurd (Nat.lt_trans l4S (fl _ hm)) (Nat.lt_irrefl _)) ap m0 0 sizeLine [] s6 s6 H4 (Nat.add_zero _) ⟨#[], cS, .nil, I6⟩ st6 nf4 w0
    show Seg _ A _ _ _ s6 _ ((compStart (.GeneratorExp elt [⟨tg, iter, ifs, 0⟩] scope gpos) 0 (.ref it) .none ce).onRaise (leaving ce)) [] s6
    unfold compStart
    rw [Sem.onRaise_eq_wrap]
    show Seg _ A _ _ _ s6 _ ((ask >>= _).wrap _ _ _ _) [] s6
    refine seg_bind_wrap (wpAny_askSetting ?_)
    split
    · exact seg_again rfl loop
    · first
        | exact seg_bind_wrap (wpAny_rule (seg_bind_wrap (wpAny_standAt (seg_bind_wrap (T.self _ 0 s6 _ _ st6 (seg_again rfl loop))))))
        | (refine seg_bind_wrap (wpAny_rule ?_); show Seg _ A _ _ _ s6 _ ((standAt iter.pos >>= _).wrap _ _ _ _) [] s6; exact seg_bind_wrap (wpAny_standAt (seg_bind_wrap (T.self _ 0 s6 _ _ st6 (seg_again rfl loop)))))
  cases hf : codeAmong gpos ps.toList with
  | none =>
    refine wpAny_genexprCodeX hcode (cd.code hPs ht3) (cd.tab hPs) hf fun c' h' tk hx hge hlt hco' _ htab _ => ?_
    obtain ⟨o1, vs, f1, tf, fl, tg', inF, tx, tt', op, _, _, _, _, _, _, _, _, _, htr, _⟩ := hco'
    exact cont2 _ h' tk _ hx (Nat.le_trans hge (Nat.le_of_lt hlt)) htab.2 htr
  | some cv =>
    refine wpAny_genexprCode_hit hcode (cd.code hPs ht3) hf ?_
    exact cont2 cv s2.heap s2.toks #[] (Heap.ExtBut.refl _ _) (Nat.le_refl _) (by rw [Array.append_empty]; exact hPs) (by rw [Array.append_empty]; exact ht3)
end
end L2

namespace L2
open PySem PySem.Spec PyProof.Rows
section
variable {prog : Program} {w : World} {A : Around} {E : Value → Shared → Prop} {s : Shared}
theorem adj_rev (n : Nat) : Builtin.Slice.sliceAdjust none none (-1) (n : Int) = ((n : Int) - 1, -1) := by
  unfold Builtin.Slice.sliceAdjust
  first
    | rfl
    | (simp only [show ((-1 : Int) < 0) from by decide, if_true])
theorem pla_rev (n : Nat) : Builtin.Slice.slicePlaces ((n : Int) - 1) (-1) (-1) = n := by
  unfold Builtin.Slice.slicePlaces
  first
    | (simp; done)
    | (simp; omega)
    | (split <;> (try simp) <;> omega)
theorem pick_rev (xs : Array Value) : ((List.range xs.size).filterMap fun (k : Nat) => xs[(((xs.size : Int) - 1) + (k : Int) * (-1)).toNat]?).toArray = xs.toList.reverse.toArray := by
  congr 1
  have e : ∀ l : List Nat, (∀ k ∈ l, k < xs.size) → (l.filterMap fun (k : Nat) => xs[(((xs.size : Int) - 1) + (k : Int) * (-1)).toNat]?) = l.map fun k => xs.toList.reverse.getD k .none := by
    intro l
    induction l with
    | nil => intro _; rfl
    | cons k l ih =>
      intro h
      have hk := h k List.mem_cons_self
      have e1 : (((xs.size : Int) - 1) + (k : Int) * (-1)).toNat = xs.size - 1 - k := by omega
      have h2 : xs.size - 1 - k < xs.size := by omega
      rw [List.filterMap_cons, e1, Array.getElem?_eq_getElem h2, List.map_cons, ih fun j hj => h j (List.mem_cons_of_mem _ hj)]
      show xs[xs.size - 1 - k] :: _ = _
      congr 1
      rw [List.getD_eq_getElem?_getD, List.getElem?_reverse (by simpa using hk)]
      simp [h2]
  rw [e _ fun k hk => List.mem_range.mp hk]
  apply List.ext_getElem?
  intro i
  rw [List.getElem?_map]
  by_cases hi : i < xs.size
  · rw [List.getElem?_range hi]
    show some (xs.toList.reverse.getD i Value.none) = _
    rw [List.getD_eq_getElem?_getD, List.getElem?_eq_getElem (by simpa using hi)]
    rfl
  · rw [List.getElem?_eq_none (by simpa using hi), List.getElem?_eq_none (by simpa using hi)]; rfl
theorem applied_rev {sl : Addr} {vl vu vs : Value} {n : Nat} {Q : Int × Int × Nat → Shared → Prop} (hs : s.heap.IsSliceOf sl vl vu vs) (pl : IsPart vl none) (pu : IsPart vu none) (ps : IsPart vs (some (-1)))
    (h : Q ((n : Int) - 1, -1, n) s) : wpAny (model prog w) A (Builtin.Slice.sliceApplied (.ref sl) (pure (n : Int))) Q E s := by
  obtain ⟨os, hos, hcs, hds⟩ := id hs
  unfold Builtin.Slice.sliceApplied Builtin.Slice.sliceFields
  refine wpAny_bind (wpAny_bind (wpAny_field hos hds (x := vl) rfl (wpAny_bind (wpAny_field hos hds (x := vu) rfl (wpAny_bind (wpAny_field hos hds (x := vs) rfl (wpAny_pure ?_)))))))
  refine wpAny_bind (HT.slicePart_ ps ?_)
  show wpAny _ _ (if ((-1 : Int) == 0) = true then _ else _) _ _ s
  rw [if_neg (by decide)]
  refine wpAny_bind (HT.slicePart_ pl (wpAny_bind (HT.slicePart_ pu (wpAny_bind (wpAny_pure ?_)))))
  show wpAny _ _ (match Builtin.Slice.sliceAdjust none none (-1) (n : Int) with | (lo, hi) => pure (lo, (-1 : Int), Builtin.Slice.slicePlaces lo hi (-1))) _ _ s
  rw [adj_rev]
  show wpAny _ _ (pure ((n : Int) - 1, (-1 : Int), Builtin.Slice.slicePlaces ((n : Int) - 1) (-1) (-1))) _ _ s
  rw [pla_rev]
  exact wpAny_pure h
theorem getItem_tup_rev {t sl : Addr} {items : Array Value} {vl vu vs : Value} {Q : Value → Shared → Prop} (ht : IsTup s.heap t items) (hs : s.heap.IsSliceOf sl vl vu vs) (pl : IsPart vl none) (pu : IsPart vu none) (ps : IsPart vs (some (-1)))
    (h : Q (.ref s.heap.objs.size) { s with heap := s.heap.push { cls := .type "tuple", data := .seq items.toList.reverse.toArray } }) (hsz : items.size ≤ sizeLine) : wpAny (model prog w) A (getItem (.ref t) (.ref sl)) Q E s := by
  obtain ⟨os, hos, hcs, hds⟩ := id hs
  have hTs : s.TypeIs (.ref sl) "slice" := ⟨os, hos, hcs⟩
  unfold getItem
  try with_reducible refine wpAny_holding ?_
  first | refine wpAny_bind (wpAny_pure ?_) | skip
  refine wpAny_bind (wpAny_sequenceKey ht.typeIs (by decide) (wpAny_bind (wpAny_callSpecial?_slot (name := Str.ofString "__getitem__") ht.typeIs PyProof.Rows.slot_tuple_getitem
    (wpAny_call_entry PyProof.Rows.slot_tuple_getitem ht.typeIs entry_tuple_getitem ?_ (args_tuple_getitem _ _)))))
  show wpAny _ _ (Builtin.Tuple.tupleItemsOf (.ref t) >>= _) _ _ s
  refine wpAny_bind (tupleItemsOf_ ht (wpAny_bind (wpAny_typeOf hTs ?_)))
  rw [if_pos (by decide)]
  refine wpAny_bind (applied_rev hs pl pu ps ?_)
  have hno : ¬ ((((items.size : Int) - 1) == 0 && (-1 : Int) == 1 && items.size == items.size) = true) := by
    rw [show ((-1 : Int) == 1) = false from by decide, Bool.and_false, Bool.false_and]
    exact Bool.false_ne_true
  show wpAny _ _ (if (((items.size : Int) - 1) == 0 && (-1 : Int) == 1 && items.size == items.size) = true then _ else _) _ _ s
  rw [if_neg hno]
  show wpAny _ _ (Builtin.Tuple.tupleExact ((List.range items.size).filterMap fun (k : Nat) => items[(((items.size : Int) - 1) + (k : Int) * (-1)).toNat]?).toArray >>= fun v => ret v) _ _ s
  rw [pick_rev]
  unfold Builtin.Tuple.tupleExact
  exact wpAny_bind (wpAny_newObj_type (wpAny_pure ⟨_, rfl, wpAny_pure h⟩) (by show items.toList.reverse.toArray.size ≤ sizeLine; simp; exact hsz))
end
/-! ### t[::-1] -/
def tRevT (K : PySem.W.Frag) (te : TE) : TE := fun σ H Q => te σ H fun x H1 => ∃ a xs, x = .ref a ∧ SqT K H1 a xs ∧ ∀ p, H1 p = none → Q (.ref p) (upd H1 p (.tup xs.reverse))
section
variable {X : Cx}
theorem pe_revT {e : Expr} {te : TE} {k : Nat} {p1 p2 p3 pos : Pos} (he : PE X e te) : PE X (.Subscript e (.Slice none none (some (.UnaryOp .USub (.Constant (.int 1) k p1) p2)) p3) pos) (tRevT X.K te) := by
  refine ⟨fun pins s σ H Q I h => Subscript_ (thn (he.run pins s σ H _ I h) fun v s1 ⟨x, H1, I1, r1, a, xs, ex, hx, q⟩ => ?_)⟩
  subst ex
  cases r1
  have step : PO X (some (.UnaryOp .USub (.Constant (.int 1) k p1) p2)) (tPart (tUn (rU fun i => .int (-i)) (tC (.int 1)))) := po_some (pe_un un_neg pe_int)
  refine wpAny_Slice (thn (po_none.run pins s1 σ H1 (fun o Hx => o = none ∧ Hx = H1) I1 ⟨rfl, rfl⟩) fun vl s2 ⟨l, H2, I2, pl, el, e2⟩ => ?_)
  subst el e2
  refine thn (po_none.run pins s2 σ H2 (fun o Hx => o = none ∧ Hx = H2) I2 ⟨rfl, rfl⟩) fun vu s3 ⟨u, H3, I3, pu, eu, e3⟩ => ?_
  subst eu e3
  refine thn (step.run pins s3 σ H3 (fun o Hx => o = some (-1) ∧ Hx = H3) I3 ⟨1, rfl, -1, rfl, rfl, rfl⟩) fun vs s4 ⟨o, H4, I4, ps, eo, e4⟩ => ?_
  subst eo e4
  have J : Inv X pins σ H4 { s4 with heap := s4.heap.push { cls := .type "slice", data := .fields #[vl, vu, vs] } } := I4.kept (t' := s4.toks) fun b ob z => Heap.get?_push_of_some _ z
  obtain ⟨its, r, ht, hz⟩ := J.tuple hx
  have ln := r.length
  show wpAny (model X.prog X.w) X.A (subscriptTail e (.Slice none none (some (.UnaryOp .USub (.Constant (.int 1) k p1) p2)) p3) (.ref a) (.ref s4.heap.objs.size)) (EP X pins σ Q) X.xe { s4 with heap := s4.heap.push { cls := .type "slice", data := .fields #[vl, vu, vs] } }
  refine tail_any (ops := [.ref a, .ref s4.heap.objs.size]) ht.typeIs (PyProof.Rows.slot_tuple_getitem.lookup) ?_ (by with_unfolding_all rfl)
  refine getItem_tup_rev ht (Heap.IsSliceOf.new _ vl vu vs) pl pu ps ?_ (by rw [List.size_toArray]; omega)
  refine ⟨.ref _, _, J.laid (t' := s4.toks) (o := .tup xs.reverse) (fun b ob z => Heap.get?_push_of_some _ z) (Nat.le_refl _) ?_, rfl, q _ (J.hok.fresh (Nat.le_refl _))⟩
  exact ⟨by rw [List.length_reverse]; exact hz, _, r.reverse, ⟨_, Heap.get?_push_size _ rfl, rfl, 0, by simp⟩⟩
theorem pe_revTK (K : PySem.W.Frag) (h : X.K = K) {e : Expr} {te : TE} {k : Nat} {p1 p2 p3 pos : Pos} (he : PE X e te) : PE X (.Subscript e (.Slice none none (some (.UnaryOp .USub (.Constant (.int 1) k p1) p2)) p3) pos) (tRevT K te) := h ▸ pe_revT he
end
end L2

namespace L2
open PySem PySem.Spec PyProof.Rows
open PySem.AutoSeq1 (wpAny_loadPart')
theorem ext_tup (l : Addr) (xs : Array Value) (n : Nat) (b : Addr) (od : Option Addr) (ys : Array Value) (n2 : Nat) (osl : Array (Option Value)) (h0 : ¬(!xs.isEmpty && Builtin.List.listTooLong (xs.size + ys.size)) = true) (h1 : xs.size ≤ sizeLine) (h2 : xs.size + ys.size ≤ sizeLine + 1) :
    Meets (Builtin.«list.extend» ⟨[.ref l, .ref b], []⟩) (fun _ R s => s.heap.get? l = some { cls := .type "list", dict := none, data := .seq xs n, slots := #[] } ∧ s.heap.get? b = some ⟨.type "tuple", od, .seq ys n2, osl⟩ ∧ R (.ok (.ret Value.none)) { s with heap := s.heap.update l (Obj.mapSeq fun x => x ++ ys), toks := s.toks }) :=
  .of_wp fun prog w A R s h => by
    obtain ⟨hp, g, d, tk, os⟩ := s
    obtain ⟨ql, qb, h⟩ := h
    have f1 := PySem.AutoSeq1.idx_int
    have f2 := PySem.AutoSeq1.sub_tuple_tuple
    have f3 := PySem.AutoSeq1.sub_list_list
    have f4 := PySem.AutoSeq1.sub_tuple_list
    have f5 := PySem.AutoSeq1.sub_list_tuple
    have z : (xs ++ ys).size ≤ sizeLine + 1 := by rw [Array.size_append]; exact h2
    wp_walk using (wpAny_updateSeq ql rfl (hz := h1) (_hz' := z)), wpAny_loadPart' ql, wpAny_loadPart' qb
    exact ⟨_, rfl, h⟩
def rExtT (K : PySem.W.Frag) : V → List V → Hp → VK → Prop := fun x vs H Q => ∃ l b xs zs, x = .ref l ∧ vs = [.ref b] ∧ H l = some (.lst xs) ∧ SqT K H b zs ∧ xs.length + zs.length ≤ sizeLine ∧ Q .non (upd H l (.lst (xs ++ zs)))
theorem mt_extT {X : Cx} : MtR X "list.extend" (rExtT X.K) := by
  intro pins s σ H x vs v us Q I rx rv h
  obtain ⟨l, b, xs, zs, rfl, rfl, hH, hB, hz, q⟩ := h
  cases rx
  obtain ⟨u, rfl, ru⟩ := rv.one
  cases ru
  obtain ⟨z, its, n, r, hl, e⟩ := I.lstM hH
  obtain ⟨its2, r2, ⟨ob, hob, hc, n2, hd⟩, hz2⟩ := I.tuple hB
  have hl2 := r2.length
  obtain ⟨oc, od, oda, osl⟩ := ob
  have hc : oc = .type "tuple" := hc
  have hd : oda = .seq its2.toArray n2 := hd
  subst hc hd
  have hsz : its.toArray.size + its2.toArray.size ≤ sizeLine := by
    rw [List.size_toArray, List.size_toArray]
    omega
  have no : ¬ (!its.toArray.isEmpty && Builtin.List.listTooLong (its.toArray.size + its2.toArray.size)) = true := by rw [notLongL hsz, Bool.and_false]; exact Bool.false_ne_true
  refine call_meets F.slot_list_extend ⟨_, e, rfl⟩ F.entry_list_extend (F.args_list_extend_2 _ _) (ext_tup l its.toArray n b od its2.toArray n2 osl no (by rw [List.size_toArray]; omega) (by omega)) ⟨e, hob, ?_⟩
  exact ⟨.non, _, I.lset (its' := its ++ its2) hH e (by simp) (r.append r2) (by rw [List.length_append]; omega), rfl, q⟩
theorem mt_extTK (K : PySem.W.Frag) {X : Cx} (h : X.K = K) : MtR X "list.extend" (rExtT K) := h ▸ mt_extT
end L2

namespace L2
open PySem PySem.Spec PyProof.Rows
def isStr (z : Str) : Value → Bool
  | .str a _ => a == z
  | _ => false
theorem isStr_all {z : Str} : ∀ {zs : List Str} {its : List Value}, Vals (zs.map V.str) its → (∀ y ∈ its, ∃ a t, y = .str a t) ∧ its.countP (isStr z) = zs.count z
  | [], _, r => by
    cases r
    exact ⟨fun _ h => (by cases h), rfl⟩
  | x :: zs, _, r => by
    cases r with
    | cons h r =>
      obtain ⟨t, rfl⟩ := h
      obtain ⟨h1, h2⟩ := isStr_all (z := z) r
      refine ⟨fun y hy => ?_, ?_⟩
      · rcases List.mem_cons.mp hy with e | e
        · exact ⟨x, t, e⟩
        · exact h1 y e
      · rw [List.countP_cons, List.count_cons, h2]
        rfl
def rCntS (K : PySem.W.Frag) : V → List V → Hp → VK → Prop := fun x xs H Q => ∃ (p : Addr) (zs : List Str) (z : Str), x = .ref p ∧ xs = [.str z] ∧ SqT K H p (zs.map V.str) ∧ Q (.int (zs.count z : Nat)) H
theorem mt_tcount {X : Cx} : MtR X "tuple.count" (rCntS X.K) := by
  intro pins s σ H x xs v us Q I rx rxs h
  obtain ⟨p, zs, z, rfl, rfl, hs, q⟩ := h
  cases rx
  obtain ⟨u, rfl, ru⟩ := rxs.one
  obtain ⟨t, rfl⟩ := ru
  obtain ⟨its, rv, ⟨⟨cls, dd, data, sl⟩, ho, hc, n, hd⟩, hlen⟩ := I.tuple hs
  have hc : cls = .type "tuple" := hc
  have hd : data = .seq its.toArray n := hd
  subst hc hd
  obtain ⟨all, ct⟩ := isStr_all (z := z) rv
  refine call_meets PySem.F.slot_tuple_count ⟨_, ho, rfl⟩ PySem.F.entry_tuple_count (PySem.F.args_tuple_count_2 _ _) (SeqAt.tuple_countAt p its.toArray n dd sl (.str z t) (isStr z)) ⟨ho, fun y hy => ?_, ?_⟩
  · obtain ⟨a, t2, rfl⟩ := all y (by simpa using hy)
    exact SeqAt.EqAt.str_str a t2 z t
  · refine ⟨.int (zs.count z : Nat), H, I.tok _, ⟨s.toks, ?_⟩, q⟩
    show Value.int ((its.toArray.toList.countP (isStr z) : Nat) : Int) s.toks = Value.int ((zs.count z : Nat) : Int) s.toks
    rw [← ct]
theorem mt_tcountK (K : PySem.W.Frag) {X : Cx} (h : X.K = K) : MtR X "tuple.count" (rCntS K) := h ▸ mt_tcount
end L2

namespace L2
open PySem PySem.Spec PyProof.Rows GenW
/-- a new tuple, known to the last: it has no dict -/
def NewF (H : Hp) (xs : List V) (Q : VK) : Prop := ∀ (p : Addr) (ob : Obj), ob.dict = none → H p = none → Q (.ref p) (upd H p (.frz ob (.tup xs)))
abbrev tupO (its : Array Value) : Obj := { cls := .type "tuple", dict := none, data := .seq its, slots := #[] }
section
variable {X : Cx} {pins : List (Addr × Obj)} {σ : L2.St} {H : Hp} {s : Shared} {Q : VK}
/-- a tuple has been laid at the heap's end -/
theorem newF (I : Inv X pins σ H s) {xs : List V} {its : List Value} (z : xs.length ≤ sizeLine) (r : Vals xs its) (h : NewF H xs Q) : EP X pins σ Q (.ref s.heap.objs.size) { s with heap := s.heap.push (tupO its.toArray) } := by
  have at_ : (s.heap.push (tupO its.toArray)).get? s.heap.objs.size = some (tupO its.toArray) := Heap.get?_push_size _ rfl
  refine ⟨.ref s.heap.objs.size, upd H s.heap.objs.size (.frz (tupO its.toArray) (.tup xs)), I.laid (t' := s.toks) (fun b u e => Heap.get?_push_of_some _ e) (Nat.le_refl _) ?_, rfl, h _ _ rfl (I.hok.fresh (Nat.le_refl _))⟩
  exact ⟨at_, z, its, r, ⟨_, at_, rfl, _, rfl⟩⟩
end
section
variable {X : Cx} {es : List Expr} {pos : Pos} {t : TA}
def tTupF (t : TA) : TE := fun σ H Q => t σ H fun xs H1 => xs.length ≤ sizeLine ∧ NewF H1 xs Q
theorem pe_tupF {c} (h : PA X es t) : PE X (.Tuple es c pos) (tTupF t) :=
  ⟨fun pins s σ H Q I hq => wpAny_Tuple_spliced (thn (h.run pos pins s σ H _ I hq) fun us s1 ⟨xs, H1, I1, r, z, q⟩ => ⟨by rw [← r.length]; exact z, newF I1 z r q⟩)⟩
def rTupF (K : PySem.W.Frag) : List V → Hp → VK → Prop := fun xs H Q => ∃ p ys, xs = [.ref p] ∧ ((SqL K H p ys ∧ NewF H ys Q) ∨ (SqT K H p ys ∧ Q (.ref p) H))
theorem call_tupF : CallR X (.type "tuple") (rTupF X.K) := by
  intro pins s σ H xs us Q I r ⟨p, ys, e, h⟩
  subst e
  obtain ⟨u, rfl, rx⟩ := vals1 r
  cases rx
  rcases h with ⟨hq, q⟩ | ⟨hq, q⟩
  · obtain ⟨its, r', pl, hz⟩ := I.list hq
    have ln := r'.length
    refine call_tuple_list pl.isList (fun h' kp => ?_) (by simp only [List.size_toArray] <;> omega)
    have I1 : Inv X pins σ H { s with heap := h' } := I.kept (t' := s.toks) kp
    exact newF I1 hz r' q
  · obtain ⟨its, r', pl, hz⟩ := I.tuple hq
    exact call_tuple_same pl ⟨.ref p, H, I, rfl, q⟩
def rCatF (K : PySem.W.Frag) : R2 := fun x y H Q => ∃ a b xs ys, x = .ref a ∧ y = .ref b ∧ SqT K H a xs ∧ SqT K H b ys ∧ xs.length + ys.length ≤ sizeLine ∧
  (xs = [] → Q (.ref b) H) ∧ (xs ≠ [] → ys = [] → Q (.ref a) H) ∧ (xs ≠ [] → ys ≠ [] → NewF H (xs ++ ys) Q)
theorem op_catF : OpR X (binaryOp .Add) (rCatF X.K) := by
  intro pins s σ H x y v u Q I rx ry ⟨a, b, xs, ys, ex, ey, ha, hb, hz, q0, q1, q2⟩
  subst ex ey
  cases rx
  cases ry
  obtain ⟨its, r1, p1, _⟩ := I.tuple ha
  obtain ⟨jts, r2, p2, _⟩ := I.tuple hb
  by_cases hx : xs = []
  · subst hx
    cases r1
    exact cat_tup0 p1 p2 ⟨.ref b, H, I, rfl, q0 rfl⟩
  · refine HT.cat_tup p1 p2 (fun w => hx (r1.nil_iff.mp w)) (fun w => ⟨.ref a, H, I, rfl, q1 hx (r2.nil_iff.mp w)⟩) (fun w => ?_) (by rw [← r1.length, ← r2.length]; exact hz)
    exact newF I (by rw [List.length_append]; exact hz) (r1.append r2) (q2 hx fun e => w (r2.nil_iff.mpr e))
def rSlF (K : PySem.W.Frag) : V → Option Int → Option Int → Hp → VK → Prop := fun x lo hi H Q => ∃ a xs, x = .ref a ∧ SqT K H a xs ∧
  (HT.sIx xs.length 0 lo = 0 ∧ HT.sIx xs.length xs.length hi = xs.length → Q (.ref a) H) ∧ (¬ (HT.sIx xs.length 0 lo = 0 ∧ HT.sIx xs.length xs.length hi = xs.length) → NewF H (cutV xs lo hi) Q)
theorem sl_tupF : SlR X (rSlF X.K) := by
  intro pins s σ H x v vl vu lo hi sl Q I rx hs pl pu ⟨a, xs, ex, hx, q1, q2⟩
  subst ex
  by_cases hw : HT.sIx xs.length 0 lo = 0 ∧ HT.sIx xs.length xs.length hi = xs.length
  · exact sl_tupA pins s σ H _ v vl vu lo hi sl Q I rx hs pl pu ⟨a, xs, rfl, hx, q1, fun n => absurd hw n⟩
  · cases rx
    obtain ⟨its, r, ht, hz⟩ := I.tuple hx
    have ln : its.toArray.size = xs.length := by rw [List.size_toArray]; exact r.length.symm
    refine ⟨"tuple", _, PyProof.Rows.slot_tuple_getitem.lookup, ht.typeIs, HT.getItem_tuple_cut ht hs pl pu (by rw [ln]; exact hw) ?_ (by rw [ln]; exact hz)⟩
    rw [ln]
    exact newF I (Nat.le_trans (cutV_length xs lo hi) hz) ((r.drop (HT.sIx xs.length 0 lo)).take (HT.sIx xs.length xs.length hi - HT.sIx xs.length 0 lo)) (q2 hw)
theorem call_tupFK (K : PySem.W.Frag) (h : X.K = K) : CallR X (.type "tuple") (rTupF K) := h ▸ call_tupF
theorem op_catFK (K : PySem.W.Frag) (h : X.K = K) : OpR X (binaryOp .Add) (rCatF K) := h ▸ op_catF
theorem sl_tupFK (K : PySem.W.Frag) (h : X.K = K) : SlR X (rSlF K) := h ▸ sl_tupF
end
/-! ### tuple(g), t[::-1] -/
section
variable {X : Cx} {k : Nat}
def tTupGF (tg : TGen) : TE := fun σ H Q => tg σ H fun out H2 => NewF H2 out Q
theorem pe_tupGF {e : Expr} {tg : TGen} {nm : Str} {p pos : Pos} (h : PGen X k e tg E0) (hr : Room (k + 3) X.A) (hg : Gl X nm) (hmg : X.mg nm = none) (hv : bootBuiltins nm = some (.type "tuple")) (hnm : nm ≠ "__name__" := by decide) (hdb : (nm == ("__debug__" : Str)) = false := by decide)
    (he : starEach [e] X.env = (false, eval e X.env) :: starEach [] X.env := by rfl) : PE X (.Call (.Name nm p) [e] [] pos) (tTupGF tg) := by
  refine ⟨fun pins s σ H Q I hq => wpAny_Call_Name_kw (ld_blt I hg hmg hv (PyProof.Rows.callWith_type1 ?_ he rfl) hnm hdb)⟩
  rw [he]
  show wpAny _ _ (spliced ((false, eval e X.env) :: backTo pos (starEach [] X.env))) _ _ s
  refine Calls.spliced_cons (thn (h.run pins s σ H _ I hq) fun u s1 ⟨H1, sc, ex, I1, hex, hG⟩ => Calls.spliced_nil ?_)
  refine tupleG hr I1.ok.frames hG (fun S s' acc c H' ys q0 q1 d => ?_) fun e s' g hc => (notE0 hc).elim
  have J : Inv X pins σ H' s' := I1.call' (ch := ex) d.os d.un d.hok d.bare hex
  have z := newF J d.le d.vals d.q
  have e : acc.toList.toArray = acc := Array.toArray_toList
  rw [e] at z
  exact z
def tRevF (K : PySem.W.Frag) (te : TE) : TE := fun σ H Q => te σ H fun x H1 => ∃ a xs, x = .ref a ∧ SqT K H1 a xs ∧ NewF H1 xs.reverse Q
/-- the slice object of [::-1] -/
abbrev slcO (a b c : Value) : Obj := { cls := .type "slice", data := .fields #[a, b, c] }
abbrev slcH (h : Heap) (a b c : Value) : Heap := h.push (slcO a b c)
abbrev backE (k : Nat) (p1 p2 p3 : Pos) : Expr := .Slice none none (some (.UnaryOp .USub (.Constant (.int 1) k p1) p2)) p3
theorem back_slice {pins : List (Addr × Obj)} {σ : L2.St} {H : Hp} {s : Shared} {k : Nat} {p1 p2 p3 : Pos} {Q : Value → Shared → Prop} (I : Inv X pins σ H s)
    (h : ∀ (a b c : Value) (t : Shared), IsPart a none → IsPart b none → IsPart c (some (-1)) → Inv X pins σ H { t with heap := slcH t.heap a b c } → Q (.ref t.heap.objs.size) { t with heap := slcH t.heap a b c }) :
    wpAny (model X.prog X.w) X.A (eval (backE k p1 p2 p3) X.env) Q X.xe s := by
  have minus : PO X (some (.UnaryOp .USub (.Constant (.int 1) k p1) p2)) (tPart (tUn (rU fun i => .int (-i)) (tC (.int 1)))) := po_some (pe_un un_neg pe_int)
  have stay : ∀ (p : Option Int), p = p ∧ H = H := fun _ => ⟨rfl, rfl⟩
  apply wpAny_Slice
  apply thn (po_none.run pins s σ H (fun o G => o = none ∧ G = H) I (stay none))
  rintro a s1 ⟨_, _, J1, pa, rfl, rfl⟩
  apply thn (po_none.run pins s1 σ _ (fun o G => o = none ∧ G = _) J1 ⟨rfl, rfl⟩)
  rintro b s2 ⟨_, _, J2, pb, rfl, rfl⟩
  apply thn (minus.run pins s2 σ _ (fun o G => o = some (-1) ∧ G = _) J2 ⟨1, rfl, -1, rfl, rfl, rfl⟩)
  rintro c s3 ⟨_, _, J3, pc, rfl, rfl⟩
  exact h a b c s3 pa pb pc (J3.kept (t' := s3.toks) fun _ _ => Heap.get?_push_of_some _)
theorem pe_revF {e : Expr} {te : TE} {k : Nat} {p1 p2 p3 pos : Pos} (he : PE X e te) : PE X (.Subscript e (backE k p1 p2 p3) pos) (tRevF X.K te) where
  run := fun pins s σ H Q I h => by
    apply Subscript_
    apply thn (he.run pins s σ H _ I h)
    rintro v s1 ⟨_, H1, J, rv, t, xs, rfl, sq, q⟩
    cases (rv : v = .ref t)
    apply back_slice J
    intro a b c s2 pa pb pc J2
    rcases J2.tuple sq with ⟨its, r, ht, small⟩
    have short : its.toArray.size ≤ sizeLine := by rw [List.size_toArray, ← r.length]; exact small
    refine tail_any (ops := [.ref t, .ref s2.heap.objs.size]) ht.typeIs PyProof.Rows.slot_tuple_getitem.lookup (getItem_tup_rev ht (Heap.IsSliceOf.new _ a b c) pa pb pc ?_ short) (by with_unfolding_all rfl)
    exact newF J2 (by rw [List.length_reverse]; exact small) r.reverse q
theorem pe_revFK (K : PySem.W.Frag) (h : X.K = K) {e : Expr} {te : TE} {k : Nat} {p1 p2 p3 pos : Pos} (he : PE X e te) : PE X (.Subscript e (.Slice none none (some (.UnaryOp .USub (.Constant (.int 1) k p1) p2)) p3) pos) (tRevF K te) := h ▸ pe_revF he
end
/-! ### t.count(text) -/
/-- a tuple whose object is known: it has no dict -/
def FrT (H : Hp) (a : Addr) (xs : List V) : Prop := ∃ ob : Obj, ob.dict = none ∧ H a = some (.frz ob (.tup xs))
theorem FrT.sq {K : PySem.W.Frag} {H : Hp} {a : Addr} {xs : List V} (h : FrT H a xs) : SqT K H a xs := by
  obtain ⟨ob, _, h⟩ := h
  exact .inl (.inr ⟨ob, h⟩)
def tTcnt (to : TE) (t : TA) : TE := fun σ H Q => to σ H fun x H1 => ∃ (a : Addr) (zs : List Str), x = .ref a ∧ FrT H1 a (zs.map V.str) ∧ t σ H1 fun ys H2 => ∃ z, ys = [.str z] ∧ FrT H2 a (zs.map V.str) ∧ Q (.int (zs.count z : Nat)) H2
theorem pe_tcnt {X : Cx} {o e : Expr} {es : List Expr} {to : TE} {t : TA} {apos cpos : Pos} (ho : PE X o to) (ha : PA X (e :: es) t)
    (hbase : attributeBase o "count" X.env (eval o X.env) = eval o X.env := by rfl)
    (hfew : ((backTo cpos (starEach (e :: es) X.env)).all (fun x => !x.1) && (backToKw cpos (keywordEach [] X.env)).all (fun x => x.1.isSome) && decide ((e :: es).length + ([] : List Keyword).length + (if ([] : List Keyword).isEmpty then 0 else 1) < 30)) = true := by rfl)
    (hline : (apos.endLine == cpos.line) = true := by rfl) (hs : starEach (e :: es) X.env = (false, eval e X.env) :: starEach es X.env := by rfl) (hplain : (backTo cpos (starEach es X.env)).any (·.1) = false := by rfl) :
    PE X (.Call (.Attribute o "count" apos) (e :: es) [] cpos) (tTcnt to t) := by
  refine ⟨fun pins s σ H Q I h => wpAny_Call_method_late hbase hfew hline rfl (thn (ho.run pins s σ H _ I h) fun v s1 ⟨x, H1, I1, r1, a, zs, ex, ⟨ob, hd, hf⟩, q⟩ => ?_)⟩
  subst ex
  cases r1
  obtain ⟨at1, ok1⟩ := I1.hok a _ hf
  obtain ⟨_, its, _, ob2, e2, hcl, _⟩ := ok1
  rw [at1] at e2
  cases e2
  refine ⟨"tuple", "tuple.count", PySem.F.plainAttrs_tuple, PySem.F.slot_tuple_count, PySem.F.type_tuple_count, ⟨ob, at1, hcl⟩, fun b eb => ⟨ob, by cases eb; exact at1, hd⟩, ?_⟩
  have hA := ha.run cpos pins s1 σ H1 _ I1 q
  rw [hs] at hA ⊢
  refine Calls.callWith_builtin (by show (false || (backTo cpos (starEach es X.env)).any (·.1)) = false; rw [hplain] <;> rfl) (Calls.evalArgs_plain (thn hA fun us s2 ⟨vs, H2, I2, r2, z, ey, h2, q2⟩ => ?_))
  subst ey
  exact mt_tcount pins s2 σ H2 (.ref a) [.str z] (.ref a) us Q I2 rfl r2 ⟨a, zs, z, rfl, rfl, h2.sq, q2⟩
/-! ### a def with a star parameter: the tuple is known -/
section
open StX
variable {P : Program} {w : World} {K : PySem.W.Frag} {mg : Str → Option Value} {base : Heap} {k : Nat} {f : Addr} {name qual : Str} {params : Arguments} {body : List Stmt} {scope : Scope} {dV kV doc pm cdv ct oc : Value} {an od : Option Addr} {osl : Array (Option Value)} {N ps : List Str} {sp : Sp}
theorem fn_starF {pv : Str} (lk : K.lookup f = some ⟨oc, od, .func (PySem.W.fnOf name qual params body scope dV kV doc pm an cdv ct), osl⟩) (hcd : PySem.W.codeIn K cdv qual = true) (S : FnScope N (ps ++ [pv]) scope)
    (hb : ∀ us rest : List Value, us.length = ps.length → bindArgs (PySem.W.fnOf name qual params body scope dV kV doc pm an cdv ct) ⟨us ++ rest, []⟩ = (newTuple rest >>= fun t => pure (ps.zip us ++ [(pv, t)])))
    (hbody : ∀ (A : Around) (outer : List Env) (s : Shared) (H : Hp) (vs : List V) (Q : VK) (E : XK), Room k (A.deeper (PyProof.Rows.envOfC qual scope s.heap.objs.size f cdv)) → sp vs H Q E →
      ∃ t, PSs (cxOf CX0 P w K mg base N qual scope f cdv A outer s H E) body t ∧ t { nx := fun _ H' => Q .non H', rt := Q } (L2.start N vs) H) :
    FnR P w K mg base CX0 (k + 1) f (fun vs H Q E => ∃ ws rest, vs = ws ++ rest ∧ ws.length = ps.length ∧ rest.length ≤ sizeLine ∧ ∀ p ob, ob.dict = none → H p = none → sp (ws ++ [V.ref p]) (upd H p (.frz ob (.tup rest))) Q E) := by
  intro A outer s H us vs Q E hr e0 r ⟨ws, rest, ev, hl, hz, hq⟩
  subst ev
  obtain ⟨u1, u2, eu, r1, r2⟩ := vals_split r
  subst eu
  have hn : H s.heap.objs.size = none := e0.hok.fresh (Nat.le_refl _)
  have l1 : u1.length = ps.length := by rw [← r1.length]; exact hl
  refine run_bnd lk hcd S hr e0 (G := fun xs H2 => ∃ p ob, ob.dict = none ∧ H p = none ∧ xs = ws ++ [V.ref p] ∧ H2 = upd H p (.frz ob (.tup rest))) (fun A' Ex Q' h => ?_) fun s2 H2 xs ⟨p, ob, hd, hp, ex, eH⟩ hr' => ?_
  · rw [hb u1 u2 l1]
    refine wpAny_bind (wpAny_newTuple (wpAny_pure ?_) (by rw [← r2.length]; exact hz))
    have at_ : (s.heap.push (tupO u2.toArray)).get? s.heap.objs.size = some (tupO u2.toArray) := Heap.get?_push_size _ rfl
    have un := un_laid (fs := frs outer) (s := s) (o := tupO u2.toArray) (u := .frz (tupO u2.toArray) (.tup rest)) hn
    have z := h _ _ (ws ++ [V.ref s.heap.objs.size]) (u1 ++ [Value.ref s.heap.objs.size]) (env0_laid (o := tupO u2.toArray) (u := .frz (tupO u2.toArray) (.tup rest)) e0 ⟨at_, hz, u2, r2, ⟨_, at_, rfl, _, rfl⟩⟩) un rfl (fun e s' z => False.elim z) (r1.append (.cons rfl .nil)) (by rw [List.length_append, List.length_append, hl] <;> rfl) ⟨_, _, rfl, hn, rfl, rfl⟩
    rw [List.zip_append l1.symm] at z
    exact z
  · subst ex eH
    exact hbody A outer s2 _ _ Q E hr' (hq p ob hd hp)
end
end L2

/-! texts: text * int, text[::-1], min of a list of texts -/
namespace StX
open PySem PySem.Spec L2 Builtin Builtin.Str Builtin.Int PyProof.Rows
section
variable {X : Cx}
/-- a text, n times -/
def repS (z : Str) (n : Nat) : Str := ⟨((List.replicate n z.cps.toList).flatten).toArray⟩
theorem repS_fold (c : Array Nat) : ∀ (n : Nat) (a : Array Nat), (List.replicate n c).foldl (· ++ ·) a = a ++ ((List.replicate n c.toList).flatten).toArray
  | 0, a => by simp
  | n + 1, a => by
    rw [List.replicate_succ, List.foldl_cons, repS_fold c n, List.replicate_succ, List.flatten_cons, ← Array.toList_inj]
    simp
theorem repS_one (z : Str) : repS z 1 = z := by
  unfold repS
  simp
theorem repS_nil (n : Nat) : repS Str.empty n = Str.empty := by
  unfold repS
  have : ((List.replicate n Str.empty.cps.toList).flatten) = [] := by
    rw [show Str.empty.cps.toList = [] from rfl]
    induction n with
    | zero => rfl
    | succ n ih => rw [List.replicate_succ, List.flatten_cons, ih]; rfl
  rw [this]; rfl
def rRepS : R2 := fun x y H Q => ∃ z k, x = .str z ∧ y = .int k ∧ -(2 ^ 63) ≤ k ∧ k < 2 ^ 63 ∧ z.length * k.toNat ≤ sizeLine ∧ Q (.str (repS z k.toNat)) H
theorem op_repS : OpR X (binaryOp .Mult) rRepS := by
  intro pins s σ H x y v u Q I rx ry h
  obtain ⟨z, k, rfl, rfl, h1, h2, hz, q⟩ := h
  obtain ⟨t, rfl⟩ := rx
  obtain ⟨t', rfl⟩ := ry
  have hsz : (sizeLine : Nat) ≤ (2 ^ 63 - 1) / 8 := by decide
  have hlong : ¬ k < 1 → tooLong (z.length * k.toNat) = false := fun _ => by
    unfold tooLong
    first
      | exact decide_eq_false (by omega)
      | omega
  refine PySem.P.mul_str ?_ (fun hk _ hb => ?_) (fun hk _ => hlong hk) ?_
  · rw [decide_eq_false (by omega), decide_eq_false (by omega)]; rfl
  · have h3 : (z.length : Int) * k ≤ sizeLine := by
      have e : ((z.length * k.toNat : Nat) : Int) = (z.length : Int) * k := by rw [Int.natCast_mul, Int.toNat_of_nonneg (by omega)]
      rw [← e]; exact Int.ofNat_le.mpr hz
    have h4 : (2 ^ 63 - 1) / k * k ≥ 2 ^ 63 - 1 - (k - 1) := by
      have := Int.emod_add_mul_ediv (2 ^ 63 - 1) k
      have h5 := Int.emod_lt_of_pos (2 ^ 63 - 1) (show 0 < k by omega)
      rw [Int.mul_comm] at this
      omega
    have h6 : ((2 ^ 63 - 1) / k + 1) * k ≤ (z.length : Int) * k := Int.mul_le_mul_of_nonneg_right (by omega) (by omega)
    rw [Int.add_mul, Int.one_mul] at h6
    have h7 : (sizeLine : Int) ≤ (2 ^ 63 - 1) / 8 := by omega
    omega
  · by_cases c1 : k < 1
    · rw [if_pos c1]
      have e : repS z k.toNat = Str.empty := by
        rw [show k.toNat = 0 by omega]; rfl
      rw [e] at q
      exact ⟨by decide, .str _, H, I.tok _, ⟨_, rfl⟩, q⟩
    · rw [if_neg c1]
      by_cases c2 : (k == 1 || z.length == 0) = true
      · rw [if_pos c2]
        have e : repS z k.toNat = z := by
          rcases Bool.or_eq_true _ _ ▸ c2 with c | c
          · have : k = 1 := by simpa using c
            subst this
            exact repS_one z
          · have e0 : z = Str.empty := by
              have : z.length = 0 := by simpa using c
              cases z with
              | mk a =>
                have : a.size = 0 := this
                rw [Array.size_eq_zero_iff.mp this]; rfl
            subst e0
            exact repS_nil _
        rw [e] at q
        exact ⟨.str z, H, I, ⟨t, rfl⟩, q⟩
      · rw [if_neg c2]
        have e : (⟨(List.replicate k.toNat z.cps).foldl (· ++ ·) #[]⟩ : Str) = repS z k.toNat := by
          unfold repS
          rw [repS_fold]
          simp
        rw [e]
        refine ⟨?_, .str _, H, I.tok _, ⟨_, rfl⟩, q⟩
        have e2 : (repS z k.toNat).length = z.length * k.toNat := by
          unfold repS
          show ((List.replicate k.toNat z.cps.toList).flatten).toArray.size = _
          rw [List.size_toArray, List.length_flatten, List.map_replicate, List.sum_replicate_nat, Nat.mul_comm]
          rfl
        rw [e2]
        exact hz
/-- text[::-1] -/
def revS (z : Str) : Str := ⟨(z.cps.toList.reverse).toArray⟩
def tRevS (te : TE) : TE := fun σ H Q => te σ H fun x H1 => ∃ z, x = .str z ∧ z.length ≤ sizeLine ∧ Q (.str (revS z)) H1
theorem rev_pick (z : Str) : ((strSliceIndices none none (-1) z.length).filterMap (z.cps[·]?)).toArray = z.cps.toList.reverse.toArray := by
  have e : strSliceIndices none none (-1) z.length = (List.range z.length).reverse := by
    show sliceRange ((z.length : Int) - 1) (-1) (-1) = _
    rw [PySem.W.krv_sliceRange, PySem.W.krv_range]
  rw [e, List.filterMap_reverse]
  congr 2
  exact PySem.W.krv_all z.cps
theorem pe_revS {e : Expr} {te : TE} {k : Nat} {p1 p2 p3 pos : Pos} (he : PE X e te) : PE X (.Subscript e (backE k p1 p2 p3) pos) (tRevS te) where
  run := fun pins s σ H Q I h => by
    apply Subscript_
    apply thn (he.run pins s σ H _ I h)
    rintro v s1 ⟨_, H1, J, rv, z, rfl, small, q⟩
    rcases rv with ⟨t, rfl⟩
    apply back_slice J
    intro a b c s2 pa pb pc J2
    rcases IsPart.raw pa with ⟨l, rfl, hl⟩
    rcases IsPart.raw pb with ⟨u, rfl, hu⟩
    rcases IsPart.raw pc with ⟨st, rfl, hs⟩
    have cell := Heap.IsSliceOf.new s2.heap (partValue l) (partValue u) (partValue st)
    refine tail_any (ops := [.str z t, .ref s2.heap.objs.size]) (typeIs_str _ _ _) F.slot_str_getitem.lookup (wpAny_getItem_str_slice (l := l) (u := u) (st := st) ⟨_, Heap.get?_push_size _ rfl, rfl, rfl⟩ (by rw [hs]; rfl) ?_) (by with_unfolding_all rfl)
    have picked : sliceMade z t l u st = Made.str ⟨z.cps.toList.reverse.toArray⟩ := by
      unfold sliceMade slicePicked
      rw [hs, hl, hu]
      rw [if_neg (by simp)]
      exact congrArg (fun c => Made.str ⟨c⟩) (rev_pick z)
    rw [picked]
    have same : (⟨z.cps.toList.reverse.toArray⟩ : Str).length = z.length := by
      show z.cps.toList.reverse.toArray.size = z.cps.size
      simp
    exact ⟨same ▸ small, .str _, _, J2.tok _, ⟨_, rfl⟩, q⟩
end
end StX

/-! min of a list of texts -/
namespace StX
open PySem PySem.Spec L2 Builtin Builtin.Str Builtin.Int PyProof.Rows
/-- the least so far is below none of those looked at -/
theorem argBest_ltL (num : Nat → List Nat) (k : Nat) : argBest (fun i j => decide (num i < num j)) k ≤ k ∧ ∀ j, j ≤ k → ¬ num j < num (argBest (fun i j => decide (num i < num j)) k) := by
  induction k with
  | zero => exact ⟨Nat.le_refl 0, fun j le => by rw [Nat.le_zero.mp le]; exact List.lt_irrefl _⟩
  | succ k ih =>
    unfold argBest
    generalize argBest (fun i j => decide (num i < num j)) k = b at ih ⊢
    by_cases new : num (k + 1) < num b
    all_goals simp only [new, decide_true, decide_false, if_true, Bool.false_eq_true, if_false]
    · refine ⟨Nat.le_refl _, fun j le less => ?_⟩
      rcases Nat.le_succ_iff.mp le with le | rfl
      · exact ih.2 j le (List.lt_trans less new)
      · exact List.lt_irrefl _ less
    · refine ⟨Nat.le_succ_of_le ih.1, fun j le less => ?_⟩
      rcases Nat.le_succ_iff.mp le with le | rfl
      · exact ih.2 j le less
      · exact new less
def txtAt (its : Array Value) (i : Nat) : List Nat := match its[i]? with | some (.str z _) => z.cps.toList | _ => []
theorem txtAt_eq {its : Array Value} {i : Nat} {z : Str} {t : Tok} (h : its[i]? = some (.str z t)) : txtAt its i = z.cps.toList := by
  unfold txtAt; rw [h]
theorem cmp_strs_lt {prog : Program} {w : World} {A : Around} {P : Nat → Value → Prop} (val : Nat → List Nat) (hval : ∀ i v, P i v → ∃ z t, v = .str z t ∧ z.cps.toList = val i) :
    CmpOf prog w A .Lt P (fun i j => decide (val i < val j)) := fun i j vi vj s Q E hi hj h => by
  obtain ⟨z, t, rfl, e1⟩ := hval i vi hi
  obtain ⟨y, u, rfl, e2⟩ := hval j vj hj
  have h : Q (.bool (decide (val i < val j))) s := h
  rw [← e1, ← e2] at h
  exact richCompare_gives (op := .Lt) (typeIs_str s _ t) (typeIs_str s _ u) F.slot_str_lt F.entry_str_lt (F.args_str_lt_2 _ _) (gives_str_lt z y t u) (fun x => nomatch x) h
section
variable {X : Cx}
theorem strs_at : ∀ {zs : List Str} {its : List Value} {i : Nat} {v : Value}, Vals (zs.map V.str) its → its[i]? = some v → ∃ z t, v = .str z t ∧ zs[i]? = some z
  | [], its, i, v, r, h => by
    cases r; simp at h
  | z :: zs, its, i, v, r, h => by
    cases r with
    | cons r1 r2 =>
      cases i with
      | zero =>
        obtain ⟨t, rfl⟩ := r1
        simp at h
        exact ⟨z, t, h.symm, rfl⟩
      | succ i => exact strs_at (zs := zs) (i := i) r2 (by simpa using h)
def rMinS (K : PySem.W.Frag) : List V → Hp → VK → Prop := fun vs H Q => ∃ (a : Addr) (zs : List Str), vs = [V.ref a] ∧ SqL K H a (zs.map V.str) ∧ zs ≠ [] ∧ ∀ m, m ∈ zs → (∀ y, y ∈ zs → ¬ y.cps.toList < m.cps.toList) → Q (.str m) H
theorem cr_minS (hc : X.calm = true) : CallR X (.builtin "min") (rMinS X.K) := by
  intro pins s σ H vs us Q I r h
  obtain ⟨a, zs, rfl, hs, hne, q⟩ := h
  obtain ⟨its, rv, hl, _⟩ := I.list hs
  rw [Vals.ref1 r]
  have hlen : its.length = zs.length := by rw [← rv.length, List.length_map]
  have hpos : 0 < zs.length := List.length_pos_iff.mpr hne
  have key : ∀ i v, its.toArray[i]? = some v → ∃ z t, v = .str z t ∧ zs[i]? = some z ∧ z.cps.toList = txtAt its.toArray i := fun i v hv => by
    obtain ⟨z, t, rfl, hz⟩ := strs_at rv (by simpa using hv)
    exact ⟨z, t, rfl, hz, (txtAt_eq hv).symm⟩
  refine call_min_walk (iter_anyList hl.isList fun s₂ e st hfp hlI => ?_)
  subst e
  refine ⟨_, _, _, its.toArray.size, _, _, _, rfl, Walks.list (A := X.A.in1) (I.ok.hd hc) _ a hlI its.toArray, st, hfp, by rw [List.size_toArray, hlen]; exact hpos, cmp_strs_lt (txtAt its.toArray) (fun i v hP => ?_), fun v h' tk hP hk => ?_⟩
  · obtain ⟨z, t, e, _, e2⟩ := key i v hP
    exact ⟨z, t, e, e2⟩
  · obtain ⟨h1, h2⟩ := argBest_ltL (txtAt its.toArray) (its.toArray.size - 1)
    obtain ⟨z, t, rfl, hz, e2⟩ := key _ v hP
    have hk' : ∀ b o, s.heap.get? b = some o → h'.get? b = some o := fun b o z => hk b o (fun m => Nat.ne_of_lt (Heap.lt_size z) (List.mem_singleton.mp m)) (Heap.get?_push_of_some _ z)
    refine ⟨.str z, H, I.kept (t' := tk) hk', ⟨t, rfl⟩, q z (List.mem_of_getElem? hz) fun y hy => ?_⟩
    obtain ⟨j, hj⟩ := List.getElem?_of_mem hy
    have hj1 : j < zs.length := (List.getElem?_eq_some_iff.mp hj).1
    have hj2 : j < its.length := by omega
    obtain ⟨y', t', e3, hy', e4⟩ := key j its[j] (by simp [hj2])
    rw [hj] at hy'; cases hy'
    rw [e2, e4]
    exact h2 j (by rw [List.size_toArray]; omega)
end
end StX

/-! an own exception class over ValueError, whose __init__ begins with super().__init__(e) -/
namespace StX
open PySem PySem.Spec L2 Builtin Builtin.Str Builtin.Int PyProof.Rows
open PySem.W (kxs_mw ks_superObj ks_superIn clsIn mroIn subIn alongIn)
section
variable {M : Model} {prog : Program} {w : World} {A : Around} {E : Value → Shared → Prop} {h : Heap} {g : Array GenState} {d : Drawn} {t : Nat} {os : OsState}
variable {nm q : Str} {C N : Addr} {bs bm : List Value} {hdct : Bool} {sn : List Str} {sub : List Value} {ab : Bool} {col : Option Bool} {dd : Option Addr} {k0 k1 k2 k3 k5 : Option Value}
/-- the bound ValueError.__init__, called: the exception's fields are told anew, all else stands -/
theorem call_mwV {u e t0 : Addr} {rest : List Value} {Q : Value → Shared → Prop} (cls : h.get? C = some (excClassObj nm q C N bs bm hdct sn sub ab col dd k0 k1 k2 k3 k5 "ValueError.__new__")) (exc : h.get? e = some (HandSPX.excO C t0))
    (mw : h.get? u = some (kxs_mw "ValueError.__init__" e)) (short : rest.length ≤ sizeLine) (after : ∀ h' t1, (∀ b o, b ≠ e → h.get? b = some o → h'.get? b = some o) → h'.get? e = some (HandSPX.excO C t1) → Q .none ⟨h', g, d, t, os⟩) : wpAny (model prog w) A (call (.ref u) rest) Q E ⟨h, g, d, t, os⟩ := by
  have told := F.excBase_ValueError
  have kind : ∀ x y : Bool, (x || y || (Value.type "method-wrapper" == Value.type "method-wrapper")) = true := fun x y => by rw [beq_self_eq_true, Bool.or_true]
  apply wpAny_call; apply codeAny_of_tree
  change wpAny _ A.in1 (callAny (Value.ref u) { pos := rest }) _ _ _
  unfold callAny
  apply wpAny_bind
  apply wpAny_load mw
  simp only [kxs_mw, kind, if_true]
  refine W.KFB.if_so (by decide) (wpAny_bind (W.check_bound_init told.toExcCallFacts cls exc rfl (wpAny_bind (wpAny_pure (wpAny_pure ⟨Code.quiet_builtin _ (by decide +kernel), codeAny_builtin told.initEntry ?_⟩)))))
  rw [Around.under_plainId told.init.plain _]
  wp_walk
  have grown : ∀ b o, h.get? b = some o → (h.push (PySem.W.kdv_tup rest)).get? b = some o := fun b o => Heap.get?_push_of_some _
  apply after _ h.objs.size
  · intro b o ne z
    rw [Heap.get?_update_other _ _ (Ne.symm ne)]
    exact grown b o z
  · rw [Heap.get?_update_self _ (grown e _ exc) rfl]
    rfl
end
end StX
namespace StX
open PySem PySem.Spec L2 Builtin Builtin.Str Builtin.Int PyProof.Rows NdefX
open PySem.W (kxs_mw ks_superObj ks_superIn clsIn mroIn subIn alongIn)
theorem boot_super : bootBuiltins "super" = some (.type "super") := by first | boot_by_name | rfl | kernel_rfl
/-- the facts of such a class at C, its __init__ at f -/
structure SupC (P : Program) (K : PySem.W.Frag) (mg : Str → Option Value) (C cda cc : Addr) (qual : Str) (params : Arguments) (scope : Scope) (ps : List Str) : Prop where
  oex : OexC K C
  hcd : PySem.W.codeIn K (.ref cda) qual = true
  sup : scope.names.lookup ("super" : Str) = some .globalImplicit
  par : ∃ ar : Arg, (params.posonlyargs ++ params.args).head? = some ar ∧ ps[0]? = some ar.arg
  code : ∃ ccl cdd vs0 ccs file tf, K.lookup cda = some ⟨ccl, cdd, .fields vs0, ccs⟩ ∧ vs0[2]? = some (.str file tf) ∧ ((P.main.file : Str) == file) = true
  cell : ∃ cl cld csl, K.lookup cc = some ⟨cl, cld, .cell (some (.ref C)), csl⟩
  noS : mg "super" = none
  top : (P.main.scope.names.lookup ("super" : Str)).isSome = false
  mro : mroIn K C (.ref C) = some true
  ini : ks_superIn K C C "__init__" = some (some (.builtin "ValueError.__init__"))
  sub : subIn K (.ref C) (.type "ValueError") = some true
  third : PySem.W.nsIn K cStatics "thirdparty.any" = some none
section
variable {CX : CXT} {P : Program} {w : World} {K : PySem.W.Frag} {mg : Str → Option Value} {base : Heap} {k : Nat} {f C cda cc : Addr} {name qual : Str} {params : Arguments} {rest : List Stmt} {scope : Scope} {dV kV doc pm ct oc : Value} {an od : Option Addr}
  {osl : Array (Option Value)} {p0 p1 pa pc px : Pos} {e : Expr} {N ps : List Str} {sp : Sp}
abbrev supBody (p0 p1 pa pc px : Pos) (e : Expr) (rest : List Stmt) : List Stmt := .Expr (.Call (.Attribute (.Call (.Name "super" p0) [] [] p1) "__init__" pa) [e] [] pc) px :: rest
abbrev supNF (name qual : Str) (params : Arguments) (body : List Stmt) (scope : Scope) (cc cda : Addr) : NF := ⟨name, qual, params, body, scope, [("__class__", cc)], cda⟩
theorem fn_supI (T : SupC P K mg C cda cc qual params scope ps) (lk : K.lookup f = some ⟨oc, od, .func (PySem.W.ksFn name qual params (supBody p0 p1 pa pc px e rest) scope dV kV doc pm an (.ref cda) ct cc), osl⟩)
    (S : NScope N ps ["__class__"] scope) (len : ∀ vs H Q E, sp vs H Q E → vs.length = ps.length)
    (he : ∀ env : Env, starEach [e] env = [(false, PySem.eval e env)]) (pl : Env → Sem Bool)
    (heq : ∀ env : Env, PySem.eval (.Call (.Attribute (.Call (.Name "super" p0) [] [] p1) "__init__" pa) [e] [] pc) env = (do
      let ov ← attributeBase (.Call (.Name "super" p0) [] [] p1) "__init__" env (PySem.eval (.Call (.Name "super" p0) [] [] p1) env)
      standAt pa.atName
      let (f, first) ← holding [ov] (getMethod ov "__init__" (pl env))
      callWith pc f first (backTo pc (starEach [e] env)) []))
    (hbody : ∀ (A : Around) (outer : List Env) (s : Shared) (H : Hp) (vs : List V) (Q : VK) (E : XK), Room k (A.deeper (envF (supNF name qual params (supBody p0 p1 pa pc px e rest) scope cc cda) f s.heap.objs.size)) → sp vs H Q E →
      ∃ (a : Addr) (ws : List V), vs = .ref a :: ws ∧ H a = some (exo a C none) ∧
        ∃ tm t, PE (ncx CX P w K mg base N (supNF name qual params (supBody p0 p1 pa pc px e rest) scope cc cda) f A outer s H E) e tm ∧ PSs (ncx CX P w K mg base N (supNF name qual params (supBody p0 p1 pa pc px e rest) scope cc cda) f A outer s H E) rest t ∧
          tCons tm tNil (startF N vs [none]) H fun vs1 H1 => vs1.length = 1 ∧ H1 a = some (exo a C none) ∧ t { nx := fun _ H' => Q .non H', rt := Q } (startF N vs [none]) H1) :
    FnOk P w K mg base CX (k + 1) f (PySem.W.ksFn name qual params (supBody p0 p1 pa pc px e rest) scope dV kV doc pm an (.ref cda) ct cc) ps sp := by
  refine ⟨len, fun A outer s H args us vs Q E hr e0 hb r hsp => ?_⟩
  have hl := len _ _ _ _ hsp
  have KX : K.In s.heap := e0.mod.kin.keeps fun b o e => (e0.bs b o e).1
  have lim : s.heap.NoLimit := e0.mod.nolimit.keeps fun b o e => (e0.bs b o e).1
  obtain ⟨cl, cld, csl, hcell⟩ := T.cell
  obtain ⟨ccl, cdd, vs0, ccs, file, tf, hcode, hvs, hfile⟩ := T.code
  obtain ⟨ar, har, hps⟩ := T.par
  obtain ⟨nm, q, NN, bs, bm, sn, sub, ab, col, dd, k0, k1, k2, k3, k5, hCl, hbm⟩ := T.oex.cls
  have hclsI : clsIn K C = some { name := nm, bases := bs, mro := .ref C :: bm, ns := NN, qualname := q, hasDict := true, slotNames := sn, subclasses := sub, abstract := ab, collection := col, hasDel := false } := by unfold PySem.W.clsIn; rw [hCl] <;> rfl
  refine codeAny_call_function hr.depth (KX _ _ lk) rfl S.co S.gen rfl (PySem.W.codeRec_of KX T.hcd) (hb _ _ _ _ ?_)
  refine wpAny_newFunctionEnv S.nocell (fun ⟨n, _⟩ hy => S.par n (List.of_mem_zip hy).1) (fun h₁ hns hsb => ⟨lim.fresh _ hsb, ?_⟩) S.kind
  refine ks_codeAny_funcAt ?_
  have kp : ∀ b o, s.heap.get? b = some o → h₁.get? b = some o := fun b o e => hsb.extBut b o (Nat.ne_of_lt (Heap.lt_size e)) (Heap.get?_push_of_some _ e)
  obtain ⟨a, ws, ev, ha, tm, t, hm, ht, hq⟩ := hbody A outer s H vs Q E (hr.deeper _) hsp
  have Cl : CellsAt [(("__class__" : Str), cc)] ["__class__"] [none] s.heap H := by
    have hc1 : ∀ y c, [(("__class__" : Str), cc)].lookup y = some c → y = "__class__" ∧ c = cc := fun y c z => by
      have := PySem.mem_of_lookup z
      simp at this
      exact this
    have hb' := e0.mod.kin _ _ hcell
    refine ⟨rfl, fun y c z => ?_, fun x y c z1 z2 => by rw [(hc1 _ _ z1).1, (hc1 _ _ z2).1], fun i y hi => ?_⟩
    · obtain ⟨_, rfl⟩ := hc1 y c z
      exact ⟨(e0.bs _ _ hb').2, _, _, (e0.bs _ _ hb').1, rfl⟩
    · cases i with
      | zero =>
        have : y = "__class__" := (Option.some.inj hi).symm
        subst this
        exact ⟨cc, by simp [List.lookup], fun v hv => by simp at hv⟩
      | succ i => simp at hi
  have I : Inv (ncx CX P w K mg base N (supNF name qual params (supBody p0 p1 pa pc px e rest) scope cc cda) f A outer s H E) [] (startF N vs [none]) H { s with heap := h₁, toks := s.toks + (ps.zip us).length } := inv_startN S hr.hd e0 hl r Cl hns kp
  have I1 := I.pins_of (pins' := []) fun p hp => absurd hp (by simp)
  refine ks_wpAt_execs_cons (ks_wpAt_Expr_any (ks_wpAt_MethodCall (pl := pl _) ?_ (heq _)) I.quiet)
  subst ev
  obtain ⟨u0, ur, eus, ru0, _⟩ : ∃ u0 ur, us = u0 :: ur ∧ RelV (.ref a) u0 ∧ Vals ws ur := by
    cases r with
    | cons r1 r2 => exact ⟨_, _, rfl, r1, r2⟩
  obtain rfl : u0 = Value.ref a := ru0
  obtain ⟨t0, hxa⟩ := exo_at I.hok ha
  have hself : ∃ m, h₁.Ns s.heap.objs.size m ∧ m ar.arg = some (.ref a) := by
    refine ⟨_, hns, ?_⟩
    exact zip_look (i := 0) (by
      have q := S.nd.sublist (List.take_sublist (ps.length + 1) N)
      rw [show ps.length + 1 = ps.length + (["__class__"] : List Str).length from rfl, S.pre] at q
      exact (List.nodup_append.mp q).1) hps (by rw [eus]; rfl)
  obtain ⟨m, hmns, hma⟩ := hself
  have KX1 : K.In h₁ := I.kIn
  have hC1 := KX1 _ _ hCl
  have hlocal : scope.names.lookup ar.arg = some .local := S.par _ (List.mem_of_getElem? hps)
  refine ks_wpAt_super_base (env := envF (supNF name qual params (supBody p0 p1 pa pc px e rest) scope cc cda) f s.heap.objs.size) T.sup (S.frk _ (by simp)) (by decide) rfl (KX1 _ _ lk) rfl har rfl (KX1 _ _ hcode) rfl hvs hfile T.top ?_
  obtain ⟨mb, h1, h2⟩ := I.mod.blt
  refine PySem.W.ks_loadName_global S.kind T.sup (Calls.loadGlobal_builtin (I.mod.glob.keeps I.bk) T.noS (h1.keeps I.bk) ((h2 _ (by decide)).trans boot_super) ⟨rfl, ?_⟩)
  refine wpAny_loadName_free S.kind (S.frk _ (by simp)) (by simp [List.lookup]) ⟨_, KX1 _ _ hcell, rfl⟩ ?_
  refine wpAny_loadName_local S.kind hlocal hmns hma ?_
  refine ks_wpAny_isType_cls hC1 rfl ⟨rfl, ?_⟩
  refine ks_wpAny_call_super hC1 rfl hxa rfl (fun c z => by cases z) (PySem.W.looks_mroIn KX1 T.mro) (fun h' ho k1' => ?_)
  have I2 : Inv (ncx CX P w K mg base N (supNF name qual params (supBody p0 p1 pa pc px e rest) scope cc cda) f A outer s H E) [] (startF N (V.ref a :: ws) [none]) H { s with heap := h', toks := s.toks + (ps.zip us).length } := I.kept (t' := s.toks + (ps.zip us).length) k1'
  have KX2 : K.In h' := I2.kIn
  obtain ⟨t1, hxa2⟩ := exo_at I2.hok ha
  have In2 : PySem.W.InstAt h' a { cls := .ref C, dict := none, data := .fields #[.ref t1, .none, .none, .none, .bool false, .none] } C none := ⟨hxa2, rfl, rfl, trivial⟩
  have hf : alongIn K "__init__" (((Value.ref C :: bm).dropWhile (· != .ref C)).drop 1) = some (some (.builtin "ValueError.__init__")) := by
    have := T.ini
    unfold ks_superIn at this
    rw [hclsI] at this
    exact this
  refine PySem.W.kxs_getMethod PySem.W.kxs_ValueError ho (PySem.W.looks_opaque KX2 T.third) (l₀ := Value.ref C :: bm) (fun A Q E s k q => wpAny_bind ((PySem.W.looks_clsIn KX2 hclsI) A _ E s k (wpAny_pure q))) rfl KX2 hf (In2.type.andThen (PySem.W.looks_subIn KX2 T.sub)) (PySem.W.ks_ne KX2 In2 hclsI) (by decide) ?_
  have I3 : Inv (ncx CX P w K mg base N (supNF name qual params (supBody p0 p1 pa pc px e rest) scope cc cda) f A outer s H E) [(h'.objs.size, kxs_mw "ValueError.__init__" a)] (startF N (V.ref a :: ws) [none]) H { s with heap := h'.push (kxs_mw "ValueError.__init__" a), toks := s.toks + (ps.zip us).length + 1 } := by
    have J := I2.kept (h' := h'.push (kxs_mw "ValueError.__init__" a)) (t' := s.toks + (ps.zip us).length + 1) fun b o q => Heap.get?_push_of_some _ q
    refine J.pins_of fun p hp => ?_
    obtain rfl := List.mem_singleton.mp hp
    exact ⟨Heap.get?_push_size _ rfl, I2.hok.fresh (Nat.le_refl _), Nat.ne_of_gt I2.lt, I2.nofs (Nat.le_refl _), fun v z => by cases z⟩
  have hPA := pa_cons hm pa_nil (he _)
  show wpAny _ _ (callWith pc (.ref h'.objs.size) [] (backTo pc (starEach [e] (envF (supNF name qual params (supBody p0 p1 pa pc px e rest) scope cc cda) f s.heap.objs.size))) []) _ _ _
  rw [he]
  refine PySem.W.kxs_callWith (i := "ValueError.__init__") (x := a) rfl ?_
  refine PySem.Calls.evalArgs_plain ?_
  have step := hPA.run pc _ _ _ H _ I3 hq
  rw [show starEach [e] (ncx CX P w K mg base N (supNF name qual params (supBody p0 p1 pa pc px e rest) scope cc cda) f A outer s H E).env = [(false, PySem.eval e (ncx CX P w K mg base N (supNF name qual params (supBody p0 p1 pa pc px e rest) scope cc cda) f A outer s H E).env)] from he _] at step
  refine wpAny_mono step (fun us1 s1 hs => ?_) fun _ _ z => z
  obtain ⟨vs1, H1, I4, rv, hl1, ha1, hq1⟩ := hs
  obtain ⟨pu, _, _, _⟩ := I4.pin (h'.objs.size, kxs_mw "ValueError.__init__" a) (by simp)
  refine ⟨pu, ?_⟩
  have I5 := I4.pins_of (pins' := []) fun p hp => absurd hp (by simp)
  obtain ⟨t2, hxa3⟩ := exo_at I5.hok ha1
  have hrest : us1.length ≤ sizeLine := by
    rw [← Paired.length rv, hl1]; decide
  obtain ⟨hp1, g1, d1, tk1, os1⟩ := s1
  refine call_mwV (I5.kIn _ _ hCl) hxa3 pu hrest fun h4 t3 k4 hx4 => ?_
  have J := I5.write (t' := tk1) (x := a) (e := a) (o := exo a C none) (by rw [ha1]; exact True.intro) (.inl rfl) k4 ⟨_, hx4⟩ (exo_ok hx4)
  have eu : upd H1 a (exo a C none) = H1 := by
    funext b
    by_cases hb : b = a
    · rw [hb, upd_same, ha1]
    · rw [upd_ne hb]
  rw [eu] at J
  refine wpAt_of_wpAny ?_
  refine wpAny_mono (ht.run [] _ _ H1 _ J hq1) (fun fl s' hs => ?_) fun e s' hs => hs
  have fin : ∀ {σ' : L2.St} {H' : Hp} {v : V} {u : Value}, Inv (ncx CX P w K mg base N (supNF name qual params (supBody p0 p1 pa pc px e rest) scope cc cda) f A outer s H E) [] σ' H' s' → L2.RelV v u → Q v H' → CE outer P w H s Q u s' :=
    fun {σ' H' v u} J rv q => ⟨v, H', J.os, J.bare, J.base, J.hok, rv, q⟩
  cases fl with
  | ret u =>
    obtain ⟨v, σ', H', J, rv, q⟩ := hs
    exact fin J rv q
  | next =>
    obtain ⟨σ', H', J, q⟩ := hs
    exact fin (v := V.non) (u := Value.none) J rfl q
  | brk =>
    obtain ⟨_, _, _, q⟩ := hs
    exact False.elim q
  | cont =>
    obtain ⟨_, _, _, q⟩ := hs
    exact False.elim q
end
end StX

/-! isinstance of a caught error that has fields -/
namespace StX
open PySem PySem.Spec L2 Builtin Builtin.Str Builtin.Int PyProof.Rows
def rIsEd (K : PySem.W.Frag) (D a : Addr) (d : Option Addr) : List V → Hp → VK → Prop := fun xs H Q => ∃ (c : V) (cv : Value) (b : Bool), xs = [.ref a, c] ∧ (∀ u, RelV c u → u = cv) ∧ PySem.W.kitOne K (.ref D) cv = some b ∧ (d = none ∨ ∃ dd fs, d = some dd ∧ H dd = some (.xd fs)) ∧ Q (.bl b) H
theorem call_isEd {X : Cx} {a D : Addr} {d : Option Addr} {oe : Obj} {pn : List (Addr × Obj)} (C : ExcC X.K D) (hz : Zc (.ref D) d oe) (hf : ∃ vs, oe.data = .fields vs) : CallR (X.suite a ((a, oe) :: pn)) (.builtin "isinstance") (rIsEd X.K D a d) := by
  intro pins s σ H xs us Q I r h
  obtain ⟨c, cv, b, rfl, hcv, e, hd, q⟩ := h
  cases r with
  | cons rx rr =>
    cases rr with
    | cons rt rr =>
      cases rr
      cases rx
      have ec := hcv _ rt
      subst ec
      obtain ⟨hget, _⟩ := I.pin (a, oe) (List.mem_append.mpr (.inl List.mem_cons_self))
      obtain ⟨vs, hv⟩ := hf
      have J : ∃ od, PySem.W.InstAt s.heap a oe D od := by
        obtain ⟨oc, od, oda, osl⟩ := oe
        obtain ⟨h1, h2⟩ := hz
        dsimp only at h1 h2 hv
        subst h1 h2 hv
        rcases hd with rfl | ⟨dd, fs, rfl, hx⟩
        · exact ⟨none, hget, rfl, rfl, trivial⟩
        · obtain ⟨mA, ⟨o, es, ep, ho, hr⟩, _⟩ := I.hok dd _ hx
          exact ⟨some o, hget, rfl, rfl, ho⟩
      obtain ⟨od, J⟩ := J
      have hcl : (PySem.W.clsIn X.K D).isSome = true := by
        have h1 := C.hd
        unfold PySem.W.hasDictIn at h1
        cases z : PySem.W.clsIn X.K D with
        | none => rw [z] at h1; cases h1
        | some _ => rfl
      exact PySem.W.kia_one (PySem.W.kitx_exc hcl C.hg C.hk C.hs C.ha C.hn C.ht C.hm) I.kIn J e (fun z => nomatch z) fun tk => ⟨.bl b, H, I.kept (t' := tk) fun _ _ z => z, rfl, q⟩
/-! ### facts of the written part, by Bool -/
def oexB (K : PySem.W.Frag) (C : Addr) : Bool := (match K.lookup C with
  | some ⟨.type "type", _, .cls cd, sl⟩ => (match cd.mro, sl.toList with
    | .ref C' :: bm, [_, _, _, _, some (.builtin n), _] => C' == C && n == "ValueError.__new__" && !cd.hasDel && cd.hasDict && PySem.HandSPX.refsVE bm
    | _, _ => false)
  | _ => false) && (decide (PySem.W.findIn K (.ref C) "__setattr__" = some (some (.builtin "object.__setattr__"))) && decide (PySem.W.subIn K (.ref C) (.type "BaseException") = some true) && decide (PySem.W.typeIn K (.ref C) = some (.type "type")) && PySem.W.keepIn K (.ref C))
theorem oexB_ok {K : PySem.W.Frag} {C : Addr} (h : oexB K C = true) : OexC K C := by
  unfold oexB at h
  obtain ⟨q, h⟩ := Bool.and_eq_true_iff.mp h
  simp only [Bool.and_eq_true, decide_eq_true_eq] at h
  obtain ⟨⟨⟨h1, h2⟩, h3⟩, h4⟩ := h
  refine ⟨?_, h1, h2, h3, h4⟩
  split at q
  · rename_i dd cd sl ho
    split at q
    · rename_i C' bm k0 k1 k2 k3 n k5 hm hs
      simp only [Bool.and_eq_true, beq_iff_eq, Bool.not_eq_true'] at q
      obtain ⟨⟨⟨⟨rfl, rfl⟩, hdel⟩, hdict⟩, hr⟩ := q
      obtain ⟨nm, bs, mro, ns, qn, hd, sn, sub, ab, col, del⟩ := cd
      dsimp only at hm hdel hdict
      subst hm hdel hdict
      have hsl : sl = #[k0, k1, k2, k3, some (.builtin "ValueError.__new__"), k5] := by
        obtain ⟨l⟩ := sl
        simp only at hs
        rw [hs]
      subst hsl
      exact ⟨nm, qn, ns, bs, bm, sn, sub, ab, col, dd, k0, k1, k2, k3, k5, ho, hr⟩
    · cases q
  · cases q
def excB (K : PySem.W.Frag) (D : Addr) : Bool := decide (PySem.W.findIn K (.ref D) "__getattribute__" = some (some (.builtin "BaseException.__getattribute__"))) && decide (PySem.W.findIn K (.ref D) "__getattr__" = some none) && decide (PySem.W.subIn K (.ref D) (.type "BaseException") = some true) && PySem.W.hasDictIn K D &&
  decide (PySem.W.findIn K (.ref D) "__class__" = some (some (.builtin "object.__class__"))) && decide (PySem.W.specialIn K (.builtin "object.__class__") "__get__" = some (some (.builtin "getset_descriptor.__get__"))) && decide (PySem.W.takesIn K (.builtin "object.__class__") = some true) && decide (PySem.W.mroIn K D (.type "object") = some true)
theorem excB_ok {K : PySem.W.Frag} {D : Addr} (h : excB K D = true) : ExcC K D := by
  unfold excB at h
  simp only [Bool.and_eq_true, decide_eq_true_eq] at h
  obtain ⟨⟨⟨⟨⟨⟨⟨h1, h2⟩, h3⟩, h4⟩, h5⟩, h6⟩, h7⟩, h8⟩ := h
  exact ⟨h1, h2, h3, h4, h5, h6, h7, h8⟩
end StX

/-! the head's hook, with the __init__ of error classes -/
namespace StX
open PySem PySem.Spec L2 PyProof.Rows He NdefX
open PySem.W (kxs_mw ks_superObj ks_superIn clsIn mroIn subIn alongIn)
abbrev FnS : Type := Option (Str × Str × Arguments × FuncBody × Scope × Addr × List Str × Addr)
def fnS (K : PySem.W.Frag) (p : Str × Option Str) : FnS := match K.lookup (fAd K p) with
  | some ⟨_, _, .func fd, _⟩ => some (fd.name, fd.qualname, fd.params, fd.body, fd.scope, fd.globals, fd.closure.map (·.1), fd.builtins)
  | _ => none
structure SupD where
  cls : Str
  qual : Str
  params : Arguments
  body : List Stmt
  scope : Scope
  flds : List Str
def SupD.val (d : SupD) : FnS := some ("__init__", d.qual, d.params, .stmts d.body, d.scope, mainGlobals, ["__class__"], builtinsNs)
def codeF (file : Str) (vs : Array Value) : Bool := match vs[2]? with
  | some (Value.str f _) => file == f
  | _ => false
def SupD.ok (K : PySem.W.Frag) (file : Str) (d : SupD) : Bool := oexB K (ga K d.cls) && excB K (ga K d.cls) && PySem.W.keepIn K (.ref (fAd K (d.cls, some "__init__"))) && decide (PySem.W.findIn K (.ref (ga K d.cls)) "__init__" = some (some (.ref (fAd K (d.cls, some "__init__"))))) &&
  decide (PySem.W.typeIn K (.ref (fAd K (d.cls, some "__init__"))) = some (.type "function")) && decide (mroIn K (ga K d.cls) (.ref (ga K d.cls)) = some true) && decide (ks_superIn K (ga K d.cls) (ga K d.cls) "__init__" = some (some (.builtin "ValueError.__init__"))) &&
  decide (subIn K (.ref (ga K d.cls)) (.type "ValueError") = some true) && decide (PySem.W.nsIn K cStatics "thirdparty.any" = some none) && d.flds.all (fun g => decide (PySem.W.findIn K (.ref (ga K d.cls)) g = some none)) &&
  (match K.lookup (fAd K (d.cls, some "__init__")) with
  | some ⟨_, _, .func fd, _⟩ => PySem.W.codeIn K fd.code d.qual && decide (fd.defaults = .none) && (match fd.code with
    | .ref cda => (match K.lookup cda with
      | some ⟨_, _, .fields vs, _⟩ => codeF file vs
      | _ => false)
    | _ => false) && (match fd.closure with
    | [(_, cc)] => (match K.lookup cc with
      | some ⟨_, _, .cell (some (.ref D)), _⟩ => decide (D = ga K d.cls)
      | _ => false)
    | _ => false)
  | _ => false)
theorem SupD.facts {P : Program} {K : PySem.W.Frag} {mg : Str → Option Value} {file : Str} {d : SupD} {ps : List Str} (e : fnS K (d.cls, some "__init__") = d.val) (c : d.ok K file = true) (hfile : P.main.file = file) (hsup : mg "super" = none)
    (h1 : d.scope.names.lookup ("super" : Str) = some .globalImplicit) (h2 : ∃ ar : Arg, (d.params.posonlyargs ++ d.params.args).head? = some ar ∧ ps[0]? = some ar.arg) (h3 : (P.main.scope.names.lookup ("super" : Str)).isSome = false) :
    ∃ (f cda cc : Addr) (oc kV doc pm ct : Value) (od an : Option Addr) (osl : Array (Option Value)),
      K.lookup f = some ⟨oc, od, .func (PySem.W.ksFn "__init__" d.qual d.params d.body d.scope .none kV doc pm an (.ref cda) ct cc), osl⟩ ∧ PySem.W.findIn K (.ref (ga K d.cls)) "__init__" = some (some (.ref f)) ∧
      PySem.W.typeIn K (.ref f) = some (.type "function") ∧ SupC P K mg (ga K d.cls) cda cc d.qual d.params d.scope ps ∧ (∀ g ∈ d.flds, PySem.W.findIn K (.ref (ga K d.cls)) g = some none) ∧ ExcC K (ga K d.cls) := by
  unfold SupD.ok at c
  obtain ⟨c, q⟩ := Bool.and_eq_true_iff.mp c
  simp only [Bool.and_eq_true, decide_eq_true_eq] at c
  obtain ⟨⟨⟨⟨⟨⟨⟨⟨⟨a1, a2⟩, a3⟩, a4⟩, a5⟩, a6⟩, a7⟩, a8⟩, a9⟩, a10⟩ := c
  unfold fnS at e
  cases z : K.lookup (fAd K (d.cls, some "__init__")) with
  | none => rw [z] at q; cases q
  | some o =>
    obtain ⟨oc, od, dt, osl⟩ := o
    rw [z] at q e
    cases dt with
    | func fd =>
      obtain ⟨n1, n2, n3, n4, n5, n6, n7, n8, n9, n10, n11, n12, n13, n14, n15⟩ := fd
      have e2 : (some (n1, n2, n3, n4, n5, n6, n7.map (·.1), n15) : FnS) = d.val := e
      unfold SupD.val at e2
      simp only [Option.some.injEq, Prod.mk.injEq] at e2
      obtain ⟨rfl, rfl, rfl, rfl, rfl, rfl, h7, rfl⟩ := e2
      dsimp only at q
      obtain ⟨q, q4⟩ := Bool.and_eq_true_iff.mp q
      obtain ⟨q, q3⟩ := Bool.and_eq_true_iff.mp q
      obtain ⟨q1, q2⟩ := Bool.and_eq_true_iff.mp q
      have q2 := of_decide_eq_true q2
      subst q2
      match n7, h7, q4 with
      | [(nm, cc)], h7, q4 =>
        have hnm : nm = "__class__" := by injection h7
        subst hnm
        cases n13 with
        | ref cda =>
          refine ⟨_, cda, cc, oc, n9, n10, n11, n14, od, n12, osl, z, a4, a5, ⟨oexB_ok a1, q1, h1, h2, ?_, ?_, hsup, h3, a6, a7, a8, a9⟩, fun g hg => of_decide_eq_true (List.all_eq_true.mp a10 g hg), excB_ok a2⟩
          · dsimp only at q3
            split at q3
            · rename_i vs _ ho
              unfold codeF at q3
              split at q3
              · rename_i f t hv
                exact ⟨_, _, _, _, _, _, ho, hv, by rw [hfile]; exact q3⟩
              · cases q3
            · cases q3
          · dsimp only at q4
            split at q4
            · rename_i D _ ho
              have := of_decide_eq_true q4
              subst this
              exact ⟨_, _, _, ho⟩
            · cases q4
        | _ => cases q3
    | _ => cases q
/-- the hook with these -/
structure SaysS (fa : List Fa) (fn : List DefD) (ts : List Tab) (tf : List Defn) (ex : PySem.W.Frag → Bool) (sd : List SupD) (w : World) (h : Heap) (K : PySem.W.Frag) : Prop where
  x : SaysX fa fn ts tf ex w h K
  s : (sd.map fun d => fnS K (d.cls, some "__init__")) = sd.map SupD.val
abbrev AlS : Type := AlX × List FnS
/-- the head's fragment, with the statics -/
def frS (g : Addr → Option Obj) (n : Nat) : PySem.W.Frag := frT g (asD g n ++ [cStatics])
def obsS (n : Nat) (fa : List Fa) (fn : List DefD) (ts : List Tab) (tf : List Defn) (ex : PySem.W.Frag → Bool) (sd : List SupD) (g : Addr → Option Obj) : AlS := ((obsT fa fn ts (frS g n), ex (frS g n) && tabsB g tf (frS g n)), sd.map fun d => fnS (frS g n) (d.cls, some "__init__"))
def valS (fn : List DefD) (ts : List Tab) (sd : List SupD) (w : World) : AlS := (valX fn ts w, sd.map SupD.val)
theorem saysS_of {n : Nat} {fa : List Fa} {fn : List DefD} {ts : List Tab} {tf : List Defn} {ex : PySem.W.Frag → Bool} {w : World} {h : Heap} (e : (obsT fa fn ts (frS h.get? n), ex (frS h.get? n) && tabsB h.get? tf (frS h.get? n)) = valX fn ts w) : SaysX fa fn ts tf ex w h (frS h.get? n) := by
  have e1 := congrArg (fun z : AlX => z.1) e
  have e2 : (ex (frS h.get? n) && tabsB h.get? tf (frS h.get? n)) = true := congrArg (fun z : AlX => z.2) e
  obtain ⟨h1, h2⟩ := Bool.and_eq_true_iff.mp e2
  have key : ∀ p ∈ tf, PySem.W.codeHdIn (frS h.get? n) (cT (frS h.get? n) p).1 (cT (frS h.get? n) p).2 = true ∧ ∃ o, h.get? (cT (frS h.get? n) p).2 = some o ∧ emptyTab o = true := fun p hp => by
    obtain ⟨h3, h4⟩ := Bool.and_eq_true_iff.mp (List.all_eq_true.mp h2 p hp)
    refine ⟨h3, ?_⟩
    split at h4
    · rename_i o q; exact ⟨o, q, h4⟩
    · cases h4
  exact ⟨e1, h1, fun p hp => (key p hp).1, fun p hp => by obtain ⟨_, o, q, z⟩ := key p hp; exact frT_none q z, fun p hp => by obtain ⟨_, o, q, z⟩ := key p hp; rw [q, emptyTab_eq z]⟩
def hookS (n : Nat) (fa : List Fa) (fn : List DefD) (ts : List Tab) (tf : List Defn) (ex : PySem.W.Frag → Bool) (sd : List SupD) : PySem.W.Hook where
  α := AlS
  obs := fun s => obsS n fa fn ts tf ex sd s.heap.get?
  val := fun w => valS fn ts sd w
  says := fun w h => ∃ K : PySem.W.Frag, K.In h ∧ SaysS fa fn ts tf ex sd w h K
  of := fun _ _ e => ⟨_, frT_in, ⟨saysS_of (congrArg (fun z : AlS => z.1) e), congrArg (fun z : AlS => z.2) e⟩⟩
  keeps := fun _ _ _ ⟨K, hK, c⟩ k => ⟨K, PySem.W.Frag.In.keeps hK k, ⟨⟨c.x.t, c.x.more, c.x.hd, c.x.out, fun p hp => k _ _ (c.x.empty p hp)⟩, c.s⟩⟩
theorem obsS_eq {n : Nat} {fa : List Fa} {fn : List DefD} {ts : List Tab} {tf : List Defn} {ex : PySem.W.Frag → Bool} {sd : List SupD} {g : Addr → Option Obj} {s : Shared} (h : ∀ a, g a = s.heap.get? a) : obsS n fa fn ts tf ex sd g = (hookS n fa fn ts tf ex sd).obs s := by
  have e : g = s.heap.get? := funext h
  rw [e]; rfl
theorem SaysS.def_ {fa : List Fa} {fn : List DefD} {ts : List Tab} {tf : List Defn} {ex : PySem.W.Frag → Bool} {sd : List SupD} {w : World} {h : Heap} {K : PySem.W.Frag} (c : SaysS fa fn ts tf ex sd w h K) (i : Nat) {d : SupD} (hi : sd[i]? = some d := by rfl) : fnS K (d.cls, some "__init__") = d.val := by
  have e := congrArg (fun l => l[i]?) c.s
  simp only [List.getElem?_map, hi, Option.map_some] at e
  exact Option.some.inj e
end StX

/-! Z: data instead of heaps. D: data; Rep: a value stands for a datum; Sl: the slots of a def hold data, shared or its own; EW, TW, AW, IW, GW, SW: what an expression, a test, .. is worth, by data alone. -/
namespace Z
open PySem L2

inductive D where
  | non | bl (b : Bool) | int (i : Int) | str (x : Str)
  | lst (ds : List D) | tup (ds : List D)
  | scr (ns : List Int)
  | ty (n : String)
  | tpl (ds : List D)
deriving Inhabited

def ofV : V → D
  | .bl b => .bl b
  | .int i => .int i
  | .str x => .str x
  | .ty n => .ty n
  | _ => .non
def toV : D → V
  | .bl b => .bl b
  | .int i => .int i
  | .str x => .str x
  | .ty n => .ty n
  | _ => .non
def flatD : D → Bool
  | .non => true
  | .bl _ => true
  | .int _ => true
  | .str _ => true
  | .ty _ => true
  | _ => false
def plainV : V → Bool
  | .non => true
  | .bl _ => true
  | .int _ => true
  | .str _ => true
  | .ty _ => true
  | _ => false

mutual
inductive Rep (K : PySem.W.Frag) (H : Hp) : V → D → Prop
  | non : Rep K H .non .non
  | bl (b : Bool) : Rep K H (.bl b) (.bl b)
  | int (i : Int) : Rep K H (.int i) (.int i)
  | str (x : Str) : Rep K H (.str x) (.str x)
  | lst {a : Addr} {vs : List V} {ds : List D} (h : H a = some (.lst vs)) (r : RepL K H vs ds) : Rep K H (.ref a) (.lst ds)
  | tup {a : Addr} {vs : List V} {ds : List D} (h : FrT H a vs) (r : RepL K H vs ds) : Rep K H (.ref a) (.tup ds)
  | ty (n : String) : Rep K H (.ty n) (.ty n)
  | scr {a : Addr} {ns : List Int} (h : SqL K H a (ns.map V.int)) : Rep K H (.ref a) (.scr ns)
  | tpl {a : Addr} {vs : List V} {ds : List D} (h : H a = some (.tup vs)) (r : RepL K H vs ds) : Rep K H (.ref a) (.tpl ds)
inductive RepL (K : PySem.W.Frag) (H : Hp) : List V → List D → Prop
  | nil : RepL K H [] []
  | cons {v : V} {d : D} {vs : List V} {ds : List D} (h : Rep K H v d) (r : RepL K H vs ds) : RepL K H (v :: vs) (d :: ds)
end

theorem sameL {K : PySem.W.Frag} {H H' : Hp} {a : Addr} {xs : List V} (e : Same H H') (h : SqL K H a xs) : SqL K H' a xs := e.seq h
theorem monoT {H H' : Hp} {a : Addr} {xs : List V} (e : Same H H') (h : FrT H a xs) : FrT H' a xs := by
  obtain ⟨ob, hd, h⟩ := h
  exact ⟨ob, hd, e _ _ h⟩
theorem sameT {K : PySem.W.Frag} {H H' : Hp} {a : Addr} {xs : List V} (e : Same H H') (h : FrT H a xs) : SqT K H' a xs := (monoT e h).sq
mutual
theorem Rep.mono {K : PySem.W.Frag} {H H' : Hp} (e : Same H H') : ∀ {v : V} {d : D}, Rep K H v d → Rep K H' v d
  | _, _, .non => .non
  | _, _, .bl b => .bl b
  | _, _, .int i => .int i
  | _, _, .str x => .str x
  | _, _, .lst h r => .lst (e _ _ h) (RepL.mono e r)
  | _, _, .tup h r => .tup (monoT e h) (RepL.mono e r)
  | _, _, .scr h => .scr (sameL e h)
  | _, _, .tpl h r => .tpl (e _ _ h) (RepL.mono e r)
  | _, _, .ty n => .ty n
theorem RepL.mono {K : PySem.W.Frag} {H H' : Hp} (e : Same H H') : ∀ {vs : List V} {ds : List D}, RepL K H vs ds → RepL K H' vs ds
  | _, _, .nil => .nil
  | _, _, .cons h r => .cons (Rep.mono e h) (RepL.mono e r)
end
section
variable {K : PySem.W.Frag} {H H' : Hp} {v : V} {d : D} {vs ws : List V} {ds es : List D}
theorem Rep.ofV (h : plainV v = true) : Rep K H v (ofV v) := by
  cases v <;> first | exact .non | exact .bl _ | exact .int _ | exact .str _ | exact .ty _ | (cases h)
theorem Rep.toV (h : flatD d = true) (r : Rep K H v d) : v = toV d := by
  cases r <;> first | rfl | (cases h)
theorem RepL.length (r : RepL K H vs ds) : vs.length = ds.length := by
  induction vs generalizing ds with
  | nil => cases r; rfl
  | cons v vs ih => cases r with | cons h r => simp [ih r]
theorem RepL.get : ∀ {vs : List V} {ds : List D} {i : Nat}, RepL K H vs ds → ds[i]? = some d → ∃ v, vs[i]? = some v ∧ Rep K H v d
  | _, _, _, .nil, e => by simp at e
  | _, _, 0, .cons h r, e => by simp at e; subst e; exact ⟨_, rfl, h⟩
  | _, _, i + 1, .cons h r, e => by
    obtain ⟨v, h1, h2⟩ := RepL.get (i := i) r (by simpa using e)
    exact ⟨v, by simpa using h1, h2⟩
theorem RepL.get' {v : V} : ∀ {vs : List V} {ds : List D} {i : Nat}, RepL K H vs ds → vs[i]? = some v → ∃ d, ds[i]? = some d ∧ Rep K H v d
  | _, _, _, .nil, e => by simp at e
  | _, _, 0, .cons h r, e => by simp at e; subst e; exact ⟨_, rfl, h⟩
  | _, _, i + 1, .cons h r, e => by
    obtain ⟨d, h1, h2⟩ := RepL.get' (i := i) r (by simpa using e)
    exact ⟨d, by simpa using h1, h2⟩
theorem RepL.append : ∀ {vs ws : List V} {ds es : List D}, RepL K H vs ds → RepL K H ws es → RepL K H (vs ++ ws) (ds ++ es)
  | _, _, _, _, .nil, q => q
  | _, _, _, _, .cons h r, q => .cons h (RepL.append r q)
theorem RepL.set (h : Rep K H v d) : ∀ {vs : List V} {ds : List D} (i : Nat), RepL K H vs ds → RepL K H (vs.set i v) (ds.set i d)
  | _, _, _, .nil => .nil
  | _, _, 0, .cons _ r => .cons h r
  | _, _, i + 1, .cons q r => .cons q (RepL.set h i r)
theorem RepL.take : ∀ {vs : List V} {ds : List D} (i : Nat), RepL K H vs ds → RepL K H (vs.take i) (ds.take i)
  | _, _, 0, _ => .nil
  | _, _, i + 1, .nil => .nil
  | _, _, i + 1, .cons q r => .cons q (RepL.take i r)
theorem RepL.drop : ∀ {vs : List V} {ds : List D} (i : Nat), RepL K H vs ds → RepL K H (vs.drop i) (ds.drop i)
  | _, _, 0, r => r
  | _, _, i + 1, .nil => .nil
  | _, _, i + 1, .cons _ r => RepL.drop i r
theorem RepL.reverse : ∀ {vs : List V} {ds : List D}, RepL K H vs ds → RepL K H vs.reverse ds.reverse
  | _, _, .nil => .nil
  | _, _, .cons h r => by
    rw [List.reverse_cons, List.reverse_cons]
    exact (RepL.reverse r).append (.cons h .nil)
theorem RepL.strs : ∀ {vs : List V} {xs : List Str}, RepL K H vs (xs.map D.str) → vs = xs.map V.str
  | _, [], r => by cases r; rfl
  | _, x :: xs, r => by
    cases r with
    | cons h r => cases h; rw [RepL.strs r]; rfl
theorem RepL.ints : ∀ {vs : List V} {xs : List Int}, RepL K H vs (xs.map D.int) → vs = xs.map V.int
  | _, [], r => by cases r; rfl
  | _, x :: xs, r => by
    cases r with
    | cons h r => cases h; rw [RepL.ints r]; rfl
theorem RepL.bls : ∀ {vs : List V} {xs : List Bool}, RepL K H vs (xs.map D.bl) → vs = xs.map V.bl
  | _, [], r => by cases r; rfl
  | _, x :: xs, r => by
    cases r with
    | cons h r => cases h; rw [RepL.bls r]; rfl
theorem RepL.ofStrs : ∀ {xs : List Str}, RepL K H (xs.map V.str) (xs.map D.str)
  | [] => .nil
  | x :: xs => .cons (.str x) RepL.ofStrs
theorem RepL.ofInts : ∀ {xs : List Int}, RepL K H (xs.map V.int) (xs.map D.int)
  | [] => .nil
  | x :: xs => .cons (.int x) RepL.ofInts
end

/-! ### heaps -/
/-- the tables of code objects that the program's defs fill -/
class Tabs where
  T : List Addr
/-- what stood stands, but tables may have grown -/
def SameT (H H' : Hp) : Prop := ∀ a o, H a = some o → H' a = some o ∨ ∃ ps ps', o = .tbl ps ∧ H' a = some (.tbl ps')
theorem SameT.of {H H' : Hp} (h : Same H H') : SameT H H' := fun a o e => .inl (h a o e)
theorem SameT.refl (H : Hp) : SameT H H := fun a o e => .inl e
theorem SameT.trans {H H1 H2 : Hp} (x : SameT H H1) (y : SameT H1 H2) : SameT H H2 := fun a o e => by
  rcases x a o e with h | ⟨ps, ps', rfl, h⟩
  · exact y a o h
  · rcases y a _ h with h2 | ⟨qs, qs', e2, h2⟩
    · exact .inr ⟨ps, ps', rfl, h2⟩
    · exact .inr ⟨ps, qs', rfl, h2⟩
theorem SameT.free {H H' : Hp} {a : Addr} (x : SameT H H') (h : H' a = none) : H a = none := by
  cases e : H a with
  | none => rfl
  | some o =>
    rcases x a o e with z | ⟨_, _, _, z⟩ <;> rw [h] at z <;> cases z
theorem SameT.lst {H H' : Hp} {a : Addr} {vs : List V} (x : SameT H H') (h : H a = some (.lst vs)) : H' a = some (.lst vs) := by
  rcases x a _ h with z | ⟨_, _, e, _⟩
  · exact z
  · cases e
/-- every table stands, and is nobody's datum -/
def TbOk [Tabs] (Hs H : Hp) : Prop := ∀ P ∈ Tabs.T, GxR.TabG H P ∧ Hs P = none
/-- from (Hs, H) to (Hs', H'): Hs is what is shared (data), H all that is tracked; nothing that stood is changed, what was not shared stays so -/
structure Grow [Tabs] (Hs H Hs' H' : Hp) : Prop where
  s : Same Hs Hs'
  e : SameT H H'
  b : Same Hs' H'
  n : ∀ a o, H a = some o → Hs a = none → Hs' a = none
  t : TbOk Hs H → TbOk Hs' H'
theorem TbOk.mono [Tabs] {Hs H Hs' H' : Hp} (h : TbOk Hs H) (e : Same H H') (n : ∀ a o, H a = some o → Hs a = none → Hs' a = none) : TbOk Hs' H' := fun P hP => by
  obtain ⟨⟨ps, h1, h2⟩, h3⟩ := h P hP
  exact ⟨⟨ps, e _ _ h1, h2⟩, n P _ h1 h3⟩
section
variable [Tabs]
theorem Grow.refl {Hs H : Hp} (b : Same Hs H) : Grow Hs H Hs H := ⟨.refl _, .refl _, b, fun _ _ _ h => h, fun h => h⟩
theorem Grow.trans {Hs H Hs1 H1 Hs2 H2 : Hp} (x : Grow Hs H Hs1 H1) (y : Grow Hs1 H1 Hs2 H2) : Grow Hs H Hs2 H2 :=
  ⟨x.s.trans y.s, x.e.trans y.e, y.b, fun a o h n => (x.e a o h).elim (fun z => y.n a o z (x.n a o h n)) fun ⟨_, _, _, z⟩ => y.n a _ z (x.n a o h n), fun h => y.t (x.t h)⟩
theorem sameNew {H : Hp} {p : Addr} {o : HO} (h : H p = none) : Same H (upd H p o) := fun a u e => by
  rw [upd_ne (ne_of_none e h)]; exact e
theorem upd_same_of {Hs H : Hp} {p : Addr} {o : HO} (b : Same Hs H) : Same (upd Hs p o) (upd H p o) := fun a u e => by
  by_cases q : a = p
  · subst q; rw [upd_same] at e ⊢; exact e
  · rw [upd_ne q] at e ⊢; exact b _ _ e
theorem Grow.new {Hs H : Hp} {p : Addr} {o : HO} (b : Same Hs H) (h : H p = none) : Grow Hs H (upd Hs p o) (upd H p o) :=
  ⟨sameNew (b.free h), .of (sameNew h), upd_same_of b, fun a u e n => by rw [upd_ne (ne_of_none e h)]; exact n, fun t => t.mono (sameNew h) fun a u e n => by rw [upd_ne (ne_of_none e h)]; exact n⟩
/-- something new that is not shared (yet) -/
theorem Grow.hid {Hs H : Hp} {p : Addr} {o : HO} (b : Same Hs H) (h : H p = none) : Grow Hs H Hs (upd H p o) :=
  ⟨.refl _, .of (sameNew h), fun a u e => by rw [upd_ne (ne_of_none (b _ _ e) h)]; exact b _ _ e, fun _ _ _ n => n, fun t => t.mono (sameNew h) fun _ _ _ n => n⟩

/-! ### slots -/
/-- an error: its class, its fields -/
structure XD where
  C : Addr
  fs : List (Str × D)
def RepX (K : PySem.W.Frag) (Hs H : Hp) (cls : Value) (d : Option Addr) (x : XD) : Prop :=
  cls = .ref x.C ∧ ((d = none ∧ x.fs = []) ∨ ∃ dd vfs, d = some dd ∧ H dd = some (.xd vfs) ∧ ∀ f v, x.fs.lookup f = some v → ∃ u, vfs.lookup f = some u ∧ Rep K Hs u v)
inductive Slot where
  | sh (d : D)
  | ow (ds : List D)
  | exc (a : Addr) (cls : Value) (d : Option Addr) (x : XD)
abbrev Gam := List (Option Slot)
def SlotOk (K : PySem.W.Frag) (Hs H : Hp) (v : V) : Slot → Prop
  | .sh d => Rep K Hs v d
  | .ow ds => ∃ a vs, v = .ref a ∧ Hs a = none ∧ H a = some (.lst vs) ∧ RepL K Hs vs ds
  | .exc a cls d x => v = .ref a ∧ RepX K Hs H cls d x
/-- (Hs0, H0): the entry -/
structure Sl (K : PySem.W.Frag) (Hs0 H0 Hs H : Hp) (σ : St) (γ : Gam) : Prop where
  gr : Grow Hs0 H0 Hs H
  len : σ.length = γ.length
  ok : ∀ (i : Nat) (s : Slot), γ[i]? = some (some s) → ∃ v, σ[i]? = some (some v) ∧ SlotOk K Hs H v s
  fr : ∀ (i : Nat) (ds : List D) (a : Addr), γ[i]? = some (some (.ow ds)) → σ[i]? = some (some (.ref a)) → H0 a = none
  ne : ∀ (i j : Nat) (ds es : List D) (a : Addr), γ[i]? = some (some (.ow ds)) → γ[j]? = some (some (.ow es)) → σ[i]? = some (some (.ref a)) → σ[j]? = some (some (.ref a)) → i = j
  tb : TbOk Hs H
section
variable {K : PySem.W.Frag} {Hs0 H0 Hs H Hs' H' : Hp} {σ : St} {γ : Gam} {v : V} {d : D} {s : Slot} {i j : Nat}
theorem Sl.b (S : Sl K Hs0 H0 Hs H σ γ) : Same Hs H := S.gr.b
theorem RepX.grow {cls : Value} {d : Option Addr} {x : XD} (g : Grow Hs H Hs' H') (h : RepX K Hs H cls d x) : RepX K Hs' H' cls d x := by
  obtain ⟨h1, h⟩ := h
  refine ⟨h1, h.imp id fun ⟨dd, vfs, e1, e2, e3⟩ => ⟨dd, vfs, e1, ?_, fun f v z => let ⟨u, a, b⟩ := e3 f v z; ⟨u, a, b.mono g.s⟩⟩⟩
  rcases g.e dd _ e2 with z | ⟨_, _, z, _⟩
  · exact z
  · cases z
theorem SlotOk.grow (g : Grow Hs H Hs' H') (h : SlotOk K Hs H v s) : SlotOk K Hs' H' v s := by
  cases s with
  | exc a cls d x => exact ⟨h.1, h.2.grow g⟩
  | sh d => exact Rep.mono g.s h
  | ow ds =>
    obtain ⟨a, vs, rfl, h1, h2, h3⟩ := h
    exact ⟨a, vs, rfl, g.n _ _ h2 h1, g.e.lst h2, RepL.mono g.s h3⟩
theorem Sl.grow (S : Sl K Hs0 H0 Hs H σ γ) (g : Grow Hs H Hs' H') : Sl K Hs0 H0 Hs' H' σ γ :=
  ⟨S.gr.trans g, S.len, fun i s h => let ⟨v, a, b⟩ := S.ok i s h; ⟨v, a, b.grow g⟩, S.fr, S.ne, g.t S.tb⟩
theorem get_set {α : Type} {l : List (Option α)} {i j : Nat} {x : Option α} {y : α} (h : (l.set i x)[j]? = some (some y)) : (i = j ∧ x = some y) ∨ (i ≠ j ∧ l[j]? = some (some y)) := by
  by_cases e : i = j
  · subst e
    by_cases hi : i < l.length
    · rw [List.getElem?_set_self hi] at h; exact .inl ⟨rfl, Option.some.inj h⟩
    · rw [List.getElem?_eq_none (by simpa using hi)] at h; cases h
  · rw [List.getElem?_set_ne e] at h; exact .inr ⟨e, h⟩
theorem get_set_ne {α : Type} {l : List α} {i j : Nat} {x : α} (h : i ≠ j) : (l.set i x)[j]? = l[j]? := List.getElem?_set_ne h
/-- a slot is given a shared datum -/
theorem Sl.set (S : Sl K Hs0 H0 Hs H σ γ) (i : Nat) (r : Rep K Hs v d) : Sl K Hs0 H0 Hs H (σ.set i (some v)) (γ.set i (some (.sh d))) := by
  refine ⟨S.gr, by rw [List.length_set, List.length_set]; exact S.len, fun j s h => ?_, fun j ds a h h' => ?_, fun j k ds es a h1 h2 h3 h4 => ?_, S.tb⟩
  · rcases get_set h with ⟨rfl, e⟩ | ⟨ne, h⟩
    · cases e
      have hl : i < γ.length := by
        rcases Nat.lt_or_ge i γ.length with q | q
        · exact q
        · rw [List.getElem?_eq_none (by simpa using q)] at h; cases h
      exact ⟨v, by rw [List.getElem?_set_self (by rw [S.len]; exact hl)], r⟩
    · rw [get_set_ne ne]; exact S.ok j s h
  · rcases get_set h with ⟨rfl, e⟩ | ⟨ne, h⟩
    · cases e
    · rw [get_set_ne ne] at h'; exact S.fr j ds a h h'
  · rcases get_set h1 with ⟨rfl, e⟩ | ⟨ne, h1⟩
    · cases e
    · rcases get_set h2 with ⟨rfl, e⟩ | ⟨ne', h2⟩
      · cases e
      · rw [get_set_ne ne] at h3; rw [get_set_ne ne'] at h4; exact S.ne j k ds es a h1 h2 h3 h4
/-- a slot is forgotten -/
theorem Sl.drop (S : Sl K Hs0 H0 Hs H σ γ) (i : Nat) (x : Option V) : Sl K Hs0 H0 Hs H (σ.set i x) (γ.set i none) := by
  refine ⟨S.gr, by rw [List.length_set, List.length_set]; exact S.len, fun j s h => ?_, fun j ds a h h' => ?_, fun j k ds es a h1 h2 h3 h4 => ?_, S.tb⟩
  · rcases get_set h with ⟨rfl, e⟩ | ⟨ne, h⟩
    · cases e
    · rw [get_set_ne ne]; exact S.ok j s h
  · rcases get_set h with ⟨rfl, e⟩ | ⟨ne, h⟩
    · cases e
    · rw [get_set_ne ne] at h'; exact S.fr j ds a h h'
  · rcases get_set h1 with ⟨rfl, e⟩ | ⟨ne, h1⟩
    · cases e
    · rcases get_set h2 with ⟨rfl, e⟩ | ⟨ne', h2⟩
      · cases e
      · rw [get_set_ne ne] at h3; rw [get_set_ne ne'] at h4; exact S.ne j k ds es a h1 h2 h3 h4
/-- a slot is given a new list, its own -/
theorem Sl.own {a : Addr} {vs : List V} {ds : List D} (S : Sl K Hs0 H0 Hs H σ γ) (i : Nat) (h0 : H0 a = none) (hn : Hs a = none) (ha : H a = some (.lst vs)) (r : RepL K Hs vs ds)
    (nw : ∀ (j : Nat) (es : List D), γ[j]? = some (some (.ow es)) → σ[j]? = some (some (.ref a)) → i = j) : Sl K Hs0 H0 Hs H (σ.set i (some (.ref a))) (γ.set i (some (.ow ds))) := by
  refine ⟨S.gr, by rw [List.length_set, List.length_set]; exact S.len, fun j s h => ?_, fun j ds a' h h' => ?_, fun j k ds es a' h1 h2 h3 h4 => ?_, S.tb⟩
  · rcases get_set h with ⟨rfl, e⟩ | ⟨ne, h⟩
    · cases e
      have hl : i < γ.length := by
        rcases Nat.lt_or_ge i γ.length with q | q
        · exact q
        · rw [List.getElem?_eq_none (by simpa using q)] at h; cases h
      exact ⟨.ref a, by rw [List.getElem?_set_self (by rw [S.len]; exact hl)], a, vs, rfl, hn, ha, r⟩
    · rw [get_set_ne ne]; exact S.ok j s h
  · rcases get_set h with ⟨rfl, e⟩ | ⟨ne, h⟩
    · cases e
      rcases get_set h' with ⟨_, e'⟩ | ⟨ne, _⟩
      · cases e'; exact h0
      · exact absurd rfl ne
    · rw [get_set_ne ne] at h'; exact S.fr j ds a' h h'
  · rcases get_set h1 with ⟨rfl, e1⟩ | ⟨ne, h1⟩
    · rcases get_set h2 with ⟨rfl, e2⟩ | ⟨ne', h2⟩
      · rfl
      · rw [get_set_ne ne'] at h4
        rcases get_set h3 with ⟨_, e3⟩ | ⟨q, _⟩
        · cases e3; exact nw k es h2 h4
        · exact absurd rfl q
    · rw [get_set_ne ne] at h3
      rcases get_set h2 with ⟨rfl, e2⟩ | ⟨ne', h2⟩
      · rcases get_set h4 with ⟨_, e4⟩ | ⟨q, _⟩
        · cases e4; exact (nw j ds h1 h3).symm
        · exact absurd rfl q
      · rw [get_set_ne ne'] at h4; exact S.ne j k ds es a' h1 h2 h3 h4
/-- its own list is changed -/
theorem Sl.put {a : Addr} {vs : List V} {ds es : List D} (S : Sl K Hs0 H0 Hs H σ γ) (i : Nat) (hg : γ[i]? = some (some (.ow ds))) (hs : σ[i]? = some (some (.ref a))) (hn : Hs a = none) (r : RepL K Hs vs es) : Sl K Hs0 H0 Hs (upd H a (.lst vs)) σ (γ.set i (some (.ow es))) := by
  have h0 := S.fr i ds a hg hs
  have tb : TbOk Hs (upd H a (.lst vs)) := fun P hP => by
    obtain ⟨⟨ps, h1, h2⟩, h3⟩ := S.tb P hP
    obtain ⟨v, hv, b, ws, rfl, _, k2, _⟩ := S.ok i _ hg
    rw [hs] at hv; cases hv
    exact ⟨⟨ps, by rw [upd_ne (fun q => by rw [q, k2] at h1; cases h1)]; exact h1, h2⟩, h3⟩
  have gr : Grow Hs0 H0 Hs (upd H a (.lst vs)) := ⟨S.gr.s, fun b o e => by rw [upd_ne (ne_of_none e h0)]; exact S.gr.e _ _ e, fun b o e => by rw [upd_ne (ne_of_none e hn)]; exact S.gr.b _ _ e, S.gr.n, fun _ => tb⟩
  refine ⟨gr, by rw [List.length_set]; exact S.len, fun j s h => ?_, fun j ds' a' h h' => ?_, fun j k ds' es' a' h1 h2 h3 h4 => ?_, tb⟩
  · rcases get_set h with ⟨rfl, e⟩ | ⟨ne, h⟩
    · cases e
      exact ⟨.ref a, hs, a, vs, rfl, hn, upd_same, r⟩
    · obtain ⟨v, hv, k⟩ := S.ok j s h
      refine ⟨v, hv, ?_⟩
      cases s with
      | sh d => exact k
      | exc b cls d x =>
        obtain ⟨v2, hv2, b2, ws2, e2, _, k2, _⟩ := S.ok i _ hg
        rw [hs] at hv2; cases hv2; cases e2
        refine ⟨k.1, k.2.1, k.2.2.imp id fun ⟨dd, vfs, e1, e2, e3⟩ => ⟨dd, vfs, e1, ?_, e3⟩⟩
        rw [upd_ne (fun q => by rw [q, k2] at e2; cases e2)]; exact e2
      | ow fs =>
        obtain ⟨b, ws, rfl, k1, k2, k3⟩ := k
        refine ⟨b, ws, rfl, k1, ?_, k3⟩
        have nb : b ≠ a := fun q => by
          subst q
          exact ne (S.ne i j ds fs b hg h hs hv)
        rw [upd_ne nb]; exact k2
  · rcases get_set h with ⟨rfl, e⟩ | ⟨ne, h⟩
    · exact S.fr i ds a' hg h'
    · exact S.fr j ds' a' h h'
  · have w : ∀ (j' : Nat) (e' : List D), (γ.set i (some (.ow es)))[j']? = some (some (Slot.ow e')) → ∃ f', γ[j']? = some (some (.ow f')) := fun j' e' q => by
      rcases get_set q with ⟨rfl, _⟩ | ⟨_, q⟩
      · exact ⟨_, hg⟩
      · exact ⟨_, q⟩
    obtain ⟨f1, w1⟩ := w j ds' h1
    obtain ⟨f2, w2⟩ := w k es' h2
    exact S.ne j k f1 f2 a' w1 w2 h3 h4
/-- its own list becomes a datum -/
theorem Sl.freeze {ds : List D} (S : Sl K Hs0 H0 Hs H σ γ) (i : Nat) (hg : γ[i]? = some (some (.ow ds))) : ∃ Hs', Same Hs Hs' ∧ Sl K Hs0 H0 Hs' H σ (γ.set i (some (.sh (.lst ds)))) := by
  obtain ⟨v, hv, a, vs, rfl, h1, h2, h3⟩ := S.ok i _ hg
  have h0 := S.fr i ds a hg hv
  have e : Same Hs (upd Hs a (.lst vs)) := sameNew h1
  have tb : TbOk (upd Hs a (.lst vs)) H := fun P hP => by
    obtain ⟨⟨ps, q1, q2⟩, q3⟩ := S.tb P hP
    exact ⟨⟨ps, q1, q2⟩, by rw [upd_ne (fun q => by rw [q, h2] at q1; cases q1)]; exact q3⟩
  refine ⟨upd Hs a (.lst vs), e, ⟨⟨S.gr.s.trans e, S.gr.e, fun b o q => ?_, fun b o q n => ?_, fun _ => tb⟩, by rw [List.length_set]; exact S.len, fun j s h => ?_, fun j ds' a' h h' => ?_, fun j k ds' es' a' q1 q2 q3 q4 => ?_, tb⟩⟩
  · by_cases hb : b = a
    · subst hb; rw [upd_same] at q; cases q; exact h2
    · rw [upd_ne hb] at q; exact S.gr.b _ _ q
  · rw [upd_ne (ne_of_none q h0)]; exact S.gr.n b o q n
  · rcases get_set h with ⟨rfl, e'⟩ | ⟨ne, h⟩
    · cases e'
      exact ⟨.ref a, hv, .lst upd_same (RepL.mono e h3)⟩
    · obtain ⟨v, hv', k⟩ := S.ok j s h
      refine ⟨v, hv', ?_⟩
      cases s with
      | sh d => exact Rep.mono e k
      | exc b cls d x => exact ⟨k.1, k.2.1, k.2.2.imp id fun ⟨dd, vfs, e1, e2, e3⟩ => ⟨dd, vfs, e1, e2, fun f v z => let ⟨u, p, q⟩ := e3 f v z; ⟨u, p, q.mono e⟩⟩⟩
      | ow fs =>
        obtain ⟨b, ws, rfl, k1, k2, k3⟩ := k
        have nb : b ≠ a := fun q => by
          subst q
          exact ne (S.ne i j ds fs b hg h hv hv')
        exact ⟨b, ws, rfl, by rw [upd_ne nb]; exact k1, k2, RepL.mono e k3⟩
  · rcases get_set h with ⟨rfl, e'⟩ | ⟨ne, h⟩
    · cases e'
    · exact S.fr j ds' a' h h'
  · rcases get_set q1 with ⟨rfl, e'⟩ | ⟨ne, q1⟩
    · cases e'
    · rcases get_set q2 with ⟨rfl, e'⟩ | ⟨ne', q2⟩
      · cases e'
      · exact S.ne j k ds' es' a' q1 q2 q3 q4
end
end
end Z

namespace Z
open PySem L2
variable [Tabs]

/-! ### judgements over data -/
def EW (K : PySem.W.Frag) (te : TE) (γ : Gam) (Φ : D → Prop) : Prop := ∀ (Hs0 H0 Hs H : Hp) (σ : St) (Q : VK), Sl K Hs0 H0 Hs H σ γ →
  (∀ Hs' H' v d, Grow Hs H Hs' H' → Rep K Hs' v d → Φ d → Q v H') → te σ H Q
/-- a new list, nobody else's -/
def EN (K : PySem.W.Frag) (te : TE) (γ : Gam) (Φ : List D → Prop) : Prop := ∀ (Hs0 H0 Hs H : Hp) (σ : St) (Q : VK), Sl K Hs0 H0 Hs H σ γ →
  (∀ Hs' H' a vs ds, Grow Hs H Hs' H' → H a = none → Hs' a = none → H' a = some (.lst vs) → RepL K Hs' vs ds → Φ ds → Q (.ref a) H') → te σ H Q
def TW (K : PySem.W.Frag) (tt : TT) (γ : Gam) (Φ : Bool → Prop) : Prop := ∀ (Hs0 H0 Hs H : Hp) (σ : St) (Q : Bool → Hp → Prop), Sl K Hs0 H0 Hs H σ γ →
  (∀ Hs' H' b, Grow Hs H Hs' H' → Φ b → Q b H') → tt σ H Q
def AW (K : PySem.W.Frag) (ta : TA) (γ : Gam) (Φ : List D → Prop) : Prop := ∀ (Hs0 H0 Hs H : Hp) (σ : St) (Q : List V → Hp → Prop), Sl K Hs0 H0 Hs H σ γ →
  (∀ Hs' H' vs ds, Grow Hs H Hs' H' → RepL K Hs' vs ds → Φ ds → Q vs H') → ta σ H Q
def OW (K : PySem.W.Frag) (to : TO) (γ : Gam) (Φ : Option Int → Prop) : Prop := ∀ (Hs0 H0 Hs H : Hp) (σ : St) (Q : Option Int → Hp → Prop), Sl K Hs0 H0 Hs H σ γ →
  (∀ Hs' H' o, Grow Hs H Hs' H' → Φ o → Q o H') → to σ H Q
/-- an operation on values -/
def RW2 (K : PySem.W.Frag) (r : R2) (x y : D) (Φ : D → Prop) : Prop := ∀ (Hs H : Hp) (v u : V) (Q : VK), Same Hs H → Rep K Hs v x → Rep K Hs u y →
  (∀ Hs' H' w d, Grow Hs H Hs' H' → Rep K Hs' w d → Φ d → Q w H') → r v u H Q
def RWL (K : PySem.W.Frag) (r : List V → Hp → VK → Prop) (xs : List D) (Φ : D → Prop) : Prop := ∀ (Hs H : Hp) (vs : List V) (Q : VK), Same Hs H → RepL K Hs vs xs →
  (∀ Hs' H' w d, Grow Hs H Hs' H' → Rep K Hs' w d → Φ d → Q w H') → r vs H Q
def RWM (K : PySem.W.Frag) (r : V → List V → Hp → VK → Prop) (x : D) (xs : List D) (Φ : D → Prop) : Prop := ∀ (Hs H : Hp) (v : V) (vs : List V) (Q : VK), Same Hs H → Rep K Hs v x → RepL K Hs vs xs →
  (∀ Hs' H' w d, Grow Hs H Hs' H' → Rep K Hs' w d → Φ d → Q w H') → r v vs H Q
/-- .. that makes a new list -/
def RN2 (K : PySem.W.Frag) (r : R2) (x y : D) (Φ : List D → Prop) : Prop := ∀ (Hs H : Hp) (v u : V) (Q : VK), Same Hs H → Rep K Hs v x → Rep K Hs u y →
  (∀ Hs' H' a vs ds, Grow Hs H Hs' H' → H a = none → Hs' a = none → H' a = some (.lst vs) → RepL K Hs' vs ds → Φ ds → Q (.ref a) H') → r v u H Q
def RNL (K : PySem.W.Frag) (r : List V → Hp → VK → Prop) (xs : List D) (Φ : List D → Prop) : Prop := ∀ (Hs H : Hp) (vs : List V) (Q : VK), Same Hs H → RepL K Hs vs xs →
  (∀ Hs' H' a vs ds, Grow Hs H Hs' H' → H a = none → Hs' a = none → H' a = some (.lst vs) → RepL K Hs' vs ds → Φ ds → Q (.ref a) H') → r vs H Q
def RNM (K : PySem.W.Frag) (r : V → List V → Hp → VK → Prop) (x : D) (xs : List D) (Φ : List D → Prop) : Prop := ∀ (Hs H : Hp) (v : V) (vs : List V) (Q : VK), Same Hs H → Rep K Hs v x → RepL K Hs vs xs →
  (∀ Hs' H' a vs ds, Grow Hs H Hs' H' → H a = none → Hs' a = none → H' a = some (.lst vs) → RepL K Hs' vs ds → Φ ds → Q (.ref a) H') → r v vs H Q

section
variable {K : PySem.W.Frag} {γ : Gam} {Φ Ψ : D → Prop} {ta tb te : TE} {t u : TT} {r : R2} {x y d : D} {v : V} {i j : Nat}

theorem EW.mono (h : EW K te γ Φ) (k : ∀ d, Φ d → Ψ d) : EW K te γ Ψ := fun Hs0 H0 Hs H σ Q S q => h Hs0 H0 Hs H σ Q S fun Hs' H' v d g r p => q Hs' H' v d g r (k d p)
theorem TW.mono {Φ Ψ : Bool → Prop} (h : TW K t γ Φ) (k : ∀ d, Φ d → Ψ d) : TW K t γ Ψ := fun Hs0 H0 Hs H σ Q S q => h Hs0 H0 Hs H σ Q S fun Hs' H' b g p => q Hs' H' b g (k b p)
theorem EN.mono {Φ Ψ : List D → Prop} (h : EN K te γ Φ) (k : ∀ d, Φ d → Ψ d) : EN K te γ Ψ := fun Hs0 H0 Hs H σ Q S q => h Hs0 H0 Hs H σ Q S fun Hs' H' a vs ds g h1 h2 h3 h4 p => q Hs' H' a vs ds g h1 h2 h3 h4 (k _ p)
theorem en_grow {Hs H Hs' H' : Hp} {a : Addr} {vs : List V} {ds : List D} (g : Grow Hs H Hs' H') (h1 : H a = none) (h2 : Hs' a = none) (h3 : H' a = some (.lst vs)) (h4 : RepL K Hs' vs ds) :
    Grow Hs H (upd Hs' a (.lst vs)) H' ∧ Rep K (upd Hs' a (.lst vs)) (.ref a) (.lst ds) := by
  refine ⟨⟨g.s.trans (sameNew h2), g.e, fun b o q => ?_, fun b o q n => ?_, fun t P hP => ?_⟩, .lst upd_same (RepL.mono (sameNew h2) h4)⟩
  · by_cases hb : b = a
    · subst hb; rw [upd_same] at q; cases q; exact h3
    · rw [upd_ne hb] at q; exact g.b _ _ q
  · rw [upd_ne (ne_of_none q h1)]; exact g.n b o q n
  · obtain ⟨⟨ps, q1, q2⟩, q3⟩ := g.t t P hP
    exact ⟨⟨ps, q1, q2⟩, by rw [upd_ne (fun q => by rw [q, h3] at q1; cases q1)]; exact q3⟩
/-- a new list as a datum -/
theorem ew_new (h : EN K te γ fun ds => Φ (.lst ds)) : EW K te γ Φ := fun Hs0 H0 Hs H σ Q S q => h Hs0 H0 Hs H σ Q S fun Hs' H' a vs ds g h1 h2 h3 h4 p =>
  let ⟨g', r'⟩ := en_grow g h1 h2 h3 h4
  q _ _ _ _ g' r' p
theorem rw2_new {r : R2} (h : RN2 K r x y fun ds => Φ (.lst ds)) : RW2 K r x y Φ := fun Hs H v u Q b r1 r2 q => h Hs H v u Q b r1 r2 fun Hs' H' a vs ds g h1 h2 h3 h4 p =>
  let ⟨g', r'⟩ := en_grow g h1 h2 h3 h4
  q _ _ _ _ g' r' p
theorem rwl_new {r : List V → Hp → VK → Prop} {xs : List D} (h : RNL K r xs fun ds => Φ (.lst ds)) : RWL K r xs Φ := fun Hs H vs Q b r1 q => h Hs H vs Q b r1 fun Hs' H' a vs ds g h1 h2 h3 h4 p =>
  let ⟨g', r'⟩ := en_grow g h1 h2 h3 h4
  q _ _ _ _ g' r' p
theorem rwm_new {r : V → List V → Hp → VK → Prop} {xs : List D} (h : RNM K r x xs fun ds => Φ (.lst ds)) : RWM K r x xs Φ := fun Hs H v vs Q b r1 r2 q => h Hs H v vs Q b r1 r2 fun Hs' H' a vs ds g h1 h2 h3 h4 p =>
  let ⟨g', r'⟩ := en_grow g h1 h2 h3 h4
  q _ _ _ _ g' r' p

/-! ### names, constants -/
theorem ew_var (h : γ[i]? = some (some (.sh d))) (k : Φ d) : EW K (tVar i) γ Φ := fun _ _ Hs H σ Q S q => by
  obtain ⟨v, hv, r⟩ := S.ok i _ h
  exact ⟨v, hv, q _ _ _ _ (.refl S.b) r k⟩
theorem ew_c (h : plainV v = true) (k : Φ (ofV v)) : EW K (tC v) γ Φ := fun _ _ Hs H σ Q S q => q _ _ _ _ (.refl S.b) (.ofV h) k
/-- a module's constant that stands in the written part -/
theorem ew_k (h : ∀ H, Rep K H v d) (k : Φ d) : EW K (tC v) γ Φ := fun _ _ Hs H σ Q S q => q _ _ _ _ (.refl S.b) (h _) k

/-! ### operators -/
theorem ew_op (h : EW K ta γ fun x => EW K tb γ fun y => RW2 K r x y Φ) : EW K (tOp r ta tb) γ Φ := fun Hs0 H0 Hs H σ Q S q =>
  h Hs0 H0 Hs H σ _ S fun Hs1 H1 v x g1 r1 h1 => h1 Hs0 H0 Hs1 H1 σ _ (S.grow g1) fun Hs2 H2 u y g2 r2 h2 => h2 Hs2 H2 v u Q g2.b (r1.mono g2.s) r2 fun Hs3 H3 w d g3 r3 p => q _ _ _ _ ((g1.trans g2).trans g3) r3 p
theorem en_op {Φ : List D → Prop} (h : EW K ta γ fun x => EW K tb γ fun y => RN2 K r x y Φ) : EN K (tOp r ta tb) γ Φ := fun Hs0 H0 Hs H σ Q S q =>
  h Hs0 H0 Hs H σ _ S fun Hs1 H1 v x g1 r1 h1 => h1 Hs0 H0 Hs1 H1 σ _ (S.grow g1) fun Hs2 H2 u y g2 r2 h2 => h2 Hs2 H2 v u Q g2.b (r1.mono g2.s) r2 fun Hs3 H3 a vs ds g3 n1 n2 n3 n4 p =>
    q _ _ a vs ds ((g1.trans g2).trans g3) (SameT.free (g1.trans g2).e n1) n2 n3 n4 p
theorem rw_I0 {g : Int → Int → V} {i j : Int} (h : plainV (g i j) = true) (k : Φ (ofV (g i j))) : RW2 K (rI0 g) (.int i) (.int j) Φ := fun Hs H v u Q b r1 r2 q => by
  cases r1; cases r2
  exact ⟨i, j, rfl, rfl, q _ _ _ _ (.refl b) (.ofV h) k⟩
theorem rw_I {C : Int → Int → Prop} {g : Int → Int → V} {i j : Int} (c : C i j) (h : plainV (g i j) = true) (k : Φ (ofV (g i j))) : RW2 K (rI C g) (.int i) (.int j) Φ := fun Hs H v u Q b r1 r2 q => by
  cases r1; cases r2
  exact ⟨i, j, rfl, rfl, c, q _ _ _ _ (.refl b) (.ofV h) k⟩
def sizeS : Nat := 1000000
theorem sz_ok {n : Nat} (h : n ≤ sizeS) : n ≤ sizeLine := Nat.le_trans h (by decide)
theorem sz_lt {n : Nat} (h : n ≤ sizeS) : n < sizeLine := Nat.lt_of_le_of_lt h (by decide)
def rAddStr : R2 := fun x y H Q => ∃ i j, x = .str i ∧ y = .str j ∧ i.length + j.length ≤ sizeLine ∧ Q (.str (i ++ j)) H
theorem op_addStr {X : Cx} : OpR X (binaryOp .Add) rAddStr := op_add_str
theorem rw_addStr {i j : Str} (h : i.length + j.length ≤ sizeS) (k : Φ (.str (i ++ j))) : RW2 K rAddStr (.str i) (.str j) Φ := fun Hs H v u Q b r1 r2 q => by
  cases r1; cases r2
  exact ⟨i, j, rfl, rfl, sz_ok h, q _ _ _ _ (.refl b) (.str _) k⟩
/-- == of flat data -/
def eqD : D → D → Bool
  | .non, .non => true
  | .bl a, .bl b => a == b
  | .int a, .int b => a == b
  | .str a, .str b => a == b
  | _, _ => false
theorem rw_eqS {i j : Str} (k : Φ (.bl (decide (i = j)))) : RW2 K rEq (.str i) (.str j) Φ := fun Hs H v u Q b r1 r2 q => by
  cases r1; cases r2
  refine ⟨rfl, q _ _ _ _ (.refl b) (.bl _) ?_⟩
  have e : decide (V.str i = V.str j) = decide (i = j) := by
    by_cases h : i = j
    · subst h; simp
    · rw [decide_eq_false h, decide_eq_false fun z => h (V.str.inj z)]
  rw [e]; exact k
theorem rw_neS {i j : Str} (k : Φ (.bl (!decide (i = j)))) : RW2 K rNe (.str i) (.str j) Φ := fun Hs H v u Q b r1 r2 q => by
  cases r1; cases r2
  refine ⟨rfl, q _ _ _ _ (.refl b) (.bl _) ?_⟩
  have e : decide (V.str i = V.str j) = decide (i = j) := by
    by_cases h : i = j
    · subst h; simp
    · rw [decide_eq_false h, decide_eq_false fun z => h (V.str.inj z)]
  rw [e]; exact k
theorem rw_eqI {i j : Int} (k : Φ (.bl (decide (i = j)))) : RW2 K rEq (.int i) (.int j) Φ := fun Hs H v u Q b r1 r2 q => by
  cases r1; cases r2
  refine ⟨rfl, q _ _ _ _ (.refl b) (.bl _) ?_⟩
  have e : decide (V.int i = V.int j) = decide (i = j) := by
    by_cases h : i = j
    · subst h; simp
    · rw [decide_eq_false h, decide_eq_false fun z => h (V.int.inj z)]
  rw [e]; exact k
theorem rw_neI {i j : Int} (k : Φ (.bl (!decide (i = j)))) : RW2 K rNe (.int i) (.int j) Φ := fun Hs H v u Q b r1 r2 q => by
  cases r1; cases r2
  refine ⟨rfl, q _ _ _ _ (.refl b) (.bl _) ?_⟩
  have e : decide (V.int i = V.int j) = decide (i = j) := by
    by_cases h : i = j
    · subst h; simp
    · rw [decide_eq_false h, decide_eq_false fun z => h (V.int.inj z)]
  rw [e]; exact k
theorem rw_eqB {i j : Bool} (k : Φ (.bl (decide (i = j)))) : RW2 K rEq (.bl i) (.bl j) Φ := fun Hs H v u Q b r1 r2 q => by
  cases r1; cases r2
  refine ⟨rfl, q _ _ _ _ (.refl b) (.bl _) ?_⟩
  have e : decide (V.bl i = V.bl j) = decide (i = j) := by cases i <;> cases j <;> rfl
  rw [e]; exact k
/-- orders of texts -/
def ltS (a b : Str) : Bool := decide (a.cps.toList < b.cps.toList)
def rLtS : R2 := fun x y H Q => ∃ i j, x = .str i ∧ y = .str j ∧ Q (.bl (ltS i j)) H
def rLeS : R2 := fun x y H Q => ∃ i j, x = .str i ∧ y = .str j ∧ Q (.bl (!ltS j i)) H
def rGtS : R2 := fun x y H Q => ∃ i j, x = .str i ∧ y = .str j ∧ Q (.bl (ltS j i)) H
def rGeS : R2 := fun x y H Q => ∃ i j, x = .str i ∧ y = .str j ∧ Q (.bl (!ltS i j)) H
theorem op_ltS {X : Cx} : OpR X (compareOp .Lt) rLtS := op_lt_str
theorem op_leS {X : Cx} : OpR X (compareOp .LtE) rLeS := op_le_str
theorem op_gtS {X : Cx} : OpR X (compareOp .Gt) rGtS := op_gt_str
theorem op_geS {X : Cx} : OpR X (compareOp .GtE) rGeS := op_ge_str
theorem rw_ltS {i j : Str} (k : Φ (.bl (ltS i j))) : RW2 K rLtS (.str i) (.str j) Φ := fun Hs H v u Q b r1 r2 q => by
  cases r1; cases r2; exact ⟨i, j, rfl, rfl, q _ _ _ _ (.refl b) (.bl _) k⟩
theorem rw_leS {i j : Str} (k : Φ (.bl (!ltS j i))) : RW2 K rLeS (.str i) (.str j) Φ := fun Hs H v u Q b r1 r2 q => by
  cases r1; cases r2; exact ⟨i, j, rfl, rfl, q _ _ _ _ (.refl b) (.bl _) k⟩
theorem rw_gtS {i j : Str} (k : Φ (.bl (ltS j i))) : RW2 K rGtS (.str i) (.str j) Φ := fun Hs H v u Q b r1 r2 q => by
  cases r1; cases r2; exact ⟨i, j, rfl, rfl, q _ _ _ _ (.refl b) (.bl _) k⟩
theorem rw_geS {i j : Str} (k : Φ (.bl (!ltS i j))) : RW2 K rGeS (.str i) (.str j) Φ := fun Hs H v u Q b r1 r2 q => by
  cases r1; cases r2; exact ⟨i, j, rfl, rfl, q _ _ _ _ (.refl b) (.bl _) k⟩
/-- a text in a text -/
def inS (a b : Str) : Bool := !(Builtin.Str.occurrences b a 0 b.length 1).isEmpty
def rInSt : R2 := fun x y H Q => ∃ i j, x = .str i ∧ y = .str j ∧ Q (.bl (inS i j)) H
def rNiSt : R2 := fun x y H Q => ∃ i j, x = .str i ∧ y = .str j ∧ Q (.bl (!inS i j)) H
theorem op_inSt {X : Cx} : OpR X (compareOp .In) rInSt := op_in_str
theorem op_niSt {X : Cx} : OpR X (compareOp .NotIn) rNiSt := op_notIn_str
theorem rw_inS {i j : Str} (k : Φ (.bl (inS i j))) : RW2 K rInSt (.str i) (.str j) Φ := fun Hs H v u Q b r1 r2 q => by
  cases r1; cases r2; exact ⟨i, j, rfl, rfl, q _ _ _ _ (.refl b) (.bl _) k⟩
theorem rw_niS {i j : Str} (k : Φ (.bl (!inS i j))) : RW2 K rNiSt (.str i) (.str j) Φ := fun Hs H v u Q b r1 r2 q => by
  cases r1; cases r2; exact ⟨i, j, rfl, rfl, q _ _ _ _ (.refl b) (.bl _) k⟩
/-- in a list or tuple of texts -/
theorem str_flat : ∀ xs : List Str, (xs.map V.str).all flatV = true
  | [] => rfl
  | x :: xs => by rw [List.map_cons, List.all_cons, str_flat xs]; rfl
theorem inV_str (x : Str) : ∀ xs : List Str, inV (.str x) (xs.map V.str) = decide (x ∈ xs)
  | [] => rfl
  | y :: xs => by
    have ih := inV_str x xs
    unfold inV at ih ⊢
    rw [List.map_cons, List.any_cons, ih]
    have e : eqV (.str y) (.str x) = decide (x = y) := by
      show (y == x) = decide (x = y)
      by_cases h : x = y
      · subst h; simp
      · rw [decide_eq_false h]; exact beq_eq_false_iff_ne.mpr (Ne.symm h)
    rw [e]
    by_cases h1 : x = y
    · simp [h1]
    · simp [h1]
theorem rw_inL {x : Str} {xs : List Str} (k : Φ (.bl (decide (x ∈ xs)))) : RW2 K (rIn K false) (.str x) (.lst (xs.map .str)) Φ := fun Hs H v u Q b r1 r2 q => by
  cases r1
  cases r2 with
  | lst h r =>
    have e := r.strs; subst e
    refine ⟨_, _, rfl, .inl (.of (b _ _ h)), rfl, str_flat xs, q _ _ _ _ (.refl b) (.bl _) ?_⟩
    rw [inV_str]; exact k
theorem rw_inT {x : Str} {xs : List Str} (k : Φ (.bl (decide (x ∈ xs)))) : RW2 K (rIn K false) (.str x) (.tup (xs.map .str)) Φ := fun Hs H v u Q b r1 r2 q => by
  cases r1
  cases r2 with
  | tup h r =>
    have e := r.strs; subst e
    refine ⟨_, _, rfl, .inr (sameT b h), rfl, str_flat xs, q _ _ _ _ (.refl b) (.bl _) ?_⟩
    rw [inV_str]; exact k
theorem rw_niL {x : Str} {xs : List Str} (k : Φ (.bl (!decide (x ∈ xs)))) : RW2 K (rIn K true) (.str x) (.lst (xs.map .str)) Φ := fun Hs H v u Q b r1 r2 q => by
  cases r1
  cases r2 with
  | lst h r =>
    have e := r.strs; subst e
    refine ⟨_, _, rfl, .inl (.of (b _ _ h)), rfl, str_flat xs, q _ _ _ _ (.refl b) (.bl _) ?_⟩
    rw [inV_str]; exact k
theorem rw_niT {x : Str} {xs : List Str} (k : Φ (.bl (!decide (x ∈ xs)))) : RW2 K (rIn K true) (.str x) (.tup (xs.map .str)) Φ := fun Hs H v u Q b r1 r2 q => by
  cases r1
  cases r2 with
  | tup h r =>
    have e := r.strs; subst e
    refine ⟨_, _, rfl, .inr (sameT b h), rfl, str_flat xs, q _ _ _ _ (.refl b) (.bl _) ?_⟩
    rw [inV_str]; exact k
/-- items -/
theorem rep_at {H : Hp} {vs : List V} {ds : List D} {i : Int} (r : RepL K H vs ds) (h : atI ds i = some d) : ∃ v, atI vs i = some v ∧ Rep K H v d := by
  unfold atI at h ⊢
  rw [r.length]
  cases e : ixN ds.length i with
  | none => rw [e] at h; cases h
  | some j =>
    rw [e] at h
    obtain ⟨v, h1, h2⟩ := r.get (show ds[j]? = some d from h)
    exact ⟨v, h1, h2⟩
theorem rw_ixL {ds : List D} {i : Int} (h : atI ds i = some d) (k : Φ d) : RW2 K (rIxL K) (.lst ds) (.int i) Φ := fun Hs H v u Q b r1 r2 q => by
  cases r2
  cases r1 with
  | lst h' r =>
    obtain ⟨v, h1, h2⟩ := rep_at r h
    exact ⟨_, _, i, v, rfl, rfl, .of (b _ _ h'), h1, q _ _ _ _ (.refl b) h2 k⟩
theorem rw_ixT {ds : List D} {i : Int} (h : atI ds i = some d) (k : Φ d) : RW2 K (rIxT K) (.tup ds) (.int i) Φ := fun Hs H v u Q b r1 r2 q => by
  cases r2
  cases r1 with
  | tup h' r =>
    obtain ⟨v, h1, h2⟩ := rep_at r h
    exact ⟨_, _, i, v, rfl, rfl, sameT b h', h1, q _ _ _ _ (.refl b) h2 k⟩
theorem rw_ixC {ns : List Int} {i n : Int} (h : atI ns i = some n) (k : Φ (.int n)) : RW2 K (rIxL K) (.scr ns) (.int i) Φ := fun Hs H v u Q b r1 r2 q => by
  cases r2
  cases r1 with
  | scr h' =>
    refine ⟨_, _, i, .int n, rfl, rfl, sameL b h', ?_, q _ _ _ _ (.refl b) (.int _) k⟩
    unfold atI at h ⊢
    rw [List.length_map]
    cases e : ixN ns.length i with
    | none => rw [e] at h; cases h
    | some j =>
      rw [e] at h
      show (ns.map V.int)[j]? = some (.int n)
      rw [List.getElem?_map, show ns[j]? = some n from h]; rfl
theorem rw_ixS {z : Str} {i : Int} {c : Nat} (l : z.length ≤ sizeS) (h : atI z.cps.toList i = some c) (k : Φ (.str ⟨#[c]⟩)) : RW2 K rIxS (.str z) (.int i) Φ := fun Hs H v u Q b r1 r2 q => by
  cases r1; cases r2
  exact ⟨z, i, c, rfl, rfl, sz_ok l, h, q _ _ _ _ (.refl b) (.str _) k⟩
/-- a list and another -/
theorem rn_cat {ds es : List D} (l : ds.length + es.length ≤ sizeS) {Φ : List D → Prop} (k : Φ (ds ++ es)) : RN2 K rCat (.lst ds) (.lst es) Φ := fun Hs H v u Q b r1 r2 q => by
  cases r1 with
  | lst h1 r1 =>
    cases r2 with
    | lst h2 r2 =>
      refine ⟨_, _, _, _, rfl, rfl, b _ _ h1, b _ _ h2, by rw [r1.length, r2.length]; exact sz_ok l, fun p hp => ?_⟩
      exact q Hs _ p _ _ (.hid b hp) hp (b.free hp) upd_same (r1.append r2) k
end
end Z

namespace Z
open PySem L2
variable [Tabs]
section
variable {K : PySem.W.Frag} {γ : Gam} {Φ Ψ : D → Prop} {ta tb tc te : TE} {t u : TT} {r r' : R2} {x y d : D} {v : V} {i j : Nat}

/-! ### tests, and, or, not -/
theorem tw_test {Φ : Bool → Prop} (h : EW K te γ fun d => ∃ b, d = .bl b ∧ Φ b) : TW K (tTest te) γ Φ := fun Hs0 H0 Hs H σ Q S q =>
  h Hs0 H0 Hs H σ _ S fun Hs' H' v d g r ⟨b, e, p⟩ => by
    subst e; cases r
    exact ⟨b, rfl, q _ _ b g p⟩
theorem tw_B {Φ : Bool → Prop} (h : EW K te γ fun d => ∃ b, d = .bl b ∧ Φ b) : TW K (tB te) γ Φ := fun Hs0 H0 Hs H σ Q S q =>
  h Hs0 H0 Hs H σ _ S fun Hs' H' v d g r ⟨b, e, p⟩ => by
    subst e; cases r
    exact ⟨b, rfl, q _ _ b g p⟩
theorem tw_and {Φ : Bool → Prop} (h : TW K t γ fun b => (b = true → TW K u γ Φ) ∧ (b = false → Φ false)) : TW K (tAnd t u) γ Φ := fun Hs0 H0 Hs H σ Q S q =>
  h Hs0 H0 Hs H σ _ S fun Hs' H' b g ⟨p1, p2⟩ => by
    cases b with
    | true => exact p1 rfl Hs0 H0 Hs' H' σ Q (S.grow g) fun Hs2 H2 b2 g2 p => q _ _ b2 (g.trans g2) p
    | false => exact q _ _ false g (p2 rfl)
theorem tw_or {Φ : Bool → Prop} (h : TW K t γ fun b => (b = true → Φ true) ∧ (b = false → TW K u γ Φ)) : TW K (tOr t u) γ Φ := fun Hs0 H0 Hs H σ Q S q =>
  h Hs0 H0 Hs H σ _ S fun Hs' H' b g ⟨p1, p2⟩ => by
    cases b with
    | false => exact p2 rfl Hs0 H0 Hs' H' σ Q (S.grow g) fun Hs2 H2 b2 g2 p => q _ _ b2 (g.trans g2) p
    | true => exact q _ _ true g (p1 rfl)
theorem tw_not {Φ : Bool → Prop} (h : TW K t γ fun b => Φ (!b)) : TW K (tNot t) γ Φ := fun Hs0 H0 Hs H σ Q S q =>
  h Hs0 H0 Hs H σ _ S fun Hs' H' b g p => q _ _ _ g p
theorem tw_yes {Φ : Bool → Prop} (h : Φ true) : TW K tYes γ Φ := fun Hs0 H0 Hs H σ Q S q => q _ _ true (.refl S.b) h
theorem ew_andV (h : EW K ta γ fun d => ∃ b, d = .bl b ∧ ((b = true → EW K tb γ Φ) ∧ (b = false → Φ (.bl false)))) : EW K (tAndV ta tb) γ Φ := fun Hs0 H0 Hs H σ Q S q =>
  h Hs0 H0 Hs H σ _ S fun Hs' H' v d g r ⟨b, e, p1, p2⟩ => by
    subst e; cases r
    refine ⟨b, rfl, ?_⟩
    cases b with
    | true => exact p1 rfl Hs0 H0 Hs' H' σ Q (S.grow g) fun Hs2 H2 v2 d2 g2 r2 p => q _ _ v2 d2 (g.trans g2) r2 p
    | false => exact q _ _ _ _ g (.bl _) (p2 rfl)
theorem ew_orV (h : EW K ta γ fun d => ∃ b, d = .bl b ∧ ((b = true → Φ (.bl true)) ∧ (b = false → EW K tb γ Φ))) : EW K (tOrV ta tb) γ Φ := fun Hs0 H0 Hs H σ Q S q =>
  h Hs0 H0 Hs H σ _ S fun Hs' H' v d g r ⟨b, e, p1, p2⟩ => by
    subst e; cases r
    refine ⟨b, rfl, ?_⟩
    cases b with
    | false => exact p2 rfl Hs0 H0 Hs' H' σ Q (S.grow g) fun Hs2 H2 v2 d2 g2 r2 p => q _ _ v2 d2 (g.trans g2) r2 p
    | true => exact q _ _ _ _ g (.bl _) (p1 rfl)
theorem ew_notV (h : EW K ta γ fun d => ∃ b, d = .bl b ∧ Φ (.bl (!b))) : EW K (tNotV ta) γ Φ := fun Hs0 H0 Hs H σ Q S q =>
  h Hs0 H0 Hs H σ _ S fun Hs' H' v d g r ⟨b, e, p⟩ => by
    subst e; cases r
    exact ⟨b, rfl, q _ _ _ _ g (.bl _) p⟩
theorem ew_if (h : TW K t γ fun b => (b = true → EW K ta γ Φ) ∧ (b = false → EW K tb γ Φ)) : EW K (tIf t ta tb) γ Φ := fun Hs0 H0 Hs H σ Q S q =>
  h Hs0 H0 Hs H σ _ S fun Hs' H' b g ⟨p1, p2⟩ => by
    cases b with
    | true => exact p1 rfl Hs0 H0 Hs' H' σ Q (S.grow g) fun Hs2 H2 v2 d2 g2 r2 p => q _ _ v2 d2 (g.trans g2) r2 p
    | false => exact p2 rfl Hs0 H0 Hs' H' σ Q (S.grow g) fun Hs2 H2 v2 d2 g2 r2 p => q _ _ v2 d2 (g.trans g2) r2 p
theorem ew_chain (h : EW K ta γ fun x => EW K tb γ fun y => RW2 K r x y fun z => ∃ b, z = .bl b ∧ ((b = true → EW K tc γ fun w => RW2 K r' y w Φ) ∧ (b = false → Φ (.bl false)))) : EW K (tChain r r' ta tb tc) γ Φ := fun Hs0 H0 Hs H σ Q S q =>
  h Hs0 H0 Hs H σ _ S fun Hs1 H1 v x g1 r1 h1 => h1 Hs0 H0 Hs1 H1 σ _ (S.grow g1) fun Hs2 H2 u y g2 r2 h2 => h2 Hs2 H2 v u _ g2.b (r1.mono g2.s) r2 fun Hs3 H3 w d g3 r3 ⟨b, e, p1, p2⟩ => by
    subst e; cases r3
    refine ⟨b, rfl, ?_⟩
    cases b with
    | true => exact p1 rfl Hs0 H0 Hs3 H3 σ _ (S.grow ((g1.trans g2).trans g3)) fun Hs4 H4 w4 d4 g4 r4 h4 => h4 Hs4 H4 u w4 Q g4.b ((r2.mono g3.s).mono g4.s) r4 fun Hs5 H5 w5 d5 g5 r5 p => q _ _ _ _ ((((g1.trans g2).trans g3).trans g4).trans g5) r5 p
    | false => exact q _ _ _ _ ((g1.trans g2).trans g3) (.bl _) (p2 rfl)
/-- truth of a text, an int, a list -/
def tTru (K : PySem.W.Frag) (ta : TE) : TT := fun σ H Q => ta σ H fun x H' => ∃ k, TruV K x H' k ∧ Q k H'

/-! ### arguments, calls -/
theorem aw_nil {Φ : List D → Prop} (h : Φ []) : AW K tNil γ Φ := fun Hs0 H0 Hs H σ Q S q => q _ _ [] [] (.refl S.b) .nil h
theorem aw_cons {Φ : List D → Prop} {tr : TA} (h : EW K te γ fun d => AW K tr γ fun ds => Φ (d :: ds)) : AW K (tCons te tr) γ Φ := fun Hs0 H0 Hs H σ Q S q =>
  h Hs0 H0 Hs H σ _ S fun Hs1 H1 v d g1 r1 h1 => h1 Hs0 H0 Hs1 H1 σ _ (S.grow g1) fun Hs2 H2 vs ds g2 r2 p => q _ _ _ _ (g1.trans g2) (.cons (r1.mono g2.s) r2) p
theorem ew_cb {tr : TA} {r : List V → Hp → VK → Prop} (h : AW K tr γ fun ds => RWL K r ds Φ) : EW K (tCB r tr) γ Φ := fun Hs0 H0 Hs H σ Q S q =>
  h Hs0 H0 Hs H σ _ S fun Hs1 H1 vs ds g1 r1 h1 => h1 Hs1 H1 vs Q g1.b r1 fun Hs2 H2 w d g2 r2 p => q _ _ _ _ (g1.trans g2) r2 p
theorem en_cb {Φ : List D → Prop} {tr : TA} {r : List V → Hp → VK → Prop} (h : AW K tr γ fun ds => RNL K r ds Φ) : EN K (tCB r tr) γ Φ := fun Hs0 H0 Hs H σ Q S q =>
  h Hs0 H0 Hs H σ _ S fun Hs1 H1 vs ds g1 r1 h1 => h1 Hs1 H1 vs Q g1.b r1 fun Hs2 H2 a ws es g2 n1 n2 n3 n4 p => q _ _ a ws es (g1.trans g2) (SameT.free g1.e n1) n2 n3 n4 p
/-- a method of a text -/
theorem ew_m0 {r : V → List V → Hp → VK → Prop} (h : EW K ta γ fun x => ∃ z, x = .str z ∧ RWM K r x [] Φ) : EW K (tM0 r ta) γ Φ := fun Hs0 H0 Hs H σ Q S q =>
  h Hs0 H0 Hs H σ _ S fun Hs1 H1 v x g1 r1 ⟨z, e, h1⟩ => by
    subst e
    have rz := r1
    cases r1
    exact ⟨⟨z, rfl⟩, h1 Hs1 H1 _ [] Q g1.b rz .nil fun Hs2 H2 w d g2 r2 p => q _ _ _ _ (g1.trans g2) r2 p⟩
theorem ew_m1 {r : V → List V → Hp → VK → Prop} (h : EW K ta γ fun x => ∃ z, x = .str z ∧ EW K tb γ fun y => RWM K r x [y] Φ) : EW K (tM1 r ta tb) γ Φ := fun Hs0 H0 Hs H σ Q S q =>
  h Hs0 H0 Hs H σ _ S fun Hs1 H1 v x g1 r1 ⟨z, e, h1⟩ => by
    subst e
    have rz := r1
    cases r1
    exact ⟨⟨z, rfl⟩, h1 Hs0 H0 Hs1 H1 σ _ (S.grow g1) fun Hs2 H2 w y g2 r2 h2 => h2 Hs2 H2 _ [w] Q g2.b (rz.mono g2.s) (.cons r2 .nil) fun Hs3 H3 w d g3 r3 p => q _ _ _ _ ((g1.trans g2).trans g3) r3 p⟩
theorem en_m1 {Φ : List D → Prop} {r : V → List V → Hp → VK → Prop} (h : EW K ta γ fun x => ∃ z, x = .str z ∧ EW K tb γ fun y => RNM K r x [y] Φ) : EN K (tM1 r ta tb) γ Φ := fun Hs0 H0 Hs H σ Q S q =>
  h Hs0 H0 Hs H σ _ S fun Hs1 H1 v x g1 r1 ⟨z, e, h1⟩ => by
    subst e
    have rz := r1
    cases r1
    exact ⟨⟨z, rfl⟩, h1 Hs0 H0 Hs1 H1 σ _ (S.grow g1) fun Hs2 H2 w y g2 r2 h2 => h2 Hs2 H2 _ [w] Q g2.b (rz.mono g2.s) (.cons r2 .nil) fun Hs3 H3 a ws es g3 n1 n2 n3 n4 p => q _ _ a ws es ((g1.trans g2).trans g3) (SameT.free (g1.trans g2).e n1) n2 n3 n4 p⟩

/-! ### built-ins -/
theorem rwl_abs {i : Int} (k : Φ (.int (if i < 0 then -i else i))) : RWL K (fun xs H Q => ∃ i, xs = [.int i] ∧ Q (.int (if i < 0 then -i else i)) H) [.int i] Φ := fun Hs H vs Q b r q => by
  cases r with
  | cons h r => cases h; cases r; exact ⟨i, rfl, q _ _ _ _ (.refl b) (.int _) k⟩
theorem rwl_int {i : Int} (k : Φ (.int i)) : RWL K (fun xs H Q => (∃ i, xs = [.int i] ∧ Q (.int i) H) ∨ ∃ k, xs = [.bl k] ∧ Q (.int (if k then 1 else 0)) H) [.int i] Φ := fun Hs H vs Q b r q => by
  cases r with
  | cons h r => cases h; cases r; exact .inl ⟨i, rfl, q _ _ _ _ (.refl b) (.int _) k⟩
theorem rwl_max2 {i j : Int} (k : Φ (.int (if j > i then j else i))) : RWL K (fun xs H Q => ∃ i j, xs = [.int i, .int j] ∧ Q (.int (if j > i then j else i)) H) [.int i, .int j] Φ := fun Hs H vs Q b r q => by
  cases r with
  | cons h r => cases h; cases r with | cons h r => cases h; cases r; exact ⟨i, j, rfl, q _ _ _ _ (.refl b) (.int _) k⟩
theorem rwl_min2 {i j : Int} (k : Φ (.int (if j < i then j else i))) : RWL K (fun xs H Q => ∃ i j, xs = [.int i, .int j] ∧ Q (.int (if j < i then j else i)) H) [.int i, .int j] Φ := fun Hs H vs Q b r q => by
  cases r with
  | cons h r => cases h; cases r with | cons h r => cases h; cases r; exact ⟨i, j, rfl, q _ _ _ _ (.refl b) (.int _) k⟩
def rLen (K : PySem.W.Frag) : List V → Hp → VK → Prop := fun xs H Q => ∃ x n, xs = [x] ∧ LenV K x H n ∧ Q (.int n) H
theorem call_lenZ {X : Cx} : CallR X (.builtin "len") (rLen X.K) := call_len
theorem rwl_lenL {ds : List D} (k : Φ (.int ds.length)) : RWL K (rLen K) [.lst ds] Φ := fun Hs H vs Q b r q => by
  cases r with
  | cons h r =>
    cases r
    cases h with
    | lst h r => exact ⟨_, ds.length, rfl, .inl ⟨_, .of (b _ _ h), r.length.symm ▸ rfl⟩, q _ _ _ _ (.refl b) (.int _) k⟩
theorem rwl_lenT {ds : List D} (k : Φ (.int ds.length)) : RWL K (rLen K) [.tup ds] Φ := fun Hs H vs Q b r q => by
  cases r with
  | cons h r =>
    cases r
    cases h with
    | tup h r => exact ⟨_, ds.length, rfl, .inr ⟨_, sameT b h, r.length.symm ▸ rfl⟩, q _ _ _ _ (.refl b) (.int _) k⟩
theorem rwl_lenC {ns : List Int} (k : Φ (.int ns.length)) : RWL K (rLen K) [.scr ns] Φ := fun Hs H vs Q b r q => by
  cases r with
  | cons h r =>
    cases r
    cases h with
    | scr h => exact ⟨_, ns.length, rfl, .inl ⟨_, sameL b h, by simp⟩, q _ _ _ _ (.refl b) (.int _) k⟩
theorem rwl_lenS {z : Str} (l : z.length ≤ sizeS) (k : Φ (.int z.length)) : RWL K (rLen K) [.str z] Φ := fun Hs H vs Q b r q => by
  cases r with
  | cons h r =>
    cases r
    cases h
    exact ⟨_, z.length, rfl, ⟨sz_ok l, rfl⟩, q _ _ _ _ (.refl b) (.int _) k⟩
theorem rwl_strI {i : Int} (l : i.natAbs < 2 ^ 64) (k : Φ (.str (toString i))) : RWL K (fun xs H Q => ∃ i, xs = [.int i] ∧ i.natAbs.log2 < 1920 ∧ Q (.str (toString i)) H) [.int i] Φ := fun Hs H vs Q b r q => by
  cases r with
  | cons h r =>
    cases h; cases r
    refine ⟨i, rfl, ?_, q _ _ _ _ (.refl b) (.str _) k⟩
    by_cases h0 : i.natAbs = 0
    · rw [h0]; decide
    · exact Nat.lt_trans ((Nat.log2_lt h0).mpr l) (by decide)
def rListOf (K : PySem.W.Frag) : List V → Hp → VK → Prop := fun xs H Q => ∃ p ys, xs = [.ref p] ∧ (SqL K H p ys ∨ SqT K H p ys) ∧ ∀ l, H l = none → Q (.ref l) (upd H l (.lst ys))
theorem call_listZ {X : Cx} : CallR X (.type "list") (rListOf X.K) := call_list_of
theorem rnl_listL {ds : List D} {Φ : List D → Prop} (k : Φ ds) : RNL K (rListOf K) [.lst ds] Φ := fun Hs H vs Q b r q => by
  cases r with
  | cons h r =>
    cases r
    cases h with
    | lst h r => exact ⟨_, _, rfl, .inl (.of (b _ _ h)), fun p hp => q Hs _ p _ ds (.hid b hp) hp (b.free hp) upd_same r k⟩
theorem rnl_listT {ds : List D} {Φ : List D → Prop} (k : Φ ds) : RNL K (rListOf K) [.tup ds] Φ := fun Hs H vs Q b r q => by
  cases r with
  | cons h r =>
    cases r
    cases h with
    | tup h r => exact ⟨_, _, rfl, .inr (sameT b h), fun p hp => q Hs _ p _ ds (.hid b hp) hp (b.free hp) upd_same r k⟩
abbrev rTupOf := @rTupF
theorem call_tupZ {X : Cx} : CallR X (.type "tuple") (rTupOf X.K) := call_tupF
theorem rwl_tupL {ds : List D} (k : Φ (.tup ds)) : RWL K (rTupOf K) [.lst ds] Φ := fun Hs H vs Q b r q => by
  cases r with
  | cons h r =>
    cases r
    cases h with
    | lst h r => exact ⟨_, _, rfl, .inl ⟨.of (b _ _ h), fun p ob hd hp => q _ _ _ _ (.new b hp) (.tup ⟨ob, hd, upd_same⟩ (RepL.mono (sameNew (b.free hp)) r)) k⟩⟩
theorem rwl_tupT {ds : List D} (k : Φ (.tup ds)) : RWL K (rTupOf K) [.tup ds] Φ := fun Hs H vs Q b r q => by
  cases r with
  | cons h r =>
    cases r
    cases h with
    | tup h r => exact ⟨_, _, rfl, .inr ⟨sameT b h, q _ _ _ _ (.refl b) (.tup h r) k⟩⟩
theorem rwl_all {bs : List Bool} (k : Φ (.bl (bs.all id))) : RWL K (rAll K) [.lst (bs.map .bl)] Φ := fun Hs H vs Q b r q => by
  cases r with
  | cons h r =>
    cases r
    cases h with
    | lst h r =>
      have e := r.bls; subst e
      exact ⟨_, bs, rfl, .of (b _ _ h), q _ _ _ _ (.refl b) (.bl _) k⟩
theorem rwl_any {bs : List Bool} (k : Φ (.bl (bs.any id))) : RWL K (rAny K) [.lst (bs.map .bl)] Φ := fun Hs H vs Q b r q => by
  cases r with
  | cons h r =>
    cases r
    cases h with
    | lst h r =>
      have e := r.bls; subst e
      exact ⟨_, bs, rfl, .of (b _ _ h), q _ _ _ _ (.refl b) (.bl _) k⟩
theorem rwl_sumI {ns : List Int} (k : Φ (.int ns.sum)) : RWL K (rSum K) [.lst (ns.map .int)] Φ := fun Hs H vs Q b r q => by
  cases r with
  | cons h r =>
    cases r
    cases h with
    | lst h r =>
      have e := r.ints; subst e
      exact ⟨_, ns, rfl, .of (b _ _ h), q _ _ _ _ (.refl b) (.int _) k⟩

/-! ### methods of texts -/
def rEnds : V → List V → Hp → VK → Prop := fun x xs H Q => ∃ a b, x = .str a ∧ xs = [.str b] ∧ Q (.bl (Txt.endswith a b)) H
theorem mt_endsZ {X : Cx} : MtR X "str.endswith" rEnds := mt_endswith
theorem rwm_ends {a b : Str} (k : Φ (.bl (Txt.endswith a b))) : RWM K rEnds (.str a) [.str b] Φ := fun Hs H v vs Q bb r1 r2 q => by
  cases r1
  cases r2 with
  | cons h r => cases h; cases r; exact ⟨a, b, rfl, rfl, q _ _ _ _ (.refl bb) (.bl _) k⟩
def rStarts : V → List V → Hp → VK → Prop := fun x xs H Q => ∃ a b, x = .str a ∧ xs = [.str b] ∧ Q (.bl (Txt.startswith a b)) H
theorem mt_startsZ {X : Cx} : MtR X "str.startswith" rStarts := mt_startswith
theorem rwm_starts {a b : Str} (k : Φ (.bl (Txt.startswith a b))) : RWM K rStarts (.str a) [.str b] Φ := fun Hs H v vs Q bb r1 r2 q => by
  cases r1
  cases r2 with
  | cons h r => cases h; cases r; exact ⟨a, b, rfl, rfl, q _ _ _ _ (.refl bb) (.bl _) k⟩
def rJoin (K : PySem.W.Frag) : V → List V → Hp → VK → Prop := fun x xs H Q => ∃ a p, ∃ ys : List Str, x = .str a ∧ xs = [.ref p] ∧ (SqL K H p (ys.map V.str) ∨ SqT K H p (ys.map V.str)) ∧ (ys.map Str.length).sum + ys.length * a.length ≤ 16777216 ∧ Q (.str (Txt.join a ys)) H
def rSplit : V → List V → Hp → VK → Prop := fun x xs H Q => ∃ a b, x = .str a ∧ xs = [.str b] ∧ (b.length == 0) = false ∧ a.length + 2 ≤ sizeLine ∧ rNewStrs (Txt.split a b) H Q
theorem mt_splitZ {X : Cx} : MtR X "str.split" rSplit := mt_split
theorem rnm_split {a b : Str} {Φ : List D → Prop} (hb : (b.length == 0) = false) (l : a.length + 2 ≤ sizeS) (k : Φ ((Txt.split a b).map .str)) : RNM K rSplit (.str a) [.str b] Φ := fun Hs H v vs Q bb r1 r2 q => by
  cases r1
  cases r2 with
  | cons h r => cases h; cases r; exact ⟨a, b, rfl, rfl, hb, sz_ok l, fun p hp => q Hs _ p _ _ (.hid bb hp) hp (bb.free hp) upd_same .ofStrs k⟩

/-! ### slices -/
theorem ow_none {Φ : Option Int → Prop} (k : Φ none) : OW K tNoPart γ Φ := fun Hs0 H0 Hs H σ Q S q => q _ _ _ (.refl S.b) k
theorem ow_some {Φ : Option Int → Prop} (h : EW K te γ fun d => ∃ i, d = .int i ∧ Φ (some i)) : OW K (tPart te) γ Φ := fun Hs0 H0 Hs H σ Q S q =>
  h Hs0 H0 Hs H σ _ S fun Hs' H' v d g r ⟨i, e, p⟩ => by
    subst e; cases r
    exact ⟨i, rfl, q _ _ _ g p⟩
def SlW (K : PySem.W.Frag) (r : V → Option Int → Option Int → Hp → VK → Prop) (x : D) (l u : Option Int) (Φ : D → Prop) : Prop := ∀ (Hs H : Hp) (v : V) (Q : VK), Same Hs H → Rep K Hs v x →
  (∀ Hs' H' w d, Grow Hs H Hs' H' → Rep K Hs' w d → Φ d → Q w H') → r v l u H Q
def SlN (K : PySem.W.Frag) (r : V → Option Int → Option Int → Hp → VK → Prop) (x : D) (l u : Option Int) (Φ : List D → Prop) : Prop := ∀ (Hs H : Hp) (v : V) (Q : VK), Same Hs H → Rep K Hs v x →
  (∀ Hs' H' a vs ds, Grow Hs H Hs' H' → H a = none → Hs' a = none → H' a = some (.lst vs) → RepL K Hs' vs ds → Φ ds → Q (.ref a) H') → r v l u H Q
theorem ew_sl {r : V → Option Int → Option Int → Hp → VK → Prop} {tl th : TO} (h : EW K ta γ fun x => OW K tl γ fun l => OW K th γ fun u => SlW K r x l u Φ) : EW K (tSl r ta tl th) γ Φ := fun Hs0 H0 Hs H σ Q S q =>
  h Hs0 H0 Hs H σ _ S fun Hs1 H1 v x g1 r1 h1 => h1 Hs0 H0 Hs1 H1 σ _ (S.grow g1) fun Hs2 H2 l g2 h2 => h2 Hs0 H0 Hs2 H2 σ _ ((S.grow g1).grow g2) fun Hs3 H3 u g3 h3 =>
    h3 Hs3 H3 v Q g3.b ((r1.mono g2.s).mono g3.s) fun Hs4 H4 w d g4 r4 p => q _ _ _ _ (((g1.trans g2).trans g3).trans g4) r4 p
theorem en_sl {Φ : List D → Prop} {r : V → Option Int → Option Int → Hp → VK → Prop} {tl th : TO} (h : EW K ta γ fun x => OW K tl γ fun l => OW K th γ fun u => SlN K r x l u Φ) : EN K (tSl r ta tl th) γ Φ := fun Hs0 H0 Hs H σ Q S q =>
  h Hs0 H0 Hs H σ _ S fun Hs1 H1 v x g1 r1 h1 => h1 Hs0 H0 Hs1 H1 σ _ (S.grow g1) fun Hs2 H2 l g2 h2 => h2 Hs0 H0 Hs2 H2 σ _ ((S.grow g1).grow g2) fun Hs3 H3 u g3 h3 =>
    h3 Hs3 H3 v Q g3.b ((r1.mono g2.s).mono g3.s) fun Hs4 H4 a ws es g4 n1 n2 n3 n4 p => q _ _ a ws es (((g1.trans g2).trans g3).trans g4) (SameT.free ((g1.trans g2).trans g3).e n1) n2 n3 n4 p
theorem sl_S {z : Str} {l u : Option Int} (h : z.length ≤ sizeS) (k : Φ (.str (cutS z l u))) : SlW K rSlS (.str z) l u Φ := fun Hs H v Q b r q => by
  cases r
  exact ⟨z, rfl, sz_ok h, q _ _ _ _ (.refl b) (.str _) k⟩
def cutD (xs : List D) (lo hi : Option Int) : List D := (xs.drop (HT.sIx xs.length 0 lo)).take (HT.sIx xs.length xs.length hi - HT.sIx xs.length 0 lo)
theorem sln_L {ds : List D} {l u : Option Int} {Φ : List D → Prop} (k : Φ (cutD ds l u)) : SlN K (rSlL K) (.lst ds) l u Φ := fun Hs H v Q b r q => by
  cases r with
  | lst h r =>
    refine ⟨_, _, rfl, .of (b _ _ h), fun p hp => q Hs _ p _ _ (.hid b hp) hp (b.free hp) upd_same ?_ k⟩
    unfold cutV cutD
    rw [r.length]
    exact (r.drop _).take _

/-! ### displays -/
theorem ew_tup {tr : TA} (h : AW K tr γ fun ds => ds.length ≤ sizeS ∧ Φ (.tup ds)) : EW K (tTupF tr) γ Φ := fun Hs0 H0 Hs H σ Q S q =>
  h Hs0 H0 Hs H σ _ S fun Hs1 H1 vs ds g1 r1 ⟨l, p⟩ => ⟨by rw [r1.length]; exact sz_ok l, fun a ob hd ha => q _ _ _ _ (g1.trans (.new g1.b ha)) (.tup ⟨ob, hd, upd_same⟩ (RepL.mono (sameNew (g1.b.free ha)) r1)) p⟩
theorem en_lst {Φ : List D → Prop} {tr : TA} (h : AW K tr γ fun ds => ds.length ≤ sizeS ∧ Φ ds) : EN K (tLst tr) γ Φ := fun Hs0 H0 Hs H σ Q S q =>
  h Hs0 H0 Hs H σ _ S fun Hs1 H1 vs ds g1 r1 ⟨l, p⟩ => ⟨by rw [r1.length]; exact sz_ok l, fun a ha => q _ _ a _ _ (g1.trans (.hid g1.b ha)) (g1.e.free ha) (g1.b.free ha) upd_same r1 p⟩
end
end Z

namespace Z
open PySem PySem.Spec L2
variable [Tabs]

/-! ### what is walked -/
/-- from the shared part Hs on, the iterator gives the data ds -/
structure Yields (K : PySem.W.Frag) (Hs : Hp) (J : It) (ds : List D) : Prop where
  go : ∀ i Hs' H', Same Hs Hs' → Same Hs' H' → i < ds.length → J.go i H'
  yld : ∀ i Hs' H' d x H'', Same Hs Hs' → Same Hs' H' → ds[i]? = some d → J.yld i H' x H'' → ∃ Hs'', Grow Hs' H' Hs'' H'' ∧ Rep K Hs'' x d
  stop : ∀ Hs' H', Same Hs Hs' → Same Hs' H' → J.stop ds.length H'
def IW (K : PySem.W.Frag) (wi : TI) (γ : Gam) (Φ : List D → Prop) : Prop := ∀ (Hs0 H0 Hs H : Hp) (σ : St) (R : It → Hp → Prop), Sl K Hs0 H0 Hs H σ γ →
  (∀ Hs' H' J ds, Grow Hs H Hs' H' → Yields K Hs' J ds → Φ ds → R J H') → wi σ H R
/-- a target: the slots that it sets -/
def GW (K : PySem.W.Frag) (g : TG) (js : List Nat) (d : D) (γ : Gam) (Ψ : Gam → Prop) : Prop := ∀ (Hs0 H0 Hs H : Hp) (σ : St) (v : V) (R : St → Hp → Prop), Sl K Hs0 H0 Hs H σ γ → Rep K Hs v d →
  (∀ σ' γ', Sl K Hs0 H0 Hs H σ' γ' → (∀ vs : List Nat, (∀ j ∈ js, j ∈ vs) → wipe σ' vs = wipe σ vs) → Ψ γ' → R σ' H) → g v σ H R
def GWs (K : PySem.W.Frag) (g : TGs) (js : List Nat) (ds : List D) (γ : Gam) (Ψ : Gam → Prop) : Prop := ∀ (Hs0 H0 Hs H : Hp) (σ : St) (vs : List V) (R : St → Hp → Prop), Sl K Hs0 H0 Hs H σ γ → RepL K Hs vs ds →
  (∀ σ' γ', Sl K Hs0 H0 Hs H σ' γ' → (∀ vs : List Nat, (∀ j ∈ js, j ∈ vs) → wipe σ' vs = wipe σ vs) → Ψ γ' → R σ' H) → g vs σ H R
theorem wipe_set {σ : St} {j : Nat} {x : Option V} : ∀ {vs : List Nat}, j ∈ vs → wipe (σ.set j x) vs = wipe σ vs
  | [], h => by cases h
  | v :: vs, h => by
    show (wipe (σ.set j x) vs).set v none = (wipe σ vs).set v none
    by_cases hv : j ∈ vs
    · rw [wipe_set hv]
    · have e : j = v := by
        rcases List.mem_cons.mp h with q | q
        · exact q
        · exact absurd q hv
      subst e
      have : ∀ ws : List Nat, j ∉ ws → wipe (σ.set j x) ws = (wipe σ ws).set j x := by
        intro ws
        induction ws with
        | nil => intro _; rfl
        | cons w ws ih =>
          intro hw
          show (wipe (σ.set j x) ws).set w none = ((wipe σ ws).set w none).set j x
          rw [ih fun z => hw (List.mem_cons_of_mem _ z), List.set_comm]
          intro z; exact hw (z ▸ List.mem_cons_self)
      rw [this vs hv, List.set_set]
theorem wipe_wipe {σ : St} : ∀ {vs : List Nat}, wipe (wipe σ vs) vs = wipe σ vs := by
  intro vs
  have key : ∀ ws : List Nat, ∀ us : List Nat, (∀ w ∈ ws, w ∈ us) → ∀ τ : St, wipe (wipe τ ws) us = wipe τ us := by
    intro ws
    induction ws with
    | nil => intro us _ τ; rfl
    | cons w ws ih =>
      intro us h τ
      show wipe ((wipe τ ws).set w none) us = wipe τ us
      rw [wipe_set (h w List.mem_cons_self)]
      exact ih us (fun x hx => h x (List.mem_cons_of_mem _ hx)) τ
  exact key vs vs (fun _ h => h) σ
def wipeG (γ : Gam) : List Nat → Gam
  | [] => γ
  | v :: vs => (wipeG γ vs).set v none
theorem Sl.wipe {K : PySem.W.Frag} {Hs0 H0 Hs H : Hp} {σ : St} {γ : Gam} (S : Sl K Hs0 H0 Hs H σ γ) : ∀ vs : List Nat, Sl K Hs0 H0 Hs H (wipe σ vs) (wipeG γ vs)
  | [] => S
  | v :: vs => (S.wipe vs).drop v none
section
variable {K : PySem.W.Frag} {γ : Gam} {ta tb te : TE} {d : D} {i j : Nat} {Ψ : Gam → Prop}
theorem gw_name (h : Ψ (γ.set i (some (.sh d)))) : GW K (gName i) [i] d γ Ψ := fun Hs0 H0 Hs H σ v R S r q =>
  q _ _ (S.set i r) (fun vs hv => wipe_set (hv i List.mem_cons_self)) h
theorem gws_nil (h : Ψ γ) : GWs K gNil [] [] γ Ψ := fun Hs0 H0 Hs H σ vs R S r q => by
  cases r
  exact ⟨rfl, q _ _ S (fun _ _ => rfl) h⟩
theorem gws_cons {g : TG} {gs : TGs} {js ks : List Nat} {ds : List D} (h : GW K g js d γ fun γ1 => GWs K gs ks ds γ1 Ψ) : GWs K (gCons g gs) (js ++ ks) (d :: ds) γ Ψ := fun Hs0 H0 Hs H σ vs R S r q => by
  cases r with
  | cons r1 r2 =>
    refine ⟨_, _, rfl, h Hs0 H0 Hs H σ _ _ S r1 fun σ1 γ1 S1 w1 h1 => h1 Hs0 H0 Hs H σ1 _ _ S1 r2 fun σ2 γ2 S2 w2 h2 => q σ2 γ2 S2 (fun vs hv => ?_) h2⟩
    rw [w2 vs fun j hj => hv j (List.mem_append_right _ hj), w1 vs fun j hj => hv j (List.mem_append_left _ hj)]
theorem gw_tup {gs : TGs} {js : List Nat} {ds : List D} {n : Nat} (hn : ds.length = n) (h : GWs K gs js ds γ Ψ) : GW K (gTup K n gs) js (.tup ds) γ Ψ := fun Hs0 H0 Hs H σ v R S r q => by
  cases r with
  | tup h1 r1 => exact ⟨_, _, rfl, sameT S.b h1, by rw [r1.length]; exact hn, h Hs0 H0 Hs H σ _ R S r1 q⟩

theorem iw_list {Φ : List D → Prop} (h : EW K te γ fun d => ∃ ds, d = .lst ds ∧ Φ ds) : IW K (iList K te) γ Φ := fun Hs0 H0 Hs H σ R S q =>
  h Hs0 H0 Hs H σ _ S fun Hs1 H1 v x g1 r1 ⟨ds, e, p⟩ => by
    subst e
    cases r1 with
    | lst h1 r1 =>
      rename_i a vs
      refine ⟨a, rfl, ⟨vs, .of (g1.b _ _ h1)⟩, q Hs1 H1 _ ds g1 ⟨fun i Hs' H' e1 e2 hi => ?_, fun i Hs' H' d x H'' e1 e2 hd hy => ?_, fun Hs' H' e1 e2 => ?_⟩ p⟩
      · have hv : i < vs.length := by rw [r1.length]; exact hi
        exact ⟨vs, vs[i], .of (e2 _ _ (e1 _ _ h1)), by simp [hv]⟩
      · obtain ⟨rfl, hy⟩ := hy
        have hx := hy vs (.of (e2 _ _ (e1 _ _ h1)))
        obtain ⟨d', hd', rd⟩ := r1.get' hx
        rw [hd] at hd'; cases hd'
        exact ⟨Hs', .refl e2, rd.mono e1⟩
      · exact ⟨vs, .of (e2 _ _ (e1 _ _ h1)), by rw [r1.length]; exact Nat.le_refl _⟩
theorem iw_tup {Φ : List D → Prop} (h : EW K te γ fun d => ∃ ds, d = .tup ds ∧ Φ ds) : IW K (iTup K te) γ Φ := fun Hs0 H0 Hs H σ R S q =>
  h Hs0 H0 Hs H σ _ S fun Hs1 H1 v x g1 r1 ⟨ds, e, p⟩ => by
    subst e
    cases r1 with
    | tup h1 r1 =>
      rename_i a vs
      refine ⟨a, rfl, ⟨vs, sameT g1.b h1⟩, q Hs1 H1 _ ds g1 ⟨fun i Hs' H' e1 e2 hi => ?_, fun i Hs' H' d x H'' e1 e2 hd hy => ?_, fun Hs' H' e1 e2 => ?_⟩ p⟩
      · have hv : i < vs.length := by rw [r1.length]; exact hi
        exact ⟨vs, vs[i], sameT e2 (monoT e1 h1), by simp [hv]⟩
      · obtain ⟨rfl, hy⟩ := hy
        have hx := hy vs (sameT e2 (monoT e1 h1))
        obtain ⟨d', hd', rd⟩ := r1.get' hx
        rw [hd] at hd'; cases hd'
        exact ⟨Hs', .refl e2, rd.mono e1⟩
      · exact ⟨vs, sameT e2 (monoT e1 h1), by rw [r1.length]; exact Nat.le_refl _⟩
/-- lo, lo + 1, .. -/
def rng (lo : Int) (n : Nat) : List D := (List.range n).map fun (k : Nat) => D.int (lo + (k : Int))
theorem rng_len (lo : Int) (n : Nat) : (rng lo n).length = n := by unfold rng; rw [List.length_map, List.length_range]
theorem rng_get {lo : Int} {n i : Nat} {d : D} (h : (rng lo n)[i]? = some d) : i < n ∧ d = .int (lo + (i : Int)) := by
  unfold rng at h
  rw [List.getElem?_map] at h
  by_cases hi : i < n
  · rw [List.getElem?_range hi] at h
    exact ⟨hi, (Option.some.inj h).symm⟩
  · rw [List.getElem?_eq_none (by simpa using hi)] at h; cases h
theorem rng_yields {Hs : Hp} {lo : Int} {n : Nat} : Yields K Hs (Itr lo n) (rng lo n) :=
  ⟨fun i _ _ _ _ hi => by rw [rng_len] at hi; exact hi, fun i Hs' H' d x H'' _ e2 hd hy => by
    obtain ⟨rfl, rfl⟩ := hy
    obtain ⟨_, rfl⟩ := rng_get hd
    exact ⟨Hs', .refl e2, .int _⟩, fun _ _ _ _ => by rw [rng_len]; exact Nat.le_refl _⟩
theorem iw_range1 {Φ : List D → Prop} {tr : TA} (h : AW K tr γ fun ds => ∃ n : Int, ds = [.int n] ∧ n < 2 ^ 40 ∧ -(2 ^ 40) < n ∧ Φ (rng 0 n.toNat)) : IW K (iRng1 tr) γ Φ := fun Hs0 H0 Hs H σ R S q =>
  h Hs0 H0 Hs H σ _ S fun Hs1 H1 vs ds g1 r1 ⟨n, e, l, l2, p⟩ => by
    subst e
    cases r1 with
    | cons r1 r2 => cases r1; cases r2; exact ⟨n, rfl, by omega, by omega, q Hs1 H1 _ _ g1 rng_yields p⟩
theorem iw_range2 {Φ : List D → Prop} {tr : TA} (h : AW K tr γ fun ds => ∃ m n : Int, ds = [.int m, .int n] ∧ (m < 2 ^ 40 ∧ -(2 ^ 40) < m ∧ n < 2 ^ 40 ∧ -(2 ^ 40) < n) ∧ Φ (rng m (n - m).toNat)) : IW K (iRng2 tr) γ Φ := fun Hs0 H0 Hs H σ R S q =>
  h Hs0 H0 Hs H σ _ S fun Hs1 H1 vs ds g1 r1 ⟨m, n, e, ⟨l, l2, l3, l4⟩, p⟩ => by
    subst e
    cases r1 with
    | cons r1 r2 => cases r1; cases r2 with | cons r1 r2 => cases r1; cases r2; exact ⟨m, n, rfl, ⟨by omega, by omega, by omega, by omega⟩, q Hs1 H1 _ _ g1 rng_yields p⟩

/-! ### comprehensions -/
theorem en_lc {wi : TI} {g : TG} {js : List Nat} {tt : TT} {vs : List Nat} {Φ : List D → Prop} (hj : ∀ j ∈ js, j ∈ vs)
    (h : IW K wi γ fun ds => ∃ Iv : Nat → List D → Prop, Iv 0 [] ∧ (∀ i d acc, ds[i]? = some d → Iv i acc → acc.length < sizeS ∧ GW K g js d (wipeG γ vs) fun γ2 => TW K tt γ2 fun b => (b = true → EW K te γ2 fun y => Iv (i + 1) (acc ++ [y])) ∧ (b = false → Iv (i + 1) acc)) ∧
      ∀ acc, Iv ds.length acc → Φ acc) : EN K (tLc wi g tt te vs) γ Φ := fun Hs0 H0 Hs H σ Q S q =>
  h Hs0 H0 Hs H σ _ S fun Hs1 H1 J ds g1 Y ⟨Iv, i0, step, fin⟩ Dl hD => by
    have S1 := S.grow g1
    have HsD : Hs1 Dl = none := g1.b.free hD
    -- the state within: shared Hs', all H' (with the list at Dl, hidden)
    refine ⟨fun i m Hx => m = ds.length - i ∧ i ≤ ds.length ∧ ∃ Hs' ws acc, Grow Hs1 H1 Hs' Hx ∧ Hs' Dl = none ∧ Hx Dl = some (.lst ws) ∧ RepL K Hs' ws acc ∧ Iv i acc,
      ⟨ds.length, by simp, Nat.zero_le _, Hs1, [], [], .hid g1.b hD, HsD, upd_same, .nil, i0⟩, ?_⟩
    rintro i m Hx ⟨rfl, hi, Hs', ws, acc, gx, nD, hDl, rw', iv⟩
    by_cases hlt : i < ds.length
    · refine .inr ⟨Y.go i Hs' Hx gx.s gx.b hlt, fun H' => ∃ Hs'' ws acc, Grow Hs1 H1 Hs'' H' ∧ Hs'' Dl = none ∧ H' Dl = some (.lst ws) ∧ RepL K Hs'' ws acc ∧ Iv (i + 1) acc, fun H' ⟨a, b, c, d⟩ => ⟨ds.length - (i + 1), by omega, rfl, hlt, a, b, c, d⟩, fun x H'' hy => ?_⟩
      have hd : ds[i]? = some ds[i] := by simp [hlt]
      obtain ⟨Hs2, g2, rx⟩ := Y.yld i Hs' Hx ds[i] x H'' gx.s gx.b hd hy
      obtain ⟨sz, st⟩ := step i ds[i] acc hd iv
      have n2 : Hs2 Dl = none := g2.n _ _ hDl nD
      -- within the element the list at Dl is one of the hidden ones
      have S2 : Sl K Hs0 H0 Hs2 H'' (wipe σ vs) (wipeG γ vs) := ((S1.grow gx).grow g2).wipe vs
      refine st Hs0 H0 Hs2 H'' (wipe σ vs) x _ S2 rx fun σ2 γ2 S3 w3 h3 => ⟨by rw [w3 vs hj, wipe_wipe], ?_⟩
      refine h3 Hs0 H0 Hs2 H'' σ2 _ S3 fun Hs3 H3 b g3 ⟨p1, p2⟩ => ?_
      have n3 : Hs3 Dl = none := g3.n _ _ (g2.e.lst hDl) n2
      have d3 : H3 Dl = some (.lst ws) := g3.e.lst (g2.e.lst hDl)
      have g13 : Grow Hs1 H1 Hs3 H3 := (gx.trans g2).trans g3
      cases b with
      | true =>
        rw [if_pos rfl]
        refine p1 rfl Hs0 H0 Hs3 H3 σ2 _ (S3.grow g3) fun Hs4 H4 y dy g4 r4 p4 => ?_
        have n4 : Hs4 Dl = none := g4.n _ _ d3 n3
        refine ⟨ws, g4.e.lst d3, by rw [rw'.length]; exact Nat.lt_trans sz (by decide), Hs4, ws ++ [y], acc ++ [dy], ?_, n4, upd_same, (RepL.mono ((g2.trans g3).trans g4).s rw').append (.cons r4 .nil), p4⟩
        have g14 := g13.trans g4
        exact ⟨g14.s, fun b o e => by rw [upd_ne (ne_of_none e hD)]; exact g14.e _ _ e, fun b o e => by rw [upd_ne (ne_of_none e n4)]; exact g14.b _ _ e, g14.n, fun t P hP => by
          obtain ⟨⟨ps, q1, q2⟩, q3⟩ := g14.t t P hP
          have dl := g4.e.lst d3
          exact ⟨⟨ps, by rw [upd_ne (fun q => by rw [q, dl] at q1; cases q1)]; exact q1, q2⟩, q3⟩⟩
      | false =>
        rw [if_neg Bool.false_ne_true]
        exact ⟨Hs3, ws, acc, g13, n3, d3, RepL.mono (g2.trans g3).s rw', p2 rfl⟩
    · have e : i = ds.length := by omega
      subst e
      refine .inl ⟨Y.stop Hs' Hx gx.s gx.b, q Hs' Hx Dl ws acc (g1.trans gx) (SameT.free g1.e hD) nD hDl rw' (fin acc iv)⟩
end

/-! ### statements -/
structure Out where
  nx : Gam → Prop
  rt : D → Prop
  bk : Gam → Prop := fun _ => False
  ct : Gam → Prop := fun _ => False
def SW (K : PySem.W.Frag) (ts : TS) (γ : Gam) (Φ : Out) : Prop := ∀ (Hs0 H0 Hs H : Hp) (σ : St) (E : Ends), Sl K Hs0 H0 Hs H σ γ →
  (∀ Hs' H' σ' γ', Same Hs Hs' → Sl K Hs0 H0 Hs' H' σ' γ' → Φ.nx γ' → E.nx σ' H') →
  (∀ Hs' H' v d, Grow Hs0 H0 Hs' H' → Rep K Hs' v d → Φ.rt d → E.rt v H') →
  (∀ Hs' H' σ' γ', Same Hs Hs' → Sl K Hs0 H0 Hs' H' σ' γ' → Φ.bk γ' → E.bk σ' H') →
  (∀ Hs' H' σ' γ', Same Hs Hs' → Sl K Hs0 H0 Hs' H' σ' γ' → Φ.ct γ' → E.ct σ' H') → ts E σ H
section
variable {K : PySem.W.Frag} {γ : Gam} {ta tb te : TE} {t u : TT} {d : D} {i j : Nat} {Φ : Out} {ts tz tu : TS}
theorem sw_next (h : Φ.nx γ) : SW K tNext γ Φ := fun Hs0 H0 Hs H σ E S kn _ _ _ => kn Hs H σ γ (.refl _) S h
theorem sw_brk (h : Φ.bk γ) : SW K tBreak γ Φ := fun Hs0 H0 Hs H σ E S _ _ kb _ => kb Hs H σ γ (.refl _) S h
theorem sw_cont (h : Φ.ct γ) : SW K tCont γ Φ := fun Hs0 H0 Hs H σ E S _ _ _ kc => kc Hs H σ γ (.refl _) S h
theorem sw_seq (h : SW K ts γ { Φ with nx := fun γ1 => SW K tz γ1 Φ }) : SW K (tSeq ts tz) γ Φ := fun Hs0 H0 Hs H σ E S kn kr kb kc =>
  h Hs0 H0 Hs H σ _ S (fun Hs1 H1 σ1 γ1 e1 S1 h1 => h1 Hs0 H0 Hs1 H1 σ1 E S1 (fun Hs' H' σ' γ' e => kn Hs' H' σ' γ' (e1.trans e)) kr (fun Hs' H' σ' γ' e => kb Hs' H' σ' γ' (e1.trans e)) fun Hs' H' σ' γ' e => kc Hs' H' σ' γ' (e1.trans e)) kr kb kc
theorem sw_asg (h : EW K te γ fun d => Φ.nx (γ.set i (some (.sh d)))) : SW K (tAsg te (gName i)) γ Φ := fun Hs0 H0 Hs H σ E S kn kr _ _ =>
  h Hs0 H0 Hs H σ _ S fun Hs' H' v d g r p => kn Hs' H' _ _ g.s ((S.grow g).set i r) p
/-- a new list of its own -/
theorem sw_asgN (h : EN K te γ fun ds => Φ.nx (γ.set i (some (.ow ds)))) : SW K (tAsg te (gName i)) γ Φ := fun Hs0 H0 Hs H σ E S kn kr _ _ =>
  h Hs0 H0 Hs H σ _ S fun Hs' H' a vs ds g n1 n2 n3 n4 p => kn Hs' H' _ _ g.s ((S.grow g).own i (SameT.free S.gr.e n1) n2 n3 n4 fun j es h1 h2 => by
    obtain ⟨v, hv, b, ws, rfl, _, k2, _⟩ := S.ok j _ h1
    rw [hv] at h2; cases h2
    rw [n1] at k2; cases k2) p
theorem sw_asgG {g : TG} {js : List Nat} (h : EW K te γ fun d => GW K g js d γ Φ.nx) : SW K (tAsg te g) γ Φ := fun Hs0 H0 Hs H σ E S kn kr _ _ =>
  h Hs0 H0 Hs H σ _ S fun Hs' H' v d gr r p => p Hs0 H0 Hs' H' σ v _ (S.grow gr) r fun σ' γ' S' _ q => kn Hs' H' σ' γ' gr.s S' q
theorem sw_par (h : AW K ta' γ fun ds => ∃ x y, ds = [x, y] ∧ Φ.nx ((γ.set i (some (.sh x))).set j (some (.sh y)))) : SW K (tPar i j ta') γ Φ := fun Hs0 H0 Hs H σ E S kn kr _ _ =>
  h Hs0 H0 Hs H σ _ S fun Hs' H' vs ds g r ⟨x, y, e, p⟩ => by
    subst e
    cases r with
    | cons r1 r => cases r with | cons r2 r => cases r; exact ⟨_, _, rfl, kn Hs' H' _ _ g.s (((S.grow g).set i r1).set j r2) p⟩
theorem sw_augI {f : Int → Int → Int} {a : Int} (hx : γ[i]? = some (some (.sh (.int a)))) (h : EW K te γ fun d => ∃ b, d = .int b ∧ Φ.nx (γ.set i (some (.sh (.int (f a b)))))) : SW K (tAug i te (ipI f)) γ Φ := fun Hs0 H0 Hs H σ E S kn kr _ _ => by
  obtain ⟨v, hv, r⟩ := S.ok i _ hx
  cases r
  refine ⟨.int a, hv, h Hs0 H0 Hs H σ _ S fun Hs' H' v d g r ⟨b, e, p⟩ => ?_⟩
  subst e
  cases r
  exact ⟨a, b, rfl, rfl, kn Hs' H' _ _ g.s ((S.grow g).set i (.int _)) p⟩
theorem sw_if (h : TW K t γ fun b => (b = true → SW K ts γ Φ) ∧ (b = false → SW K tz γ Φ)) : SW K (tIfS t ts tz) γ Φ := fun Hs0 H0 Hs H σ E S kn kr kb kc =>
  h Hs0 H0 Hs H σ _ S fun Hs1 H1 b g ⟨p1, p2⟩ => by
    cases b with
    | true => exact p1 rfl Hs0 H0 Hs1 H1 σ E (S.grow g) (fun Hs' H' σ' γ' e => kn Hs' H' σ' γ' (g.s.trans e)) kr (fun Hs' H' σ' γ' e => kb Hs' H' σ' γ' (g.s.trans e)) fun Hs' H' σ' γ' e => kc Hs' H' σ' γ' (g.s.trans e)
    | false => exact p2 rfl Hs0 H0 Hs1 H1 σ E (S.grow g) (fun Hs' H' σ' γ' e => kn Hs' H' σ' γ' (g.s.trans e)) kr (fun Hs' H' σ' γ' e => kb Hs' H' σ' γ' (g.s.trans e)) fun Hs' H' σ' γ' e => kc Hs' H' σ' γ' (g.s.trans e)
theorem sw_ret (h : EW K te γ Φ.rt) : SW K (tRet te) γ Φ := fun Hs0 H0 Hs H σ E S kn kr _ _ =>
  h Hs0 H0 Hs H σ _ S fun Hs' H' v d g r p => kr Hs' H' v d (S.gr.trans g) r p
theorem sw_retN (h : Φ.rt .non) : SW K tRetN γ Φ := fun Hs0 H0 Hs H σ E S kn kr _ _ => kr Hs H .non .non S.gr .non h
theorem sw_drop (h : EW K te γ fun _ => Φ.nx γ) : SW K (tDrop te) γ Φ := fun Hs0 H0 Hs H σ E S kn kr _ _ =>
  h Hs0 H0 Hs H σ _ S fun Hs' H' v d g r p => kn Hs' H' σ γ g.s (S.grow g) p
/-- its own list becomes a datum -/
theorem sw_frz (i : Nat) {ds : List D} (hg : γ[i]? = some (some (.ow ds))) (h : SW K ts (γ.set i (some (.sh (.lst ds)))) Φ) : SW K ts γ Φ := fun Hs0 H0 Hs H σ E S kn kr kb kc => by
  obtain ⟨Hs1, e1, S1⟩ := S.freeze i hg
  exact h Hs0 H0 Hs1 H σ E S1 (fun Hs' H' σ' γ' e => kn Hs' H' σ' γ' (e1.trans e)) kr (fun Hs' H' σ' γ' e => kb Hs' H' σ' γ' (e1.trans e)) fun Hs' H' σ' γ' e => kc Hs' H' σ' γ' (e1.trans e)
theorem SW.mono {Φ Ψ : Out} (h : SW K ts γ Φ) (k1 : ∀ x, Φ.nx x → Ψ.nx x) (k2 : ∀ x, Φ.rt x → Ψ.rt x) (k3 : ∀ x, Φ.bk x → Ψ.bk x) (k4 : ∀ x, Φ.ct x → Ψ.ct x) : SW K ts γ Ψ := fun Hs0 H0 Hs H σ E S kn kr kb kc =>
  h Hs0 H0 Hs H σ E S (fun a b c d e f g => kn a b c d e f (k1 _ g)) (fun a b c d e f g => kr a b c d e f (k2 _ g)) (fun a b c d e f g => kb a b c d e f (k3 _ g)) (fun a b c d e f g => kc a b c d e f (k4 _ g))

/-! ### its own list -/
theorem own_at {Hs0 H0 Hs H : Hp} {σ : St} {ds : List D} (S : Sl K Hs0 H0 Hs H σ γ) (hg : γ[i]? = some (some (.ow ds))) : ∃ a vs, σ[i]? = some (some (.ref a)) ∧ Hs a = none ∧ H a = some (.lst vs) ∧ RepL K Hs vs ds := by
  obtain ⟨v, hv, a, vs, rfl, h1, h2, h3⟩ := S.ok i _ hg
  exact ⟨a, vs, hv, h1, h2, h3⟩
theorem sw_app {ds : List D} (hg : γ[i]? = some (some (.ow ds))) (l : ds.length < sizeS) (h : EW K te γ fun d => Φ.nx (γ.set i (some (.ow (ds ++ [d]))))) : SW K (tDrop (tBM K "list" rAppend (tVar i) (tCons te tNil))) γ Φ := fun Hs0 H0 Hs H σ E S kn kr _ _ => by
  obtain ⟨a, vs, hv, h1, h2, h3⟩ := own_at S hg
  refine ⟨.ref a, hv, .inl ⟨rfl, _, .of h2⟩, h Hs0 H0 Hs H σ _ S fun Hs' H' v d g r p => ?_⟩
  have S' := S.grow g
  refine ⟨a, vs, v, rfl, rfl, g.e.lst h2, by rw [h3.length]; exact Nat.lt_trans l (by decide), ?_⟩
  exact kn Hs' _ σ _ g.s (S'.put i hg hv (g.n _ _ h2 h1) ((RepL.mono g.s h3).append (.cons r .nil))) p
theorem sw_setI {ds : List D} {n : Nat} (hg : γ[i]? = some (some (.ow ds))) (h : EW K te γ fun d => EW K tb γ fun y => ∃ k : Int, y = .int k ∧ ∃ n, ixN ds.length k = some n ∧ Φ.nx (γ.set i (some (.ow (ds.set n d))))) : SW K (tAsg te (gSub (tVar i) tb rSetL)) γ Φ := fun Hs0 H0 Hs H σ E S kn kr _ _ => by
  obtain ⟨a, vs, hv, h1, h2, h3⟩ := own_at S hg
  refine h Hs0 H0 Hs H σ _ S fun Hs1 H1 v d g1 r1 h' => ⟨.ref a, hv, h' Hs0 H0 Hs1 H1 σ _ (S.grow g1) fun Hs2 H2 w y g2 r2 ⟨k, e, n, hn, p⟩ => ?_⟩
  subst e
  cases r2
  have g := g1.trans g2
  refine ⟨a, vs, k, n, rfl, rfl, g.e.lst h2, by rw [h3.length]; exact hn, ?_⟩
  exact kn Hs2 _ σ _ g.s ((S.grow g).put i hg hv (g.n _ _ h2 h1) (RepL.set (r1.mono g2.s) n (RepL.mono g.s h3))) p
theorem ew_lenO {ds : List D} {Φ : D → Prop} (hg : γ[i]? = some (some (.ow ds))) (k : Φ (.int ds.length)) : EW K (tCB (rLen K) (tCons (tVar i) tNil)) γ Φ := fun Hs0 H0 Hs H σ Q S q => by
  obtain ⟨a, vs, hv, h1, h2, h3⟩ := own_at S hg
  exact ⟨.ref a, hv, _, ds.length, rfl, .inl ⟨_, .of h2, h3.length.symm ▸ rfl⟩, q _ _ _ _ (.refl S.b) (.int _) k⟩
theorem ew_ixO {ds : List D} {Φ : D → Prop} (hg : γ[i]? = some (some (.ow ds))) (h : EW K tb γ fun y => ∃ k : Int, y = .int k ∧ ∃ d, atI ds k = some d ∧ Φ d) : EW K (tOp (rIxL K) (tVar i) tb) γ Φ := fun Hs0 H0 Hs H σ Q S q => by
  obtain ⟨a, vs, hv, h1, h2, h3⟩ := own_at S hg
  refine ⟨.ref a, hv, h Hs0 H0 Hs H σ _ S fun Hs1 H1 w y g1 r1 ⟨k, e, d, hd, p⟩ => ?_⟩
  subst e
  cases r1
  obtain ⟨v, k1, k2⟩ := rep_at (RepL.mono g1.s h3) hd
  exact ⟨a, vs, k, v, rfl, rfl, .of (g1.e.lst h2), k1, q _ _ _ _ g1 k2 p⟩
theorem ew_niO {xs : List Str} {Φ : D → Prop} (hg : γ[i]? = some (some (.ow (xs.map .str)))) (h : EW K ta γ fun y => ∃ z, y = .str z ∧ Φ (.bl (!decide (z ∈ xs)))) : EW K (tOp (rIn K true) ta (tVar i)) γ Φ := fun Hs0 H0 Hs H σ Q S q => by
  obtain ⟨a, vs, hv, h1, h2, h3⟩ := own_at S hg
  refine h Hs0 H0 Hs H σ _ S fun Hs1 H1 w y g1 r1 ⟨z, e, p⟩ => ⟨.ref a, hv, ?_⟩
  subst e
  cases r1
  have e := (RepL.mono g1.s h3).strs
  subst e
  refine ⟨a, _, rfl, .inl (.of (g1.e.lst h2)), rfl, str_flat xs, q _ _ _ _ g1 (.bl _) ?_⟩
  rw [inV_str]; exact p
theorem ew_inO {xs : List Str} {Φ : D → Prop} (hg : γ[i]? = some (some (.ow (xs.map .str)))) (h : EW K ta γ fun y => ∃ z, y = .str z ∧ Φ (.bl (decide (z ∈ xs)))) : EW K (tOp (rIn K false) ta (tVar i)) γ Φ := fun Hs0 H0 Hs H σ Q S q => by
  obtain ⟨a, vs, hv, h1, h2, h3⟩ := own_at S hg
  refine h Hs0 H0 Hs H σ _ S fun Hs1 H1 w y g1 r1 ⟨z, e, p⟩ => ⟨.ref a, hv, ?_⟩
  subst e
  cases r1
  have e := (RepL.mono g1.s h3).strs
  subst e
  refine ⟨a, _, rfl, .inl (.of (g1.e.lst h2)), rfl, str_flat xs, q _ _ _ _ g1 (.bl _) ?_⟩
  rw [inV_str]; exact p

/-! ### loops -/
theorem sw_for {wi : TI} {g : TG} {js : List Nat} (h : IW K wi γ fun ds => ∃ I : Nat → Gam → Prop, I 0 γ ∧
    (∀ i d γ', ds[i]? = some d → I i γ' → GW K g js d γ' fun γ2 => SW K tu γ2 { nx := I (i + 1), rt := Φ.rt, bk := Φ.nx, ct := I (i + 1) }) ∧ ∀ γ', I ds.length γ' → Φ.nx γ') : SW K (tFor wi g tu) γ Φ := fun Hs0 H0 Hs H σ E S kn kr kb kc =>
  h Hs0 H0 Hs H σ _ S fun Hs1 H1 J ds g1 Y ⟨I, i0, step, fin⟩ => by
    refine ⟨fun i m σ' H' => m = ds.length - i ∧ i ≤ ds.length ∧ ∃ Hs' γ', Same Hs1 Hs' ∧ Sl K Hs0 H0 Hs' H' σ' γ' ∧ I i γ', ⟨ds.length, by simp, Nat.zero_le _, Hs1, γ, .refl _, S.grow g1, i0⟩, ?_⟩
    rintro i m σ' H' ⟨rfl, hi, Hs', γ', e', S', iv⟩
    by_cases hlt : i < ds.length
    · refine .inr ⟨Y.go i Hs' H' e' S'.b hlt, fun σ2 H2 => ∃ Hs2 γ2, Same Hs1 Hs2 ∧ Sl K Hs0 H0 Hs2 H2 σ2 γ2 ∧ I (i + 1) γ2, fun σ2 H2 ⟨a, b, c⟩ => ⟨ds.length - (i + 1), by omega, rfl, hlt, a, b, c⟩, fun x H'' hy => ?_⟩
      have hd : ds[i]? = some ds[i] := by simp [hlt]
      obtain ⟨Hs2, g2, rx⟩ := Y.yld i Hs' H' ds[i] x H'' e' S'.b hd hy
      have e2 := e'.trans g2.s
      refine step i ds[i] γ' hd iv Hs0 H0 Hs2 H'' σ' x _ (S'.grow g2) rx fun σ3 γ3 S3 _ h3 => ?_
      refine h3 Hs0 H0 Hs2 H'' σ3 _ S3 (fun Hs4 H4 σ4 γ4 e4 S4 q => ⟨Hs4, γ4, e2.trans e4, S4, q⟩) kr (fun Hs4 H4 σ4 γ4 e4 S4 q => kn Hs4 H4 σ4 γ4 ((g1.s.trans e2).trans e4) S4 q) (fun Hs4 H4 σ4 γ4 e4 S4 q => ⟨Hs4, γ4, e2.trans e4, S4, q⟩)
    · have e : i = ds.length := by omega
      subst e
      exact .inl ⟨Y.stop Hs' H' e' S'.b, kn Hs' H' σ' γ' (g1.s.trans e') S' (fin γ' iv)⟩
theorem sw_while (I : Nat → Gam → Prop) (m0 : Nat) (h0 : I m0 γ) (hs : ∀ m γ', I m γ' → TW K t γ' fun b => (b = true → SW K tu γ' { nx := fun γ2 => ∃ m', m' < m ∧ I m' γ2, rt := Φ.rt, bk := Φ.nx, ct := fun γ2 => ∃ m', m' < m ∧ I m' γ2 }) ∧ (b = false → Φ.nx γ')) :
    SW K (tWhile t tu) γ Φ := fun Hs0 H0 Hs H σ E S kn kr kb kc => by
  refine ⟨fun m σ' H' => ∃ Hs' γ', Same Hs Hs' ∧ Sl K Hs0 H0 Hs' H' σ' γ' ∧ I m γ', ⟨m0, Hs, γ, .refl _, S, h0⟩, ?_⟩
  rintro m σ' H' ⟨Hs', γ', e', S', iv⟩
  refine hs m γ' iv Hs0 H0 Hs' H' σ' _ S' fun Hs2 H2 b g2 ⟨p1, p2⟩ => ?_
  cases b with
  | true =>
    rw [if_pos rfl]
    refine ⟨fun σ3 H3 => ∃ m', m' < m ∧ ∃ Hs3 γ3, Same Hs Hs3 ∧ Sl K Hs0 H0 Hs3 H3 σ3 γ3 ∧ I m' γ3, fun σ3 H3 ⟨m', a, b⟩ => ⟨m', a, b⟩, ?_⟩
    refine p1 rfl Hs0 H0 Hs2 H2 σ' _ (S'.grow g2) (fun Hs4 H4 σ4 γ4 e4 S4 ⟨m', l, q⟩ => ⟨m', l, Hs4, γ4, (e'.trans g2.s).trans e4, S4, q⟩) kr (fun Hs4 H4 σ4 γ4 e4 S4 q => kn Hs4 H4 σ4 γ4 ((e'.trans g2.s).trans e4) S4 q) (fun Hs4 H4 σ4 γ4 e4 S4 ⟨m', l, q⟩ => ⟨m', l, Hs4, γ4, (e'.trans g2.s).trans e4, S4, q⟩)
  | false =>
    rw [if_neg Bool.false_ne_true]
    exact kn Hs2 H2 σ' γ' (e'.trans g2.s) (S'.grow g2) (p2 rfl)
end

/-! ### defs -/
/-- a def by its data: n arguments with pre, its answer with post -/
def spD (K : PySem.W.Frag) (n : Nat) (pre : List D → Prop) (post : List D → D → Prop) : Sp := fun vs H Q _ => ∃ Hs ds, TbOk Hs H ∧ Same Hs H ∧ RepL K Hs vs ds ∧ ds.length = n ∧ pre ds ∧
  ∀ Hs' H' v d, Grow Hs H Hs' H' → Rep K Hs' v d → post ds d → Q v H'
def CallOk (n : Nat) (pre : List D → Prop) (post : List D → D → Prop) (Φ : D → Prop) (ds : List D) : Prop := ds.length = n ∧ pre ds ∧ ∀ d, post ds d → Φ d
theorem call_ok {n : Nat} {pre : List D → Prop} {post : List D → D → Prop} {Φ : D → Prop} {ds : List D} (l : ds.length = n) (h : pre ds) (k : ∀ d, post ds d → Φ d) : CallOk n pre post Φ ds := ⟨l, h, k⟩
theorem ew_call {K : PySem.W.Frag} {γ : Gam} {Φ : D → Prop} {n : Nat} {pre : List D → Prop} {post : List D → D → Prop} {E : XK} {tr : TA} (h : AW K tr γ fun ds => CallOk n pre post Φ ds) : EW K (tCall (spD K n pre post) [] E tr) γ Φ := fun Hs0 H0 Hs H σ Q S q =>
  h Hs0 H0 Hs H σ _ S fun Hs1 H1 vs ds g1 r1 ⟨l, p, k⟩ => ⟨Hs1, ds, g1.t S.tb, g1.b, by rw [List.append_nil]; exact r1, l, p, fun Hs2 H2 v d g2 r2 ps => q _ _ _ _ (g1.trans g2) r2 (k d ps)⟩
def gam0 (n : Nat) (ds : List D) : Gam := ds.map (fun d => some (.sh d)) ++ List.replicate (n - ds.length) none
theorem sl_start {K : PySem.W.Frag} {Hs H : Hp} {N : List Str} {vs : List V} {ds : List D} (tb : TbOk Hs H) (b : Same Hs H) (r : RepL K Hs vs ds) : Sl K Hs H Hs H (L2.start N vs) (gam0 N.length ds) := by
  have lk : ∀ (i : Nat) (s : Slot), (gam0 N.length ds)[i]? = some (some s) → ∃ d, s = .sh d ∧ ds[i]? = some d := fun i s h => by
    unfold gam0 at h
    by_cases hi : i < ds.length
    · rw [List.getElem?_append_left (by simpa using hi), List.getElem?_map] at h
      cases e : ds[i]? with
      | none => rw [e] at h; cases h
      | some d => rw [e] at h; cases h; exact ⟨d, rfl, rfl⟩
    · rw [List.getElem?_append_right (by simpa using hi), List.getElem?_replicate] at h
      split at h <;> cases h
  refine ⟨.refl b, ?_, fun i s h => ?_, fun i es a h _ => ?_, fun i j es fs a h _ _ _ => ?_, tb⟩
  · unfold L2.start gam0
    rw [List.length_append, List.length_append, List.length_map, List.length_map, List.length_replicate, List.length_replicate, r.length]
  · obtain ⟨d, rfl, hd⟩ := lk i s h
    obtain ⟨v, hv, rv⟩ := r.get hd
    refine ⟨v, ?_, rv⟩
    unfold L2.start
    have hi : i < vs.length := (List.getElem?_eq_some_iff.mp hv).1
    rw [List.getElem?_append_left (by simpa using hi), List.getElem?_map, hv]; rfl
  · obtain ⟨d, e, _⟩ := lk i _ h; cases e
  · obtain ⟨d, e, _⟩ := lk i _ h; cases e
section
variable {P : Program} {w : World} {K : PySem.W.Frag} {mg : Str → Option Value} {base : Heap}
/-- THE RULE: a def by its body over data -/
theorem def_ok {x qual : Str} {st : Stmt} {f : Addr} {fd : FuncData} {N ps : List Str} {k : Nat} {pre : List D → Prop} {post : List D → D → Prop} (F : Fun K x qual st f fd) (S : FnScope N ps (defScope st))
    (hbody : ∀ (cdv : Value) (A : Around) (outer : List Env) (s : Shared) (H : Hp) (E : XK), Room k (A.deeper (PyProof.Rows.envOfC qual (defScope st) s.heap.objs.size f cdv)) → ∀ ds, ds.length = ps.length → pre ds →
      ∃ t, PSs (cxOf CX0 P w K mg base N qual (defScope st) f cdv A outer s H E).nox (defBody st) t ∧ SW K t (gam0 N.length ds) { nx := fun _ => post ds .non, rt := post ds }) : FnOk P w K mg base CX0 (k + 1) f fd ps (spD K ps.length pre post) := by
  refine F.ok S (fun vs H Q E h => ?_) (fun cdv A outer s H vs Q E hr h => ?_)
  · obtain ⟨Hs, ds, _, _, r, l, _⟩ := h
    rw [r.length]; exact l
  · obtain ⟨Hs, ds, tb, b, r, l, p, q⟩ := h
    obtain ⟨t, ht, hw⟩ := hbody cdv A outer s H E hr ds l p
    exact ⟨t, ht, hw Hs H Hs H _ _ (sl_start tb b r) (fun Hs' H' σ' γ' e S' p => q Hs' H' _ _ S'.gr .non p) (fun Hs' H' v d g r p => q Hs' H' v d g r p) (fun _ _ _ _ _ _ z => z.elim) (fun _ _ _ _ _ _ z => z.elim)⟩
end
end Z

namespace Z
open PySem PySem.Spec L2
variable [Tabs]
section
variable {K : PySem.W.Frag} {γ : Gam} {Φ Ψ : D → Prop} {ta tb tc te : TE} {d x y : D} {i j : Nat}

/-! ### ints -/
theorem rw_add {i j : Int} (k : Φ (.int (i + j))) : RW2 K (rI0 fun i j => .int (i + j)) (.int i) (.int j) Φ := rw_I0 rfl k
theorem rw_sub {i j : Int} (k : Φ (.int (i - j))) : RW2 K (rI0 fun i j => .int (i - j)) (.int i) (.int j) Φ := rw_I0 rfl k
theorem rw_mul {i j : Int} (c : CMul i j) (k : Φ (.int (i * j))) : RW2 K (rI CMul fun i j => .int (i * j)) (.int i) (.int j) Φ := rw_I c rfl k
theorem rw_fdiv {i j : Int} (c : CDiv i j) (k : Φ (.int (i / j))) : RW2 K (rI CDiv fun i j => .int (i / j)) (.int i) (.int j) Φ := rw_I c rfl k
theorem rw_mod {i j : Int} (c : 0 < j) (k : Φ (.int (i % j))) : RW2 K (rI (fun _ j => 0 < j) fun i j => .int (i % j)) (.int i) (.int j) Φ := rw_I c rfl k
theorem rw_pow {i j : Int} (c : CPow i j) (k : Φ (.int (i ^ j.toNat))) : RW2 K (rI CPow fun i j => .int (i ^ j.toNat)) (.int i) (.int j) Φ := rw_I c rfl k
theorem rw_lt {i j : Int} (k : Φ (.bl (decide (i < j)))) : RW2 K (rI0 fun i j => .bl (decide (i < j))) (.int i) (.int j) Φ := rw_I0 rfl k
theorem rw_le {i j : Int} (k : Φ (.bl (decide (i ≤ j)))) : RW2 K (rI0 fun i j => .bl (decide (i ≤ j))) (.int i) (.int j) Φ := rw_I0 rfl k
theorem rw_gt {i j : Int} (k : Φ (.bl (decide (j < i)))) : RW2 K (rI0 fun i j => .bl (decide (j < i))) (.int i) (.int j) Φ := rw_I0 rfl k
theorem rw_ge {i j : Int} (k : Φ (.bl (decide (j ≤ i)))) : RW2 K (rI0 fun i j => .bl (decide (j ≤ i))) (.int i) (.int j) Φ := rw_I0 rfl k
theorem ew_neg {g : Int → V} (h : EW K ta γ fun d => ∃ i, d = .int i ∧ plainV (g i) = true ∧ Φ (ofV (g i))) : EW K (tUn (rU g) ta) γ Φ := fun Hs0 H0 Hs H σ Q S q =>
  h Hs0 H0 Hs H σ _ S fun Hs' H' v d gr r ⟨i, e, pl, p⟩ => by
    subst e; cases r
    exact ⟨i, rfl, q _ _ _ _ gr (.ofV pl) p⟩
theorem ew_isN (h : EW K ta γ fun d => ∃ b, ((d = .non ↔ b = true)) ∧ Φ (.bl b)) : EW K (tIsN ta) γ Φ := fun Hs0 H0 Hs H σ Q S q =>
  h Hs0 H0 Hs H σ _ S fun Hs' H' v d g r ⟨b, e, p⟩ => by
    have eb : decide (v = V.non) = b := by
      cases b with
      | true => rw [e.mpr rfl] at r; cases r; rfl
      | false =>
        refine decide_eq_false fun z => ?_
        subst z
        cases r
        exact absurd (e.mp rfl) (by decide)
    show Q (.bl (decide (v = .non))) H'
    rw [eb]
    exact q _ _ _ _ g (.bl _) p
theorem ew_notN (h : EW K ta γ fun d => ∃ b, ((d = .non ↔ b = true)) ∧ Φ (.bl (!b))) : EW K (tNotN ta) γ Φ := fun Hs0 H0 Hs H σ Q S q =>
  h Hs0 H0 Hs H σ _ S fun Hs' H' v d g r ⟨b, e, p⟩ => by
    have eb : decide (v = V.non) = b := by
      cases b with
      | true => rw [e.mpr rfl] at r; cases r; rfl
      | false =>
        refine decide_eq_false fun z => ?_
        subst z
        cases r
        exact absurd (e.mp rfl) (by decide)
    show Q (.bl (!decide (v = .non))) H'
    rw [eb]
    exact q _ _ _ _ g (.bl _) p

/-- an item of a list or a tuple -/
theorem rw_ixQL {ds : List D} {i : Int} (h : atI ds i = some d) (k : Φ d) : RW2 K (rIx K) (.lst ds) (.int i) Φ := fun Hs H v u Q b r1 r2 q => .inl (rw_ixL h k Hs H v u Q b r1 r2 q)
theorem rw_ixQT {ds : List D} {i : Int} (h : atI ds i = some d) (k : Φ d) : RW2 K (rIx K) (.tup ds) (.int i) Φ := fun Hs H v u Q b r1 r2 q => .inr (.inl (rw_ixT h k Hs H v u Q b r1 r2 q))
/-! ### kinds -/
def tyD : D → String
  | .non => "NoneType"
  | .bl _ => "bool"
  | .int _ => "int"
  | .str _ => "str"
  | .lst _ => "list"
  | .tup _ => "tuple"
  | .scr _ => "list"
  | .tpl _ => "tuple"
  | .ty _ => "type"
def goodTy : D → Bool
  | .scr _ => false
  | .ty _ => false
  | _ => true
theorem tyX_of {Hs H : Hp} {v : V} (b : Same Hs H) (r : Rep K Hs v x) (g : goodTy x = true) : TyX K H v (.type (tyD x)) := by
  cases r with
  | non => exact .base .non
  | bl b => exact .base (.bl b)
  | int i => exact .base (.int i)
  | str x => exact .base (.str x)
  | lst h r => exact .base (.lst (b _ _ h))
  | tup h r =>
    rcases sameT b h with (h | ⟨o, h⟩) | ⟨o, its, n, h1, h2, _⟩
    · exact .base (.tup h)
    · exact .fTuple h
    · exact .kTuple h1 h2
  | ty n => cases g
  | scr h => cases g
  | tpl h r => exact .base (.tup (b _ _ h))
theorem rwl_isi {n : String} {b : Bool} (g : goodTy x = true) (hk : kitB (tyD x) n = some b) (hc : ClsV (.ty n) (.type n)) (k : Φ (.bl b)) : RWL K (rIsi K) [x, .ty n] Φ := fun Hs H vs Q bb r q => by
  cases r with
  | cons h r =>
    cases r with
    | cons h2 r =>
      cases h2; cases r
      exact ⟨_, .ty n, .type (tyD x), .type n, b, rfl, hc, tyX_of bb h g, kit_ty hk, q _ _ _ _ (.refl bb) (.bl _) k⟩

/-! ### texts -/
def rJoinZ (K : PySem.W.Frag) : V → List V → Hp → VK → Prop := fun x xs H Q => ∃ a p, ∃ ys : List Str, x = .str a ∧ xs = [.ref p] ∧ (SqL K H p (ys.map V.str) ∨ SqT K H p (ys.map V.str)) ∧ (ys.map (·.length)).sum + ys.length * a.length ≤ 16777216 ∧ Q (.str (Txt.join a ys)) H
theorem mt_joinZ {X : Cx} : MtR X "str.join" (rJoinZ X.K) := mt_join
theorem rwm_joinL {a : Str} {ys : List Str} (l : (ys.map (·.length)).sum + ys.length * a.length ≤ sizeS) (k : Φ (.str (Txt.join a ys))) : RWM K (rJoinZ K) (.str a) [.lst (ys.map .str)] Φ := fun Hs H v vs Q bb r1 r2 q => by
  cases r1
  cases r2 with
  | cons h r =>
    cases r
    cases h with
    | lst h r =>
      have e := r.strs; subst e
      exact ⟨a, _, ys, rfl, rfl, .inl (.of (bb _ _ h)), Nat.le_trans l (by decide), q _ _ _ _ (.refl bb) (.str _) k⟩
theorem rwm_joinT {a : Str} {ys : List Str} (l : (ys.map (·.length)).sum + ys.length * a.length ≤ sizeS) (k : Φ (.str (Txt.join a ys))) : RWM K (rJoinZ K) (.str a) [.tup (ys.map .str)] Φ := fun Hs H v vs Q bb r1 r2 q => by
  cases r1
  cases r2 with
  | cons h r =>
    cases r
    cases h with
    | tup h r =>
      have e := r.strs; subst e
      exact ⟨a, _, ys, rfl, rfl, .inr (sameT bb h), Nat.le_trans l (by decide), q _ _ _ _ (.refl bb) (.str _) k⟩
def tJoined (ts : List TE) : TE := fun σ H Q => tJs ts Str.empty σ H fun out H1 => Q (.str out) H1
theorem pe_joinedZ {X : Cx} {v1 v2 : Expr} {rest : List Expr} {ts : List TE} {pos : Pos} (h : PJ X (v1 :: v2 :: rest) ts) : PE X (.JoinedStr (v1 :: v2 :: rest) pos) (tJoined ts) := pe_joined h
def JW (K : PySem.W.Frag) (ts : List TE) (acc : Str) (γ : Gam) (Φ : Str → Prop) : Prop := ∀ (Hs0 H0 Hs H : Hp) (σ : L2.St) (Q : Str → Hp → Prop), Sl K Hs0 H0 Hs H σ γ → (∀ Hs' H' z, Grow Hs H Hs' H' → Φ z → Q z H') → tJs ts acc σ H Q
theorem jw_nil {acc : Str} {Φ : Str → Prop} (h : Φ acc) : JW K [] acc γ Φ := fun Hs0 H0 Hs H σ Q S q => q _ _ _ (.refl S.b) h
theorem jw_cons {ts : List TE} {acc : Str} {Φ : Str → Prop} (h : EW K te γ fun d => ∃ y, d = .str y ∧ (acc ++ y).length ≤ sizeS ∧ JW K ts (acc ++ y) γ Φ) : JW K (te :: ts) acc γ Φ := fun Hs0 H0 Hs H σ Q S q =>
  h Hs0 H0 Hs H σ _ S fun Hs' H' v d g r ⟨y, e, l, p⟩ => by
    subst e; cases r
    exact ⟨y, rfl, sz_ok l, p Hs0 H0 Hs' H' σ Q (S.grow g) fun Hs2 H2 z g2 p2 => q _ _ _ (g.trans g2) p2⟩
theorem ew_joined {ts : List TE} (h : JW K ts Str.empty γ fun z => Φ (.str z)) : EW K (tJoined ts) γ Φ := fun Hs0 H0 Hs H σ Q S q =>
  h Hs0 H0 Hs H σ _ S fun Hs' H' z g p => q _ _ _ _ g (.str _) p
theorem ew_fmtS (h : EW K te γ fun d => ∃ z, d = .str z ∧ z.length ≤ sizeS ∧ Φ (.str z)) : EW K (tFmt te) γ Φ := fun Hs0 H0 Hs H σ Q S q =>
  h Hs0 H0 Hs H σ _ S fun Hs' H' v d g r ⟨z, e, l, p⟩ => by
    subst e; cases r
    exact .inl ⟨z, rfl, sz_ok l, q _ _ _ _ g (.str _) p⟩
theorem ew_fmtI (h : EW K te γ fun d => ∃ i : Int, d = .int i ∧ i.natAbs < 2 ^ 64 ∧ Φ (.str (toString i))) : EW K (tFmt te) γ Φ := fun Hs0 H0 Hs H σ Q S q =>
  h Hs0 H0 Hs H σ _ S fun Hs' H' v d g r ⟨i, e, l, p⟩ => by
    subst e; cases r
    refine .inr ⟨i, rfl, ?_, q _ _ _ _ g (.str _) p⟩
    by_cases h0 : i.natAbs = 0
    · rw [h0]; decide
    · exact Nat.lt_trans ((Nat.log2_lt h0).mpr l) (by decide)
/-- a text, sign by sign -/
def signs (z : Str) : List D := z.cps.toList.map fun c => .str ⟨#[c]⟩
theorem iw_str {Φ : List D → Prop} (h : EW K te γ fun d => ∃ z, d = .str z ∧ Φ (signs z)) : IW K (iStr te) γ Φ := fun Hs0 H0 Hs H σ R S q =>
  h Hs0 H0 Hs H σ _ S fun Hs1 H1 v x g1 r1 ⟨z, e, p⟩ => by
    subst e; cases r1
    have ln : (signs z).length = z.cps.toList.length := by unfold signs; rw [List.length_map]
    refine ⟨z, rfl, q Hs1 H1 _ _ g1 ⟨fun i Hs' H' e1 e2 hi => ?_, fun i Hs' H' d x H'' e1 e2 hd hy => ?_, fun Hs' H' e1 e2 => ?_⟩ p⟩
    · rw [ln] at hi
      first
        | exact hi
        | exact (by simpa using hi)
        | exact ⟨_, List.getElem?_eq_getElem hi⟩
    · unfold signs at hd
      rw [List.getElem?_map] at hd
      cases e : z.cps.toList[i]? with
      | none => rw [e] at hd; cases hd
      | some c =>
        rw [e] at hd
        have hd' : D.str ⟨#[c]⟩ = d := Option.some.inj hd
        subst hd'
        obtain ⟨rfl, hx⟩ := hy
        first
          | (obtain ⟨c', hc, rfl⟩ := hx; rw [Array.getElem?_toList] at e; rw [e] at hc; cases hc; exact ⟨Hs', .refl e2, .str _⟩)
    · rw [ln]
      first
        | exact Nat.le_refl _
        | simp
theorem en_revL {Φ : List D → Prop} (h : EW K ta γ fun x => ∃ ds, x = .lst ds ∧ Φ ds.reverse) : EN K (tRevL K ta) γ Φ := fun Hs0 H0 Hs H σ Q S q =>
  h Hs0 H0 Hs H σ _ S fun Hs1 H1 v x g1 r1 ⟨ds, e, p⟩ => by
    subst e
    cases r1 with
    | lst h1 r1 =>
      exact ⟨_, _, rfl, .of (g1.b _ _ h1), fun a ha => q Hs1 _ a _ _ (g1.trans (.hid g1.b ha)) (g1.e.free ha) (g1.b.free ha) upd_same r1.reverse p⟩
end

/-! ### defs by name -/
section
variable {P : Program} {w : World} {K : PySem.W.Frag} {mg : Str → Option Value} {base : Heap}
structure Df (P : Program) (w : World) (K : PySem.W.Frag) (mg : Str → Option Value) (base : Heap) (x : Str) (k : Nat) (ps : List Str) (n : Nat) (pre : List D → Prop) (post : List D → D → Prop) : Prop where
  ex : ∃ f fd, mg x = some (.ref f) ∧ PySem.W.keepIn K (.ref f) = true ∧ Binds K fd ps [] ∧ FnOk P w K mg base CX0 k f fd ps (spD K n pre post) ∧ ∃ oc od osl, K.lookup f = some ⟨oc, od, .func fd, osl⟩
theorem pe_df {X : Cx} {x : Str} {k j : Nat} {ps : List Str} {n : Nat} {pre : List D → Prop} {post : List D → D → Prop} {p pos : Pos} {e : Expr} {es : List Expr} {t : TA} (g : Df X.prog X.w X.K X.mg X.base x j ps n pre post) (hr : Room k X.A) (hj : j ≤ k) (hg : Gl X x)
    (ha : PA X (e :: es) t) (hdb : (x == ("__debug__" : Str)) = false := by decide) (he : starEach (e :: es) X.env = (false, eval e X.env) :: starEach es X.env := by rfl) (hpl : (backTo pos (starEach es X.env)).any (·.1) = false := by rfl) :
    PE X (.Call (.Name x p) (e :: es) [] pos) (tCall (spD X.K n pre post) [] E0 t) := by
  obtain ⟨f, fd, h1, h2, h3, h4, _⟩ := g.ex
  exact pe_call h4 (hr.mono hj) hg h1 h2 h3 .nil pass0 ha hdb he hpl
/-- THE RULE for a def by its facts -/
theorem df_mk {x : Str} {params : Arguments} {body : List Stmt} {scope : Scope} {f : Addr} {fd : FuncData} {N ps : List Str} {k : Nat} {pre : List D → Prop} {post : List D → D → Prop} (F : FunD K x x params body scope [] [] f fd) (hm : mg x = some (.ref f)) (S : FnScope N ps scope)
    (hb : ∀ (kV doc pm : Value) (an : Option Addr) (cdv ct : Value) (us : List Value), us.length = ps.length → bindArgs (PySem.W.fnOf x x params body scope .none kV doc pm an cdv ct) ⟨us, []⟩ = pure (ps.zip us))
    (hbody : ∀ (cdv : Value) (A : Around) (outer : List Env) (s : Shared) (H : Hp) (E : XK), Room k (A.deeper (PyProof.Rows.envOfC x scope s.heap.objs.size f cdv)) → ∀ ds, ds.length = ps.length → pre ds →
      ∃ t, PSs (cxOf CX0 P w K mg base N x scope f cdv A outer s H E).nox body t ∧ SW K t (gam0 N.length ds) { nx := fun _ => post ds .non, rt := post ds }) : Df P w K mg base x (k + 1) ps ps.length pre post := by
  obtain ⟨oc, od, dV, kV, doc, pm, an, cdv, ct, osl, e1, lk, _⟩ := id F.ex
  refine ⟨f, fd, hm, F.kp, F.bindsN hb, F.ok S (fun vs H Q E h => ?_) (fun cdv A outer s H vs Q E hr h => ?_), oc, od, osl, lk⟩
  · obtain ⟨Hs, ds, _, _, r, l, _⟩ := h
    rw [r.length]; exact l
  · obtain ⟨Hs, ds, tb, b, r, l, p, q⟩ := h
    obtain ⟨t, ht, hw⟩ := hbody cdv A outer s H E hr ds l p
    exact ⟨t, ht.nox, hw Hs H Hs H _ _ (sl_start tb b r) (fun Hs' H' σ' γ' e S' p => q Hs' H' _ _ S'.gr .non p) (fun Hs' H' v d g r p => q Hs' H' v d g r p) (fun _ _ _ _ _ _ z => z.elim) (fun _ _ _ _ _ _ z => z.elim)⟩
theorem df_void {x : Str} {params : Arguments} {body : List Stmt} {scope : Scope} {f : Addr} {fd : FuncData} {ps : List Str} {n : Nat} {pre : List D → Prop} {post : List D → D → Prop} (F : FunD K x x params body scope [] [] f fd) (hm : mg x = some (.ref f))
    (hb : ∀ (kV doc pm : Value) (an : Option Addr) (cdv ct : Value) (us : List Value), us.length = ps.length → bindArgs (PySem.W.fnOf x x params body scope .none kV doc pm an cdv ct) ⟨us, []⟩ = pure (ps.zip us)) (hp : ∀ ds, ¬ pre ds) : Df P w K mg base x 0 ps n pre post := by
  obtain ⟨oc, od, dV, kV, doc, pm, an, cdv, ct, osl, e1, lk, _⟩ := id F.ex
  exact ⟨f, fd, hm, F.kp, F.bindsN hb, ⟨fun vs H Q E ⟨_, ds, _, _, _, _, p, _⟩ => (hp ds p).elim, fun _ _ _ _ _ _ _ _ _ _ _ _ _ ⟨_, ds, _, _, _, _, p, _⟩ => (hp ds p).elim⟩, oc, od, osl, lk⟩
theorem Df.imp {x : Str} {k : Nat} {ps : List Str} {n : Nat} {pre pre' : List D → Prop} {post post' : List D → D → Prop} (g : Df P w K mg base x k ps n pre post) (h1 : ∀ ds, ds.length = n → pre' ds → pre ds) (h2 : ∀ ds d, pre' ds → post ds d → post' ds d) : Df P w K mg base x k ps n pre' post' := by
  obtain ⟨f, fd, a, b, c, F, lk⟩ := g.ex
  refine ⟨f, fd, a, b, c, F.imp fun vs H Q E ⟨Hs, ds, tb, bb, r, l, p, q⟩ => ⟨Hs, ds, tb, bb, r, l, h1 ds l p, fun Hs' H' v d g r ps => q Hs' H' v d g r (h2 ds d p ps)⟩, lk⟩
/-- a module's constant -/
theorem pe_gs {X : Cx} {x z : Str} {pos : Pos} (hm : ∃ t, X.mg x = some (.str z t)) (hg : Gl X x) (hd : (x == ("__debug__" : Str)) = false := by decide) : PE X (.Name x pos) (tC (.str z)) := by
  obtain ⟨t, h⟩ := hm
  exact pe_glob hg h ⟨_, rfl⟩ hd
theorem pe_gi {X : Cx} {x : Str} {z : Int} {pos : Pos} (hm : ∃ t, X.mg x = some (.int z t)) (hg : Gl X x) (hd : (x == ("__debug__" : Str)) = false := by decide) : PE X (.Name x pos) (tC (.int z)) := by
  obtain ⟨t, h⟩ := hm
  exact pe_glob hg h ⟨_, rfl⟩ hd
/-- all but the tables -/
noncomputable def noTb (H : Hp) : Hp := fun b => open Classical in if b ∈ Tabs.T then none else H b
theorem noTb_in {H : Hp} {b : Addr} (h : b ∈ Tabs.T) : noTb H b = none := if_pos h
theorem noTb_out {H : Hp} {b : Addr} (h : b ∉ Tabs.T) : noTb H b = H b := if_neg h
theorem noTb_ok {H : Hp} (tb : ∀ P ∈ Tabs.T, GxR.TabG H P) : TbOk (noTb H) H := fun P hP => ⟨tb P hP, noTb_in hP⟩
theorem noTb_same (H : Hp) : Same (noTb H) H := fun a o e => by
  by_cases h : a ∈ Tabs.T
  · rw [noTb_in h] at e; cases e
  · rw [noTb_out h] at e; exact e
theorem noTb_sq {H : Hp} {a : Addr} {xs : List V} (tb : ∀ P ∈ Tabs.T, GxR.TabG H P) (h : SqL K H a xs) : SqL K (noTb H) a xs := by
  have no : ∀ o, H a = some o → (∀ ps, o ≠ .tbl ps) → noTb H a = some o := fun o e n => by
    rw [noTb_out (fun z => by obtain ⟨ps, q, _⟩ := tb a z; rw [e] at q; cases q; exact n ps rfl)]
    exact e
  rcases h with (h | ⟨o, h⟩) | h
  · exact .inl (.inl (no _ h fun ps z => by cases z))
  · exact .inl (.inr ⟨o, no _ h fun ps z => by cases z⟩)
  · exact .inr h
/-- the law's def, by its data -/
def spLawZ (K : PySem.W.Frag) : Sp := fun vs H Q _ => ∃ (a : Addr) (ns : List Int), vs = [.ref a] ∧ (∀ P ∈ Tabs.T, GxR.TabG H P) ∧ SqL K H a (ns.map V.int) ∧ ns.length ≤ 63 ∧ ∀ H', Q (.bl true) H'
theorem law_ofF {x qual : Str} {params : Arguments} {body : List Stmt} {scope : Scope} {dvs : List V} {kws : List (Str × V)} {k : Nat} {ps : List Str} {pre : List D → Prop} {post : List D → D → Prop} {f : Addr} {fd : FuncData} (F : FunD K x qual params body scope dvs kws f fd) (hm : mg x = some (.ref f))
    (g : Df P w K mg base x k ps 1 pre post) (hp : ∀ ns : List Int, ns.length ≤ 63 → pre [.scr ns]) (hq : ∀ ns d, post [.scr ns] d → d = .bl true) : FnOk P w K mg base CX0 k f fd ps (spLawZ K) := by
  obtain ⟨f', fd', a, b, c, F', oc, od, osl, lk⟩ := g.ex
  have e := a.symm.trans hm
  cases e
  obtain ⟨oc2, od2, dV, kV, doc, pm, an, cdv, ct, osl2, e1, lk2, _⟩ := id F.ex
  have e2 := lk.symm.trans lk2
  have e3 : fd' = fd := by cases e2; rfl
  subst e3
  refine F'.imp fun vs H Q E ⟨a, ns, e, tb, h, l, q⟩ => ⟨noTb H, [.scr ns], noTb_ok tb, noTb_same H, ?_, rfl, hp ns l, fun Hs' H' v d g r ps => ?_⟩
  · subst e; exact .cons (.scr (noTb_sq tb h)) .nil
  · have e := hq ns d ps
    subst e
    cases r
    exact q H'
end
end Z

namespace Z
open PySem PySem.Spec L2
variable [Tabs]
section
variable {K : PySem.W.Frag} {γ : Gam} {Φ Ψ : D → Prop} {ta tb tc te : TE} {d x y : D} {i j : Nat} {Φo : Out}
/-! ### its own list: pop(k), insert(k, e) -/
theorem RepL.eraseIdx {K : PySem.W.Frag} {H : Hp} : ∀ {vs : List V} {ds : List D} (i : Nat), RepL K H vs ds → RepL K H (vs.eraseIdx i) (ds.eraseIdx i)
  | _, _, _, .nil => .nil
  | _, _, 0, .cons _ r => r
  | _, _, i + 1, .cons q r => .cons q (RepL.eraseIdx i r)
def rPopZ : V → List V → Hp → VK → Prop := fun x vs H Q => ∃ l xs i k y, x = .ref l ∧ vs = [.int i] ∧ H l = some (.lst xs) ∧ -(2 ^ 63) ≤ i ∧ i < 2 ^ 63 ∧ seqIndex? i xs.length = some k ∧ xs[k]? = some y ∧ Q y (upd H l (.lst (xs.eraseIdx k)))
theorem mt_popZ {X : Cx} : MtR X "list.pop" rPopZ := mt_popAt
theorem sw_popAt {ds : List D} (hg : γ[i]? = some (some (.ow ds))) (h : EW K te γ fun d => ∃ k : Nat, d = .int (k : Int) ∧ k < ds.length ∧ ds.length ≤ sizeS ∧ Φo.nx (γ.set i (some (.ow (ds.eraseIdx k))))) :
    SW K (tDrop (tBM K "list" rPopZ (tVar i) (tCons te tNil))) γ Φo := fun Hs0 H0 Hs H σ E S kn kr _ _ => by
  obtain ⟨a, vs, hv, h1, h2, h3⟩ := own_at S hg
  refine ⟨.ref a, hv, .inl ⟨rfl, _, .of h2⟩, h Hs0 H0 Hs H σ _ S fun Hs' H' v d g r ⟨k, e, hk, hl, p⟩ => ?_⟩
  subst e
  cases r
  have hk2 : k < vs.length := by rw [h3.length]; exact hk
  have hl2 : ds.length ≤ 1000000 := hl
  have hs : seqIndex? (k : Int) vs.length = some k := (ixN_seq (by unfold ixN; rw [if_pos (by omega), if_pos (by omega)]; simp)).1
  refine ⟨a, vs, k, k, vs[k], rfl, rfl, g.e.lst h2, by omega, by omega, hs, by simp [hk2], ?_⟩
  exact kn Hs' _ σ _ g.s ((S.grow g).put i hg hv (g.n _ _ h2 h1) (RepL.eraseIdx k (RepL.mono g.s h3))) p
def rInsZ : V → List V → Hp → VK → Prop := fun x vs H Q => ∃ (l : Addr) (xs : List V) (i : Int) (y : V), x = .ref l ∧ vs = [.int i, y] ∧ H l = some (.lst xs) ∧ xs.length < sizeLine ∧ 0 ≤ i ∧ i < 2 ^ 63 ∧
    Q .non (upd H l (.lst (xs.take i.toNat ++ [y] ++ xs.drop i.toNat)))
theorem mt_insZ {X : Cx} : MtR X "list.insert" rInsZ := mt_insert
theorem sw_insert {ds : List D} (hg : γ[i]? = some (some (.ow ds))) (hl : ds.length < sizeS) (h : EW K tb γ fun y => ∃ k : Nat, y = .int (k : Int) ∧ k ≤ ds.length ∧ EW K te γ fun d => Φo.nx (γ.set i (some (.ow (ds.take k ++ [d] ++ ds.drop k))))) :
    SW K (tDrop (tBM K "list" rInsZ (tVar i) (tCons tb (tCons te tNil)))) γ Φo := fun Hs0 H0 Hs H σ E S kn kr _ _ => by
  obtain ⟨a, vs, hv, h1, h2, h3⟩ := own_at S hg
  have hl2 : ds.length < 1000000 := hl
  refine ⟨.ref a, hv, .inl ⟨rfl, _, .of h2⟩, h Hs0 H0 Hs H σ _ S fun Hs1 H1 v d g1 r1 ⟨k, e, hk, h'⟩ => ?_⟩
  subst e
  cases r1
  refine h' Hs0 H0 Hs1 H1 σ _ (S.grow g1) fun Hs2 H2 u d g2 r2 p => ?_
  have g := g1.trans g2
  refine ⟨a, vs, k, u, rfl, rfl, g.e.lst h2, by rw [h3.length]; exact Nat.lt_trans hl (by decide), by omega, by omega, ?_⟩
  rw [Int.toNat_natCast]
  have r3 := RepL.mono g.s h3
  exact kn Hs2 _ σ _ g.s ((S.grow g).put i hg hv (g.n _ _ h2 h1) (((r3.take k).append (.cons r2 .nil)).append (r3.drop k))) p
/-- tuples of any length -/
theorem rw_catA {ds es : List D} (l : ds.length + es.length ≤ sizeS) (k : Φ (.tup (ds ++ es))) : RW2 K (rCatF K) (.tup ds) (.tup es) Φ := fun Hs H v u Q b r1 r2 q => by
  cases r1 with
  | tup h1 r1 =>
    cases r2 with
    | tup h2 r2 =>
      refine ⟨_, _, _, _, rfl, rfl, sameT b h1, sameT b h2, by rw [r1.length, r2.length]; exact sz_ok l, ?_⟩
      first
        | (refine ⟨fun e => ?_, fun e => ?_, fun e e' p ob hd hp => ?_⟩
           · subst e; cases r1; exact q _ _ _ _ (.refl b) (.tup h2 r2) k
           · subst e; cases r2; rw [List.append_nil] at k; exact q _ _ _ _ (.refl b) (.tup h1 r1) k
           · exact q _ _ _ _ (.new b hp) (.tup ⟨ob, hd, upd_same⟩ (RepL.mono (sameNew (b.free hp)) (r1.append r2))) k)
        | (refine ⟨fun e => ?_, fun e e' => ?_, fun e e' p ob hd hp => ?_⟩
           · subst e; cases r1; exact q _ _ _ _ (.refl b) (.tup h2 r2) k
           · subst e'; cases r2; rw [List.append_nil] at k; exact q _ _ _ _ (.refl b) (.tup h1 r1) k
           · exact q _ _ _ _ (.new b hp) (.tup ⟨ob, hd, upd_same⟩ (RepL.mono (sameNew (b.free hp)) (r1.append r2))) k)
theorem slw_new {r : V → Option Int → Option Int → Hp → VK → Prop} {l u : Option Int} (h : SlN K r x l u fun ds => Φ (.lst ds)) : SlW K r x l u Φ := fun Hs H v Q b r1 q => h Hs H v Q b r1 fun Hs' H' a vs ds g h1 h2 h3 h4 p =>
  let ⟨g', r'⟩ := en_grow g h1 h2 h3 h4
  q _ _ _ _ g' r' p
theorem sl_TA {ds : List D} {l u : Option Int} (k : Φ (.tup (cutD ds l u))) : SlW K (rSlF K) (.tup ds) l u Φ := fun Hs H v Q b r q => by
  cases r with
  | tup h r =>
    refine ⟨_, _, rfl, sameT b h, fun e => ?_, fun _ p ob hd hp => ?_⟩
    · have e2 : cutD ds l u = ds := by
        unfold cutD
        rw [r.length] at e
        rw [e.1, e.2, List.drop_zero, Nat.sub_zero, List.take_length]
      rw [e2] at k
      exact q _ _ _ _ (.refl b) (.tup h r) k
    · refine q _ _ _ _ (.new b hp) (.tup ⟨ob, hd, upd_same⟩ (RepL.mono (sameNew (b.free hp)) ?_)) k
      unfold cutV cutD
      rw [r.length]
      exact (r.drop _).take _
/-! ### where it does not matter which -/
theorem at_ex {α : Type} {xs : List α} {i : Int} (h0 : 0 ≤ i) (h1 : i < xs.length) : ∃ x, x ∈ xs ∧ atI xs i = some x := by
  obtain ⟨n, rfl⟩ := Int.eq_ofNat_of_zero_le h0
  have hn : n < xs.length := by omega
  exact ⟨xs[n], List.getElem_mem hn, atI_nat (List.getElem?_eq_getElem hn)⟩
theorem rw_ixSe {z : Str} {i : Int} (l : z.length ≤ sizeS) (h0 : 0 ≤ i) (h1 : i < z.length) (k : ∀ c, c ∈ z.cps.toList → Φ (.str ⟨#[c]⟩)) : RW2 K rIxS (.str z) (.int i) Φ := by
  obtain ⟨c, hc, h⟩ := at_ex (xs := z.cps.toList) h0 (by simpa [Str.length] using h1)
  exact rw_ixS l h (k c hc)
/-- a sign of a text of known length -/
theorem rw_ixSk {z : Str} {i : Int} (L : Nat) (hL : z.length = L) (l : L ≤ 1000000) (h0 : 0 ≤ i) (h1 : i < (L : Int)) (k : ∀ c, Φ (.str ⟨#[c]⟩)) : RW2 K rIxS (.str z) (.int i) Φ := rw_ixSe (by rw [hL]; exact l) h0 (by rw [hL]; exact h1) fun c _ => k c
theorem rw_ixLe {ds : List D} {i : Int} (h0 : 0 ≤ i) (h1 : i < ds.length) (k : ∀ d, d ∈ ds → Φ d) : RW2 K (rIxL K) (.lst ds) (.int i) Φ := by
  obtain ⟨d, hd, h⟩ := at_ex h0 h1
  exact rw_ixL h (k d hd)
theorem rw_ixTe {ds : List D} {i : Int} (h0 : 0 ≤ i) (h1 : i < ds.length) (k : ∀ d, d ∈ ds → Φ d) : RW2 K (rIxT K) (.tup ds) (.int i) Φ := by
  obtain ⟨d, hd, h⟩ := at_ex h0 h1
  exact rw_ixT h (k d hd)
/-- a list of draws: ints from 0 to 999 -/
def Drw (ns : List Int) : Prop := ∀ n ∈ ns, 0 ≤ n ∧ n < 1000
theorem rw_ixI {ns : List Int} {i : Int} (h0 : 0 ≤ i) (h1 : i < ns.length) (hd : Drw ns) (k : ∀ n, 0 ≤ n → n < 1000 → Φ (.int n)) : RW2 K (rIxL K) (.lst (ns.map .int)) (.int i) Φ :=
  rw_ixLe h0 (by rw [List.length_map]; exact h1) fun d hm => by
    obtain ⟨n, hn, rfl⟩ := List.mem_map.mp hm
    exact k n (hd n hn).1 (hd n hn).2
theorem cut_map {α : Type} (f : α → D) (ns : List α) (lo hi : Option Int) : cutD (ns.map f) lo hi = (((ns.drop (HT.sIx ns.length 0 lo)).take (HT.sIx ns.length ns.length hi - HT.sIx ns.length 0 lo))).map f := by
  unfold cutD
  rw [List.length_map, List.map_take, List.map_drop]
theorem sln_I {ns : List Int} {l u : Option Int} {Φ : List D → Prop} (hd : Drw ns) (k : ∀ ms : List Int, Drw ms → ms.length ≤ ns.length → Φ (ms.map .int)) : SlN K (rSlL K) (.lst (ns.map .int)) l u Φ := by
  refine sln_L ?_
  rw [cut_map]
  refine k _ (fun n hn => hd n (List.mem_of_mem_drop (List.mem_of_mem_take hn))) ?_
  rw [List.length_take, List.length_drop]; omega
/-- [e for draw in draws] where e gives short texts -/
theorem en_lcS {wi : TI} {vs : List Nat} {Φ : List D → Prop} (L : Nat) (hj : j ∈ vs) (h : IW K wi γ fun ds => ds.length < sizeS ∧ (∀ d ∈ ds, EW K te ((wipeG γ vs).set j (some (.sh d))) fun y => ∃ z, y = .str z ∧ z.length ≤ L) ∧
      ∀ ys : List Str, ys.length = ds.length → (∀ y ∈ ys, y.length ≤ L) → Φ (ys.map .str)) : EN K (tLc wi (gName j) tYes te vs) γ Φ := by
  refine en_lc (js := [j]) (fun k hk => by rw [List.mem_singleton.mp hk]; exact hj) fun Hs0 H0 Hs H σ R S q => h Hs0 H0 Hs H σ R S fun Hs' H' J ds g Y ⟨hl, he, hf⟩ => q Hs' H' J ds g Y ?_
  refine ⟨fun i acc => i ≤ ds.length ∧ ∃ ys : List Str, acc = ys.map .str ∧ ys.length = i ∧ ∀ y ∈ ys, y.length ≤ L, ⟨Nat.zero_le _, [], rfl, rfl, fun _ h => by cases h⟩, fun i d acc hd hi => ?_, fun acc hi => ?_⟩
  · obtain ⟨_, ys, rfl, h2, h3⟩ := hi
    have hi2 : i < ds.length := (List.getElem?_eq_some_iff.mp hd).1
    refine ⟨by rw [List.length_map, h2]; omega, gw_name (tw_yes ⟨fun _ => ?_, fun z => by cases z⟩)⟩
    refine (he d (List.mem_of_getElem? hd)).mono fun y ⟨z, e, hz⟩ => ⟨hi2, ys ++ [z], by rw [List.map_append, e]; rfl, by rw [List.length_append, h2]; rfl, fun y hy => ?_⟩
    rcases List.mem_append.mp hy with q | q
    · exact h3 y q
    · rw [List.mem_singleton.mp q]; exact hz
  · obtain ⟨_, ys, rfl, h2, h3⟩ := hi
    exact hf ys h2 h3
end
end Z

namespace Z
open PySem PySem.Spec L2
variable [Tabs]
/-- a statement, then the rest, with a word between them -/
theorem sw_cut {K : PySem.W.Frag} {γ : Gam} {ts tz : TS} {Φ : Out} (M : Gam → Prop) (h : SW K ts γ { Φ with nx := M }) (k : ∀ γ', M γ' → SW K tz γ' Φ) : SW K (tSeq ts tz) γ Φ := sw_seq (h.mono k (fun _ z => z) (fun _ z => z) fun _ z => z)
/-- a slot's datum, known by what is true of it -/
theorem sw_gen {K : PySem.W.Frag} {γ : Gam} {ts : TS} {Φ : Out} {d : D} (i : Nat) (P : D → Prop) (hg : γ[i]? = some (some (.sh d))) (hp : P d) (h : ∀ d', P d' → SW K ts (γ.set i (some (.sh d'))) Φ) : SW K ts γ Φ := by
  have q := h d hp
  have e : γ.set i (some (.sh d)) = γ := by
    apply List.ext_getElem?
    intro j
    by_cases hj : i = j
    · subst hj
      have hi : i < γ.length := (List.getElem?_eq_some_iff.mp hg).1
      rw [List.getElem?_set_self hi, hg]
    · rw [List.getElem?_set_ne hj]
  rw [e] at q
  exact q
section
variable (K : PySem.W.Frag) {X : Cx}
theorem ix_listK (h : X.K = K) : IxR X (rIxL K) := h ▸ ix_list
theorem ix_tupK (h : X.K = K) : IxR X (rIxT K) := h ▸ ix_tup
theorem ix_seqK (h : X.K = K) : IxR X (rIx K) := h ▸ ix_seq
theorem op_inK (h : X.K = K) : OpR X (compareOp .In) (rIn K false) := h ▸ op_in_seq
theorem op_niK (h : X.K = K) : OpR X (compareOp .NotIn) (rIn K true) := h ▸ op_notIn_seq
theorem op_catK (h : X.K = K) : OpR X (binaryOp .Add) (rCatF K) := h ▸ op_catF
theorem call_lenK (h : X.K = K) : CallR X (.builtin "len") (rLen K) := h ▸ call_lenZ
theorem call_tupK (h : X.K = K) : CallR X (.type "tuple") (rTupOf K) := h ▸ call_tupZ
theorem call_listK (h : X.K = K) : CallR X (.type "list") (rListOf K) := h ▸ call_listZ
theorem cr_allK (hc : X.calm = true) (h : X.K = K) : CallR X (.builtin "all") (rAll K) := h ▸ cr_all hc
theorem cr_anyK (hc : X.calm = true) (h : X.K = K) : CallR X (.builtin "any") (rAny K) := h ▸ cr_any hc
theorem cr_sumK (hc : X.calm = true) (h : X.K = K) : CallR X (.builtin "sum") (rSum K) := h ▸ cr_sum hc
theorem call_isiK (h : X.K = K) : CallR X (.builtin "isinstance") (rIsi K) := h ▸ call_isi
theorem sl_listK (h : X.K = K) : SlR X (rSlL K) := h ▸ sl_list
theorem sl_tupK (h : X.K = K) : SlR X (rSlF K) := h ▸ sl_tupF
theorem mt_joinK (h : X.K = K) : MtR X "str.join" (rJoinZ K) := h ▸ mt_joinZ
theorem pi_listK (h : X.K = K) {tg l : Expr} {tl : TE} (hl : PE X l tl) : PI X tg l (iList K tl) := h ▸ pi_list hl
theorem pi_tupK (h : X.K = K) {tg l : Expr} {tl : TE} (hl : PE X l tl) : PI X tg l (iTup K tl) := h ▸ pi_tup hl
theorem pe_revLK (h : X.K = K) {e : Expr} {te : TE} {k : Nat} {p1 p2 p3 pos : Pos} (he : PE X e te) : PE X (.Subscript e (.Slice none none (some (.UnaryOp .USub (.Constant (.int 1) k p1) p2)) p3) pos) (tRevL K te) := h ▸ pe_revL he
theorem pg_tupK (h : X.K = K) {es : List Expr} {k : Nat} {t : TGs} {n : Nat} {pos : Pos} (hc : X.calm = true) (hh : PGs X es t)
    (hn : (assignEach es X.env).length = n := by rfl) (hst : (assignEach es X.env).findIdx? (·.1) = none := by rfl) : PG X (.Tuple es k pos) (gTup K n t) := h ▸ pg_tup hc hh hn hst
theorem pe_dfK (h : X.K = K) {x : Str} {k j : Nat} {ps : List Str} {n : Nat} {pre : List D → Prop} {post : List D → D → Prop} {p pos : Pos} {e : Expr} {es : List Expr} {t : TA} (g : Df X.prog X.w K X.mg X.base x j ps n pre post) (hr : Room k X.A) (hj : j ≤ k) (hg : Gl X x)
    (ha : PA X (e :: es) t) (hdb : (x == ("__debug__" : Str)) = false := by decide) (he : starEach (e :: es) X.env = (false, eval e X.env) :: starEach es X.env := by rfl) (hpl : (backTo pos (starEach es X.env)).any (·.1) = false := by rfl) :
    PE X (.Call (.Name x p) (e :: es) [] pos) (tCall (spD K n pre post) [] E0 t) := by
  subst h
  exact pe_df g hr hj hg ha hdb he hpl
theorem pe_bmK (h : X.K = K) {T id : String} {name : Str} {r : V → List V → Hp → VK → Prop} {o e : Expr} {es : List Expr} {to : TE} {t : TA} {apos cpos : Pos} (pa : PlainAttrs T) (slot : PySem.Slot T name id) (hty : typeOf (.builtin id) = pure (.type "method_descriptor")) (hm : MtR X id r) (ho : PE X o to) (ha : PA X (e :: es) t)
    (hbase : attributeBase o name X.env (eval o X.env) = eval o X.env := by rfl)
    (hfew : ((backTo cpos (starEach (e :: es) X.env)).all (fun x => !x.1) && (backToKw cpos (keywordEach [] X.env)).all (fun x => x.1.isSome)
      && decide ((e :: es).length + ([] : List Keyword).length + (if ([] : List Keyword).isEmpty then 0 else 1) < 30)) = true := by rfl)
    (hline : (apos.endLine == cpos.line) = true := by rfl) (hs : starEach (e :: es) X.env = (false, eval e X.env) :: starEach es X.env := by rfl) (hplain : (backTo cpos (starEach es X.env)).any (·.1) = false := by rfl) :
    PE X (.Call (.Attribute o name apos) (e :: es) [] cpos) (tBM K T r to t) := by
  subst h
  exact pe_bm pa slot hty hm ho ha hbase hfew hline hs hplain
end
end Z

namespace Z
open PySem PySem.Spec L2
variable [Tabs]
/-- a table has grown -/
theorem Grow.tab {Hs H H2 : Hp} {P : Addr} (tb : TbOk Hs H) (b : Same Hs H) (hP : P ∈ Tabs.T) (t : GxR.Tabbed P H H2) : Grow Hs H Hs H2 := by
  obtain ⟨⟨ps, h1, h2⟩, h3⟩ := tb P hP
  obtain ⟨⟨qs, q1, q2⟩, q3⟩ := t
  refine ⟨.refl _, fun a o e => ?_, fun a o e => ?_, fun _ _ _ n => n, fun tb R hR => ?_⟩
  · by_cases ha : a = P
    · subst ha
      rw [h1] at e; cases e
      exact .inr ⟨ps, qs, rfl, q1⟩
    · exact .inl (by rw [q3 a ha]; exact e)
  · have ha : a ≠ P := fun z => by rw [z, h3] at e; cases e
    rw [q3 a ha]; exact b a o e
  · by_cases ha : R = P
    · subst ha
      exact ⟨⟨qs, q1, q2⟩, h3⟩
    · obtain ⟨⟨rs, r1, r2⟩, r3⟩ := tb R hR
      exact ⟨⟨rs, by rw [q3 R ha]; exact r1, r2⟩, r3⟩
section
variable {K : PySem.W.Frag} {γ : Gam} {te : TE}
/-- t[::-1] -/
theorem ew_revT {Φ : D → Prop} (h : EW K te γ fun x => ∃ ds, x = .tup ds ∧ Φ (.tup ds.reverse)) : EW K (tRevF K te) γ Φ := fun Hs0 H0 Hs H σ Q S q =>
  h Hs0 H0 Hs H σ _ S fun Hs1 H1 v x g1 r1 ⟨ds, e, p⟩ => by
    subst e
    cases r1 with
    | tup h1 r1 => exact ⟨_, _, rfl, sameT g1.b h1, fun a ob hd ha => q _ _ _ _ (g1.trans (.new g1.b ha)) (.tup ⟨ob, hd, upd_same⟩ (RepL.mono (sameNew (g1.b.free ha)) r1.reverse)) p⟩
/-- tuple(e for target in walked if test) -/
theorem ew_gx {wi : TI} {g : TG} {js : List Nat} {tt : TT} {vs : List Nat} {P : Addr} {Φ : D → Prop} (hP : P ∈ Tabs.T) (hj : ∀ j ∈ js, j ∈ vs)
    (h : IW K wi γ fun ds => ∃ Iv : Nat → List D → Prop, Iv 0 [] ∧ (∀ i d acc, ds[i]? = some d → Iv i acc → acc.length < sizeS ∧ GW K g js d (wipeG γ vs) fun γ2 => TW K tt γ2 fun b => (b = true → EW K te γ2 fun y => Iv (i + 1) (acc ++ [y])) ∧ (b = false → Iv (i + 1) acc)) ∧
      ∀ acc, Iv ds.length acc → Φ (.tup acc)) : EW K (tTupGF (tGx P wi g tt te vs)) γ Φ := fun Hs0 H0 Hs H σ Q S q =>
  h Hs0 H0 Hs H σ _ S fun Hs1 H1 J ds g1 Y ⟨Iv, i0, step, fin⟩ => ⟨(g1.t S.tb P hP).1, fun H2 tb2 => by
    have S1 := S.grow g1
    have g12 : Grow Hs1 H1 Hs1 H2 := .tab S1.tb g1.b hP tb2
    refine ⟨fun i m ys Hx => m = ds.length - i ∧ i ≤ ds.length ∧ ∃ Hs' acc, Grow Hs1 H2 Hs' Hx ∧ RepL K Hs' ys acc ∧ Iv i acc, ⟨ds.length, by simp, Nat.zero_le _, Hs1, [], .refl g12.b, .nil, i0⟩, ?_⟩
    rintro i m ys Hx ⟨rfl, hi, Hs', acc, gx, rw', iv⟩
    by_cases hlt : i < ds.length
    · refine .inr ⟨Y.go i Hs' Hx gx.s gx.b hlt, fun ys' H' => ∃ Hs'' acc', Grow Hs1 H2 Hs'' H' ∧ RepL K Hs'' ys' acc' ∧ Iv (i + 1) acc', fun ys' H' ⟨a, b, c, d⟩ => ⟨ds.length - (i + 1), by omega, rfl, hlt, a, b, c, d⟩, fun x H'' hy => ?_⟩
      have hd : ds[i]? = some ds[i] := by simp [hlt]
      obtain ⟨Hs2, g2, rx⟩ := Y.yld i Hs' Hx ds[i] x H'' gx.s gx.b hd hy
      obtain ⟨sz, st⟩ := step i ds[i] acc hd iv
      have S2 : Sl K Hs0 H0 Hs2 H'' (wipe σ vs) (wipeG γ vs) := (((S1.grow g12).grow gx).grow g2).wipe vs
      refine st Hs0 H0 Hs2 H'' (wipe σ vs) x _ S2 rx fun σ2 γ2 S3 w3 h3 => ⟨by rw [w3 vs hj, wipe_wipe], ?_⟩
      refine h3 Hs0 H0 Hs2 H'' σ2 _ S3 fun Hs3 H3 b g3 ⟨p1, p2⟩ => ?_
      cases b with
      | true =>
        rw [if_pos rfl]
        refine p1 rfl Hs0 H0 Hs3 H3 σ2 _ (S3.grow g3) fun Hs4 H4 y dy g4 r4 p4 => ?_
        exact ⟨by rw [rw'.length]; exact Nat.lt_trans sz (by decide), Hs4, acc ++ [dy], ((gx.trans g2).trans g3).trans g4, (RepL.mono ((g2.trans g3).trans g4).s rw').append (.cons r4 .nil), p4⟩
      | false =>
        rw [if_neg Bool.false_ne_true]
        exact ⟨Hs3, acc, (gx.trans g2).trans g3, RepL.mono (g2.trans g3).s rw', p2 rfl⟩
    · have e : i = ds.length := by omega
      subst e
      refine .inl ⟨Y.stop Hs' Hx gx.s gx.b, fun p ob hd hp => ?_⟩
      exact q _ _ _ _ (((g1.trans g12).trans gx).trans (.new gx.b hp)) (.tup ⟨ob, hd, upd_same⟩ (RepL.mono (sameNew (gx.b.free hp)) rw')) (fin acc iv)⟩
end
section
variable {K : PySem.W.Frag} {γ : Gam} {te : TE} {i : Nat} {Φ : Out}
/-- xs.extend(t) -/
theorem sw_extT {ds : List D} (hg : γ[i]? = some (some (.ow ds))) (h : EW K te γ fun d => ∃ es, d = .tup es ∧ ds.length + es.length ≤ sizeS ∧ Φ.nx (γ.set i (some (.ow (ds ++ es))))) : SW K (tDrop (tBM K "list" (rExtT K) (tVar i) (tCons te tNil))) γ Φ := fun Hs0 H0 Hs H σ E S kn kr _ _ => by
  obtain ⟨a, vs, hv, h1, h2, h3⟩ := own_at S hg
  refine ⟨.ref a, hv, .inl ⟨rfl, _, .of h2⟩, h Hs0 H0 Hs H σ _ S fun Hs' H' v d g r ⟨es, e, l, p⟩ => ?_⟩
  subst e
  cases r with
  | tup hh rr => exact ⟨a, _, vs, _, rfl, rfl, g.e.lst h2, sameT g.b hh, by rw [h3.length, rr.length]; exact sz_ok l, kn Hs' _ σ _ g.s ((S.grow g).put i hg hv (g.n _ _ h2 h1) ((RepL.mono g.s h3).append rr)) p⟩
end
section
variable {P : Program} {w : World} {K : PySem.W.Frag} {mg : Str → Option Value} {base : Heap}
/-- THE RULE for a def whose code object is known -/
theorem df_mkT {x : Str} {params : Arguments} {body : List Stmt} {scope : Scope} {fd : FuncData} {N ps : List Str} {k : Nat} {pre : List D → Prop} {post : List D → D → Prop} (F : FunD K x x params body scope [] [] (He.fAd K (x, none)) fd) (hm : mg x = some (.ref (He.fAd K (x, none)))) (S : FnScope N ps scope)
    (hb : ∀ (kV doc pm : Value) (an : Option Addr) (cdv ct : Value) (us : List Value), us.length = ps.length → bindArgs (PySem.W.fnOf x x params body scope .none kV doc pm an cdv ct) ⟨us, []⟩ = pure (ps.zip us))
    (hbody : ∀ (A : Around) (outer : List Env) (s : Shared) (H : Hp) (E : XK), Room k (A.deeper (PyProof.Rows.envOfC x scope s.heap.objs.size (He.fAd K (x, none)) (.ref (He.codeOf K (x, none))))) → ∀ ds, ds.length = ps.length → pre ds →
      ∃ t, PSs (cxOf CX0 P w K mg base N x scope (He.fAd K (x, none)) (.ref (He.codeOf K (x, none))) A outer s H E).nox body t ∧ SW K t (gam0 N.length ds) { nx := fun _ => post ds .non, rt := post ds }) : Df P w K mg base x (k + 1) ps ps.length pre post := by
  have bN := F.bindsN hb
  have kp := F.kp
  obtain ⟨oc, od, dV, kV, doc, pm, an, cdv, ct, osl, rfl, lk, hcd, _, _⟩ := F.ex
  obtain ⟨c, rfl⟩ := He.codeIn_ref hcd
  have e : He.codeOf K (x, none) = c := He.codeOf_eq lk rfl
  subst e
  refine ⟨_, _, hm, kp, bN, fn_of lk hcd S (fun vs H Q E h => ?_) (fun A outer s H vs Q E hr h => ?_), oc, od, osl, lk⟩
  · obtain ⟨Hs, ds, _, _, r, l, _⟩ := h
    rw [r.length]; exact l
  · obtain ⟨Hs, ds, tb, b, r, l, p, q⟩ := h
    obtain ⟨t, ht, hw⟩ := hbody A outer s H E hr ds l p
    exact ⟨t, ht.nox, hw Hs H Hs H _ _ (sl_start tb b r) (fun Hs' H' σ' γ' e S' p => q Hs' H' _ _ S'.gr .non p) (fun Hs' H' v d g r p => q Hs' H' v d g r p) (fun _ _ _ _ _ _ z => z.elim) (fun _ _ _ _ _ _ z => z.elim)⟩
abbrev TBof (K : PySem.W.Frag) (mg : Str → Option Value) (base : Heap) (x : Str) : Prop := GxR.TabB base mg (He.codeOf K (x, none)) (He.tabOf K (He.codeOf K (x, none)))
abbrev Tof (K : PySem.W.Frag) (x : Str) : Addr := He.tabOf K (He.codeOf K (x, none))
end
end Z

namespace Z
open PySem PySem.Spec L2 StX
variable [Tabs]
/-- a def with a star parameter, by its data: all that it is called with -/
def spS (K : PySem.W.Frag) (pre : List D → Prop) (post : List D → D → Prop) : Sp := fun vs H Q _ => ∃ Hs ds, TbOk Hs H ∧ Same Hs H ∧ RepL K Hs vs ds ∧ pre ds ∧
  ∀ Hs' H' v d, Grow Hs H Hs' H' → Rep K Hs' v d → post ds d → Q v H'
structure DfS (P : Program) (w : World) (K : PySem.W.Frag) (mg : Str → Option Value) (base : Heap) (x : Str) (k : Nat) (pre : List D → Prop) (post : List D → D → Prop) : Prop where
  ex : ∃ f, mg x = some (.ref f) ∧ PySem.W.keepIn K (.ref f) = true ∧ FnR P w K mg base CX0 k f (spS K pre post)
section
variable {P : Program} {w : World} {K : PySem.W.Frag} {mg : Str → Option Value} {base : Heap}
theorem RepL.split {H : Hp} : ∀ {vs : List V} {as bs : List D}, RepL K H vs (as ++ bs) → ∃ us ws, vs = us ++ ws ∧ RepL K H us as ∧ RepL K H ws bs
  | vs, [], bs, r => ⟨[], vs, rfl, .nil, r⟩
  | _, a :: as, bs, r => by
    cases r with
    | cons h r =>
      obtain ⟨us, ws, e, r1, r2⟩ := RepL.split r
      exact ⟨_ :: us, ws, by rw [e]; rfl, .cons h r1, r2⟩
/-- THE RULE for a def with a star parameter -/
theorem df_star {x pv : Str} {params : Arguments} {body : List Stmt} {scope : Scope} {f : Addr} {fd : FuncData} {N ps : List Str} {k : Nat} {pre : List D → Prop} {post : List D → D → Prop} (F : FunD K x x params body scope [] [] f fd) (hm : mg x = some (.ref f)) (S : FnScope N (ps ++ [pv]) scope)
    (hb : ∀ (kV doc pm : Value) (an : Option Addr) (cdv ct : Value) (us rest : List Value), us.length = ps.length → bindArgs (PySem.W.fnOf x x params body scope .none kV doc pm an cdv ct) ⟨us ++ rest, []⟩ = (newTuple rest >>= fun t => pure (ps.zip us ++ [(pv, t)])))
    (hpre : ∀ ds, pre ds → ∃ as rest, ds = as ++ rest ∧ as.length = ps.length ∧ rest.length ≤ sizeS)
    (hbody : ∀ (cdv : Value) (A : Around) (outer : List Env) (s : Shared) (H : Hp) (E : XK), Room k (A.deeper (PyProof.Rows.envOfC x scope s.heap.objs.size f cdv)) → ∀ as rest, as.length = ps.length → pre (as ++ rest) →
      ∃ t, PSs (cxOf CX0 P w K mg base N x scope f cdv A outer s H E).nox body t ∧ SW K t (gam0 N.length (as ++ [.tup rest])) { nx := fun _ => post (as ++ rest) .non, rt := post (as ++ rest) }) : DfS P w K mg base x (k + 1) pre post := by
  have kp := F.kp
  obtain ⟨oc, od, dV, kV, doc, pm, an, cdv, ct, osl, rfl, lk, hcd, hdv, _⟩ := F.ex
  have e0 : dV = .none := by
    first
      | exact hdv
      | (cases hdv; rfl)
      | (unfold DflV at hdv; simpa using hdv)
  subst e0
  refine ⟨f, hm, kp, (fn_starF (ps := ps) (pv := pv) (k := k) (sp := fun vs H Q _ => ∃ Hs as rest, TbOk Hs H ∧ Same Hs H ∧ RepL K Hs vs (as ++ [.tup rest]) ∧ as.length = ps.length ∧ pre (as ++ rest) ∧ ∀ Hs' H' v d, Grow Hs H Hs' H' → Rep K Hs' v d → post (as ++ rest) d → Q v H') lk hcd S (hb _ _ _ _ _ _) (fun A outer s H vs Q E hr h => ?_)).imp fun vs H Q E ⟨Hs, ds, tb, b, r, p, q⟩ => ?_⟩
  · obtain ⟨Hs, as, rest, tb, b, r, l, p, q⟩ := h
    obtain ⟨t, ht, hw⟩ := hbody cdv A outer s H E hr as rest l p
    exact ⟨t, ht.nox, hw Hs H Hs H _ _ (sl_start tb b r) (fun Hs' H' σ' γ' e S' p => q Hs' H' _ _ S'.gr .non p) (fun Hs' H' v d g r p => q Hs' H' v d g r p) (fun _ _ _ _ _ _ z => z.elim) (fun _ _ _ _ _ _ z => z.elim)⟩
  · obtain ⟨as, rest, rfl, l, lr⟩ := hpre ds p
    obtain ⟨us, ws, rfl, r1, r2⟩ := RepL.split r
    refine ⟨us, ws, rfl, by rw [r1.length]; exact l, by rw [r2.length]; exact sz_ok lr, fun a ob hd ha => ?_⟩
    have g : Grow Hs H (upd Hs a (.frz ob (.tup ws))) (upd H a (.frz ob (.tup ws))) := .new b ha
    exact ⟨upd Hs a (.frz ob (.tup ws)), as, rest, g.t tb, g.b, (RepL.mono g.s r1).append (.cons (.tup ⟨ob, hd, upd_same⟩ (RepL.mono g.s r2)) .nil), l, p, fun Hs' H' v d g2 r ps => q Hs' H' v d (g.trans g2) r ps⟩
end
section
variable {X : Cx}
def tCallR (sp : Sp) (t : TA) : TE := fun σ H Q => t σ H fun vs H1 => sp vs H1 Q E0
theorem pe_dfS (K : PySem.W.Frag) (h : X.K = K) {x : Str} {k j : Nat} {pre : List D → Prop} {post : List D → D → Prop} {p pos : Pos} {e : Expr} {es : List Expr} {t : TA} (g : DfS X.prog X.w K X.mg X.base x j pre post) (hr : Room k X.A) (hj : j ≤ k) (hg : Gl X x)
    (ha : PA X (e :: es) t) (hdb : (x == ("__debug__" : Str)) = false := by decide) (he : starEach (e :: es) X.env = (false, eval e X.env) :: starEach es X.env := by rfl) (hpl : (backTo pos (starEach es X.env)).any (·.1) = false := by rfl) :
    PE X (.Call (.Name x p) (e :: es) [] pos) (tCallR (spS K pre post) t) := by
  subst h
  obtain ⟨f, hm, hk, F⟩ := g.ex
  refine ⟨fun pins s σ H Q I hh => wpAny_Call_Name_kw (ld_glob I hg hm ?_ hdb)⟩
  refine PySem.W.callWith_K (h₀ := X.base) I.ok.mod.kin hk (thn (ha.run pos pins s σ H _ I hh) fun us s1 ⟨vs, H1, I1, r, q⟩ => ⟨I1.kIn, ?_⟩) he hpl
  exact wpAny_call (run_fnR (F.mono hj) hr pass0 I1 r q)
/-- f(*t), f(a, *t) -/
theorem pe_dfS1 (K : PySem.W.Frag) (h : X.K = K) {x : Str} {k j : Nat} {pre : List D → Prop} {post : List D → D → Prop} {p pos : Pos} {e : Expr} {es : List Expr} {t : TA} (g : DfS X.prog X.w K X.mg X.base x j pre post) (hr : Room k X.A) (hj : j ≤ k) (hg : Gl X x)
    (ha : PA X (e :: es) t) (hdb : (x == ("__debug__" : Str)) = false := by decide) (he : starEach (e :: es) X.env = (false, eval e X.env) :: starEach es X.env := by rfl) (hst : (backTo pos (starEach es X.env)).any (·.1) = true := by rfl) :
    PE X (.Call (.Name x p) (e :: es) [] pos) (tCallR (spS K pre post) t) := by
  subst h
  obtain ⟨f, hm, hk, F⟩ := g.ex
  exact pe_callS2 (F.mono hj) hr hk hg hm pass0 ha hdb he hst
end
section
variable {K : PySem.W.Frag} {γ : Gam} {Φ : D → Prop}
theorem ew_callS {pre : List D → Prop} {post : List D → D → Prop} {tr : TA} (h : AW K tr γ fun ds => pre ds ∧ ∀ d, post ds d → Φ d) : EW K (tCallR (spS K pre post) tr) γ Φ := fun Hs0 H0 Hs H σ Q S q =>
  h Hs0 H0 Hs H σ _ S fun Hs1 H1 vs ds g1 r1 ⟨p, k⟩ => ⟨Hs1, ds, g1.t S.tb, g1.b, r1, p, fun Hs2 H2 v d g2 r2 ps => q _ _ _ _ (g1.trans g2) r2 (k d ps)⟩
/-- *t among the arguments -/
theorem aw_star {te : TE} {t : TA} {Ψ : List D → Prop} (h : EW K te γ fun d => ∃ ds, (d = .tup ds ∨ d = .lst ds) ∧ AW K t γ fun es => Ψ (ds ++ es)) : AW K (tStar K te t) γ Ψ := fun Hs0 H0 Hs H σ Q S q =>
  h Hs0 H0 Hs H σ _ S fun Hs1 H1 v x g1 r1 ⟨ds, e, p⟩ => by
    rcases e with e | e <;> subst e <;> cases r1
    · rename_i a vs h1 r1
      exact ⟨_, _, rfl, .inl (sameT g1.b h1), p Hs0 H0 Hs1 H1 σ _ (S.grow g1) fun Hs2 H2 ws es g2 r2 p2 => q _ _ _ _ (g1.trans g2) ((RepL.mono g2.s r1).append r2) p2⟩
    · rename_i a vs h1 r1
      exact ⟨_, _, rfl, .inr (.of (g1.b _ _ h1)), p Hs0 H0 Hs1 H1 σ _ (S.grow g1) fun Hs2 H2 ws es g2 r2 p2 => q _ _ _ _ (g1.trans g2) ((RepL.mono g2.s r1).append r2) p2⟩
end
end Z
namespace Z
open PySem PySem.Spec L2 StX
variable [Tabs]
/-- sum of a list of numbers -/
theorem rwl_sum {K : PySem.W.Frag} {Φ : D → Prop} {ns : List Int} (k : Φ (.int ns.sum)) : RWL K (rSum K) [.lst (ns.map .int)] Φ := fun Hs H vs Q b r q => by
  cases r with
  | cons h r =>
    cases r
    cases h with
    | lst h r =>
      have e := r.ints; subst e
      exact ⟨_, ns, rfl, .of (b _ _ h), q _ _ _ _ (.refl b) (.int _) k⟩
/-- t.count(text) of a tuple of texts -/
theorem ew_tcnt {K : PySem.W.Frag} {to : TE} {t : TA} {γ : Gam} {Φ : D → Prop} (h : EW K to γ fun x => ∃ zs : List Str, x = .tup (zs.map .str) ∧ AW K t γ fun ds => ∃ z, ds = [.str z] ∧ Φ (.int (zs.count z : Nat))) : EW K (tTcnt to t) γ Φ := fun Hs0 H0 Hs H σ Q S q =>
  h Hs0 H0 Hs H σ _ S fun Hs1 H1 v x g1 r1 ⟨zs, e, p⟩ => by
    subst e
    cases r1 with
    | tup h1 rr =>
      have ev := RepL.strs rr
      subst ev
      refine ⟨_, zs, rfl, monoT g1.b h1, p Hs0 H0 Hs1 H1 σ _ (S.grow g1) fun Hs2 H2 ws es g2 r2 ⟨z, ez, k⟩ => ?_⟩
      subst ez
      cases r2 with
      | cons rz rn =>
        cases rn
        cases rz
        exact ⟨z, rfl, monoT g2.b (monoT g2.s h1), q _ _ _ _ (g1.trans g2) (.int _) k⟩
end Z

namespace Z
open PySem PySem.Spec L2 StX
variable [Tabs]
section
variable {K : PySem.W.Frag} {γ : Gam} {ta te : TE} {Φ : D → Prop} {Ψ : Gam → Prop}
/-- text * int -/
theorem rw_repS {z : Str} {k : Int} (h1 : -(2 ^ 63) ≤ k) (h2 : k < 2 ^ 63) (l : z.length * k.toNat ≤ sizeS) (q : Φ (.str (repS z k.toNat))) : RW2 K rRepS (.str z) (.int k) Φ := fun Hs H v u Q b r1 r2 p => by
  cases r1; cases r2
  exact ⟨z, k, rfl, rfl, h1, h2, sz_ok l, p _ _ _ _ (.refl b) (.str _) q⟩
/-- text[::-1] -/
theorem ew_revS (h : EW K te γ fun d => ∃ z, d = .str z ∧ z.length ≤ sizeS ∧ Φ (.str (revS z))) : EW K (tRevS te) γ Φ := fun Hs0 H0 Hs H σ Q S q =>
  h Hs0 H0 Hs H σ _ S fun Hs' H' v d g r ⟨z, e, l, p⟩ => by
    subst e; cases r
    exact ⟨z, rfl, sz_ok l, q _ _ _ _ g (.str _) p⟩
/-- min of texts -/
theorem rwl_minS {zs : List Str} (h0 : zs ≠ []) (k : ∀ m, m ∈ zs → (∀ y ∈ zs, ¬ y.cps.toList < m.cps.toList) → Φ (.str m)) : RWL K (rMinS K) [.lst (zs.map .str)] Φ := fun Hs H vs Q b r q => by
  cases r with
  | cons h r =>
    cases r
    cases h with
    | lst h r =>
      have e := r.strs; subst e
      exact ⟨_, zs, rfl, .of (b _ _ h), h0, fun m hm hy => q _ _ _ _ (.refl b) (.str _) (k m hm hy)⟩
/-- enumerate of a list -/
def enumD (ds : List D) : List D := ds.mapIdx fun i d => .tpl [.int (i : Int), d]
theorem enumD_len (ds : List D) : (enumD ds).length = ds.length := by unfold enumD; rw [List.length_mapIdx]
theorem enumD_get {ds : List D} {i : Nat} {d : D} (h : (enumD ds)[i]? = some d) : ∃ x, ds[i]? = some x ∧ d = .tpl [.int (i : Int), x] := by
  unfold enumD at h
  rw [List.getElem?_mapIdx] at h
  obtain ⟨x, h1, h2⟩ := Option.map_eq_some_iff.mp h
  exact ⟨x, h1, h2.symm⟩
theorem iw_enum {t : TA} {Φ : List D → Prop} (h : AW K t γ fun ds => ∃ xs, ds = [.lst xs] ∧ Φ (enumD xs)) : IW K (iEnum K t) γ Φ := fun Hs0 H0 Hs H σ R S q =>
  h Hs0 H0 Hs H σ _ S fun Hs1 H1 vs ds g1 r1 ⟨xs, e, p⟩ => by
    subst e
    cases r1 with
    | cons h1 r2 =>
      cases r2
      cases h1 with
      | lst h1 r1 =>
        rename_i a vs
        refine ⟨a, vs, rfl, .of (g1.b _ _ h1), q Hs1 H1 _ _ g1 ⟨fun i Hs' H' e1 e2 hi => ?_, fun i Hs' H' d x H'' e1 e2 hd hy => ?_, fun Hs' H' e1 e2 => ?_⟩ p⟩
        · have hv : i < vs.length := by rw [r1.length, ← enumD_len]; exact hi
          exact ⟨vs, vs[i], .of (e2 _ _ (e1 _ _ h1)), by simp [hv]⟩
        · obtain ⟨T, y, rfl, hT, rfl, hy⟩ := hy
          have hx := hy vs (.of (e2 _ _ (e1 _ _ h1)))
          obtain ⟨d', hd', rd⟩ := r1.get' hx
          obtain ⟨d2, hd2, rfl⟩ := enumD_get hd
          rw [hd'] at hd2; cases hd2
          have n2 := e2.free hT
          exact ⟨_, .new e2 hT, .tpl upd_same (.cons (.int _) (.cons (rd.mono (e1.trans (sameNew n2))) .nil))⟩
        · exact ⟨vs, .of (e2 _ _ (e1 _ _ h1)), by rw [r1.length, enumD_len]; exact Nat.le_refl _⟩
theorem gw_tpl {gs : TGs} {js : List Nat} {ds : List D} {n : Nat} (hn : ds.length = n) (h : GWs K gs js ds γ Ψ) : GW K (gTup K n gs) js (.tpl ds) γ Ψ := fun Hs0 H0 Hs H σ v R S r q => by
  cases r with
  | tpl h1 r1 => exact ⟨_, _, rfl, .inl (.inl (S.b _ _ h1)), by rw [r1.length]; exact hn, h Hs0 H0 Hs H σ _ R S r1 q⟩
end
section
variable {X : Cx}
theorem cr_minSK (K : PySem.W.Frag) (h : X.K = K) (hc : X.calm = true) : CallR X (.builtin "min") (rMinS K) := by subst h; exact cr_minS hc
theorem pi_enumK (K : PySem.W.Frag) (h : X.K = K) {e : Expr} {ta : TA} {p pos tpos : Pos} {elts : List Expr} {kk : Nat} (hg : Gl X "enumerate") (hm : X.mg "enumerate" = none) (ha : PA X [e] ta) (hs : starEach [e] X.env = [(false, eval e X.env)] := by rfl) :
    PI X (.Tuple elts kk tpos) (.Call (.Name "enumerate" p) [e] [] pos) (iEnum K ta) := by subst h; exact pi_enum hg hm ha hs
end
end Z
namespace Z
open PySem PySem.Spec L2 StX
variable [Tabs]
theorem rw_neB {K : PySem.W.Frag} {Φ : D → Prop} {i j : Bool} (k : Φ (.bl (!decide (i = j)))) : RW2 K rNe (.bl i) (.bl j) Φ := fun Hs H v u Q b r1 r2 q => by
  cases r1; cases r2
  refine ⟨rfl, q _ _ _ _ (.refl b) (.bl _) ?_⟩
  have e : decide (V.bl i = V.bl j) = decide (i = j) := by cases i <;> cases j <;> rfl
  rw [e]; exact k
end Z
namespace Z
open PySem PySem.Spec L2 StX
variable [Tabs]
/-- in two steps -/
theorem sw_seqP {K : PySem.W.Frag} {γ : Gam} {ts tz : TS} {Φ : Out} (P : Gam → Prop) (h : SW K ts γ { Φ with nx := P }) (k : ∀ γ1, P γ1 → SW K tz γ1 Φ) : SW K (tSeq ts tz) γ Φ :=
  sw_seq (h.mono (fun x hx => k x hx) (fun _ h => h) (fun _ h => h) fun _ h => h)
theorem repS_len (z : Str) (n : Nat) : (repS z n).length = z.length * n := by
  unfold repS
  show ((List.replicate n z.cps.toList).flatten).toArray.size = _
  rw [List.size_toArray, List.length_flatten, List.map_replicate, List.sum_replicate_nat, Nat.mul_comm]
  rfl
theorem repS_tl (z : Str) (n : Nat) : TL.tl (repS z n) = (List.replicate n (TL.tl z)).flatten := rfl
end Z
namespace Z
open PySem PySem.Spec L2 StX
variable [Tabs]
theorem sw_ifA2 {K : PySem.W.Frag} {γ : Gam} {t : TT} {ts tz : TS} {Φ : Out} (h : TW K t γ fun _ => True) (h1 : SW K ts γ Φ) (h2 : SW K tz γ Φ) : SW K (tIfS t ts tz) γ Φ := sw_if (h.mono fun _ _ => ⟨fun _ => h1, fun _ => h2⟩)
end Z

/-! errors over data -/
namespace Z
open PySem PySem.Spec L2 StX
variable [Tabs]
/-! ### judgements at a fixed entry: where an error may leave -/
def EX (K : PySem.W.Frag) (Hs0 H0 Hb : Hp) (te : TE) (γ : Gam) (Φ : D → Prop) : Prop := ∀ (Hs H : Hp) (σ : L2.St) (Q : VK), Same Hb Hs → Sl K Hs0 H0 Hs H σ γ →
  (∀ Hs' H' v d, Grow Hs H Hs' H' → Rep K Hs' v d → Φ d → Q v H') → te σ H Q
def AX (K : PySem.W.Frag) (Hs0 H0 Hb : Hp) (ta : TA) (γ : Gam) (Φ : List D → Prop) : Prop := ∀ (Hs H : Hp) (σ : L2.St) (Q : List V → Hp → Prop), Same Hb Hs → Sl K Hs0 H0 Hs H σ γ →
  (∀ Hs' H' vs ds, Grow Hs H Hs' H' → RepL K Hs' vs ds → Φ ds → Q vs H') → ta σ H Q
def SX (K : PySem.W.Frag) (Hs0 H0 Hb : Hp) (ts : TS) (γ : Gam) (Φ : Out) : Prop := ∀ (Hs H : Hp) (σ : L2.St) (E : Ends), Same Hb Hs → Sl K Hs0 H0 Hs H σ γ →
  (∀ Hs' H' σ' γ', Same Hs Hs' → Sl K Hs0 H0 Hs' H' σ' γ' → Φ.nx γ' → E.nx σ' H') →
  (∀ Hs' H' v d, Grow Hs0 H0 Hs' H' → Rep K Hs' v d → Φ.rt d → E.rt v H') →
  (∀ Hs' H' σ' γ', Same Hs Hs' → Sl K Hs0 H0 Hs' H' σ' γ' → Φ.bk γ' → E.bk σ' H') →
  (∀ Hs' H' σ' γ', Same Hs Hs' → Sl K Hs0 H0 Hs' H' σ' γ' → Φ.ct γ' → E.ct σ' H') → ts E σ H
/-- W holds of each error with Ψ -/
def Wok (K : PySem.W.Frag) (Hs0 H0 Hb : Hp) (W : WX) (Ψ : XD → Gam → Prop) : Prop := ∀ (Hs H : Hp) (σ : L2.St) (γ : Gam) (cls : Value) (d : Option Addr) (x : XD), Same Hb Hs → Sl K Hs0 H0 Hs H σ γ → RepX K Hs H cls d x → Ψ x γ → W cls d σ H
section
variable {K : PySem.W.Frag} {Hs0 H0 Hb : Hp} {γ : Gam} {te ta tb : TE} {tr : TA} {t : TT} {ts tz tu : TS} {Φ : D → Prop} {Ω : Out} {W : WX} {Ψ : XD → Gam → Prop} {i : Nat}
theorem ex_of (h : EW K te γ Φ) : EX K Hs0 H0 Hb te γ Φ := fun Hs H σ Q _ => h Hs0 H0 Hs H σ Q
theorem ax_of {Φ : List D → Prop} (h : AW K tr γ Φ) : AX K Hs0 H0 Hb tr γ Φ := fun Hs H σ Q _ => h Hs0 H0 Hs H σ Q
theorem sx_of (h : SW K ts γ Ω) : SX K Hs0 H0 Hb ts γ Ω := fun Hs H σ E _ => h Hs0 H0 Hs H σ E
theorem EX.mono {Ψ : D → Prop} (h : EX K Hs0 H0 Hb te γ Φ) (k : ∀ d, Φ d → Ψ d) : EX K Hs0 H0 Hb te γ Ψ := fun Hs H σ Q hb S q => h Hs H σ Q hb S fun Hs' H' v d g r p => q Hs' H' v d g r (k d p)
theorem AX.mono {Φ Ψ : List D → Prop} (h : AX K Hs0 H0 Hb tr γ Φ) (k : ∀ d, Φ d → Ψ d) : AX K Hs0 H0 Hb tr γ Ψ := fun Hs H σ Q hb S q => h Hs H σ Q hb S fun Hs' H' v d g r p => q Hs' H' v d g r (k d p)
theorem ax_nil {Φ : List D → Prop} (h : Φ []) : AX K Hs0 H0 Hb tNil γ Φ := ax_of (aw_nil h)
theorem ax_cons {Φ : List D → Prop} (h : EX K Hs0 H0 Hb te γ fun d => AX K Hs0 H0 Hb tr γ fun ds => Φ (d :: ds)) : AX K Hs0 H0 Hb (tCons te tr) γ Φ := fun Hs H σ Q hb S q =>
  h Hs H σ _ hb S fun Hs1 H1 v d g1 r1 h1 => h1 Hs1 H1 σ _ (hb.trans g1.s) (S.grow g1) fun Hs2 H2 vs ds g2 r2 p => q _ _ _ _ (g1.trans g2) (.cons (r1.mono g2.s) r2) p
theorem ex_tup (h : AX K Hs0 H0 Hb tr γ fun ds => ds.length ≤ sizeS ∧ Φ (.tup ds)) : EX K Hs0 H0 Hb (tTupF tr) γ Φ := fun Hs H σ Q hb S q =>
  h Hs H σ _ hb S fun Hs1 H1 vs ds g1 r1 ⟨l, p⟩ => ⟨by rw [r1.length]; exact sz_ok l, fun a ob hd ha => q _ _ _ _ (g1.trans (.new g1.b ha)) (.tup ⟨ob, hd, upd_same⟩ (RepL.mono (sameNew (g1.b.free ha)) r1)) p⟩
theorem ex_op {r : R2} (h : EX K Hs0 H0 Hb ta γ fun x => EX K Hs0 H0 Hb tb γ fun y => RW2 K r x y Φ) : EX K Hs0 H0 Hb (tOp r ta tb) γ Φ := fun Hs H σ Q hb S q =>
  h Hs H σ _ hb S fun Hs1 H1 v x g1 r1 h1 => h1 Hs1 H1 σ _ (hb.trans g1.s) (S.grow g1) fun Hs2 H2 u y g2 r2 h2 => h2 Hs2 H2 v u Q g2.b (r1.mono g2.s) r2 fun Hs3 H3 w d g3 r3 p => q _ _ _ _ ((g1.trans g2).trans g3) r3 p
theorem ex_cb {r : List V → Hp → VK → Prop} (h : AX K Hs0 H0 Hb tr γ fun ds => RWL K r ds Φ) : EX K Hs0 H0 Hb (tCB r tr) γ Φ := fun Hs H σ Q hb S q =>
  h Hs H σ _ hb S fun Hs1 H1 vs ds g1 r1 h1 => h1 Hs1 H1 vs Q g1.b r1 fun Hs2 H2 w d g2 r2 p => q _ _ _ _ (g1.trans g2) r2 p
theorem ex_callN {n : Nat} {pre : List D → Prop} {post : List D → D → Prop} {E : XK} (h : AX K Hs0 H0 Hb tr γ fun ds => CallOk n pre post Φ ds) : EX K Hs0 H0 Hb (tCall (spD K n pre post) [] E tr) γ Φ := fun Hs H σ Q hb S q =>
  h Hs H σ _ hb S fun Hs1 H1 vs ds g1 r1 ⟨l, p, k⟩ => ⟨Hs1, ds, g1.t S.tb, g1.b, by rw [List.append_nil]; exact r1, l, p, fun Hs2 H2 v d g2 r2 ps => q _ _ _ _ (g1.trans g2) r2 (k d ps)⟩
/-- a def by its data that may let an error out -/
def spX (K : PySem.W.Frag) (n : Nat) (pre : List D → Prop) (post : List D → D → Prop) (xpost : List D → XD → Prop) : Sp := fun vs H Q E => ∃ Hs ds, TbOk Hs H ∧ Same Hs H ∧ RepL K Hs vs ds ∧ ds.length = n ∧ pre ds ∧
  (∀ Hs' H' v d, Grow Hs H Hs' H' → Rep K Hs' v d → post ds d → Q v H') ∧ ∀ Hs' H' cls d x, Grow Hs H Hs' H' → RepX K Hs' H' cls d x → xpost ds x → E cls d H'
def CallX (n : Nat) (pre : List D → Prop) (post : List D → D → Prop) (xpost : List D → XD → Prop) (Φ : D → Prop) (Θ : XD → Prop) (ds : List D) : Prop := ds.length = n ∧ pre ds ∧ (∀ d, post ds d → Φ d) ∧ ∀ x, xpost ds x → Θ x
theorem call_x {n : Nat} {pre : List D → Prop} {post : List D → D → Prop} {xpost : List D → XD → Prop} {Θ : XD → Prop} {ds : List D} (l : ds.length = n) (h : pre ds) (k : ∀ d, post ds d → Φ d) (kx : ∀ x, xpost ds x → Θ x) : CallX n pre post xpost Φ Θ ds := ⟨l, h, k, kx⟩
theorem ex_call {n : Nat} {pre : List D → Prop} {post : List D → D → Prop} {xpost : List D → XD → Prop} (hW : Wok K Hs0 H0 Hb W Ψ) (h : AX K Hs0 H0 Hb tr γ fun ds => CallX n pre post xpost Φ (fun x => Ψ x γ) ds) : EX K Hs0 H0 Hb (tCallS (spX K n pre post xpost) (WE W) tr) γ Φ := fun Hs H σ Q hb S q =>
  h Hs H σ _ hb S fun Hs1 H1 vs ds g1 r1 ⟨l, p, k, kx⟩ => ⟨Hs1, ds, g1.t S.tb, g1.b, r1, l, p, fun Hs2 H2 v d g2 r2 ps => q _ _ _ _ (g1.trans g2) r2 (k d ps), fun Hs2 H2 cls d x g2 r2 ps => hW Hs2 H2 σ γ cls d x (hb.trans (g1.trans g2).s) (S.grow (g1.trans g2)) r2 (kx x ps)⟩
/-! ### statements -/
theorem SX.mono {Φ Ω : Out} (h : SX K Hs0 H0 Hb ts γ Φ) (k1 : ∀ x, Φ.nx x → Ω.nx x) (k2 : ∀ x, Φ.rt x → Ω.rt x) (k3 : ∀ x, Φ.bk x → Ω.bk x) (k4 : ∀ x, Φ.ct x → Ω.ct x) : SX K Hs0 H0 Hb ts γ Ω := fun Hs H σ E hb S kn kr kb kc =>
  h Hs H σ E hb S (fun a b c d e f g => kn a b c d e f (k1 _ g)) (fun a b c d e f g => kr a b c d e f (k2 _ g)) (fun a b c d e f g => kb a b c d e f (k3 _ g)) (fun a b c d e f g => kc a b c d e f (k4 _ g))
theorem sx_seq (h : SX K Hs0 H0 Hb ts γ { Ω with nx := fun γ1 => SX K Hs0 H0 Hb tz γ1 Ω }) : SX K Hs0 H0 Hb (tSeq ts tz) γ Ω := fun Hs H σ E hb S kn kr kb kc =>
  h Hs H σ _ hb S (fun Hs1 H1 σ1 γ1 e1 S1 h1 => h1 Hs1 H1 σ1 E (hb.trans e1) S1 (fun Hs' H' σ' γ' e => kn Hs' H' σ' γ' (e1.trans e)) kr (fun Hs' H' σ' γ' e => kb Hs' H' σ' γ' (e1.trans e)) fun Hs' H' σ' γ' e => kc Hs' H' σ' γ' (e1.trans e)) kr kb kc
/-- a statement that lets nothing out, then the rest -/
theorem sx_seqW (h : SW K ts γ { Ω with nx := fun γ1 => SX K Hs0 H0 Hb tz γ1 Ω }) : SX K Hs0 H0 Hb (tSeq ts tz) γ Ω := sx_seq (sx_of h)
theorem sx_seqP (P : Gam → Prop) (h : SX K Hs0 H0 Hb ts γ { Ω with nx := P }) (k : ∀ γ1, P γ1 → SX K Hs0 H0 Hb tz γ1 Ω) : SX K Hs0 H0 Hb (tSeq ts tz) γ Ω :=
  sx_seq (h.mono (fun x hx => k x hx) (fun _ h => h) (fun _ h => h) fun _ h => h)
theorem sx_if (h : TW K t γ fun b => (b = true → SX K Hs0 H0 Hb ts γ Ω) ∧ (b = false → SX K Hs0 H0 Hb tz γ Ω)) : SX K Hs0 H0 Hb (tIfS t ts tz) γ Ω := fun Hs H σ E hb S kn kr kb kc =>
  h Hs0 H0 Hs H σ _ S fun Hs1 H1 b g ⟨p1, p2⟩ => by
    cases b with
    | true => exact p1 rfl Hs1 H1 σ E (hb.trans g.s) (S.grow g) (fun Hs' H' σ' γ' e => kn Hs' H' σ' γ' (g.s.trans e)) kr (fun Hs' H' σ' γ' e => kb Hs' H' σ' γ' (g.s.trans e)) fun Hs' H' σ' γ' e => kc Hs' H' σ' γ' (g.s.trans e)
    | false => exact p2 rfl Hs1 H1 σ E (hb.trans g.s) (S.grow g) (fun Hs' H' σ' γ' e => kn Hs' H' σ' γ' (g.s.trans e)) kr (fun Hs' H' σ' γ' e => kb Hs' H' σ' γ' (g.s.trans e)) fun Hs' H' σ' γ' e => kc Hs' H' σ' γ' (g.s.trans e)
theorem sx_next (h : Ω.nx γ) : SX K Hs0 H0 Hb tNext γ Ω := sx_of (sw_next h)
theorem sx_ret (h : EX K Hs0 H0 Hb te γ Ω.rt) : SX K Hs0 H0 Hb (tRet te) γ Ω := fun Hs H σ E hb S kn kr _ _ =>
  h Hs H σ _ hb S fun Hs' H' v d g r p => kr Hs' H' v d (S.gr.trans g) r p
theorem sx_drop (h : EX K Hs0 H0 Hb te γ fun _ => Ω.nx γ) : SX K Hs0 H0 Hb (tDrop te) γ Ω := fun Hs H σ E hb S kn kr _ _ =>
  h Hs H σ _ hb S fun Hs' H' v d g r p => kn Hs' H' σ γ g.s (S.grow g) p
theorem sx_asg (h : EX K Hs0 H0 Hb te γ fun d => Ω.nx (γ.set i (some (.sh d)))) : SX K Hs0 H0 Hb (tAsg te (gName i)) γ Ω := fun Hs H σ E hb S kn kr _ _ =>
  h Hs H σ _ hb S fun Hs' H' v d g r p => kn Hs' H' _ _ g.s ((S.grow g).set i r) p
theorem sx_frz (i : Nat) {ds : List D} (hg : γ[i]? = some (some (.ow ds))) (h : SX K Hs0 H0 Hb ts (γ.set i (some (.sh (.lst ds)))) Ω) : SX K Hs0 H0 Hb ts γ Ω := fun Hs H σ E hb S kn kr kb kc => by
  obtain ⟨Hs1, e1, S1⟩ := S.freeze i hg
  exact h Hs1 H σ E (hb.trans e1) S1 (fun Hs' H' σ' γ' e => kn Hs' H' σ' γ' (e1.trans e)) kr (fun Hs' H' σ' γ' e => kb Hs' H' σ' γ' (e1.trans e)) fun Hs' H' σ' γ' e => kc Hs' H' σ' γ' (e1.trans e)
theorem sx_for {wi : TI} {g : TG} {js : List Nat} (h : IW K wi γ fun ds => ∃ I : Nat → Gam → Prop, I 0 γ ∧
    (∀ i d γ', ds[i]? = some d → I i γ' → GW K g js d γ' fun γ2 => SX K Hs0 H0 Hb tu γ2 { nx := I (i + 1), rt := Ω.rt, bk := Ω.nx, ct := I (i + 1) }) ∧ ∀ γ', I ds.length γ' → Ω.nx γ') : SX K Hs0 H0 Hb (tFor wi g tu) γ Ω := fun Hs H σ E hb S kn kr kb kc =>
  h Hs0 H0 Hs H σ _ S fun Hs1 H1 J ds g1 Y ⟨I, i0, step, fin⟩ => by
    refine ⟨fun i m σ' H' => m = ds.length - i ∧ i ≤ ds.length ∧ ∃ Hs' γ', Same Hs1 Hs' ∧ Sl K Hs0 H0 Hs' H' σ' γ' ∧ I i γ', ⟨ds.length, by simp, Nat.zero_le _, Hs1, γ, .refl _, S.grow g1, i0⟩, ?_⟩
    rintro i m σ' H' ⟨rfl, hi, Hs', γ', e', S', iv⟩
    by_cases hlt : i < ds.length
    · refine .inr ⟨Y.go i Hs' H' e' S'.b hlt, fun σ2 H2 => ∃ Hs2 γ2, Same Hs1 Hs2 ∧ Sl K Hs0 H0 Hs2 H2 σ2 γ2 ∧ I (i + 1) γ2, fun σ2 H2 ⟨a, b, c⟩ => ⟨ds.length - (i + 1), by omega, rfl, hlt, a, b, c⟩, fun x H'' hy => ?_⟩
      have hd : ds[i]? = some ds[i] := by simp [hlt]
      obtain ⟨Hs2, g2, rx⟩ := Y.yld i Hs' H' ds[i] x H'' e' S'.b hd hy
      have e2 := e'.trans g2.s
      refine step i ds[i] γ' hd iv Hs0 H0 Hs2 H'' σ' x _ (S'.grow g2) rx fun σ3 γ3 S3 _ h3 => ?_
      refine h3 Hs2 H'' σ3 _ ((hb.trans g1.s).trans e2) S3 (fun Hs4 H4 σ4 γ4 e4 S4 q => ⟨Hs4, γ4, e2.trans e4, S4, q⟩) kr (fun Hs4 H4 σ4 γ4 e4 S4 q => kn Hs4 H4 σ4 γ4 ((g1.s.trans e2).trans e4) S4 q) (fun Hs4 H4 σ4 γ4 e4 S4 q => ⟨Hs4, γ4, e2.trans e4, S4, q⟩)
    · have e : i = ds.length := by omega
      subst e
      exact .inl ⟨Y.stop Hs' H' e' S'.b, kn Hs' H' σ' γ' (g1.s.trans e') S' (fin γ' iv)⟩
/-! ### raise -/
/-- the __init__ of an error class with these fields -/
def spI (K : PySem.W.Frag) (C : Addr) (fs : List Str) (pre : List D → Prop) : Sp := fun vs H Q _ => ∃ a ws Hs ds, vs = .ref a :: ws ∧ H a = some (exo a C none) ∧ Hs a = none ∧ TbOk Hs H ∧ Same Hs H ∧ RepL K Hs ws ds ∧ ds.length = fs.length ∧ pre ds ∧
  ∀ dx, H dx = none → dx ≠ a → Q .non (upd (upd H dx (exd dx (fs.zip ws).reverse)) a (exo a C (some dx)))
theorem lookup_zip_rev {β : Type} : ∀ {fs : List Str} {ws : List β} {f : Str}, fs.Nodup → ((fs.zip ws).reverse).lookup f = (fs.zip ws).lookup f := by
  intro fs
  induction fs with
  | nil => intro ws f _; rfl
  | cons a fs ih =>
    intro ws f nd
    cases ws with
    | nil => rfl
    | cons b ws =>
      have hn : a ∉ fs := (List.nodup_cons.mp nd).1
      rw [List.zip_cons_cons, List.reverse_cons, List.lookup_append, ih (List.nodup_cons.mp nd).2]
      by_cases h : f = a
      · subst h
        have hn2 : (fs.zip ws).lookup f = none := by
          cases z : (fs.zip ws).lookup f with
          | none => rfl
          | some v => exact absurd (List.of_mem_zip (PySem.mem_of_lookup z)).1 hn
        rw [hn2]; simp [List.lookup]
      · have e : (f == a) = false := by simpa using h
        cases z : (fs.zip ws).lookup f with
        | some v => simp [List.lookup, e, z]
        | none => simp [List.lookup, e, z]
theorem lookup_zip_rep {H : Hp} : ∀ {fs : List Str} {ws : List V} {ds : List D} {f : Str} {d : D}, RepL K H ws ds → (fs.zip ds).lookup f = some d → ∃ u, (fs.zip ws).lookup f = some u ∧ Rep K H u d
  | [], _, _, _, _, _, h => by simp [List.lookup] at h
  | _ :: _, _, _, _, _, .nil, h => by simp [List.lookup] at h
  | a :: fs, _, _, f, d, .cons h r, e => by
    rw [List.zip_cons_cons, List.lookup_cons] at e ⊢
    by_cases q : f = a
    · subst q
      simp at e
      subst e
      exact ⟨_, by simp, h⟩
    · have e' : (f == a) = false := by simpa using q
      rw [e'] at e ⊢
      exact lookup_zip_rep r e
theorem sx_raise {C : Addr} {fs : List Str} {pre : List D → Prop} (nd : fs.Nodup) (hW : Wok K Hs0 H0 Hb W Ψ) (h : AX K Hs0 H0 Hb tr γ fun ds => ds.length ≤ 1000 ∧ ds.length = fs.length ∧ pre ds ∧ Ψ ⟨C, fs.zip ds⟩ γ) :
    SX K Hs0 H0 Hb (fun _ σ H => tMkO C (spI K C fs pre) [] tr σ H fun cls d H' => W cls d σ H') γ Ω := fun Hs H σ E hb S _ _ _ _ =>
  h Hs H σ _ hb S fun Hs1 H1 vs ds g1 r1 ⟨l, hl, hp, hx⟩ => ⟨by rw [r1.length]; exact l, fun a ha => by
    have hn := g1.b.free ha
    refine ⟨a, vs, Hs1, ds, by rw [List.append_nil], upd_same, hn, fun P hP => ?_, fun b o e => by rw [upd_ne (ne_of_none e hn)]; exact g1.b _ _ e, r1, hl, hp, fun dx hdx hne => ?_⟩
    · obtain ⟨⟨ps, q1, q2⟩, q3⟩ := g1.t S.tb P hP
      exact ⟨⟨ps, by rw [upd_ne (ne_of_none q1 ha)]; exact q1, q2⟩, q3⟩
    · have hdx1 : H1 dx = none := by rw [upd_ne hne] at hdx; exact hdx
      refine ⟨rfl, dx, (fs.zip vs).reverse, upd_same, by rw [upd_ne hne, upd_same], hdx1, ?_⟩
      have eH : upd (del (upd (upd (upd H1 a (exo a C none)) dx (exd dx (fs.zip vs).reverse)) a (exo a C (some dx))) a) dx (.xd (fs.zip vs).reverse) = upd H1 dx (.xd (fs.zip vs).reverse) := by
        funext b
        by_cases hb : b = dx
        · subst hb; rw [upd_same, upd_same]
        · rw [upd_ne hb, upd_ne hb]
          by_cases hba : b = a
          · subst hba; rw [del_same, ha]
          · rw [del_ne hba, upd_ne hba, upd_ne hb, upd_ne hba]
      rw [eH]
      have g2 : Grow Hs1 H1 Hs1 (upd H1 dx (.xd (fs.zip vs).reverse)) := .hid g1.b hdx1
      refine hW Hs1 _ σ γ _ _ ⟨C, fs.zip ds⟩ (hb.trans g1.s) (S.grow (g1.trans g2)) ⟨rfl, .inr ⟨dx, _, rfl, upd_same, fun f v z => ?_⟩⟩ hx
      rw [lookup_zip_rev nd]
      exact lookup_zip_rep r1 z⟩
theorem sx_raise0 {C : Addr} (hW : Wok K Hs0 H0 Hb W Ψ) (h : Ψ ⟨C, []⟩ γ) : SX K Hs0 H0 Hb (fun _ σ H => W (.ref C) none σ H) γ Ω := fun Hs H σ E hb S _ _ _ _ =>
  hW Hs H σ γ _ _ ⟨C, []⟩ hb S ⟨rfl, .inl ⟨rfl, rfl⟩⟩ h
/-! ### try -/
theorem wok_mono {Ψ' : XD → Gam → Prop} (h : Wok K Hs0 H0 Hb W Ψ) (k : ∀ x γ, Ψ' x γ → Ψ x γ) : Wok K Hs0 H0 Hb W Ψ' := fun Hs H σ γ cls d x hb S r p => h Hs H σ γ cls d x hb S r (k x γ p)
theorem Sl.exc {Hs H : Hp} {σ : L2.St} {a : Addr} {cls : Value} {d : Option Addr} {x : XD} (S : Sl K Hs0 H0 Hs H σ γ) (i : Nat) (r : RepX K Hs H cls d x) : Sl K Hs0 H0 Hs H (σ.set i (some (.ref a))) (γ.set i (some (.exc a cls d x))) := by
  refine ⟨S.gr, by rw [List.length_set, List.length_set]; exact S.len, fun j s h => ?_, fun j ds a h h' => ?_, fun j k ds es a h1 h2 h3 h4 => ?_, S.tb⟩
  · rcases get_set h with ⟨rfl, e⟩ | ⟨ne, h⟩
    · cases e
      have hl : i < γ.length := by
        rcases Nat.lt_or_ge i γ.length with q | q
        · exact q
        · rw [List.getElem?_eq_none (by simpa using q)] at h; cases h
      exact ⟨.ref a, by rw [List.getElem?_set_self (by rw [S.len]; exact hl)], rfl, r⟩
    · rw [get_set_ne ne]; exact S.ok j s h
  · rcases get_set h with ⟨rfl, e⟩ | ⟨ne, h⟩
    · cases e
    · rw [get_set_ne ne] at h'; exact S.fr j ds a h h'
  · rcases get_set h1 with ⟨rfl, e⟩ | ⟨ne, h1⟩
    · cases e
    · rcases get_set h2 with ⟨rfl, e⟩ | ⟨ne', h2⟩
      · cases e
      · rw [get_set_ne ne] at h3; rw [get_set_ne ne'] at h4; exact S.ne j k ds es a h1 h2 h3 h4
/-- what an error of the body meets: except c as (slot i) -/
def HandAs (K : PySem.W.Frag) (Hs0 H0 Hb : Hp) (c : Value) (i : Nat) (ts : Addr → Value → Option Addr → TS) (Ψ : XD → Gam → Prop) (Ω : Out) (x : XD) (γ : Gam) : Prop := ∃ b, PySem.W.exmOne K (.ref x.C) c = some b ∧
  (b = true → ∀ a d, SX K Hs0 H0 Hb (ts a (.ref x.C) d) (γ.set i (some (.exc a (.ref x.C) d x))) { nx := fun γ' => Ω.nx (γ'.set i none), rt := Ω.rt, bk := fun γ' => Ω.bk (γ'.set i none), ct := fun γ' => Ω.ct (γ'.set i none) }) ∧ (b = false → Ψ x γ)
def tTryAs (K : PySem.W.Frag) (c : Value) (i : Nat) (tb : WX → TS) (ts : Addr → Value → Option Addr → TS) (W : WX) : TS := fun D σ H => tb (wAs K c i ts W D) D σ H
def tTryOnly (K : PySem.W.Frag) (c : Value) (tb : WX → TS) (ts : Addr → Value → Option Addr → TS) (W : WX) : TS := fun D σ H => tb (wOnly K c ts W D) D σ H
theorem sx_tryAs {c : Value} {tb : WX → TS} {ts : Addr → Value → Option Addr → TS} (hW : Wok K Hs0 H0 Hb W Ψ) (h : ∀ W' Hb', Same Hb Hb' → Wok K Hs0 H0 Hb' W' (fun x γ' => HandAs K Hs0 H0 Hb c i ts Ψ Ω x γ') → SX K Hs0 H0 Hb' (tb W') γ Ω) :
    SX K Hs0 H0 Hb (tTryAs K c i tb ts W) γ Ω := fun Hs H σ E hb S kn kr kb kc => by
  refine h (wAs K c i ts W E) Hs hb (fun Hs1 H1 σ1 γ1 cls d x hb1 S1 r1 hh => ?_) Hs H σ E (.refl _) S kn kr kb kc
  obtain ⟨b, h1, h2, h3⟩ := hh
  obtain rfl := r1.1
  refine ⟨b, h1, fun hbt a ha => ?_, fun hbf => hW Hs1 H1 σ1 γ1 _ d x (hb.trans hb1) S1 r1 (h3 hbf)⟩
  refine h2 hbt a d Hs1 H1 _ _ (hb.trans hb1) (S1.exc i r1) (fun Hs2 H2 σ2 γ2 e2 S2 q => kn Hs2 H2 _ _ (hb1.trans e2) (S2.drop i none) q) kr (fun Hs2 H2 σ2 γ2 e2 S2 q => kb Hs2 H2 _ _ (hb1.trans e2) (S2.drop i none) q) (fun Hs2 H2 σ2 γ2 e2 S2 q => kc Hs2 H2 _ _ (hb1.trans e2) (S2.drop i none) q)
/-- except c (no name) -/
def HandOnly (K : PySem.W.Frag) (Hs0 H0 Hb : Hp) (c : Value) (ts : Addr → Value → Option Addr → TS) (Ψ : XD → Gam → Prop) (Ω : Out) (x : XD) (γ : Gam) : Prop := ∃ b, PySem.W.exmOne K (.ref x.C) c = some b ∧
  (b = true → ∀ a d, SX K Hs0 H0 Hb (ts a (.ref x.C) d) γ Ω) ∧ (b = false → Ψ x γ)
theorem sx_tryOnly {c : Value} {tb : WX → TS} {ts : Addr → Value → Option Addr → TS} (hW : Wok K Hs0 H0 Hb W Ψ) (h : ∀ W' Hb', Same Hb Hb' → Wok K Hs0 H0 Hb' W' (fun x γ' => HandOnly K Hs0 H0 Hb c ts Ψ Ω x γ') → SX K Hs0 H0 Hb' (tb W') γ Ω) :
    SX K Hs0 H0 Hb (tTryOnly K c tb ts W) γ Ω := fun Hs H σ E hb S kn kr kb kc => by
  refine h (wOnly K c ts W E) Hs hb (fun Hs1 H1 σ1 γ1 cls d x hb1 S1 r1 hh => ?_) Hs H σ E (.refl _) S kn kr kb kc
  obtain ⟨b, h1, h2, h3⟩ := hh
  obtain rfl := r1.1
  refine ⟨b, h1, fun hbt a ha => ?_, fun hbf => hW Hs1 H1 σ1 γ1 _ d x (hb.trans hb1) S1 r1 (h3 hbf)⟩
  exact h2 hbt a d Hs1 H1 _ _ (hb.trans hb1) S1 (fun Hs2 H2 σ2 γ2 e2 S2 q => kn Hs2 H2 _ _ (hb1.trans e2) S2 q) kr (fun Hs2 H2 σ2 γ2 e2 S2 q => kb Hs2 H2 _ _ (hb1.trans e2) S2 q) (fun Hs2 H2 σ2 γ2 e2 S2 q => kc Hs2 H2 _ _ (hb1.trans e2) S2 q)
/-- isinstance(e, c) of the caught error -/
def tIsE (K : PySem.W.Frag) (a : Addr) (cls : Value) (d : Option Addr) (tr : TA) : TE := fun σ H Q => ∃ C, cls = .ref C ∧ ExcC K C ∧ tCB (rIsEd K C a d) tr σ H Q
theorem ew_isE {a C : Addr} {d : Option Addr} {x : XD} {c : V} {cv : Value} {b : Bool} {j : Nat} (hg : γ[j]? = some (some (.exc a (.ref C) d x))) (T : ExcC K C) (hc : ∀ u, L2.RelV c u → u = cv) (hk : PySem.W.kitOne K (.ref C) cv = some b) (k : Φ (.bl b)) :
    EW K (tIsE K a (.ref C) d (tCons (tVar j) (tCons (tC c) tNil))) γ Φ := fun Hs0 H0 Hs H σ Q S q => by
  obtain ⟨v, hv, rfl, r⟩ := S.ok j _ hg
  refine ⟨C, rfl, T, .ref a, hv, ?_⟩
  refine ⟨c, cv, b, rfl, hc, hk, ?_, q _ _ _ _ (.refl S.b) (.bl b) k⟩
  rcases r.2 with ⟨h, _⟩ | ⟨dd, vfs, h1, h2, _⟩
  · exact .inl h
  · exact .inr ⟨dd, vfs, h1, h2⟩
/-- e.f -/
theorem ew_xf {a C : Addr} {d : Option Addr} {x : XD} {f : Str} {v : D} {j : Nat} (hg : γ[j]? = some (some (.exc a (.ref C) d x))) (hf : x.fs.lookup f = some v) (k : Φ v) : EW K (tXf a (.ref C) d C f (tVar j)) γ Φ := fun Hs0 H0 Hs H σ Q S q => by
  obtain ⟨w, hv, rfl, r⟩ := S.ok j _ hg
  refine ⟨.ref a, hv, rfl, rfl, ?_⟩
  rcases r.2 with ⟨_, h⟩ | ⟨dd, vfs, h1, h2, h3⟩
  · rw [h] at hf; simp [List.lookup] at hf
  · obtain ⟨u, hu, ru⟩ := h3 f v hf
    exact ⟨dd, vfs, u, h1, h2, hu, q _ _ _ _ (.refl S.b) ru k⟩
end
section
variable {X : Cx}
theorem ps_try_asK (K : PySem.W.Frag) (h : X.K = K) {x n : Str} {c : Value} {i : Nat} {body suite : List Stmt} {b₀ : Stmt} {np pos pos' : Pos} {tb : WX → TS} {ts : Addr → Value → Option Addr → TS} {Wout : WX} (hs : X.stack = X.env :: X.outer) (hf : X.env.frame = some X.env.locals) (hN : X.N.Nodup) (hi : X.N[i]? = some n) (hln : X.env.kindOf n = some .local) (hc : Names X x c) (tk : Takes X Wout)
    (hb : ∀ (W : WX) (pn : List (Addr × Obj)) (xe : Value → Shared → Prop), Takes (X.tr pn xe) W → PassesOwn (model X.prog X.w) X.A X.env xe → PSs (X.tr pn xe) body (tb W))
    (hsu : ∀ (a : Addr) (oe : Obj) (cls : Value) (d : Option Addr) (pn : List (Addr × Obj)), Zc cls d oe → (∃ vs, oe.data = .fields vs) → PSs (X.suite a ((a, oe) :: pn)) (b₀ :: suite) (ts a cls d)) :
    PS X (.Try body [.ExceptHandler (some (.Name x np)) (some n) (b₀ :: suite) pos'] [] [] pos) (tTryAs K c i tb ts Wout) := by
  subst h
  exact ps_try_as hs hf hN hi hln hc tk hb hsu
theorem ps_try_onlyK (K : PySem.W.Frag) (h : X.K = K) {x : Str} {c : Value} {body suite : List Stmt} {b₀ : Stmt} {np pos pos' : Pos} {tb : WX → TS} {ts : Addr → Value → Option Addr → TS} {Wout : WX} (hs : X.stack = X.env :: X.outer) (hf : X.env.frame = some X.env.locals) (hc : Names X x c) (tk : Takes X Wout)
    (hb : ∀ (W : WX) (pn : List (Addr × Obj)) (xe : Value → Shared → Prop), Takes (X.tr pn xe) W → PassesOwn (model X.prog X.w) X.A X.env xe → PSs (X.tr pn xe) body (tb W))
    (hsu : ∀ (a : Addr) (oe : Obj) (cls : Value) (d : Option Addr) (pn : List (Addr × Obj)), Zc cls d oe → (∃ vs, oe.data = .fields vs) → PSs (X.suite a ((a, oe) :: pn)) (b₀ :: suite) (ts a cls d)) :
    PS X (.Try body [.ExceptHandler (some (.Name x np)) none (b₀ :: suite) pos'] [] [] pos) (tTryOnly K c tb ts Wout) := by
  subst h
  exact ps_try_only hs hf hc tk hb hsu
theorem pe_isE {a : Addr} {cls : Value} {d : Option Addr} {oe : Obj} {pn : List (Addr × Obj)} (K : PySem.W.Frag) (h : X.K = K) (hz : Zc cls d oe) (hf : ∃ vs, oe.data = .fields vs) {e : Expr} {es : List Expr} {tr : TA} {p pos : Pos} (hg : Gl X "isinstance") (hm : X.mg "isinstance" = none)
    (hb : bootBuiltins "isinstance" = some (.builtin "isinstance")) (ha : PA (X.suite a ((a, oe) :: pn)) (e :: es) tr) (he : starEach (e :: es) X.env = (false, eval e X.env) :: starEach es X.env := by rfl) (hpl : (backTo pos (starEach es X.env)).any (·.1) = false := by rfl) :
    PE (X.suite a ((a, oe) :: pn)) (.Call (.Name "isinstance" p) (e :: es) [] pos) (tIsE K a cls d tr) := by
  subst h
  refine ⟨fun pins s σ H Q I ⟨C, ec, T, hh⟩ => ?_⟩
  subst ec
  exact (pe_callB (X := X.suite a ((a, oe) :: pn)) (call_isEd T hz hf) hg hm hb ha (by decide) (by decide) he hpl).run pins s σ H Q I hh
end
end Z

/-! defs that raise; the __init__ of an error class -/
namespace Z
open PySem PySem.Spec L2 StX NdefX
variable [Tabs]
section
variable {P : Program} {w : World} {K : PySem.W.Frag} {mg : Str → Option Value} {base : Heap}
structure DfX (P : Program) (w : World) (K : PySem.W.Frag) (mg : Str → Option Value) (base : Heap) (x : Str) (k : Nat) (ps : List Str) (n : Nat) (pre : List D → Prop) (post : List D → D → Prop) (xpost : List D → XD → Prop) : Prop where
  ex : ∃ f fd, mg x = some (.ref f) ∧ PySem.W.keepIn K (.ref f) = true ∧ Binds K fd ps [] ∧ FnOk P w K mg base (L2.CX P w) k f fd ps (spX K n pre post xpost)
abbrev WD (E : XK) : WX := fun cls d _ H => E cls d H
theorem df_mkX {x : Str} {params : Arguments} {body : List Stmt} {scope : Scope} {f : Addr} {fd : FuncData} {N ps : List Str} {k : Nat} {pre : List D → Prop} {post : List D → D → Prop} {xpost : List D → XD → Prop} (F : FunD K x x params body scope [] [] f fd) (hm : mg x = some (.ref f)) (S : FnScope N ps scope)
    (hb : ∀ (kV doc pm : Value) (an : Option Addr) (cdv ct : Value) (us : List Value), us.length = ps.length → bindArgs (PySem.W.fnOf x x params body scope .none kV doc pm an cdv ct) ⟨us, []⟩ = pure (ps.zip us))
    (hbody : ∀ (cdv : Value) (A : Around) (outer : List Env) (s : Shared) (H : Hp) (E : XK), Room k (A.deeper (PyProof.Rows.envOfC x scope s.heap.objs.size f cdv)) → ∀ ds, ds.length = ps.length → pre ds →
      ∃ t, PSs (cxOf (L2.CX P w) P w K mg base N x scope f cdv A outer s H E) body t ∧ ∀ Hs0 H0, Wok K Hs0 H0 Hs0 (WD E) (fun x _ => xpost ds x) → SX K Hs0 H0 Hs0 t (gam0 N.length ds) { nx := fun _ => post ds .non, rt := post ds }) : DfX P w K mg base x (k + 1) ps ps.length pre post xpost := by
  refine ⟨f, fd, hm, F.kp, F.bindsN hb, F.ok S (fun vs H Q E h => ?_) (fun cdv A outer s H vs Q E hr h => ?_)⟩
  · obtain ⟨Hs, ds, _, _, r, l, _⟩ := h
    rw [r.length]; exact l
  · obtain ⟨Hs, ds, tb, b, r, l, p, q, qx⟩ := h
    obtain ⟨t, ht, hw⟩ := hbody cdv A outer s H E hr ds l p
    exact ⟨t, ht, hw Hs H (fun Hs' H' σ' γ' cls d x _ S' r' px => qx Hs' H' cls d x S'.gr r' px) Hs H _ _ (.refl _) (sl_start tb b r) (fun Hs' H' σ' γ' e S' p => q Hs' H' _ _ S'.gr .non p) (fun Hs' H' v d g r p => q Hs' H' v d g r p) (fun _ _ _ _ _ _ z => z.elim) (fun _ _ _ _ _ _ z => z.elim)⟩
theorem DfX.imp {x : Str} {k : Nat} {ps : List Str} {n : Nat} {pre pre' : List D → Prop} {post post' : List D → D → Prop} {xp xp' : List D → XD → Prop} (g : DfX P w K mg base x k ps n pre post xp) (h1 : ∀ ds, ds.length = n → pre' ds → pre ds) (h2 : ∀ ds d, pre' ds → post ds d → post' ds d) (h3 : ∀ ds e, pre' ds → xp ds e → xp' ds e) : DfX P w K mg base x k ps n pre' post' xp' := by
  obtain ⟨f, fd, a, b, c, F⟩ := g.ex
  refine ⟨f, fd, a, b, c, F.imp fun vs H Q E ⟨Hs, ds, tb, bb, r, l, p, q, qx⟩ => ⟨Hs, ds, tb, bb, r, l, h1 ds l p, fun Hs' H' v d g r ps => q Hs' H' v d g r (h2 ds d p ps), fun Hs' H' cls d e g r ps => qx Hs' H' cls d e g r (h3 ds e p ps)⟩⟩
end
section
variable {X : Cx}
theorem pe_dfX (K : PySem.W.Frag) (h : X.K = K) {x : Str} {k j : Nat} {ps : List Str} {n : Nat} {pre : List D → Prop} {post : List D → D → Prop} {xpost : List D → XD → Prop} {W : WX} {p pos : Pos} {e : Expr} {es : List Expr} {t : TA} (g : DfX X.prog X.w X.K X.mg X.base x j ps n pre post xpost) (hr : Room k X.A) (hj : j ≤ k) (hg : Gl X x) (tk : Takes X W)
    (ha : PA X (e :: es) t) (hdb : (x == ("__debug__" : Str)) = false := by decide) (he : starEach (e :: es) X.env = (false, eval e X.env) :: starEach es X.env := by rfl) (hpl : (backTo pos (starEach es X.env)).any (·.1) = false := by rfl) :
    PE X (.Call (.Name x p) (e :: es) [] pos) (tCallS (spX K n pre post xpost) (WE W) t) := by
  subst h
  obtain ⟨f, fd, h1, h2, h3, h4⟩ := g.ex
  exact pe_callS h4 (hr.mono hj) hg h1 h2 h3 (fun σ => passAt tk σ) ha hdb he hpl
end
/-! ### messages -/
inductive Parts (σ : L2.St) : List TE → Nat → Prop
  | nil : Parts σ [] 0
  | cons {te : TE} {ts : List TE} {m n : Nat} (h : ∀ (H : Hp) (Q : VK), (∀ y : Str, y.length ≤ m → Q (.str y) H) → te σ H Q) (r : Parts σ ts n) : Parts σ (te :: ts) (m + n)
theorem parts_run {σ : L2.St} {ts : List TE} {n : Nat} (h : Parts σ ts n) : ∀ (acc : Str) (H : Hp) (Q : Str → Hp → Prop), acc.length + n ≤ sizeLine → (∀ out, Q out H) → tJs ts acc σ H Q := by
  induction h with
  | nil => intro acc H Q _ q; exact q _
  | cons h r ih =>
    intro acc H Q l q
    refine h H _ fun y hy => ⟨y, rfl, ?_, ih _ H Q ?_ q⟩
    · rw [TL.len_tl, TL.tl_append, List.length_append, ← TL.len_tl, ← TL.len_tl]; omega
    · rw [TL.len_tl, TL.tl_append, List.length_append, ← TL.len_tl, ← TL.len_tl]; omega
section
variable {σ : L2.St} {i : Nat}
theorem part_c (z : Str) : ∀ (H : Hp) (Q : VK), (∀ y : Str, y.length ≤ z.length → Q (.str y) H) → tC (.str z) σ H Q := fun H Q q => q z (Nat.le_refl _)
theorem part_i {k : Int} (h : σ[i]? = some (some (.int k))) (l : k.natAbs < 2 ^ 64) : ∀ (H : Hp) (Q : VK), (∀ y : Str, y.length ≤ 21 → Q (.str y) H) → tFmt (tVar i) σ H Q := fun H Q q => by
  refine ⟨.int k, h, .inr ⟨k, rfl, ?_, q _ ?_⟩⟩
  · by_cases h0 : k.natAbs = 0
    · rw [h0]; decide
    · exact Nat.lt_trans ((Nat.log2_lt h0).mpr l) (by decide)
  · have e := int_text_length_le10 (a := k) (k := 20) (by decide) (Nat.lt_trans l (by decide))
    show (Str.ofString (toString k)).length ≤ 21
    rw [ofString_length]; exact e
theorem part_s {z : Str} {m : Nat} (h : σ[i]? = some (some (.str z))) (l : z.length ≤ m) (lm : m ≤ sizeLine) : ∀ (H : Hp) (Q : VK), (∀ y : Str, y.length ≤ m → Q (.str y) H) → tFmt (tVar i) σ H Q := fun H Q q =>
  ⟨.str z, h, .inl ⟨z, rfl, Nat.le_trans l lm, q z l⟩⟩
theorem part_r {z : Str} {m : Nat} (h : σ[i]? = some (some (.str z))) (hx : ∀ c ∈ z.cps.toList, c < 16 ^ 8) (l : 10 * z.length + 2 ≤ m) (lm : m ≤ sizeLine) : ∀ (H : Hp) (Q : VK), (∀ y : Str, y.length ≤ m → Q (.str y) H) → tFmtR (tVar i) σ H Q := fun H Q q => by
  have e := PySem.StrLaws.reprText_len z hx
  exact ⟨.str z, h, .inl ⟨z, rfl, by omega, q _ (by omega)⟩⟩
theorem msg_run {ts : List TE} {n : Nat} (h : Parts σ ts n) (l : n ≤ sizeLine) (H : Hp) (Q : VK) (q : ∀ v, Q v H) : tJoined ts σ H Q := parts_run h Str.empty H _ (by rw [show Str.empty.length = 0 from rfl]; omega) fun out => q _
end
/-! ### stores -/
section
variable {K : PySem.W.Frag} {C a : Addr} {H : Hp} {σ : L2.St} {D : Ends}
theorem ost_1 {f : Str} {y : V} (T : OexC K C) (ha : H a = some (exo a C none)) (h0 : σ[0]? = some (some (.ref a))) (h1 : σ[1]? = some (some y)) (hf : PySem.W.findIn K (.ref C) f = some none)
    (q : ∀ dx, H dx = none → dx ≠ a → D.nx σ (upd (upd H dx (exd dx [(f, y)])) a (exo a C (some dx)))) : tOst K f (tVar 0) (tVar 1) D σ H :=
  ⟨y, h1, .ref a, h0, a, C, rfl, T, hf, .inl ⟨ha, q⟩⟩
theorem ost_2 {f g : Str} {y z : V} (T : OexC K C) (ha : H a = some (exo a C none)) (h0 : σ[0]? = some (some (.ref a))) (h1 : σ[1]? = some (some y)) (h2 : σ[2]? = some (some z)) (hf : PySem.W.findIn K (.ref C) f = some none) (hg : PySem.W.findIn K (.ref C) g = some none)
    (q : ∀ dx, H dx = none → dx ≠ a → D.nx σ (upd (upd H dx (exd dx [(g, z), (f, y)])) a (exo a C (some dx)))) : tSeq (tOst K f (tVar 0) (tVar 1)) (tOst K g (tVar 0) (tVar 2)) D σ H := by
  refine ost_1 T ha h0 h1 hf fun dx hd hne => ?_
  refine ⟨z, h2, .ref a, h0, a, C, rfl, T, hg, .inr ⟨dx, [(f, y)], upd_same, by rw [upd_ne hne, upd_same], by rw [List.length_singleton]; decide, ?_⟩⟩
  have e : upd (upd (upd H dx (exd dx [(f, y)])) a (exo a C (some dx))) dx (exd dx [(g, z), (f, y)]) = upd (upd H dx (exd dx [(g, z), (f, y)])) a (exo a C (some dx)) := by
    funext b
    by_cases hb : b = dx
    · subst hb; rw [upd_same, upd_ne hne, upd_same]
    · rw [upd_ne hb]
      by_cases hba : b = a
      · subst hba; rw [upd_same, upd_same]
      · rw [upd_ne hba, upd_ne hba, upd_ne hb, upd_ne hb]
  rw [e]
  exact q dx hd hne
end
/-- an error class that can be raised: its __init__ keeps spI -/
structure RzC (P : Program) (w : World) (K : PySem.W.Frag) (mg : Str → Option Value) (base : Heap) (x : Str) (k : Nat) (fs : List Str) (pre : List D → Prop) : Prop where
  ex : ∃ (f : Addr) (fd : FuncData), mg x = some (.ref (He.ga K x)) ∧ OexC K (He.ga K x) ∧ PySem.W.findIn K (.ref (He.ga K x)) "__init__" = some (some (.ref f)) ∧ PySem.W.typeIn K (.ref f) = some (.type "function") ∧ ExcC K (He.ga K x) ∧ (∀ g ∈ fs, PySem.W.findIn K (.ref (He.ga K x)) g = some none) ∧
    ∃ ps : List Str, Binds K fd ps [] ∧ FnOk P w K mg base CX0 k f fd ps (spI K (He.ga K x) fs pre)
section
variable {X : Cx}
theorem ps_rz (K : PySem.W.Frag) (h : X.K = K) {x : Str} {k j : Nat} {fs : List Str} {pre : List D → Prop} {W : WX} {p pos p2 : Pos} {e : Expr} {es : List Expr} {ta : TA} (g : RzC X.prog X.w X.K X.mg X.base x j fs pre) (hc : X.calm = true) (tk : Takes X W) (hr : Room k X.A) (hj : j + 1 ≤ k) (hg : Gl X x) (ha : PA X (e :: es) ta)
    (hdb : (x == ("__debug__" : Str)) = false := by decide) (he : starEach (e :: es) X.env = (false, eval e X.env) :: starEach es X.env := by rfl) (hpl : (backTo pos (starEach es X.env)).any (·.1) = false := by rfl) :
    PS X (.Raise (some (.Call (.Name x p) (e :: es) [] pos)) none p2) (fun _ σ H => tMkO (He.ga K x) (spI K (He.ga K x) fs pre) [] ta σ H fun cls d H' => W cls d σ H') := by
  subst h
  obtain ⟨f, fd, h1, h2, h3, h4, _, _, ps, h5, h6⟩ := g.ex
  exact ps_raise hc tk (pmk_oex h2 h3 h4 h6 (hr.mono hj) h5 .nil pass0 hg h1 ha hdb he hpl)
end
theorem xfC_of {K : PySem.W.Frag} {C : Addr} (T : ExcC K C) : XfC K C := ⟨T.hg, T.hk, T.hs, T.hd⟩
theorem sw_ofX {K : PySem.W.Frag} {ts : TS} {γ : Gam} {Φ : Out} (h : ∀ Hs0 H0, SX K Hs0 H0 Hs0 ts γ Φ) : SW K ts γ Φ := fun Hs0 H0 Hs H σ E S => h Hs0 H0 Hs H σ E S.gr.s S
theorem wok_no {K : PySem.W.Frag} {Hs0 H0 Hb : Hp} {W : WX} : Wok K Hs0 H0 Hb W (fun _ _ => False) := fun _ _ _ _ _ _ _ _ _ _ z => z.elim
end Z
namespace StX
open PySem
def clsBody (s : Stmt) : List Stmt := match s with
  | .ClassDef _ _ _ b _ _ _ _ _ _ _ => b
  | _ => []
end StX
namespace Z
open PySem PySem.Spec L2 StX NdefX
variable [Tabs]
section
variable {P : Program} {w : World} {K : PySem.W.Frag} {mg : Str → Option Value} {base : Heap} {x : Str} {k : Nat} {fs : List Str} {pre : List D → Prop}
theorem RzC.exc (r : RzC P w K mg base x k fs pre) : ExcC K (He.ga K x) := let ⟨_, _, _, _, _, _, h, _⟩ := r.ex; h
theorem RzC.no (r : RzC P w K mg base x k fs pre) (f : Str) (hf : f ∈ fs) : PySem.W.findIn K (.ref (He.ga K x)) f = some none := let ⟨_, _, _, _, _, _, _, h, _⟩ := r.ex; h f hf
end
end Z

/-! == of data -/
namespace Z
open PySem PySem.Spec L2 StX
variable [Tabs]
mutual
def pyD : D → PyData
  | .bl b => .bool b
  | .int i => .int i
  | .str x => .str x
  | .lst ds => .list (pyL ds)
  | .tup ds => .tuple (pyL ds)
  | _ => .none
def pyL : List D → List PyData
  | [] => []
  | d :: ds => pyD d :: pyL ds
end
def eqOk : Nat → D → Prop
  | _, .non => True
  | _, .bl _ => True
  | _, .int _ => True
  | _, .str x => PyData.strOk x = true
  | n + 1, .lst ds => ∀ d ∈ ds, eqOk n d
  | n + 1, .tup ds => ∀ d ∈ ds, eqOk n d
  | _, _ => False
theorem eqNo {d : D} {n : Nat} (h : ∀ n, eqOk n d → False) (e : eqOk n d) : False := h n e
def EqD (x y : D) : Bool := PyData.eqv (pyD x) (pyD y)
mutual
theorem dp_of {K : PySem.W.Frag} {Hs H : Hp} (b : Same Hs H) : ∀ {n : Nat} {v : V} {d : D}, Rep K Hs v d → eqOk n d → Dp K H v (pyD d)
  | _, _, _, .non, _ => .non
  | _, _, _, .bl b, _ => .bl b
  | _, _, _, .int i, _ => .int i
  | _, _, _, .str x, _ => .str x
  | n + 1, _, _, .lst h r, e => .lst (.of (b _ _ h)) (dpL_of b r e)
  | n + 1, _, _, .tup h r, e => .tup (sameT b h) (dpL_of b r e)
  | 0, _, _, .lst h r, e => e.elim
  | 0, _, _, .tup h r, e => e.elim
  | _, _, _, .ty _, e => (eqNo (by intro n; cases n <;> exact id) e).elim
  | _, _, _, .scr _, e => (eqNo (by intro n; cases n <;> exact id) e).elim
  | _, _, _, .tpl _ _, e => (eqNo (by intro n; cases n <;> exact id) e).elim
theorem dpL_of {K : PySem.W.Frag} {Hs H : Hp} (b : Same Hs H) : ∀ {n : Nat} {vs : List V} {ds : List D}, RepL K Hs vs ds → (∀ d ∈ ds, eqOk n d) → DpAll K H vs (pyL ds)
  | _, _, _, .nil, _ => .nil
  | _, _, _, .cons h r, e => .cons (dp_of b h (e _ List.mem_cons_self)) (dpL_of b r fun d hd => e d (List.mem_cons_of_mem _ hd))
end
mutual
theorem lay_of : ∀ (d : D) (n : Nat), eqOk n d → (pyD d).canLay0 = true ∧ (pyD d).depth ≤ n
  | .non, n, _ => ⟨by simp [pyD, PyData.canLay0], by simp [pyD, PyData.depth]⟩
  | .bl b, n, _ => ⟨by simp [pyD, PyData.canLay0], by simp [pyD, PyData.depth]⟩
  | .int i, n, _ => ⟨by simp [pyD, PyData.canLay0], by simp [pyD, PyData.depth]⟩
  | .str x, n, h => by
    have h : PyData.strOk x = true := by cases n <;> exact h
    exact ⟨by simp only [pyD, PyData.canLay0]; exact h, by simp [pyD, PyData.depth]⟩
  | .lst ds, 0, h => h.elim
  | .tup ds, 0, h => h.elim
  | .lst ds, n + 1, h => by
    obtain ⟨a, b⟩ := layL_of ds n h
    exact ⟨by simp only [pyD, PyData.canLay0]; exact a, by simp only [pyD, PyData.depth]; omega⟩
  | .tup ds, n + 1, h => by
    obtain ⟨a, b⟩ := layL_of ds n h
    exact ⟨by simp only [pyD, PyData.canLay0]; exact a, by simp only [pyD, PyData.depth]; omega⟩
  | .scr _, n, h => by cases n <;> exact h.elim
  | .ty _, n, h => by cases n <;> exact h.elim
  | .tpl _, n, h => by cases n <;> exact h.elim
theorem layL_of : ∀ (ds : List D) (n : Nat), (∀ d ∈ ds, eqOk n d) → PyData.canLayAll0 (pyL ds) = true ∧ PyData.depthAll (pyL ds) ≤ n
  | [], n, _ => ⟨by simp [pyL, PyData.canLayAll0], by simp [pyL, PyData.depthAll]⟩
  | d :: ds, n, h => by
    obtain ⟨a, b⟩ := lay_of d n (h d List.mem_cons_self)
    obtain ⟨a2, b2⟩ := layL_of ds n fun x hx => h x (List.mem_cons_of_mem _ hx)
    exact ⟨by simp only [pyL, PyData.canLayAll0, a, a2]; rfl, by simp only [pyL, PyData.depthAll]; omega⟩
end
theorem shaped_of {n : Nat} {d : D} (hn : n ≤ 64) (h : eqOk n d) : SeqAt.shaped (pyD d) = true := by
  obtain ⟨a, b⟩ := lay_of d n h
  unfold SeqAt.shaped
  rw [a, decide_eq_true (by omega)]; rfl
theorem EqD_refl {n : Nat} {d : D} (h : eqOk n d) : EqD d d = true := by
  unfold EqD
  exact PySem.SeqAt.eqv_refl _ (lay_of d n h).1
section
variable {K : PySem.W.Frag} {Φ : D → Prop} {x y : D} {n m : Nat}
theorem rw_eqDD (hx : eqOk n x) (hy : eqOk m y) (k : Φ (.bl (EqD x y))) (hn : n ≤ 64 := by decide) (hm : m ≤ 64 := by decide) : RW2 K (rEqD K) x y Φ := fun Hs H v u Q b r1 r2 q =>
  ⟨_, _, dp_of b r1 hx, dp_of b r2 hy, shaped_of hn hx, shaped_of hm hy, q _ _ _ _ (.refl b) (.bl _) k⟩
theorem rw_neDD (hx : eqOk n x) (hy : eqOk m y) (k : Φ (.bl (!EqD x y))) (hn : n ≤ 64 := by decide) (hm : m ≤ 64 := by decide) : RW2 K (rNeD K) x y Φ := fun Hs H v u Q b r1 r2 q =>
  ⟨_, _, dp_of b r1 hx, dp_of b r2 hy, shaped_of hn hx, shaped_of hm hy, q _ _ _ _ (.refl b) (.bl _) k⟩
end
theorem eqL_strs : ∀ (xs ys : List Str), PyData.eqvAll (pyL (xs.map D.str)) (pyL (ys.map D.str)) = decide (xs = ys)
  | [], [] => by simp [pyL, PyData.eqvAll]
  | [], y :: ys => by simp [pyL, PyData.eqvAll]
  | x :: xs, [] => by simp [pyL, PyData.eqvAll]
  | x :: xs, y :: ys => by
    have ih := eqL_strs xs ys
    simp only [List.map_cons, pyL, PyData.eqvAll, ih, pyD, PyData.eqv]
    by_cases h : x = y
    · subst h; simp
    · simp [h]
theorem eqL_ints : ∀ (xs ys : List Int), PyData.eqvAll (pyL (xs.map D.int)) (pyL (ys.map D.int)) = decide (xs = ys)
  | [], [] => by simp [pyL, PyData.eqvAll]
  | [], y :: ys => by simp [pyL, PyData.eqvAll]
  | x :: xs, [] => by simp [pyL, PyData.eqvAll]
  | x :: xs, y :: ys => by
    have ih := eqL_ints xs ys
    simp only [List.map_cons, pyL, PyData.eqvAll, ih, pyD, PyData.eqv]
    by_cases h : x = y
    · subst h; simp
    · simp [h]
theorem eqOk_strs {n : Nat} {xs : List Str} (h : ∀ x ∈ xs, PyData.strOk x = true) : ∀ d ∈ xs.map D.str, eqOk n d := fun d hd => by
  obtain ⟨x, hx, rfl⟩ := List.mem_map.mp hd
  cases n <;> exact h x hx
theorem eqOk_ints {n : Nat} {xs : List Int} : ∀ d ∈ xs.map D.int, eqOk n d := fun d hd => by
  obtain ⟨x, hx, rfl⟩ := List.mem_map.mp hd
  cases n <;> trivial
section
variable {X : Cx}
theorem op_eqDK (K : PySem.W.Frag) (h : X.K = K) (hu : X.A.units + 64 < cLine) : OpR X (compareOp .Eq) (rEqD K) := h ▸ op_eqD hu
theorem op_neDK (K : PySem.W.Frag) (h : X.K = K) (hu : X.A.units + 64 < cLine) : OpR X (compareOp .NotEq) (rNeD K) := h ▸ op_neD hu
end
end Z
namespace Z
open PySem PySem.Spec L2 StX
variable [Tabs]
theorem pt_truthK {X : Cx} (K : PySem.W.Frag) (h : X.K = K) {a : Expr} {ta : TE} (ha : PE X a ta) (he : ∀ whole, isTrue a X.env whole = (do let v ← whole; standAt a.pos; holding [v] (truthy v))) : PT X a (tTru K ta) := by subst h; exact pt_truth ha he
section
variable {K : PySem.W.Frag} {γ : Gam} {te : TE} {Φ : Bool → Prop}
theorem emp_of {H : Hp} {vs : List V} {ds : List D} (r : RepL K H vs ds) : vs.isEmpty = ds.isEmpty := by cases r <;> rfl
theorem tw_truS (h : EW K te γ fun d => ∃ ds, (d = .tup ds ∨ d = .lst ds) ∧ Φ (!ds.isEmpty)) : TW K (tTru K te) γ Φ := fun Hs0 H0 Hs H σ Q S q =>
  h Hs0 H0 Hs H σ _ S fun Hs' H' v d g r ⟨ds, e, p⟩ => by
    rcases e with rfl | rfl
    · cases r with
      | tup h r =>
        rename_i a vs
        have e := emp_of r
        exact ⟨_, .inr (.inl ⟨_, sameT g.b h, rfl⟩), q _ _ _ g (e ▸ p)⟩
    · cases r with
      | lst h r =>
        rename_i a vs
        have e := emp_of r
        exact ⟨_, .inl ⟨_, .of (g.b _ _ h), rfl⟩, q _ _ _ g (e ▸ p)⟩
end
end Z

namespace Z
open PySem PySem.Spec L2 StX
variable [Tabs]
def top (i : Nat) : Stmt := PySem.Challenge.pw_twiceeach_k07_row_texts_there_and_back.main.body.getD i (.Pass ⟨0, 0, 0, 0⟩)
def mth (s : Stmt) (j : Nat) : Stmt := (StX.clsBody s).getD j (.Pass ⟨0, 0, 0, 0⟩)
/-! ### texts as lists of signs -/
theorem len_tl (x : Str) : x.length = (TL.tl x).length := TL.len_tl x
theorem len_add (x y : Str) : (x ++ y).length = x.length + y.length := by rw [TL.len_tl, TL.tl_append, List.length_append, ← TL.len_tl, ← TL.len_tl]
theorem len_one (c : Nat) : (⟨#[c]⟩ : Str).length = 1 := rfl
theorem tl_one (c : Nat) : TL.tl ⟨#[c]⟩ = [c] := rfl
theorem ltS_one (c d : Nat) : ltS ⟨#[c]⟩ ⟨#[d]⟩ = decide (c < d) := by
  unfold ltS
  show decide ((([c] : List Nat)) < [d]) = decide (c < d)
  by_cases h : c < d
  · rw [decide_eq_true h, decide_eq_true]
    exact List.Lex.rel h
  · rw [decide_eq_false h, decide_eq_false]
    intro q
    cases q with
    | rel q => exact h q
    | cons q => cases q
theorem str_of (x : Str) : x = ⟨(TL.tl x).toArray⟩ := (TL.mk_tl x).symm
theorem one_of {x : Str} (h : x.length = 1) : ∃ c, x = ⟨#[c]⟩ := by
  rw [TL.len_tl] at h
  match e : TL.tl x, h with
  | [c], _ => exact ⟨c, by rw [str_of x, e]⟩
theorem inS_one (c : Nat) (z : Str) : inS ⟨#[c]⟩ z = decide (c ∈ TL.tl z) := PySem.StrLaws.found_one z c
theorem subAt_eqL (x y : Str) (i : Nat) : Builtin.Str.subAt x y i = (((TL.tl x).drop i).take y.length == TL.tl y) := PySem.StrLaws.subAt_eq x y i
theorem ends_one (x : Str) (c : Nat) : Txt.endswith x ⟨#[c]⟩ = decide ((TL.tl x).getLast? = some c) := by
  unfold Txt.endswith
  rw [subAt_eqL, len_one, len_tl x, tl_one]
  rcases List.eq_nil_or_concat (TL.tl x) with e | ⟨l, a, e⟩
  · rw [e]; rfl
  · rw [e]
    simp only [List.concat_eq_append, List.length_append, List.length_singleton, Nat.add_sub_cancel, List.getLast?_append, List.getLast?_singleton]
    rw [List.drop_left]
    by_cases h : a = c
    · subst h; simp
    · simp [h]
/-- z[:-1] -/
theorem tl_cut_last (x : Str) : TL.tl (cutS x none (some (-1))) = (TL.tl x).dropLast := by
  unfold cutS
  show (((TL.tl x).drop (HT.sIx x.length 0 none)).take (HT.sIx x.length x.length (some (-1)) - HT.sIx x.length 0 none)) = _
  have e : HT.sIx x.length x.length (some (-1)) = x.length - 1 := by
    show (if (-1 : Int) < 0 then ((-1) + (x.length : Int)).toNat else min ((-1 : Int)).toNat x.length) = x.length - 1
    rw [if_pos (by decide)]; omega
  rw [e]
  show ((TL.tl x).drop 0).take (x.length - 1 - 0) = _
  rw [List.drop_zero, List.dropLast_eq_take, len_tl]; rfl
theorem tl_cut_from (x : Str) (n : Nat) : TL.tl (cutS x (some (n : Int)) none) = (TL.tl x).drop n := by
  unfold cutS
  show (((TL.tl x).drop (HT.sIx x.length 0 (some (n : Int)))).take (x.length - HT.sIx x.length 0 (some (n : Int)))) = _
  have e : HT.sIx x.length 0 (some (n : Int)) = min n x.length := HT.sIx_nat _ _ _
  rw [e, len_tl]
  by_cases h : n ≤ (TL.tl x).length
  · rw [Nat.min_eq_left h, List.take_of_length_le (by rw [List.length_drop]; exact Nat.le_refl _)]
  · rw [Nat.min_eq_right (by omega), List.drop_length, List.drop_eq_nil_of_le (by omega)]; simp
theorem len_cut (z : Str) (lo hi : Option Int) : (cutS z lo hi).length ≤ z.length := cutS_length z lo hi
theorem ext_tl {x y : Str} (h : TL.tl x = TL.tl y) : x = y := TL.ext_tl h
theorem tl_cut_to (x : Str) (n : Nat) : TL.tl (cutS x none (some (n : Int))) = (TL.tl x).take n := by
  unfold cutS
  show (((TL.tl x).drop (HT.sIx x.length 0 none)).take (HT.sIx x.length x.length (some (n : Int)) - HT.sIx x.length 0 none)) = _
  have e : HT.sIx x.length x.length (some (n : Int)) = min n x.length := HT.sIx_nat _ _ _
  rw [e, show HT.sIx x.length 0 none = 0 from rfl, List.drop_zero, Nat.sub_zero, len_tl]
  by_cases h : n ≤ (TL.tl x).length
  · rw [Nat.min_eq_left h]
  · rw [Nat.min_eq_right (by omega), List.take_length, List.take_of_length_le (by omega)]
theorem join_len (ys : List Str) (L : Nat) (h : ∀ y ∈ ys, y.length ≤ L) : (Txt.join Str.empty ys).length ≤ ys.length * L := by
  rw [len_tl, TL.join_eq, TL.tl_join]
  have key : ∀ zs : List (List Nat), (∀ z ∈ zs, z.length ≤ L) → (TL.joinL [] zs).length ≤ zs.length * L := by
    intro zs
    induction zs with
    | nil => intro _; exact Nat.zero_le _
    | cons z zs ih =>
      intro hz
      have h1 := hz z List.mem_cons_self
      have h2 := ih fun w hw => hz w (List.mem_cons_of_mem _ hw)
      cases zs with
      | nil => show z.length ≤ (0 + 1) * L; omega
      | cons y r =>
        show (z ++ ([] ++ TL.joinL [] (y :: r))).length ≤ _
        rw [List.nil_append, List.length_append]
        have e : (z :: y :: r).length * L = L + (y :: r).length * L := by rw [List.length_cons (a := z), Nat.succ_mul]; omega
        rw [e]; omega
  have q := key (ys.map TL.tl) fun z hz => by
    obtain ⟨y, hy, rfl⟩ := List.mem_map.mp hz
    rw [← len_tl]; exact h y hy
  rw [List.length_map] at q
  exact q
theorem sum_len : ∀ (ys : List Str) (L : Nat), (∀ y ∈ ys, y.length ≤ L) → (ys.map (·.length)).sum ≤ ys.length * L
  | [], _, _ => Nat.zero_le _
  | y :: ys, L, h => by
    have h1 := h y List.mem_cons_self
    have h2 := sum_len ys L fun w hw => h w (List.mem_cons_of_mem _ hw)
    rw [List.map_cons, List.sum_cons, List.length_cons, Nat.succ_mul]; omega
/-- ''.join of some short texts -/
theorem rwm_joinE {K : PySem.W.Frag} {Φ : D → Prop} {ys : List Str} (L n : Nat) (hn : ys.length ≤ n) (hs : ∀ y ∈ ys, y.length ≤ L) (hnl : n * L ≤ 1000000) (k : ∀ z : Str, z.length ≤ n * L → Φ (.str z)) : RWM K (rJoinZ K) (.str Str.empty) [.lst (ys.map .str)] Φ := by
  have h1 : ys.length * L ≤ n * L := Nat.mul_le_mul_right _ hn
  refine rwm_joinL ?_ (k _ (Nat.le_trans (join_len ys L hs) h1))
  rw [show Str.empty.length = 0 from rfl, Nat.mul_zero, Nat.add_zero]
  exact Nat.le_trans (Nat.le_trans (sum_len ys L hs) h1) hnl
theorem mem_strs {xs : List Str} {d : D} (h : d ∈ xs.map D.str) : ∃ z, d = .str z ∧ z ∈ xs := by
  obtain ⟨z, hz, rfl⟩ := List.mem_map.mp h
  exact ⟨z, rfl, hz⟩
/-! ### the walk over data, one step -/
theorem ew_ci {K : PySem.W.Frag} {γ : Gam} {Φ : D → Prop} {i : Int} (k : Φ (.int i)) : EW K (tC (.int i)) γ Φ := ew_c rfl k
theorem ew_cs {K : PySem.W.Frag} {γ : Gam} {Φ : D → Prop} {i : Str} (k : Φ (.str i)) : EW K (tC (.str i)) γ Φ := ew_c rfl k
theorem ew_cb' {K : PySem.W.Frag} {γ : Gam} {Φ : D → Prop} {i : Bool} (k : Φ (.bl i)) : EW K (tC (.bl i)) γ Φ := ew_c rfl k
theorem ew_cn {K : PySem.W.Frag} {γ : Gam} {Φ : D → Prop} (k : Φ .non) : EW K (tC .non) γ Φ := ew_c rfl k
theorem ew_ct {K : PySem.W.Frag} {γ : Gam} {Φ : D → Prop} {n : String} (k : Φ (.ty n)) : EW K (tC (.ty n)) γ Φ := ew_c rfl k
theorem ew_ng {K : PySem.W.Frag} {γ : Gam} {Φ : D → Prop} {ta : TE} (h : EW K ta γ fun d => ∃ i, d = .int i ∧ Φ (.int (-i))) : EW K (tUn (rU fun i => .int (-i)) ta) γ Φ := ew_neg (h.mono fun d ⟨i, e, p⟩ => ⟨i, e, rfl, p⟩)
theorem signs_get {z : Str} {i : Nat} {d : D} (h : (signs z)[i]? = some d) : ∃ c, (TL.tl z)[i]? = some c ∧ d = .str ⟨#[c]⟩ := by
  unfold signs at h
  rw [List.getElem?_map] at h
  cases e : (TL.tl z)[i]? with
  | none => rw [show z.cps.toList[i]? = none from e] at h; cases h
  | some c => rw [show z.cps.toList[i]? = some c from e] at h; exact ⟨c, rfl, (Option.some.inj h).symm⟩
theorem signs_len (z : Str) : (signs z).length = (TL.tl z).length := by unfold signs; rw [List.length_map]
theorem take_map_succ {α β : Type} {l : List α} {i : Nat} {c : α} (f : α → β) (h : l[i]? = some c) : (l.take (i + 1)).map f = (l.take i).map f ++ [f c] := by
  rw [List.take_add_one, h]; simp
/-- 'a' <= e <= 'z' of one sign -/
theorem ew_between {K : PySem.W.Frag} {γ : Gam} {Φ : D → Prop} {te : TE} (a b : Nat) (h : EW K te γ fun d => ∃ c, d = .str ⟨#[c]⟩ ∧ Φ (.bl (decide (a ≤ c) && decide (c ≤ b)))) : EW K (tChain rLeS rLeS (tC (.str ⟨#[a]⟩)) te (tC (.str ⟨#[b]⟩))) γ Φ := by
  refine ew_chain (ew_cs (h.mono fun d q => ?_))
  obtain ⟨c, rfl, p⟩ := q
  refine rw_leS ⟨_, rfl, fun h1 => ?_, fun h1 => ?_⟩
  · refine ew_cs (rw_leS ?_)
    rw [ltS_one] at h1 ⊢
    have e : (!decide (b < c)) = (decide (a ≤ c) && decide (c ≤ b)) := by
      have h2 : ¬ c < a := by simpa using h1
      by_cases h3 : b < c <;> simp [h3] <;> omega
    rw [e]; exact p
  · rw [ltS_one] at h1
    have h2 : c < a := by simpa using h1
    have e : false = (decide (a ≤ c) && decide (c ≤ b)) := by simp; omega
    rw [e]; exact p


local macro_rules | `(tactic| walk_at "zl") => `(tactic| first | (show _ ≤ (1000000 : Nat); omega) | omega | decide | assumption | (show List.length _ ≤ (1000000 : Nat); simp only [List.length_cons, List.length_nil]; omega) | (show _ ≤ (1000000 : Nat); simp only [len_add, len_one]; omega))
set_option hygiene false in
local macro_rules | `(tactic| walk_at "eE") => `(tactic| first
  | with_reducible refine ew_ci ?_
  | with_reducible refine ew_cs ?_
  | with_reducible refine ew_cb' ?_
  | with_reducible refine ew_cn ?_
  | with_reducible refine ew_ct ?_
  | ((with_reducible refine' ew_var ?hg ?_); (case hg => rfl))
  | ((with_reducible show EW _ (tCB _ (tCons (tVar _) tNil)) _ _); (refine' ew_lenO ?hg ?_); (case hg => rfl))
  | ((with_reducible show EW _ (tOp (rIxL _) (tVar _) _) _ _); (refine' ew_ixO ?hg ?_); (case hg => rfl))
  | ((with_reducible show EW _ (tOp (rIn _ _) _ (tVar _)) _ _); (refine' ew_niO ?hg ?_); (case hg => rfl))
  | ((with_reducible show EW _ (tOp (rIn _ _) _ (tVar _)) _ _); (refine' ew_inO ?hg ?_); (case hg => rfl))
  | with_reducible refine ew_op ?_
  | with_reducible refine ew_ng ?_
  | with_reducible refine ew_cb ?_
  | ((with_reducible show EW _ (tCall _ _ _ _) _ _); refine ew_call ?_)
  | with_reducible refine ew_chain ?_
  | with_reducible refine ew_if ?_
  | with_reducible refine ew_andV ?_
  | with_reducible refine ew_orV ?_
  | with_reducible refine ew_notV ?_
  | with_reducible refine ew_m0 ?_
  | with_reducible refine ew_m1 ?_
  | with_reducible refine ew_sl ?_
  | with_reducible refine ew_tup ?_
  | with_reducible refine ew_tcnt ?_
  | with_reducible refine ew_new (en_lst ?_)
  | with_reducible refine ew_joined ?_
  | ((with_reducible show EW _ (tRevL _ _) _ _); refine ew_new (en_revL ?_))
  | ((with_reducible show EW _ (tRevS _) _ _); refine ew_revS ?_))
set_option hygiene false in
local macro_rules | `(tactic| walk_at "eR") => `(tactic| first
  | ((with_reducible show RW2 _ (rI0 _) _ _ _); first
    | with_reducible refine rw_add ?_ | with_reducible refine rw_sub ?_ | with_reducible refine rw_lt ?_ | with_reducible refine rw_le ?_ | with_reducible refine rw_gt ?_ | with_reducible refine rw_ge ?_
    | refine rw_add ?_ | refine rw_sub ?_ | refine rw_lt ?_ | refine rw_le ?_ | refine rw_gt ?_ | refine rw_ge ?_)
  | ((with_reducible show RW2 _ (rI _ _) _ _ _); first
    | (refine rw_mod (by walk_at "zl") ?_)
    | (refine rw_fdiv (by exact ⟨by walk_at "zl", by walk_at "zl"⟩) ?_)
    | (refine rw_mul (by show (_ ∧ _) ∨ _; first | exact .inl ⟨by omega, by omega⟩ | exact .inr ⟨by omega, by omega⟩) ?_)
    | (refine rw_pow ⟨by decide, by decide, by decide⟩ ?_))
  | ((with_reducible show RW2 _ rEq _ _ _); first | refine rw_eqI ?_ | refine rw_eqS ?_ | refine rw_eqB ?_)
  | ((with_reducible show RW2 _ (rEqD _) _ _ _); refine rw_eqDD (by assumption) (by assumption) ?_)
  | ((with_reducible show RW2 _ (rNeD _) _ _ _); refine rw_neDD (by assumption) (by assumption) ?_)
  | ((with_reducible show RW2 _ rNe _ _ _); first | refine rw_neI ?_ | refine rw_neS ?_ | refine rw_neB ?_)
  | ((with_reducible show RW2 _ rLtS _ _ _); refine rw_ltS ?_)
  | ((with_reducible show RW2 _ rLeS _ _ _); refine rw_leS ?_)
  | ((with_reducible show RW2 _ rGtS _ _ _); refine rw_gtS ?_)
  | ((with_reducible show RW2 _ rGeS _ _ _); refine rw_geS ?_)
  | ((with_reducible show RW2 _ rInSt _ _ _); refine rw_inS ?_)
  | ((with_reducible show RW2 _ rNiSt _ _ _); refine rw_niS ?_)
  | ((with_reducible show RW2 _ rRepS _ _ _); refine rw_repS (by omega) (by omega) (by assumption) ?_)
  | ((with_reducible show RW2 _ rAddStr _ _ _); refine rw_addStr (by walk_at "zl") ?_)
  | ((with_reducible show RW2 _ (rIn _ _) _ _ _); first | refine rw_inL ?_ | refine rw_inT ?_ | refine rw_niL ?_ | refine rw_niT ?_)
  | ((with_reducible show RW2 _ (rIxL _) _ _ _); first
    | (refine' rw_ixL ?hg ?_; (case hg => assumption))
    | (refine' rw_ixC ?hg ?_; (case hg => assumption))
    | (refine rw_ixI (by omega) (by omega) (by assumption) ?_; intro nD n0D n1D))
  | ((with_reducible show RW2 _ (rIxT _) _ _ _); (refine' rw_ixT ?hg ?_; (case hg => assumption)))
  | ((with_reducible show RW2 _ rIxS _ _ _); (refine' rw_ixS (by walk_at "zl") ?hg ?_; (case hg => assumption)))
  | ((with_reducible show RW2 _ (rIx _) _ _ _); first | (refine' rw_ixQL ?hg ?_; (case hg => assumption)) | (refine' rw_ixQT ?hg ?_; (case hg => assumption)))
  | ((with_reducible show RW2 _ rCat _ _ _); refine rw2_new (rn_cat (by walk_at "zl") ?_))
  | ((with_reducible show RW2 _ (rCatF _) _ _ _); refine rw_catA (by walk_at "zl") ?_))
set_option hygiene false in
local macro_rules | `(tactic| walk_at "eL") => `(tactic| first
  | ((with_reducible show RWL _ (rIsi _) _ _); first | refine rwl_isi (b := true) rfl (by rfl) (.ty _) ?_ | refine rwl_isi (b := false) rfl (by rfl) (.ty _) ?_)
  | ((with_reducible show RWL _ (rLen _) _ _); first | refine rwl_lenL ?_ | refine rwl_lenT ?_ | refine rwl_lenC ?_ | refine rwl_lenS (by walk_at "zl") ?_)
  | ((with_reducible show RWL _ (rTupOf _) _ _); first | refine rwl_tupL ?_ | refine rwl_tupT ?_)
  | ((with_reducible show RWL _ (rListOf _) _ _); first | refine rwl_new (rnl_listL ?_) | refine rwl_new (rnl_listT ?_))
  | ((with_reducible show RWL _ (rAll _) _ _); refine rwl_all ?_)
  | ((with_reducible show RWL _ (rSum _) _ _); refine rwl_sum ?_)
  | refine rwl_int ?_ | refine rwl_abs ?_ | refine rwl_min2 ?_ | refine rwl_max2 ?_)
set_option hygiene false in
local macro_rules | `(tactic| walk_at "eO") => `(tactic| first
  | with_reducible refine aw_cons ?_
  | with_reducible refine aw_nil ?_
  | with_reducible refine tw_test ?_
  | with_reducible refine tw_B ?_
  | with_reducible refine tw_and ?_
  | with_reducible refine tw_or ?_
  | with_reducible refine tw_not ?_
  | with_reducible refine tw_yes ?_
  | with_reducible refine ow_none ?_
  | with_reducible refine ow_some ?_
  | ((with_reducible show IW _ (iList _ _) _ _); refine iw_list ?_)
  | ((with_reducible show IW _ (iTup _ _) _ _); refine iw_tup ?_)
  | with_reducible refine iw_range1 ?_
  | with_reducible refine iw_range2 ?_
  | with_reducible refine iw_str ?_
  | ((with_reducible show IW _ (iEnum _ _) _ _); refine iw_enum ?_)
  | with_reducible refine gw_name ?_
  | ((with_reducible show GW _ (gTup _ _ _) _ _ _ _); (refine' gw_tup ?hg ?_); (case hg => rfl))
  | ((with_reducible show GW _ (gTup _ _ _) _ (.tpl _) _ _); (refine' gw_tpl ?hg ?_); (case hg => rfl))
  | with_reducible refine gws_cons ?_
  | with_reducible refine gws_nil ?_
  | with_reducible refine jw_nil ?_
  | with_reducible refine jw_cons ?_
  | with_reducible refine en_cb ?_
  | with_reducible refine en_op ?_
  | with_reducible refine en_m1 ?_
  | with_reducible refine en_sl ?_
  | with_reducible refine en_lst ?_
  | ((with_reducible show EN _ (tRevL _ _) _ _); refine en_revL ?_)
  | ((with_reducible show SlW _ rSlS _ _ _ _); refine sl_S (by walk_at "zl") ?_)
  | ((with_reducible show SlW _ (rSlF _) _ _ _ _); refine sl_TA ?_)
  | ((with_reducible show SlW _ (rSlL _) _ _ _ _); first | (refine slw_new (sln_I (by assumption) ?_); intro msD hmD lmD) | refine slw_new (sln_L ?_))
  | ((with_reducible show SlN _ (rSlL _) _ _ _ _); refine sln_L ?_)
  | ((with_reducible show RWM _ rEnds _ _ _); refine rwm_ends ?_)
  | ((with_reducible show RWM _ rStarts _ _ _); refine rwm_starts ?_)
  | ((with_reducible show RNL _ (rListOf _) _ _); first | refine rnl_listL ?_ | refine rnl_listT ?_)
  | ((with_reducible show RN2 _ rCat _ _ _); refine rn_cat (by walk_at "zl") ?_)
  | ((with_reducible show _ ≤ sizeS ∧ _); refine ⟨by walk_at "zl", ?_⟩)
  | ((with_reducible show _ < sizeS ∧ _); refine ⟨by walk_at "zl", ?_⟩))
set_option hygiene false in
local macro_rules | `(tactic| walk_at "e1") => `(tactic| first
  | ((with_reducible show EW _ _ _ _); (walk_at "eE"))
  | ((with_reducible show RW2 _ _ _ _ _); (walk_at "eR"))
  | ((with_reducible show RWL _ _ _ _); (walk_at "eL"))
  | (walk_at "eO")
  | refine ⟨_, rfl, ?_⟩
  | ((with_reducible show ∃ _, atI _ _ = some _ ∧ _); refine ⟨_, by assumption, ?_⟩))
local macro_rules | `(tactic| walk_at "e") => `(tactic| repeat (walk_at "e1"))
local macro_rules | `(tactic| walk_at "T") => `(tactic| refine ⟨fun _ => ?_, fun q => by cases q⟩)
local macro_rules | `(tactic| walk_at "F") => `(tactic| refine ⟨(fun q => by cases q), fun _ => ?_⟩)

/-! ### the mathematics -/
def lowB (c : Nat) : Bool := decide (97 ≤ c) && decide (c ≤ 122)
def tailB (c : Nat) : Bool := lowB c || (decide (48 ≤ c) && decide (c ≤ 57))
def capB (c : Nat) : Bool := decide (65 ≤ c) && decide (c ≤ 90)
def isLetterL : List Nat → Bool
  | [c] => lowB c
  | _ => false
def isNameL : List Nat → Bool
  | c :: r => decide (r.length ≤ 3) && (capB c && r.all tailB)
  | [] => false
theorem isName_cons (c : Nat) (r : List Nat) : isNameL (c :: r) = (decide (r.length ≤ 3) && (capB c && r.all tailB)) := rfl
theorem between_one (c a b : Nat) : ((!ltS ⟨#[c]⟩ ⟨#[a]⟩) && !ltS ⟨#[b]⟩ ⟨#[c]⟩) = (decide (a ≤ c) && decide (c ≤ b)) := by
  rw [ltS_one, ltS_one]
  by_cases h1 : c < a <;> by_cases h2 : b < c <;> simp [h1, h2] <;> omega
/-- name_of -/
def nmS (z : Str) : Str := if Txt.endswith z "~" = true then cutS z none (some (-1)) else z
def tnS (z : Str) : Str := if Txt.endswith z "~" = true then cutS z none (some (-1)) else if isNameL (TL.tl (nmS z)) = true then z ++ "~" else z
theorem len_nm (z : Str) : (nmS z).length ≤ z.length := by
  unfold nmS
  split
  · exact len_cut _ _ _
  · exact Nat.le_refl _
abbrev s_is_turned : Stmt := top 10
abbrev N_is_turned : List Str := ["symbol"]
abbrev P_is_turned : List Str := ["symbol"]
theorem sc_is_turned : FnScope N_is_turned P_is_turned (defScope s_is_turned) := ⟨rfl, rfl, rfl, by decide +kernel, rfl, by decide +kernel, by decide +kernel⟩
def pre_is_turned : List D → Prop := fun ds => ∃ z, ds = [.str z] ∧ z.length ≤ 10000
def post_is_turned : List D → D → Prop := fun ds d => ∀ z, ds = [.str z] → d = .bl (Txt.endswith z "~")
set_option maxHeartbeats 4000000 in
theorem df_is_turned {P : Program} {w : World} {K : PySem.W.Frag} {mg : Str → Option Value} {base : Heap} {fd : FuncData} {f : Addr} (F : FunD K "is_turned" "is_turned" (defArgs s_is_turned) (defBody s_is_turned) (defScope s_is_turned) [] [] f fd) (hm : mg "is_turned" = some (.ref f)) (c_TURN : ∃ t, mg "TURN" = some (.str "~" t)) :
    Df P w K mg base "is_turned" 1 P_is_turned 1 pre_is_turned post_is_turned := by
  refine df_mk F hm sc_is_turned (fun _ _ _ _ _ _ us hl => match us, hl with | [_], _ => rfl) fun cdv A outer s H E hr ds hl hp => ⟨_,
    (pss_one (ps_ret (pe_m1 PySem.F.slot_str_endswith PySem.F.type_str_endswith mt_endsZ (pv 0) (pe_gs c_TURN (by rfl))))), ?_⟩
  obtain ⟨a0, rfl⟩ : ∃ a0, ds = [a0] := match ds, hl with | [_], _ => ⟨_, rfl⟩
  obtain ⟨z, e, hz⟩ := hp
  cases e
  refine sw_ret ?_
  walk_at "e"
  intro z' e; cases e
  rfl
abbrev s_name_of : Stmt := top 11
abbrev N_name_of : List Str := ["symbol"]
abbrev P_name_of : List Str := ["symbol"]
theorem sc_name_of : FnScope N_name_of P_name_of (defScope s_name_of) := ⟨rfl, rfl, rfl, by decide +kernel, rfl, by decide +kernel, by decide +kernel⟩
def pre_name_of : List D → Prop := fun ds => ∃ z, ds = [.str z] ∧ z.length ≤ 10000
def post_name_of : List D → D → Prop := fun ds d => ∀ z, ds = [.str z] → d = .str (nmS z)
set_option maxHeartbeats 4000000 in
theorem df_name_of {P : Program} {w : World} {K : PySem.W.Frag} {mg : Str → Option Value} {base : Heap} {fd : FuncData} {f : Addr} (F : FunD K "name_of" "name_of" (defArgs s_name_of) (defBody s_name_of) (defScope s_name_of) [] [] f fd) (hm : mg "name_of" = some (.ref f)) (g_is_turned : Df P w K mg base "is_turned" 1 P_is_turned 1 pre_is_turned post_is_turned) :
    Df P w K mg base "name_of" 2 P_name_of 1 pre_name_of post_name_of := by
  refine df_mk F hm sc_name_of (fun _ _ _ _ _ _ us hl => match us, hl with | [_], _ => rfl) fun cdv A outer s H E hr ds hl hp => ⟨_,
    (pss_cons (ps_if (pt_val (pe_dfK K rfl g_is_turned hr (by decide) (by rfl) (pa_cons (pv 0) pa_nil))) (pss_one (ps_ret (pe_slice sl_str (pv 0) po_none (po_some (pe_un un_neg pe_int))))) pss_nil)
    (pss_one (ps_ret (pv 0)))), ?_⟩
  obtain ⟨a0, rfl⟩ : ∃ a0, ds = [a0] := match ds, hl with | [_], _ => ⟨_, rfl⟩
  obtain ⟨z, e, hz⟩ := hp
  cases e
  refine sw_seq (sw_if ?_)
  walk_at "e"
  refine call_ok rfl ⟨_, rfl, hz⟩ fun d hd => ?_
  obtain rfl := hd _ rfl
  walk_at "e"
  refine ⟨fun h => ?_, fun h => ?_⟩
  · refine sw_ret ?_
    walk_at "e"
    intro z' e; cases e
    unfold nmS; rw [if_pos h]
  · refine sw_next ?_
    refine sw_ret ?_
    walk_at "e"
    intro z' e; cases e
    unfold nmS; rw [h, if_neg (by decide)]
abbrev s_is_name : Stmt := top 8
abbrev N_is_name : List Str := ["text", "sign"]
abbrev P_is_name : List Str := ["text"]
theorem sc_is_name : FnScope N_is_name P_is_name (defScope s_is_name) := ⟨rfl, rfl, rfl, by decide +kernel, rfl, by decide +kernel, by decide +kernel⟩
def pre_is_name : List D → Prop := fun ds => ∃ z, ds = [.str z] ∧ z.length ≤ 10000
def post_is_name : List D → D → Prop := fun ds d => ∀ z, ds = [.str z] → d = .bl (isNameL (TL.tl z))
set_option maxHeartbeats 4000000 in
theorem df_is_name {P : Program} {w : World} {K : PySem.W.Frag} {mg : Str → Option Value} {base : Heap} {fd : FuncData} {f : Addr} (F : FunD K "is_name" "is_name" (defArgs s_is_name) (defBody s_is_name) (defScope s_is_name) [] [] f fd) (hm : mg "is_name" = some (.ref f)) (n_all : mg "all" = none) (n_len : mg "len" = none) :
    Df P w K mg base "is_name" 1 P_is_name 1 pre_is_name post_is_name := by
  refine df_mk F hm sc_is_name (fun _ _ _ _ _ _ us hl => match us, hl with | [_], _ => rfl) fun cdv A outer s H E hr ds hl hp => ⟨_,
    (pss_cons (ps_if (PW.pt (pw_or (pt_not (pt_chain op_le op_le pe_int (pe_callB (call_lenK K rfl) (by rfl) n_len PySem.boot_len (pa_cons (pv 0) pa_nil)) pe_int)) (pw_or1 (pt_not (pt_chain op_leS op_leS pe_str (pe_ix ix_str (pv 0) pe_int (fun _ _ => rfl)) pe_str))))) (pss_one (ps_ret pe_bl)) pss_nil)
    (pss_one (ps_ret (pe_callB (cr_allK K rfl rfl) (by rfl) n_all (by decide +kernel) (pa_cons (pe_lc (own := [("sign", 1)]) rfl sc_is_name.nd (pi_str (pe_slice sl_str (pv 0) (po_some pe_int) po_none)) (blkOk_by (N := N_is_name) (sc := defScope s_is_name) (by decide +kernel)) (fun _ _ _ _ _ => (pg_name (i := 1) sc_is_name.nd rfl (by first | exact Or.inl rfl | exact Or.inr rfl))) (fun _ _ _ _ _ => pts_nil) (fun _ _ _ _ _ => (pe_or (pe_chain op_leS op_leS pe_str (pv 1) pe_str) (pe_one (pe_chain op_leS op_leS pe_str (pv 1) pe_str))))) pa_nil))))), ?_⟩
  obtain ⟨a0, rfl⟩ : ∃ a0, ds = [a0] := match ds, hl with | [_], _ => ⟨_, rfl⟩
  obtain ⟨z, e, hz⟩ := hp
  cases e
  have lz := len_tl z
  have no : (¬ (1 ≤ (TL.tl z).length ∧ (TL.tl z).length ≤ 4)) → isNameL (TL.tl z) = false := fun h => by
    match e : TL.tl z, h with
    | [], _ => rfl
    | c :: r, h =>
      rw [List.length_cons] at h
      rw [isName_cons, decide_eq_false (by omega)]; rfl
  have fal : isNameL (TL.tl z) = false → SW K (tRet (tC (V.bl false))) (gam0 N_is_name.length [D.str z]) { nx := fun _ => False, rt := post_is_name [D.str z] } := fun h => by
    refine sw_ret ?_
    walk_at "e"
    intro z' e; cases e; rw [h]
  refine sw_seq (sw_if ?_)
  walk_at "e"
  refine ⟨fun h => ?_, fun h => ?_⟩
  · walk_at "e"
    refine ⟨fun h2 => ?_, fun h2 => ?_⟩
    · walk_at "T"
      exact (fal (no (by simp at h2; omega))).mono (fun _ z => z.elim) (fun _ z => z) (fun _ z => z) fun _ z => z
    · have h3 : 1 ≤ (TL.tl z).length ∧ (TL.tl z).length ≤ 4 := by simp at h h2; omega
      obtain ⟨c, r, ecr⟩ : ∃ c r, TL.tl z = c :: r := by
        match e : TL.tl z, h3 with
        | c :: r, _ => exact ⟨c, r, rfl⟩
      have h4 : r.length ≤ 3 := by rw [ecr, List.length_cons] at h3; omega
      have i0 : atI z.cps.toList 0 = some c := atI_nat (j := 0) (by show (TL.tl z)[0]? = some c; rw [ecr]; rfl)
      have nm : isNameL (TL.tl z) = (capB c && r.all tailB) := by
        rw [ecr, isName_cons, decide_eq_true h4]; rfl
      refine tw_not (tw_test (ew_between 65 90 ?_))
      walk_at "e"
      refine ⟨fun h5 => ?_, fun h5 => ?_⟩
      · have h6 : capB c = false := by unfold capB; revert h5; cases (decide (65 ≤ c) && decide (c ≤ 90)) <;> simp
        exact (fal (by rw [nm, h6]; rfl)).mono (fun _ z => z.elim) (fun _ z => z) (fun _ z => z) fun _ z => z
      · have h6 : capB c = true := by unfold capB; revert h5; cases (decide (65 ≤ c) && decide (c ≤ 90)) <;> simp
        refine sw_next ?_
        refine sw_ret ?_
        walk_at "e"
        refine ew_new (en_lc (js := [1]) (by decide) ?_)
        walk_at "e"
        have er : TL.tl (cutS z (some ((1 : Nat) : Int)) none) = r := by rw [tl_cut_from, ecr]; rfl
        refine ⟨fun i acc => acc = ((r.take i).map tailB).map D.bl, rfl, fun i d acc hd hi => ⟨?_, ?_⟩, fun acc hi => ?_⟩
        · rw [hi]; simp; show _ < (1000000 : Nat); omega
        · obtain ⟨x, hx, rfl⟩ := signs_get hd
          rw [show TL.tl (cutS z (some 1) none) = r from er] at hx
          have fin : ∀ b, b = tailB x → acc ++ [D.bl b] = ((r.take (i + 1)).map tailB).map D.bl := fun b e => by
            rw [take_map_succ tailB hx, List.map_append, ← hi, e]; rfl
          walk_at "e"
          walk_at "T"
          refine ew_orV (ew_between 97 122 ?_)
          walk_at "e"
          refine ⟨fun h7 => ?_, fun h7 => ?_⟩
          · refine fin _ ?_
            unfold tailB lowB; rw [h7]; rfl
          · refine ew_between 48 57 ?_
            walk_at "e"
            refine fin _ ?_
            unfold tailB lowB; rw [h7]; rfl
        · have e2 : acc = (r.map tailB).map D.bl := by
            rw [hi, signs_len, show TL.tl (cutS z (some 1) none) = r from er, List.take_length]
          subst e2
          walk_at "e"
          intro z' e; cases e
          rw [nm, h6, List.all_map]; rfl
  · walk_at "e"
    walk_at "T"
    walk_at "T"
    exact (fal (no (by simp at h; omega))).mono (fun _ z => z.elim) (fun _ z => z) (fun _ z => z) fun _ z => z
abbrev s_is_piece : Stmt := top 9
abbrev N_is_piece : List Str := ["symbol"]
abbrev P_is_piece : List Str := ["symbol"]
theorem sc_is_piece : FnScope N_is_piece P_is_piece (defScope s_is_piece) := ⟨rfl, rfl, rfl, by decide +kernel, rfl, by decide +kernel, by decide +kernel⟩
def pre_is_piece : List D → Prop := fun ds => ∃ z, ds = [.str z] ∧ z.length ≤ 10000
def post_is_piece : List D → D → Prop := fun ds d => ∀ z, ds = [.str z] → d = .bl (isNameL (TL.tl (nmS z)))
set_option maxHeartbeats 4000000 in
theorem df_is_piece {P : Program} {w : World} {K : PySem.W.Frag} {mg : Str → Option Value} {base : Heap} {fd : FuncData} {f : Addr} (F : FunD K "is_piece" "is_piece" (defArgs s_is_piece) (defBody s_is_piece) (defScope s_is_piece) [] [] f fd) (hm : mg "is_piece" = some (.ref f)) (g_is_name : Df P w K mg base "is_name" 1 P_is_name 1 pre_is_name post_is_name) (g_name_of : Df P w K mg base "name_of" 2 P_name_of 1 pre_name_of post_name_of) :
    Df P w K mg base "is_piece" 3 P_is_piece 1 pre_is_piece post_is_piece := by
  refine df_mk F hm sc_is_piece (fun _ _ _ _ _ _ us hl => match us, hl with | [_], _ => rfl) fun cdv A outer s H E hr ds hl hp => ⟨_,
    (pss_one (ps_ret (pe_dfK K rfl g_is_name hr (by decide) (by rfl) (pa_cons (pe_dfK K rfl g_name_of hr (by decide) (by rfl) (pa_cons (pv 0) pa_nil)) pa_nil)))), ?_⟩
  obtain ⟨a0, rfl⟩ : ∃ a0, ds = [a0] := match ds, hl with | [_], _ => ⟨_, rfl⟩
  obtain ⟨z, e, hz⟩ := hp
  cases e
  refine sw_ret ?_
  walk_at "e"
  refine call_ok rfl ⟨_, rfl, hz⟩ fun d hd => ?_
  obtain rfl := hd _ rfl
  walk_at "e"
  refine call_ok rfl ⟨_, rfl, Nat.le_trans (len_nm z) hz⟩ fun d hd => ?_
  obtain rfl := hd _ rfl
  intro z' e; cases e
  rfl
theorem strs_inj : ∀ {a b : List Str}, a.map D.str = b.map D.str → a = b
  | [], [], _ => rfl
  | [], _ :: _, e => by cases e
  | _ :: _, [], e => by cases e
  | x :: a, y :: b, e => by
    injection e with e1 e2
    injection e1 with e1
    rw [e1, strs_inj e2]
/-! ### words -/
theorem joinL_len (S : List Nat) : ∀ ps : List (List Nat), ps ≠ [] → (TL.joinL S ps).length + S.length = (ps.map (·.length)).sum + ps.length * S.length
  | [], h => (h rfl).elim
  | [p], _ => by simp [TL.joinL]
  | p :: q :: r, _ => by
    have ih := joinL_len S (q :: r) (by simp)
    show (p ++ (S ++ TL.joinL S (q :: r))).length + S.length = _
    rw [List.length_append, List.length_append, List.map_cons, List.sum_cons, List.length_cons, Nat.succ_mul]
    omega
theorem join_lenE (ps : List Str) (h : ps ≠ []) : (Txt.join " " ps).length + 1 = (ps.map (·.length)).sum + ps.length := by
  have e := joinL_len [32] (ps.map TL.tl) (by simpa using h)
  rw [List.length_map, List.map_map] at e
  have e2 : (Txt.join " " ps).length = (TL.joinL [32] (ps.map TL.tl)).length := by
    rw [len_tl, TL.join_eq, TL.tl_join]; rfl
  have e3 : (ps.map (·.length)) = (ps.map ((·.length) ∘ TL.tl)) := List.map_congr_left fun p _ => len_tl p
  rw [e2, e3]
  simp at e ⊢
  omega
theorem join_splitE (t : Str) : Txt.join " " (Txt.split t " ") = t := by rw [TL.join_eq]; exact PySem.StrLaws.join_split t " "
theorem split_ne (t : Str) : Txt.split t " " ≠ [] := fun h => by
  have e := join_splitE t
  rw [h] at e
  have e : t = ("" : Str) := e.symm
  subst e
  exact absurd h (by decide)
theorem mem_sum : ∀ {l : List Nat} {a : Nat}, a ∈ l → a ≤ l.sum
  | b :: l, a, h => by
    rw [List.sum_cons]
    rcases List.mem_cons.mp h with rfl | h
    · omega
    · have := mem_sum h; omega
theorem split_sum (t : Str) : ((Txt.split t " ").map (·.length)).sum + (Txt.split t " ").length = t.length + 1 := by
  have e := join_lenE _ (split_ne t)
  rw [join_splitE] at e
  exact e.symm
theorem split_len (t : Str) : ∀ w ∈ Txt.split t " ", w.length ≤ t.length := fun w hw => by
  have e := split_sum t
  have h1 := mem_sum (List.mem_map.mpr ⟨w, hw, rfl⟩ : w.length ∈ (Txt.split t " ").map (·.length))
  have h2 : 0 < (Txt.split t " ").length := List.length_pos_of_mem hw
  omega
theorem splits_len (t : Str) : (Txt.split t " ").length ≤ t.length + 1 := by
  have e := split_sum t
  omega
/-- a symbol -/
def symB (z : Str) : Bool := isLetterL (TL.tl z) || (isNameL (TL.tl (nmS z)) || decide (z = "#"))
/-- the words of a text -/
def wdsS (t : Str) : List Str := if t = "-" then [] else Txt.split t " "
def rowB (t : Str) : Bool := (wdsS t).all symB
def fmtL (ws : List Str) : Str := if ws = [] then "-" else Txt.join " " ws
theorem wds_len (t : Str) : ∀ w ∈ wdsS t, w.length ≤ t.length := fun w hw => by
  unfold wdsS at hw
  split at hw
  · cases hw
  · exact split_len t w hw
theorem wdss_len (t : Str) : (wdsS t).length ≤ t.length + 1 := by
  unfold wdsS
  split
  · simp
  · exact splits_len t
theorem wdss_sum (t : Str) : ((wdsS t).map (·.length)).sum + (wdsS t).length ≤ t.length + 1 := by
  unfold wdsS
  split
  · simp
  · rw [split_sum]; omega
theorem fmt_wds (t : Str) : fmtL (wdsS t) = t := by
  unfold wdsS fmtL
  split
  · rename_i h; rw [if_pos rfl, h]
  · rw [if_neg (split_ne t)]; exact join_splitE t
theorem tl_nmS (z : Str) : TL.tl z = TL.tl (nmS z) ∨ TL.tl z = TL.tl (nmS z) ++ [126] := by
  unfold nmS
  by_cases h : Txt.endswith z "~" = true
  · right
    rw [if_pos h, tl_cut_last]
    have h2 : Txt.endswith z ⟨#[126]⟩ = true := h
    rw [ends_one] at h2
    have h2 := of_decide_eq_true h2
    rcases List.eq_nil_or_concat (TL.tl z) with e | ⟨l, a, e⟩
    · rw [e] at h2; cases h2
    · rw [e] at h2 ⊢
      simp at h2
      subst h2
      simp
  · left; rw [if_neg h]
theorem name_sg {l : List Nat} (h : isNameL l = true) : ∀ c ∈ l, 48 ≤ c ∧ c ≤ 122 := by
  cases l with
  | nil => intro c hc; cases hc
  | cons a r =>
    rw [isName_cons] at h
    simp only [Bool.and_eq_true, decide_eq_true_eq] at h
    obtain ⟨_, h1, h2⟩ := h
    intro c hc
    rcases List.mem_cons.mp hc with rfl | hc
    · unfold capB at h1; simp at h1; omega
    · have := List.all_eq_true.mp h2 c hc
      unfold tailB lowB at this
      simp at this
      omega
theorem sym_sg {z : Str} (h : symB z = true) : ∀ c ∈ TL.tl z, 35 ≤ c ∧ c ≤ 126 := by
  unfold symB at h
  rw [Bool.or_eq_true, Bool.or_eq_true] at h
  intro c hc
  rcases h with h | h | h
  · match e : TL.tl z, h with
    | [a], h =>
      rw [e] at hc
      obtain rfl := List.mem_singleton.mp hc
      have h : lowB c = true := h
      unfold lowB at h; simp at h; omega
  · have hn := name_sg h
    rcases tl_nmS z with e | e
    · rw [e] at hc; have := hn c hc; omega
    · rw [e] at hc
      rcases List.mem_append.mp hc with hc | hc
      · have := hn c hc; omega
      · obtain rfl := List.mem_singleton.mp hc; omega
  · have h := of_decide_eq_true h
    subst h
    have hc : c ∈ [35] := hc
    obtain rfl := List.mem_singleton.mp hc; omega
theorem wds_fmt {ws : List Str} (h : ∀ w ∈ ws, symB w = true) : wdsS (fmtL ws) = ws := by
  unfold fmtL
  by_cases h0 : ws = []
  · rw [if_pos h0, h0]; rfl
  · rw [if_neg h0]
    have e : Txt.split (Txt.join " " ws) " " = ws := TL.split_join (y := " ") (s := 32) (S := []) rfl (by decide +kernel) h0 fun p hp z => by
      have := sym_sg (h p hp) 32 z; omega
    unfold wdsS
    rw [if_neg, e]
    intro z
    rw [z] at e
    have hm : ("-" : Str) ∈ ws := by rw [← e]; decide +kernel
    have := h _ hm
    exact absurd this (by decide)
abbrev si_BadText : Stmt := mth (top 3) 0
def xd_BadText : StX.SupD := ⟨"BadText", "BadText.__init__", defArgs si_BadText, defBody si_BadText, defScope si_BadText, ["line"]⟩
def preI_BadText : List D → Prop := fun ds => ∃ n : Int, ds = [.int n] ∧ n.natAbs < 2 ^ 64
set_option maxHeartbeats 4000000 in
theorem rz_BadText {P : Program} {w : World} {K : PySem.W.Frag} {mg : Str → Option Value} {base : Heap} {file : Str} (e : StX.fnS K ("BadText", some "__init__") = xd_BadText.val) (c : xd_BadText.ok K file = true) (hfile : P.main.file = file) (hsup : mg "super" = none) (h3 : (P.main.scope.names.lookup ("super" : Str)).isSome = false)
    (hm : mg "BadText" = some (.ref (He.ga K "BadText"))) : RzC P w K mg base "BadText" 1 ["line"] preI_BadText := by
  obtain ⟨f, cda, cc, oc, kV, doc, pm, ct, od, an, osl, lk, hfi, hty, T, hnf, hE⟩ := StX.SupD.facts (ps := ["self", "line"]) e c hfile hsup (by decide +kernel) ⟨_, rfl, rfl⟩ h3
  refine ⟨f, _, hm, T.oex, hfi, hty, hE, hnf, ["self", "line"], .all (fun us hl => match us, hl with | [_, _], _ => rfl), StX.fn_supI (k := 0) (N := ["self", "line", "__class__"]) T lk (NdefX.nscope_by (by decide +kernel)) (fun vs H Q E h => ?_) (fun _ => rfl) _ (fun _ => rfl) fun A outer s H vs Q E hr h => ?_⟩
  · obtain ⟨a, ws, Hs, ds, rfl, _, _, _, _, r, l, _⟩ := h
    rw [List.length_cons, r.length, l]; rfl
  · obtain ⟨a, ws, Hs, ds, rfl, ha, hsa, tb, b, r, l, hp, q⟩ := h
    refine ⟨a, ws, rfl, ha, _, _, (pe_joinedZ (.cons pe_str (.cons (pe_fmt (pv 1)) .nil))), (pss_one (ps_ost (pv 0) (pv 1))), ?_⟩
    obtain ⟨n, e, hn⟩ := hp
    subst e
    cases r with
    | cons r1 r2 =>
      cases r1; cases r2
      exact msg_run (.cons (part_c _) (.cons (part_i rfl hn) .nil)) (by decide) H _ fun v => ⟨rfl, ha, ost_1 T.oex ha rfl rfl (hnf _ List.mem_cons_self) fun dx hd hne => q dx hd hne⟩
abbrev s_is_letter : Stmt := top 7
abbrev N_is_letter : List Str := ["symbol"]
abbrev P_is_letter : List Str := ["symbol"]
theorem sc_is_letter : FnScope N_is_letter P_is_letter (defScope s_is_letter) := ⟨rfl, rfl, rfl, by decide +kernel, rfl, by decide +kernel, by decide +kernel⟩
def pre_is_letter : List D → Prop := fun ds => ∃ z, ds = [.str z] ∧ z.length ≤ 10000
def post_is_letter : List D → D → Prop := fun ds d => ∀ z, ds = [.str z] → d = .bl (isLetterL (TL.tl z))
set_option maxHeartbeats 4000000 in
theorem df_is_letter {P : Program} {w : World} {K : PySem.W.Frag} {mg : Str → Option Value} {base : Heap} {fd : FuncData} {f : Addr} (F : FunD K "is_letter" "is_letter" (defArgs s_is_letter) (defBody s_is_letter) (defScope s_is_letter) [] [] f fd) (hm : mg "is_letter" = some (.ref f)) (n_len : mg "len" = none) :
    Df P w K mg base "is_letter" 1 P_is_letter 1 pre_is_letter post_is_letter := by
  refine df_mk F hm sc_is_letter (fun _ _ _ _ _ _ us hl => match us, hl with | [_], _ => rfl) fun cdv A outer s H E hr ds hl hp => ⟨_,
    (pss_one (ps_ret (pe_and (pe_cmpR op_eq (pe_callB (call_lenK K rfl) (by rfl) n_len PySem.boot_len (pa_cons (pv 0) pa_nil)) pe_int (nomark _)) (pe_one (pe_chain op_leS op_leS pe_str (pv 0) pe_str))))), ?_⟩
  obtain ⟨a0, rfl⟩ : ∃ a0, ds = [a0] := match ds, hl with | [_], _ => ⟨_, rfl⟩
  obtain ⟨z, e, hz⟩ := hp
  cases e
  refine sw_ret ?_
  walk_at "e"
  refine ⟨fun h => ?_, fun h => ?_⟩
  · have h : z.length = 1 := by simp at h; omega
    obtain ⟨c, rfl⟩ := one_of h
    refine ew_between 97 122 ?_
    walk_at "e"
    intro z' e; cases e
    rfl
  · intro z' e; cases e
    have h : z.length ≠ 1 := by simp at h; omega
    have : isLetterL (TL.tl z) = false := by
      rw [len_tl] at h
      match e : TL.tl z, h with
      | [], _ => rfl
      | [c], h => exact (h rfl).elim
      | _ :: _ :: _, _ => rfl
    rw [this]
abbrev s_symbols_of : Stmt := top 15
abbrev N_symbols_of : List Str := ["text"]
abbrev P_symbols_of : List Str := ["text"]
theorem sc_symbols_of : FnScope N_symbols_of P_symbols_of (defScope s_symbols_of) := ⟨rfl, rfl, rfl, by decide +kernel, rfl, by decide +kernel, by decide +kernel⟩
def pre_symbols_of : List D → Prop := fun ds => ∃ z, ds = [.str z] ∧ z.length ≤ 10000
def post_symbols_of : List D → D → Prop := fun ds d => ∀ z, ds = [.str z] → d = .lst ((wdsS z).map .str)
set_option maxHeartbeats 4000000 in
theorem df_symbols_of {P : Program} {w : World} {K : PySem.W.Frag} {mg : Str → Option Value} {base : Heap} {fd : FuncData} {f : Addr} (F : FunD K "symbols_of" "symbols_of" (defArgs s_symbols_of) (defBody s_symbols_of) (defScope s_symbols_of) [] [] f fd) (hm : mg "symbols_of" = some (.ref f)) (c_NOTHING : ∃ t, mg "NOTHING" = some (.str "-" t)) :
    Df P w K mg base "symbols_of" 1 P_symbols_of 1 pre_symbols_of post_symbols_of := by
  refine df_mk F hm sc_symbols_of (fun _ _ _ _ _ _ us hl => match us, hl with | [_], _ => rfl) fun cdv A outer s H E hr ds hl hp => ⟨_,
    (pss_one (ps_ret (pe_ifExp (pt_cmpR op_eq (pv 0) (pe_gs c_NOTHING (by rfl)) (nomark _)) (pe_lst pa_nil) (pe_m1 PySem.F.slot_str_split PySem.F.type_str_split mt_splitZ (pv 0) pe_str)))), ?_⟩
  obtain ⟨a0, rfl⟩ : ∃ a0, ds = [a0] := match ds, hl with | [_], _ => ⟨_, rfl⟩
  obtain ⟨z, e, hz⟩ := hp
  cases e
  refine sw_ret ?_
  walk_at "e"
  refine ⟨fun h => ?_, fun h => ?_⟩
  · walk_at "e"
    intro z' e; cases e
    have h : z = "-" := by simpa using h
    unfold wdsS; rw [if_pos h]; rfl
  · walk_at "e"
    have h : z ≠ "-" := by simpa using h
    refine rwm_new (rnm_split (by rfl) (by show _ ≤ (1000000 : Nat); omega) ?_)
    intro z' e; cases e
    unfold wdsS; rw [if_neg h]
abbrev s_is_row : Stmt := top 16
abbrev N_is_row : List Str := ["text", "symbol"]
abbrev P_is_row : List Str := ["text"]
theorem sc_is_row : FnScope N_is_row P_is_row (defScope s_is_row) := ⟨rfl, rfl, rfl, by decide +kernel, rfl, by decide +kernel, by decide +kernel⟩
def pre_is_row : List D → Prop := fun ds => ∃ z, ds = [.str z] ∧ z.length ≤ 5000
def post_is_row : List D → D → Prop := fun ds d => ∀ z, ds = [.str z] → d = .bl (rowB z)
set_option maxHeartbeats 4000000 in
theorem df_is_row {P : Program} {w : World} {K : PySem.W.Frag} {mg : Str → Option Value} {base : Heap} {fd : FuncData} {f : Addr} (F : FunD K "is_row" "is_row" (defArgs s_is_row) (defBody s_is_row) (defScope s_is_row) [] [] f fd) (hm : mg "is_row" = some (.ref f)) (n_all : mg "all" = none) (c_MARK : ∃ t, mg "MARK" = some (.str "#" t)) (g_is_letter : Df P w K mg base "is_letter" 1 P_is_letter 1 pre_is_letter post_is_letter) (g_is_piece : Df P w K mg base "is_piece" 3 P_is_piece 1 pre_is_piece post_is_piece) (g_symbols_of : Df P w K mg base "symbols_of" 1 P_symbols_of 1 pre_symbols_of post_symbols_of) :
    Df P w K mg base "is_row" 4 P_is_row 1 pre_is_row post_is_row := by
  refine df_mk F hm sc_is_row (fun _ _ _ _ _ _ us hl => match us, hl with | [_], _ => rfl) fun cdv A outer s H E hr ds hl hp => ⟨_,
    (pss_one (ps_ret (pe_callB (cr_allK K rfl rfl) (by rfl) n_all (by decide +kernel) (pa_cons (pe_lc (own := [("symbol", 1)]) rfl sc_is_row.nd (pi_listK K rfl (pe_dfK K rfl g_symbols_of hr (by decide) (by rfl) (pa_cons (pv 0) pa_nil))) (blkOk_by (N := N_is_row) (sc := defScope s_is_row) (by decide +kernel)) (fun _ _ _ _ _ => (pg_name (i := 1) sc_is_row.nd rfl (by first | exact Or.inl rfl | exact Or.inr rfl))) (fun _ _ _ _ _ => pts_nil) (fun _ _ _ _ _ => (pe_or (pe_dfK K rfl g_is_letter hr (by decide) (by rfl) (pa_cons (pv 1) pa_nil)) (pe_or (pe_dfK K rfl g_is_piece hr (by decide) (by rfl) (pa_cons (pv 1) pa_nil)) (pe_one (pe_cmpR op_eq (pv 1) (pe_gs c_MARK (by rfl)) (nomark _))))))) pa_nil)))), ?_⟩
  obtain ⟨a0, rfl⟩ : ∃ a0, ds = [a0] := match ds, hl with | [_], _ => ⟨_, rfl⟩
  obtain ⟨z, e, hz⟩ := hp
  cases e
  refine sw_ret ?_
  walk_at "e"
  refine ew_new (en_lc (js := [1]) (by simp) ?_)
  walk_at "e"
  refine call_ok rfl ⟨_, rfl, by omega⟩ fun d hd => ?_
  obtain rfl := hd _ rfl
  have h1 := wds_len z
  have h2 := wdss_len z
  walk_at "e"
  refine ⟨fun i acc => acc = (((wdsS z).take i).map symB).map D.bl, rfl, fun i d acc hd hi => ?_, fun acc hi => ?_⟩
  · rw [List.getElem?_map] at hd
    obtain ⟨x, hx, rfl⟩ := Option.map_eq_some_iff.mp hd
    have hlt : i < (wdsS z).length := (List.getElem?_eq_some_iff.mp hx).1
    have hxl := h1 x (List.mem_of_getElem? hx)
    subst hi
    refine ⟨by rw [List.length_map, List.length_map, List.length_take]; show _ < (1000000 : Nat); omega, gw_name ?_⟩
    have fin : ∀ b, b = symB x → (((wdsS z).take i).map symB).map D.bl ++ [D.bl b] = (((wdsS z).take (i + 1)).map symB).map D.bl := fun b e => by
      rw [take_map_succ symB hx, List.map_append, e]; rfl
    walk_at "e"
    walk_at "T"
    walk_at "e"
    refine call_ok rfl ⟨x, rfl, by omega⟩ fun d hd => ?_
    obtain rfl := hd _ rfl
    refine ⟨_, rfl, fun h => ?_, fun h => ?_⟩
    · refine fin _ ?_
      unfold symB; rw [h]; rfl
    · walk_at "e"
      refine call_ok rfl ⟨x, rfl, by omega⟩ fun d hd => ?_
      obtain rfl := hd _ rfl
      refine ⟨_, rfl, fun h2 => ?_, fun h2 => ?_⟩
      · refine fin _ ?_
        unfold symB; rw [h, h2]; rfl
      · walk_at "e"
        refine fin _ ?_
        unfold symB; rw [h, h2]; rfl
  · rw [List.length_map, List.take_length] at hi
    subst hi
    walk_at "e"
    intro z' e; cases e
    unfold rowB
    rw [List.all_map]; rfl
abbrev s_format_row : Stmt := top 14
abbrev N_format_row : List Str := ["row"]
abbrev P_format_row : List Str := ["row"]
theorem sc_format_row : FnScope N_format_row P_format_row (defScope s_format_row) := ⟨rfl, rfl, rfl, by decide +kernel, rfl, by decide +kernel, by decide +kernel⟩
def pre_format_row : List D → Prop := fun ds => ∃ ws : List Str, ds = [.tup (ws.map .str)] ∧ (ws.map (·.length)).sum + ws.length ≤ 100000
def post_format_row : List D → D → Prop := fun ds d => ∀ ws : List Str, ds = [.tup (ws.map .str)] → d = .str (fmtL ws)
set_option maxHeartbeats 4000000 in
theorem df_format_row {P : Program} {w : World} {K : PySem.W.Frag} {mg : Str → Option Value} {base : Heap} {fd : FuncData} {f : Addr} (F : FunD K "format_row" "format_row" (defArgs s_format_row) (defBody s_format_row) (defScope s_format_row) [] [] f fd) (hm : mg "format_row" = some (.ref f)) (c_NOTHING : ∃ t, mg "NOTHING" = some (.str "-" t)) :
    Df P w K mg base "format_row" 1 P_format_row 1 pre_format_row post_format_row := by
  refine df_mk F hm sc_format_row (fun _ _ _ _ _ _ us hl => match us, hl with | [_], _ => rfl) fun cdv A outer s H E hr ds hl hp => ⟨_,
    (pss_one (ps_ret (pe_ifExp (pt_truthK K rfl (pv 0) (by intro _; rfl)) (pe_m1 PySem.F.slot_str_join PySem.F.type_str_join (mt_joinK K rfl) pe_str (pv 0)) (pe_gs c_NOTHING (by rfl))))), ?_⟩
  obtain ⟨a0, rfl⟩ : ∃ a0, ds = [a0] := match ds, hl with | [_], _ => ⟨_, rfl⟩
  obtain ⟨ws, e, hl1⟩ := hp
  cases e
  refine sw_ret ?_
  refine ew_if (tw_truS ?_)
  walk_at "e"
  refine ⟨_, .inl rfl, fun h => ?_, fun h => ?_⟩
  · walk_at "e"
    refine rwm_joinT (by rw [show (Str.ofString " ").length = 1 from rfl]; show _ ≤ (1000000 : Nat); omega) ?_
    intro ws' e
    have e1 : ws.map D.str = ws'.map D.str := by injection e with e _; injection e
    have e1 := strs_inj e1
    subst e1
    unfold fmtL
    rw [if_neg (by intro z; subst z; simp at h)]
  · walk_at "e"
    intro ws' e
    have e1 : ws.map D.str = ws'.map D.str := by injection e with e _; injection e
    have e1 := strs_inj e1
    subst e1
    unfold fmtL
    rw [if_pos (by cases ws with | nil => rfl | cons a b => simp at h)]
abbrev s_check_lines : Stmt := top 17
abbrev N_check_lines : List Str := ["good", "at", "is_good"]
abbrev P_check_lines : List Str := ["good"]
theorem sc_check_lines : FnScope N_check_lines P_check_lines (defScope s_check_lines) := ⟨rfl, rfl, rfl, by decide +kernel, rfl, by decide +kernel, by decide +kernel⟩
def pre_check_lines : List D → Prop := fun ds => ∃ b : Bool, ds = [.lst [.bl b]]
def post_check_lines : List D → D → Prop := fun ds d => d = .non ∧ ds = [.lst [.bl true]]
def xpost_check_lines (K : PySem.W.Frag) : List D → XD → Prop := fun ds x => x = ⟨He.ga K "BadText", [("line", .int 1)]⟩ ∧ ds = [.lst [.bl false]]
set_option maxHeartbeats 4000000 in
theorem df_check_lines {P : Program} {w : World} {K : PySem.W.Frag} {mg : Str → Option Value} {base : Heap} {fd : FuncData} {f : Addr} (F : FunD K "check_lines" "check_lines" (defArgs s_check_lines) (defBody s_check_lines) (defScope s_check_lines) [] [] f fd) (hm : mg "check_lines" = some (.ref f)) (n_enumerate : mg "enumerate" = none) (r_BadText : RzC P w K mg base "BadText" 1 ["line"] preI_BadText) (exm_BadText_BadText : PySem.W.exmOne K (.ref (He.ga K "BadText")) (.ref (He.ga K "BadText")) = some true) (kit_BadText_BadBook : PySem.W.kitOne K (.ref (He.ga K "BadText")) (.ref (He.ga K "BadBook")) = some false) (kit_BadText_TwiceError : PySem.W.kitOne K (.ref (He.ga K "BadText")) (.ref (He.ga K "TwiceError")) = some true) (kit_BadText_ValueError : PySem.W.kitOne K (.ref (He.ga K "BadText")) (.type "ValueError") = some true) :
    DfX P w K mg base "check_lines" 3 P_check_lines 1 pre_check_lines post_check_lines (xpost_check_lines K) := by
  refine df_mkX F hm sc_check_lines (fun _ _ _ _ _ _ us hl => match us, hl with | [_], _ => rfl) fun cdv A outer s H E hr ds hl hp => ⟨_,
    (pss_one (ps_for (passes_of rfl) rfl (pi_enumK K rfl (by rfl) n_enumerate (pa_cons (pv 0) pa_nil)) (pg_tupK K rfl (n := 2) rfl (pgs_cons (pg_name (i := 1) sc_check_lines.nd rfl (by first | exact Or.inl rfl | exact Or.inr rfl)) (pgs_cons (pg_name (i := 2) sc_check_lines.nd rfl (by first | exact Or.inl rfl | exact Or.inr rfl)) pgs_nil))) (pss_one (ps_if (pt_not (pt_val (pv 2))) (pss_one (ps_rz K rfl r_BadText rfl (takes_of rfl rfl rfl rfl) hr (by decide) (by rfl) (pa_cons (pe_op op_add (pv 1) pe_int) pa_nil))) pss_nil)))), fun Hs0 H0 hW => ?_⟩
  obtain ⟨a0, rfl⟩ : ∃ a0, ds = [a0] := match ds, hl with | [_], _ => ⟨_, rfl⟩
  obtain ⟨b, e⟩ := hp
  cases e
  refine sx_for (js := [1] ++ ([2] ++ [])) ?_
  walk_at "e"
  refine ⟨fun i γ => ∃ x y, γ = [some (.sh (.lst [.bl b])), x, y] ∧ (i = 1 → b = true), ⟨none, none, rfl, fun h => by cases h⟩, ?_, ?_⟩
  · rintro i d γ hd ⟨x, y, rfl, hb⟩
    obtain ⟨v, hv, rfl⟩ := enumD_get hd
    have hi : i = 0 := by
      rcases Nat.eq_zero_or_pos i with h | h
      · exact h
      · rw [List.getElem?_eq_none (by simp; omega)] at hv; cases hv
    subst hi
    obtain rfl : D.bl b = v := Option.some.inj hv
    walk_at "e"
    refine sx_if ?_
    walk_at "e"
    refine ⟨fun h => ?_, fun h => ?_⟩
    · have h : b = false := by simpa using h
      subst h
      refine sx_raise (by decide) hW (ax_of ?_)
      walk_at "e"
      exact ⟨by decide, rfl, ⟨_, rfl, by decide⟩, rfl, rfl⟩
    · have h : b = true := by simpa using h
      exact sx_next ⟨_, _, rfl, fun _ => h⟩
  · rintro γ ⟨x, y, rfl, hb⟩
    have hb := hb rfl
    subst hb
    exact ⟨rfl, rfl⟩
abbrev s_parse_row : Stmt := top 18
abbrev N_parse_row : List Str := ["text"]
abbrev P_parse_row : List Str := ["text"]
theorem sc_parse_row : FnScope N_parse_row P_parse_row (defScope s_parse_row) := ⟨rfl, rfl, rfl, by decide +kernel, rfl, by decide +kernel, by decide +kernel⟩
def pre_parse_row : List D → Prop := fun ds => ∃ z, ds = [.str z] ∧ z.length ≤ 5000
def post_parse_row : List D → D → Prop := fun ds d => ∀ z, ds = [.str z] → d = .tup ((wdsS z).map .str) ∧ rowB z = true
def xpost_parse_row (K : PySem.W.Frag) : List D → XD → Prop := fun ds x => x = ⟨He.ga K "BadText", [("line", .int 1)]⟩ ∧ ∀ z, ds = [.str z] → rowB z = false
set_option maxHeartbeats 4000000 in
theorem df_parse_row {P : Program} {w : World} {K : PySem.W.Frag} {mg : Str → Option Value} {base : Heap} {fd : FuncData} {f : Addr} (F : FunD K "parse_row" "parse_row" (defArgs s_parse_row) (defBody s_parse_row) (defScope s_parse_row) [] [] f fd) (hm : mg "parse_row" = some (.ref f)) (n_tuple : mg "tuple" = none) (exm_BadText_BadText : PySem.W.exmOne K (.ref (He.ga K "BadText")) (.ref (He.ga K "BadText")) = some true) (kit_BadText_BadBook : PySem.W.kitOne K (.ref (He.ga K "BadText")) (.ref (He.ga K "BadBook")) = some false) (kit_BadText_TwiceError : PySem.W.kitOne K (.ref (He.ga K "BadText")) (.ref (He.ga K "TwiceError")) = some true) (kit_BadText_ValueError : PySem.W.kitOne K (.ref (He.ga K "BadText")) (.type "ValueError") = some true) (g_check_lines : DfX P w K mg base "check_lines" 3 P_check_lines 1 pre_check_lines post_check_lines (xpost_check_lines K)) (g_is_row : Df P w K mg base "is_row" 4 P_is_row 1 pre_is_row post_is_row) (g_symbols_of : Df P w K mg base "symbols_of" 1 P_symbols_of 1 pre_symbols_of post_symbols_of) :
    DfX P w K mg base "parse_row" 5 P_parse_row 1 pre_parse_row post_parse_row (xpost_parse_row K) := by
  refine df_mkX F hm sc_parse_row (fun _ _ _ _ _ _ us hl => match us, hl with | [_], _ => rfl) fun cdv A outer s H E hr ds hl hp => ⟨_,
    (pss_cons (ps_expr (pe_dfX K rfl g_check_lines hr (by decide) (by rfl) (takes_of rfl rfl rfl rfl) (pa_cons (pe_lst (pa_cons (pe_dfK K rfl g_is_row hr (by decide) (by rfl) (pa_cons (pv 0) pa_nil)) pa_nil)) pa_nil)))
    (pss_one (ps_ret (pe_callTy (call_tupK K rfl) (by rfl) n_tuple (by decide +kernel) (pa_cons (pe_dfK K rfl g_symbols_of hr (by decide) (by rfl) (pa_cons (pv 0) pa_nil)) pa_nil))))), fun Hs0 H0 hW => ?_⟩
  obtain ⟨a0, rfl⟩ : ∃ a0, ds = [a0] := match ds, hl with | [_], _ => ⟨_, rfl⟩
  obtain ⟨z, e, hz⟩ := hp
  cases e
  refine sx_seq (sx_drop (ex_call hW (ax_of ?_)))
  walk_at "e"
  refine call_ok rfl ⟨z, rfl, hz⟩ fun d hd => ?_
  obtain rfl := hd _ rfl
  walk_at "e"
  refine call_x rfl ⟨_, rfl⟩ (fun d hd => ?_) fun x hx => ?_
  · obtain ⟨_, he⟩ := hd
    have hb : rowB z = true := by injection he with e1 _; injection e1 with e1; injection e1 with e1; injection e1
    refine sx_of (sw_ret ?_)
    walk_at "e"
    refine call_ok rfl ⟨z, rfl, by omega⟩ fun d hd => ?_
    obtain rfl := hd _ rfl
    walk_at "e"
    intro z' e; cases e
    exact ⟨rfl, hb⟩
  · obtain ⟨hx, he⟩ := hx
    have hb : rowB z = false := by injection he with e1 _; injection e1 with e1; injection e1 with e1; injection e1
    refine ⟨hx, fun z' e => ?_⟩
    cases e
    exact hb
abbrev s__law_parsed : Stmt := top 27
abbrev N__law_parsed : List Str := ["_law_text", "e"]
abbrev P__law_parsed : List Str := ["_law_text"]
theorem sc__law_parsed : FnScope N__law_parsed P__law_parsed (defScope s__law_parsed) := ⟨rfl, rfl, rfl, by decide +kernel, rfl, by decide +kernel, by decide +kernel⟩
def pre__law_parsed : List D → Prop := fun ds => ∃ z, ds = [.str z] ∧ z.length ≤ 5000
def post__law_parsed : List D → D → Prop := fun ds d => ∀ z, ds = [.str z] → d = if rowB z = true then .tup [.str "row", .tup ((wdsS z).map .str)] else .tup [.str "bad", .int 1]
set_option maxHeartbeats 4000000 in
theorem df__law_parsed {P : Program} {w : World} {K : PySem.W.Frag} {mg : Str → Option Value} {base : Heap} {fd : FuncData} {f : Addr} (F : FunD K "_law_parsed" "_law_parsed" (defArgs s__law_parsed) (defBody s__law_parsed) (defScope s__law_parsed) [] [] f fd) (hm : mg "_law_parsed" = some (.ref f)) (n_ValueError : mg "ValueError" = none) (n_isinstance : mg "isinstance" = none) (m_BadBook : mg "BadBook" = some (.ref (He.ga K "BadBook"))) (m_BadText : mg "BadText" = some (.ref (He.ga K "BadText"))) (m_TwiceError : mg "TwiceError" = some (.ref (He.ga K "TwiceError"))) (r_BadText : RzC P w K mg base "BadText" 1 ["line"] preI_BadText) (exm_BadText_BadText : PySem.W.exmOne K (.ref (He.ga K "BadText")) (.ref (He.ga K "BadText")) = some true) (kit_BadText_BadBook : PySem.W.kitOne K (.ref (He.ga K "BadText")) (.ref (He.ga K "BadBook")) = some false) (kit_BadText_TwiceError : PySem.W.kitOne K (.ref (He.ga K "BadText")) (.ref (He.ga K "TwiceError")) = some true) (kit_BadText_ValueError : PySem.W.kitOne K (.ref (He.ga K "BadText")) (.type "ValueError") = some true) (g_parse_row : DfX P w K mg base "parse_row" 5 P_parse_row 1 pre_parse_row post_parse_row (xpost_parse_row K)) :
    Df P w K mg base "_law_parsed" 6 P__law_parsed 1 pre__law_parsed post__law_parsed := by
  refine df_mk F hm sc__law_parsed (fun _ _ _ _ _ _ us hl => match us, hl with | [_], _ => rfl) fun cdv A outer s H E hr ds hl hp => ⟨_,
    (pss_one (ps_try_asK K rfl (i := 1) rfl rfl sc__law_parsed.nd rfl rfl ⟨by rfl, by decide, .inl m_BadText⟩ takes0 (fun W pn xe tk po => (pss_one (ps_ret (pe_tupF (pa_cons pe_str (pa_cons (pe_dfX K rfl g_parse_row hr (by decide) (by rfl) tk (pa_cons (pv 0) pa_nil)) pa_nil)))))) (fun a oe cls d pn hz hf => (pss_cons (ps_if (PW.pt (pw_or (pt_val (pe_isE K rfl hz hf (by rfl) n_isinstance (by decide +kernel) (pa_cons (pv 1) (pa_cons (pe_glob (v := .ref (He.ga K "BadBook")) (by rfl) m_BadBook rfl) pa_nil)))) (pw_or (pt_not (pt_val (pe_isE K rfl hz hf (by rfl) n_isinstance (by decide +kernel) (pa_cons (pv 1) (pa_cons (pe_glob (v := .ref (He.ga K "TwiceError")) (by rfl) m_TwiceError rfl) pa_nil))))) (pw_or1 (pt_not (pt_val (pe_isE K rfl hz hf (by rfl) n_isinstance (by decide +kernel) (pa_cons (pv 1) (pa_cons (pe_bltn (v := .ty "ValueError") (by rfl) n_ValueError (by decide +kernel) rfl) pa_nil))))))))) (pss_one (ps_ret (pe_tupF (pa_cons pe_str (pa_cons pe_int pa_nil))))) pss_nil)
    (pss_one (ps_ret (pe_tupF (pa_cons pe_str (pa_cons (pe_xf (C := He.ga K "BadText") (xfC_of r_BadText.exc) (r_BadText.no "line" (by simp)) hz hf (pv 1)) pa_nil))))))))), ?_⟩
  obtain ⟨a0, rfl⟩ : ∃ a0, ds = [a0] := match ds, hl with | [_], _ => ⟨_, rfl⟩
  obtain ⟨z, e, hz⟩ := hp
  cases e
  refine sw_ofX fun Hs0 H0 => ?_
  refine sx_tryAs wok_no fun W' Hb' hbb hW => ?_
  refine sx_ret (ex_tup (ax_cons (ex_of (ew_cs ?_))))
  refine ax_cons (ex_call hW (ax_of ?_))
  walk_at "e"
  refine call_x rfl ⟨z, rfl, hz⟩ (fun d hd => ?_) fun x hx => ?_
  · obtain ⟨rfl, hb⟩ := hd _ rfl
    refine ax_nil ⟨by show (2 : Nat) ≤ 1000000; decide, fun z' e => ?_⟩
    cases e
    rw [hb, if_pos rfl]
  · obtain ⟨rfl, hb⟩ := hx
    have hb := hb _ rfl
    refine ⟨true, exm_BadText_BadText, fun _ a d => ?_, fun h => by cases h⟩
    refine sx_seq (sx_of (sw_if ?_))
    refine tw_or (tw_B (ew_isE rfl r_BadText.exc (fun _ h => h) kit_BadText_BadBook ⟨_, rfl, ?_⟩))
    walk_at "F"
    refine tw_or (tw_not (tw_B (ew_isE rfl r_BadText.exc (fun _ h => h) kit_BadText_TwiceError ⟨_, rfl, ?_⟩)))
    walk_at "F"
    refine tw_not (tw_B (ew_isE rfl r_BadText.exc (fun _ h => h) kit_BadText_ValueError ⟨_, rfl, ?_⟩))
    walk_at "F"
    refine sw_next (sx_of (sw_ret ?_))
    walk_at "e"
    refine ew_xf rfl rfl ?_
    walk_at "e"
    intro z' e; cases e
    rw [hb]; rfl

/-! ### the law's own helpers -/
def okD : Nat → D → Prop
  | 0, .tup _ => False
  | 0, .lst _ => False
  | n + 1, .tup ds => ds.length ≤ 100000 ∧ ∀ x ∈ ds, okD n x
  | n + 1, .lst ds => ds.length ≤ 100000 ∧ ∀ x ∈ ds, okD n x
  | _, .scr _ => False
  | _, .ty _ => False
  | _, .tpl _ => False
  | _, _ => True
theorem ew_isN0 {K : PySem.W.Frag} {γ : Gam} {Φ : D → Prop} {te : TE} (h : EW K te γ fun d => d ≠ .non ∧ Φ (.bl false)) : EW K (tIsN te) γ Φ := ew_isN (h.mono fun d ⟨e, p⟩ => ⟨false, ⟨fun z => absurd z e, fun z => by cases z⟩, p⟩)
theorem ew_isN1 {K : PySem.W.Frag} {γ : Gam} {Φ : D → Prop} {te : TE} (h : EW K te γ fun d => d = .non ∧ Φ (.bl true)) : EW K (tIsN te) γ Φ := ew_isN (h.mono fun d ⟨e, p⟩ => ⟨true, ⟨fun _ => rfl, fun _ => e⟩, p⟩)
theorem sw_ifA {K : PySem.W.Frag} {γ : Gam} {t : TT} {ts tz : TS} {Φ : Out} (h : TW K t γ fun _ => True) (h1 : SW K ts γ Φ) (h2 : SW K tz γ Φ) : SW K (tIfS t ts tz) γ Φ := sw_if (h.mono fun _ _ => ⟨fun _ => h1, fun _ => h2⟩)
abbrev s__law_cell : Stmt := top 20
abbrev N__law_cell : List Str := ["_law_script", "_law_k"]
abbrev P__law_cell : List Str := ["_law_script", "_law_k"]
theorem sc__law_cell : FnScope N__law_cell P__law_cell (defScope s__law_cell) := ⟨rfl, rfl, rfl, by decide +kernel, rfl, by decide +kernel, by decide +kernel⟩
def pre__law_cell : List D → Prop := fun ds => ∃ (ns : List Int) (k : Nat), ds = [.scr ns, .int (k : Int)]
def post__law_cell : List D → D → Prop := fun ds d => ∃ n : Int, d = .int n
set_option maxHeartbeats 4000000 in
theorem df__law_cell {P : Program} {w : World} {K : PySem.W.Frag} {mg : Str → Option Value} {base : Heap} {fd : FuncData} {f : Addr} (F : FunD K "_law_cell" "_law_cell" (defArgs s__law_cell) (defBody s__law_cell) (defScope s__law_cell) [] [] f fd) (hm : mg "_law_cell" = some (.ref f)) (n_len : mg "len" = none) :
    Df P w K mg base "_law_cell" 1 P__law_cell 2 pre__law_cell post__law_cell := by
  refine df_mk F hm sc__law_cell (fun _ _ _ _ _ _ us hl => match us, hl with | [_, _], _ => rfl) fun cdv A outer s H E hr ds hl hp => ⟨_,
    (pss_cons (ps_if (pt_cmpR op_lt (pv 1) (pe_callB (call_lenK K rfl) (by rfl) n_len PySem.boot_len (pa_cons (pv 0) pa_nil)) (nomark _)) (pss_one (ps_ret (pe_ix (ix_listK K rfl) (pv 0) (pv 1) (fun _ _ => rfl)))) pss_nil)
    (pss_one (ps_ret pe_int))), ?_⟩
  obtain ⟨a0, a1, rfl⟩ : ∃ a0 a1, ds = [a0, a1] := match ds, hl with | [_, _], _ => ⟨_, _, rfl⟩
  obtain ⟨ns, k, e⟩ := hp
  cases e
  refine sw_seq (sw_if ?_)
  walk_at "e"
  refine ⟨fun h => ?_, fun h => ?_⟩
  · have h1 : k < ns.length := by simp at h; exact h
    have h2 : atI ns (k : Int) = some ns[k] := atI_nat (List.getElem?_eq_getElem h1)
    refine sw_ret ?_
    walk_at "e"
    exact ⟨_, rfl⟩
  · refine sw_next ?_
    refine sw_ret ?_
    walk_at "e"
    exact ⟨_, rfl⟩
abbrev s__law_draws : Stmt := top 21
abbrev N__law_draws : List Str := ["_law_cell_here", "_law_many", "_law_left", "_law_digits", "_law_mixed", "_law_draws_here", "_law_k"]
abbrev P__law_draws : List Str := ["_law_cell_here", "_law_many"]
theorem sc__law_draws : FnScope N__law_draws P__law_draws (defScope s__law_draws) := ⟨rfl, rfl, rfl, by decide +kernel, rfl, by decide +kernel, by decide +kernel⟩
def pre__law_draws : List D → Prop := fun ds => ∃ (c : Int) (m : Nat), ds = [.int c, .int (m : Int)] ∧ m ≤ 1000
def post__law_draws : List D → D → Prop := fun ds d => ∀ (c : Int) (m : Nat), ds = [.int c, .int (m : Int)] → ∃ ns : List Int, d = .lst (ns.map .int) ∧ ns.length = m ∧ ∀ n ∈ ns, 0 ≤ n ∧ n < 1000
set_option maxHeartbeats 4000000 in
theorem df__law_draws {P : Program} {w : World} {K : PySem.W.Frag} {mg : Str → Option Value} {base : Heap} {fd : FuncData} {f : Addr} (F : FunD K "_law_draws" "_law_draws" (defArgs s__law_draws) (defBody s__law_draws) (defScope s__law_draws) [] [] f fd) (hm : mg "_law_draws" = some (.ref f)) (n_abs : mg "abs" = none) (n_int : mg "int" = none) (n_range : mg "range" = none) :
    Df P w K mg base "_law_draws" 1 P__law_draws 2 pre__law_draws post__law_draws := by
  refine df_mk F hm sc__law_draws (fun _ _ _ _ _ _ us hl => match us, hl with | [_, _], _ => rfl) fun cdv A outer s H E hr ds hl hp => ⟨_,
    (pss_cons (ps_set (i := 2) sc__law_draws.nd rfl (by first | exact Or.inl rfl | exact Or.inr rfl) (pe_callB call_abs (by rfl) n_abs (by decide +kernel) (pa_cons (pv 0) pa_nil)))
    (pss_cons (ps_set (i := 3) sc__law_draws.nd rfl (by first | exact Or.inl rfl | exact Or.inr rfl) (pe_cmpR op_ge (pv 2) (pe_op op_pow pe_int pe_int) (nomark _)))
    (pss_cons (ps_set (i := 4) sc__law_draws.nd rfl (by first | exact Or.inl rfl | exact Or.inr rfl) (pe_op op_mod (pe_callTy call_int1 (by rfl) n_int (by decide +kernel) (pa_cons (pv 2) pa_nil)) pe_int))
    (pss_cons (ps_set (i := 5) sc__law_draws.nd rfl (by first | exact Or.inl rfl | exact Or.inr rfl) (pe_lst pa_nil))
    (pss_cons (ps_for PassesOwn.never rfl (pi_range1 (by rfl) n_range (pa_cons (pv 1) pa_nil)) (pg_name (i := 6) sc__law_draws.nd rfl (by first | exact Or.inl rfl | exact Or.inr rfl)) (pss_cons (ps_set (i := 4) sc__law_draws.nd rfl (by first | exact Or.inl rfl | exact Or.inr rfl) (pe_op op_mod (pe_callTy call_int1 (by rfl) n_int (by decide +kernel) (pa_cons (pe_op op_add (pe_op op_add (pe_op op_mul (pv 4) pe_int) (pe_op op_mul pe_int (pv 6))) pe_int) pa_nil)) pe_int))
    (pss_one (ps_if (PW.pt (pw_and (pt_val (pv 3)) (pw_and1 (pt_cmpR op_gt (pv 2) pe_int (nomark _))))) (pss_cons (ps_expr (pe_bmK K rfl PySem.F.plainAttrs_list PySem.F.slot_list_append PySem.F.type_list_append mt_append (pv 5) (pa_cons (pe_op op_mod (pe_callTy call_int1 (by rfl) n_int (by decide +kernel) (pa_cons (pv 2) pa_nil)) pe_int) pa_nil)))
    (pss_one (ps_set (i := 2) sc__law_draws.nd rfl (by first | exact Or.inl rfl | exact Or.inr rfl) (pe_op op_fdiv (pv 2) pe_int)))) (pss_one (ps_expr (pe_bmK K rfl PySem.F.plainAttrs_list PySem.F.slot_list_append PySem.F.type_list_append mt_append (pv 5) (pa_cons (pe_op op_mod (pe_op op_mod (pe_callTy call_int1 (by rfl) n_int (by decide +kernel) (pa_cons (pe_op op_add (pe_op op_add (pe_op op_mul (pv 4) (pv 4)) (pe_op op_mul pe_int (pv 4))) (pv 6)) pa_nil)) pe_int) pe_int) pa_nil))))))))
    (pss_one (ps_ret (pv 5)))))))), ?_⟩
  obtain ⟨a0, a1, rfl⟩ : ∃ a0 a1, ds = [a0, a1] := match ds, hl with | [_, _], _ => ⟨_, _, rfl⟩
  obtain ⟨c, m, e, hm2⟩ := hp
  cases e
  refine sw_seq (sw_asg ?_)
  walk_at "e"
  refine sw_seq (sw_asg ?_)
  walk_at "e"
  refine sw_seq (sw_asg ?_)
  walk_at "e"
  refine sw_seq (sw_asgN ?_)
  walk_at "e"
  refine sw_seq (sw_for (js := [6]) ?_)
  walk_at "e"
  refine ⟨by omega, by omega, fun i γ => ∃ (L x : Int) (b : Bool) (ns : List Int) (kv : Option Slot), 0 ≤ x ∧ x < 1000003 ∧ ns.length = i ∧ (∀ n ∈ ns, 0 ≤ n ∧ n < 1000) ∧ γ = [some (.sh (.int c)), some (.sh (.int (m : Int))), some (.sh (.int L)), some (.sh (.bl b)), some (.sh (.int x)), some (.ow (ns.map .int)), kv],
    ⟨_, _, _, [], none, Int.emod_nonneg _ (by decide), Int.emod_lt_of_pos _ (by decide), rfl, (fun _ h => by cases h), rfl⟩, ?_, ?_⟩
  · rintro i d γ hd ⟨L, x, b, ns, kv, hx0, hx1, hl1, hns, rfl⟩
    obtain ⟨hi, rfl⟩ := rng_get hd
    walk_at "e"
    refine sw_seq (sw_asg ?_)
    walk_at "e"
    have ap : ∀ y : Int, (∀ n ∈ ns ++ [y % 1000], 0 ≤ n ∧ n < 1000) := fun y n hn => by
      rcases List.mem_append.mp hn with h | h
      · exact hns n h
      · rw [List.mem_singleton.mp h]
        exact ⟨Int.emod_nonneg _ (by decide), Int.emod_lt_of_pos _ (by decide)⟩
    refine sw_ifA ?_ ?_ ?_
    · walk_at "e"
      refine ⟨fun h => ?_, fun h => trivial⟩
      walk_at "e"
      trivial
    · refine sw_seq (sw_app rfl (by rw [List.length_map, hl1]; show _ < (1000000 : Nat); omega) ?_)
      walk_at "e"
      refine sw_asg ?_
      walk_at "e"
      refine ⟨L / 1000, (x * 48271 + 13 * (0 + (i : Int)) + 11) % 1000003, b, ns ++ [L % 1000], some (.sh (.int (0 + (i : Int)))), Int.emod_nonneg _ (by decide), Int.emod_lt_of_pos _ (by decide), by rw [List.length_append, hl1]; rfl, ap _, ?_⟩
      rw [List.map_append]; rfl
    · refine sw_app rfl (by rw [List.length_map, hl1]; show _ < (1000000 : Nat); omega) ?_
      walk_at "e"
      refine ⟨L, (x * 48271 + 13 * (0 + (i : Int)) + 11) % 1000003, b, ns ++ [((((x * 48271 + 13 * (0 + (i : Int)) + 11) % 1000003) * ((x * 48271 + 13 * (0 + (i : Int)) + 11) % 1000003) + 7 * ((x * 48271 + 13 * (0 + (i : Int)) + 11) % 1000003) + (0 + (i : Int))) % 999983) % 1000], some (.sh (.int (0 + (i : Int)))), Int.emod_nonneg _ (by decide), Int.emod_lt_of_pos _ (by decide), by rw [List.length_append, hl1]; rfl, ap _, ?_⟩
      rw [List.map_append]; rfl
  · rintro γ ⟨L, x, b, ns, kv, hx0, hx1, hl1, hns, rfl⟩
    rw [rng_len] at hl1
    refine sw_frz 5 rfl ?_
    refine sw_ret ?_
    walk_at "e"
    intro c' m' e
    have e2 : m = m' := by injection e with a b; injection b with b1; injection b1 with b2; exact Int.ofNat.inj b2
    exact ⟨ns, rfl, by rw [hl1, ← e2]; rfl, hns⟩
abbrev capsS : Str := "ABCDEFGHIJKLMNOPQRSTUVWXYZ"
abbrev tailsS : Str := "abcdefghijklmnopqrstuvwxyz0123456789"
theorem strOk_of {z : Str} (h : ∀ c ∈ TL.tl z, c < 0x110000) : PyData.strOk z = true := by
  unfold PyData.strOk
  rw [← Array.all_toList, List.all_eq_true]
  exact fun c hc => decide_eq_true (h c hc)
theorem caps_at {k : Int} (h0 : 0 ≤ k) (h1 : k < 26) : ∃ c, atI capsS.cps.toList k = some c ∧ capB c = true := by
  obtain ⟨n, rfl⟩ : ∃ n : Nat, k = (n : Int) := ⟨k.toNat, by omega⟩
  have hn : n < capsS.cps.toList.length := show n < 26 by omega
  have ha : capsS.cps.toList.all capB = true := by decide +kernel
  exact ⟨_, atI_nat (List.getElem?_eq_getElem hn), List.all_eq_true.mp ha _ (List.getElem_mem hn)⟩
theorem tails_at {k : Int} (h0 : 0 ≤ k) (h1 : k < 36) : ∃ c, atI tailsS.cps.toList k = some c ∧ tailB c = true := by
  obtain ⟨n, rfl⟩ : ∃ n : Nat, k = (n : Int) := ⟨k.toNat, by omega⟩
  have hn : n < tailsS.cps.toList.length := show n < 36 by omega
  have ha : tailsS.cps.toList.all tailB = true := by decide +kernel
  exact ⟨_, atI_nat (List.getElem?_eq_getElem hn), List.all_eq_true.mp ha _ (List.getElem_mem hn)⟩
theorem low_at {k : Int} (h0 : 0 ≤ k) (h1 : k < 26) : ∃ c, atI tailsS.cps.toList k = some c ∧ lowB c = true := by
  obtain ⟨n, rfl⟩ : ∃ n : Nat, k = (n : Int) := ⟨k.toNat, by omega⟩
  have hn : n < (tailsS.cps.toList.take 26).length := show n < 26 by omega
  have ha : (tailsS.cps.toList.take 26).all lowB = true := by decide +kernel
  have hn2 : n < tailsS.cps.toList.length := show n < 36 by omega
  have e : (tailsS.cps.toList.take 26)[n] = tailsS.cps.toList[n] := List.getElem_take
  refine ⟨_, atI_nat (List.getElem?_eq_getElem hn2), ?_⟩
  rw [← e]
  exact List.all_eq_true.mp ha _ (List.getElem_mem hn)
theorem capB_le {c : Nat} (h : capB c = true) : 65 ≤ c ∧ c ≤ 90 := by unfold capB at h; simp at h; exact h
theorem nm_plain {z : Str} (h : ∀ c ∈ TL.tl z, c ≠ 126) : nmS z = z := by
  unfold nmS
  rw [if_neg]
  intro h2
  have h2 : Txt.endswith z ⟨#[126]⟩ = true := h2
  rw [ends_one] at h2
  exact h 126 (List.mem_of_getLast? (of_decide_eq_true h2)) rfl
theorem nm_turn (z : Str) : nmS (z ++ "~") = z := by
  unfold nmS
  have h2 : Txt.endswith (z ++ "~") ⟨#[126]⟩ = true := by
    rw [ends_one, TL.tl_append]
    exact decide_eq_true (by rw [show TL.tl ("~" : Str) = [126] from rfl]; simp)
  have h2 : Txt.endswith (z ++ "~") "~" = true := h2
  rw [if_pos h2]
  apply ext_tl
  rw [tl_cut_last, TL.tl_append, show TL.tl ("~" : Str) = [126] from rfl]
  simp
theorem sym_name {z : Str} (h : isNameL (TL.tl z) = true) : symB z = true ∧ symB (z ++ "~") = true := by
  have hp : nmS z = z := nm_plain fun c hc => by have := name_sg h c hc; omega
  constructor
  · unfold symB; rw [hp, h]; simp
  · unfold symB; rw [nm_turn, h]; simp
theorem name_of_parts {c a b d : Nat} (hc : capB c = true) (ha : tailB a = true) (hb : tailB b = true) (hd : tailB d = true) (n : Nat) : isNameL (c :: [a, b, d].take n) = true := by
  rw [isName_cons, decide_eq_true (by rw [List.length_take]; simp; omega), hc]
  have : ([a, b, d].take n).all tailB = true := by
    rw [List.all_eq_true]
    intro x hx
    have := List.mem_of_mem_take hx
    simp at this
    rcases this with rfl | rfl | rfl <;> assumption
  rw [this]; rfl
abbrev s__law_symbol : Stmt := top 22
abbrev N__law_symbol : List Str := ["_law_one", "_law_two", "_law_three", "_law_capitals", "_law_tails", "_law_form", "_law_tail", "_law_name"]
abbrev P__law_symbol : List Str := ["_law_one", "_law_two", "_law_three"]
theorem sc__law_symbol : FnScope N__law_symbol P__law_symbol (defScope s__law_symbol) := ⟨rfl, rfl, rfl, by decide +kernel, rfl, by decide +kernel, by decide +kernel⟩
def pre__law_symbol : List D → Prop := fun ds => ∃ a b c : Int, ds = [.int a, .int b, .int c] ∧ 0 ≤ a ∧ 0 ≤ b ∧ 0 ≤ c
def post__law_symbol : List D → D → Prop := fun ds d => ∃ z : Str, d = .str z ∧ symB z = true ∧ z.length ≤ 5
set_option maxHeartbeats 4000000 in
theorem df__law_symbol {P : Program} {w : World} {K : PySem.W.Frag} {mg : Str → Option Value} {base : Heap} {fd : FuncData} {f : Addr} (F : FunD K "_law_symbol" "_law_symbol" (defArgs s__law_symbol) (defBody s__law_symbol) (defScope s__law_symbol) [] [] f fd) (hm : mg "_law_symbol" = some (.ref f)) (n_int : mg "int" = none) :
    Df P w K mg base "_law_symbol" 1 P__law_symbol 3 pre__law_symbol post__law_symbol := by
  refine df_mk F hm sc__law_symbol (fun _ _ _ _ _ _ us hl => match us, hl with | [_, _, _], _ => rfl) fun cdv A outer s H E hr ds hl hp => ⟨_,
    (pss_cons (ps_set (i := 3) sc__law_symbol.nd rfl (by first | exact Or.inl rfl | exact Or.inr rfl) pe_str)
    (pss_cons (ps_set (i := 4) sc__law_symbol.nd rfl (by first | exact Or.inl rfl | exact Or.inr rfl) pe_str)
    (pss_cons (ps_set (i := 5) sc__law_symbol.nd rfl (by first | exact Or.inl rfl | exact Or.inr rfl) (pe_op op_mod (pe_callTy call_int1 (by rfl) n_int (by decide +kernel) (pa_cons (pv 0) pa_nil)) pe_int))
    (pss_cons (ps_if (pt_cmpR op_eq (pv 5) pe_int (nomark _)) (pss_one (ps_ret pe_str)) pss_nil)
    (pss_cons (ps_if (pt_cmpR op_lt (pv 5) pe_int (nomark _)) (pss_one (ps_ret (pe_ix ix_str (pv 4) (pe_op op_mod (pe_callTy call_int1 (by rfl) n_int (by decide +kernel) (pa_cons (pe_op op_fdiv (pv 0) pe_int) pa_nil)) pe_int) (fun _ _ => rfl)))) pss_nil)
    (pss_cons (ps_set (i := 6) sc__law_symbol.nd rfl (by first | exact Or.inl rfl | exact Or.inr rfl) (pe_op op_addStr (pe_op op_addStr (pe_ix ix_str (pv 4) (pe_op op_mod (pe_callTy call_int1 (by rfl) n_int (by decide +kernel) (pa_cons (pv 1) pa_nil)) pe_int) (fun _ _ => rfl)) (pe_ix ix_str (pv 4) (pe_op op_mod (pe_callTy call_int1 (by rfl) n_int (by decide +kernel) (pa_cons (pe_op op_add (pe_op op_fdiv (pv 1) pe_int) (pe_op op_fdiv (pv 2) pe_int)) pa_nil)) pe_int) (fun _ _ => rfl))) (pe_ix ix_str (pv 4) (pe_op op_mod (pe_callTy call_int1 (by rfl) n_int (by decide +kernel) (pa_cons (pv 2) pa_nil)) pe_int) (fun _ _ => rfl))))
    (pss_cons (ps_set (i := 7) sc__law_symbol.nd rfl (by first | exact Or.inl rfl | exact Or.inr rfl) (pe_op op_addStr (pe_ix ix_str (pv 3) (pe_op op_mod (pe_callTy call_int1 (by rfl) n_int (by decide +kernel) (pa_cons (pe_op op_fdiv (pv 0) pe_int) pa_nil)) pe_int) (fun _ _ => rfl)) (pe_slice sl_str (pv 6) po_none (po_some (pe_op op_mod (pe_callTy call_int1 (by rfl) n_int (by decide +kernel) (pa_cons (pe_op op_fdiv (pv 0) pe_int) pa_nil)) pe_int)))))
    (pss_cons (ps_if (pt_cmpR op_gt (pv 5) pe_int (nomark _)) (pss_one (ps_ret (pe_op op_addStr (pv 7) pe_str))) pss_nil)
    (pss_one (ps_ret (pv 7))))))))))), ?_⟩
  obtain ⟨a0, a1, a2, rfl⟩ : ∃ a0 a1 a2, ds = [a0, a1, a2] := match ds, hl with | [_, _, _], _ => ⟨_, _, _, rfl⟩
  obtain ⟨a, b, c, e, ha, hb, hc⟩ := hp
  cases e
  refine sw_seq (sw_asg ?_)
  walk_at "e"
  refine sw_seq (sw_asg ?_)
  walk_at "e"
  refine sw_seq (sw_asg ?_)
  walk_at "e"
  refine sw_gen 5 (fun d => ∃ k : Int, d = .int k) rfl ⟨_, rfl⟩ fun d hd => ?_
  obtain ⟨k, rfl⟩ := hd
  obtain ⟨x0, g0, l0⟩ := low_at (k := a / 8 % 26) (by omega) (by omega)
  obtain ⟨x1, g1, l1⟩ := tails_at (k := b % 36) (by omega) (by omega)
  obtain ⟨x2, g2, l2⟩ := tails_at (k := (b / 36 + c / 36) % 36) (by omega) (by omega)
  obtain ⟨x3, g3, l3⟩ := tails_at (k := c % 36) (by omega) (by omega)
  obtain ⟨x4, g4, l4⟩ := caps_at (k := a / 8 % 26) (by omega) (by omega)
  have lt : tailsS.length = 36 := rfl
  have lc : capsS.length = 26 := rfl
  refine sw_seq (sw_if ?_)
  walk_at "e"
  refine ⟨fun h => ?_, fun h => ?_⟩
  · refine sw_ret ?_
    walk_at "e"
    exact ⟨by decide +kernel, by decide⟩
  refine sw_next ?_
  refine sw_seq (sw_if ?_)
  walk_at "e"
  refine ⟨fun h => ?_, fun h => ?_⟩
  · refine sw_ret ?_
    walk_at "e"
    refine ⟨?_, by rw [len_one]; decide⟩
    unfold symB
    have : isLetterL (TL.tl ⟨#[x0]⟩) = true := l0
    rw [this]; rfl
  refine sw_next ?_
  refine sw_seq (sw_asg ?_)
  walk_at "e"
  refine sw_gen 6 (fun d => ∃ z : Str, d = .str z ∧ TL.tl z = [x1, x2, x3] ∧ z.length = 3) rfl ⟨_, rfl, rfl, rfl⟩ fun d hd => ?_
  obtain ⟨z, rfl, tz, lz⟩ := hd
  refine sw_seq (sw_asg ?_)
  have hn0 : (0 : Int) ≤ a / 208 % 4 := by omega
  obtain ⟨n, hn⟩ : ∃ n : Nat, a / 208 % 4 = (n : Int) := ⟨(a / 208 % 4).toNat, by omega⟩
  have lcu := len_cut z none (some (a / 208 % 4))
  walk_at "e"
  rw [hn]
  have hnm : isNameL (TL.tl (⟨#[x4]⟩ ++ cutS z none (some (n : Int)))) = true := by
    rw [TL.tl_append, tl_cut_to, tz, tl_one]
    exact name_of_parts l4 l1 l2 l3 n
  obtain ⟨hs1, hs2⟩ := sym_name hnm
  have lcn := len_cut z none (some (n : Int))
  have lname : (⟨#[x4]⟩ ++ cutS z none (some (n : Int)) : Str).length ≤ 4 := by rw [len_add, len_one]; omega
  refine sw_seq (sw_if ?_)
  walk_at "e"
  refine ⟨fun h => ?_, fun h => ?_⟩
  · refine sw_ret ?_
    walk_at "e"
    refine rw_addStr (by show _ ≤ (1000000 : Nat); rw [show (Str.ofString "~").length = 1 from rfl]; omega) ?_
    refine ⟨_, rfl, hs2, ?_⟩
    rw [len_add, show ("~" : Str).length = 1 from rfl]; omega
  · refine sw_next ?_
    refine sw_ret ?_
    walk_at "e"
    exact ⟨hs1, by omega⟩
theorem low_mem {c : Nat} : decide (c ∈ TL.tl ("abcdefghijklmnopqrstuvwxyz" : Str)) = lowB c := by
  have e : TL.tl ("abcdefghijklmnopqrstuvwxyz" : Str) = List.range' 97 26 := by decide +kernel
  rw [e]
  unfold lowB
  by_cases h : 97 ≤ c ∧ c ≤ 122
  · rw [decide_eq_true (by rw [List.mem_range'_1]; omega)]; simp [h]
  · rw [decide_eq_false (by rw [List.mem_range'_1]; omega)]; simp; omega
theorem cap_mem {c : Nat} : decide (c ∈ TL.tl ("ABCDEFGHIJKLMNOPQRSTUVWXYZ" : Str)) = capB c := by
  have e : TL.tl ("ABCDEFGHIJKLMNOPQRSTUVWXYZ" : Str) = List.range' 65 26 := by decide +kernel
  rw [e]
  unfold capB
  by_cases h : 65 ≤ c ∧ c ≤ 90
  · rw [decide_eq_true (by rw [List.mem_range'_1]; omega)]; simp [h]
  · rw [decide_eq_false (by rw [List.mem_range'_1]; omega)]; simp; omega
theorem tail_mem {c : Nat} : decide (c ∈ TL.tl (("abcdefghijklmnopqrstuvwxyz" : Str) ++ ("0123456789" : Str))) = tailB c := by
  have e : TL.tl ("abcdefghijklmnopqrstuvwxyz" : Str) = List.range' 97 26 := by decide +kernel
  have e2 : TL.tl ("0123456789" : Str) = List.range' 48 10 := by decide +kernel
  rw [TL.tl_append, e, e2]
  unfold tailB lowB
  by_cases h : 97 ≤ c ∧ c ≤ 122
  · rw [decide_eq_true (by rw [List.mem_append, List.mem_range'_1, List.mem_range'_1]; omega)]; simp [h]
  · by_cases h2 : 48 ≤ c ∧ c ≤ 57
    · rw [decide_eq_true (by rw [List.mem_append, List.mem_range'_1, List.mem_range'_1]; omega)]; simp [h2]
    · rw [decide_eq_false (by rw [List.mem_append, List.mem_range'_1, List.mem_range'_1]; omega)]; simp; omega
abbrev s__law_is_symbol : Stmt := top 23
abbrev N__law_is_symbol : List Str := ["_law_word", "_law_small", "_law_name", "_law_sign"]
abbrev P__law_is_symbol : List Str := ["_law_word"]
theorem sc__law_is_symbol : FnScope N__law_is_symbol P__law_is_symbol (defScope s__law_is_symbol) := ⟨rfl, rfl, rfl, by decide +kernel, rfl, by decide +kernel, by decide +kernel⟩
def pre__law_is_symbol : List D → Prop := fun ds => ∃ z, ds = [.str z] ∧ z.length ≤ 5000
def post__law_is_symbol : List D → D → Prop := fun ds d => ∀ z, ds = [.str z] → d = .bl (symB z)
set_option maxHeartbeats 4000000 in
theorem df__law_is_symbol {P : Program} {w : World} {K : PySem.W.Frag} {mg : Str → Option Value} {base : Heap} {fd : FuncData} {f : Addr} (F : FunD K "_law_is_symbol" "_law_is_symbol" (defArgs s__law_is_symbol) (defBody s__law_is_symbol) (defScope s__law_is_symbol) [] [] f fd) (hm : mg "_law_is_symbol" = some (.ref f)) (n_len : mg "len" = none) :
    Df P w K mg base "_law_is_symbol" 1 P__law_is_symbol 1 pre__law_is_symbol post__law_is_symbol := by
  refine df_mk F hm sc__law_is_symbol (fun _ _ _ _ _ _ us hl => match us, hl with | [_], _ => rfl) fun cdv A outer s H E hr ds hl hp => ⟨_,
    (pss_cons (ps_set (i := 1) sc__law_is_symbol.nd rfl (by first | exact Or.inl rfl | exact Or.inr rfl) pe_str)
    (pss_cons (ps_if (PW.pt (pw_or (pt_cmpR op_eq (pv 0) pe_str (nomark _)) (pw_or1 (PW.pt (pw_and (pt_cmpR op_eq (pe_callB (call_lenK K rfl) (by rfl) n_len PySem.boot_len (pa_cons (pv 0) pa_nil)) pe_int (nomark _)) (pw_and1 (pt_cmpR op_inSt (pv 0) (pv 1) rfl))))))) (pss_one (ps_ret pe_bl)) pss_nil)
    (pss_cons (ps_set (i := 2) sc__law_is_symbol.nd rfl (by first | exact Or.inl rfl | exact Or.inr rfl) (pv 0))
    (pss_cons (ps_if (pt_val (pe_m1 PySem.F.slot_str_endswith PySem.F.type_str_endswith mt_endsZ (pv 0) pe_str)) (pss_one (ps_set (i := 2) sc__law_is_symbol.nd rfl (by first | exact Or.inl rfl | exact Or.inr rfl) (pe_slice sl_str (pv 0) po_none (po_some (pe_op op_sub (pe_callB (call_lenK K rfl) (by rfl) n_len PySem.boot_len (pa_cons (pv 0) pa_nil)) pe_int))))) pss_nil)
    (pss_cons (ps_if (PW.pt (pw_or (pt_cmpR op_lt (pe_callB (call_lenK K rfl) (by rfl) n_len PySem.boot_len (pa_cons (pv 2) pa_nil)) pe_int (nomark _)) (pw_or (pt_cmpR op_gt (pe_callB (call_lenK K rfl) (by rfl) n_len PySem.boot_len (pa_cons (pv 2) pa_nil)) pe_int (nomark _)) (pw_or1 (pt_cmpR op_niSt (pe_ix ix_str (pv 2) pe_int (fun _ _ => rfl)) pe_str rfl))))) (pss_one (ps_ret pe_bl)) pss_nil)
    (pss_cons (ps_for PassesOwn.never rfl (pi_str (pe_slice sl_str (pv 2) (po_some pe_int) po_none)) (pg_name (i := 3) sc__law_is_symbol.nd rfl (by first | exact Or.inl rfl | exact Or.inr rfl)) (pss_one (ps_if (pt_cmpR op_niSt (pv 3) (pe_op op_addStr (pv 1) pe_str) rfl) (pss_one (ps_ret pe_bl)) pss_nil)))
    (pss_one (ps_ret pe_bl)))))))), ?_⟩
  obtain ⟨a0, rfl⟩ : ∃ a0, ds = [a0] := match ds, hl with | [_], _ => ⟨_, rfl⟩
  obtain ⟨z, e, hz⟩ := hp
  cases e
  refine sw_seq (sw_asg ?_)
  walk_at "e"
  have l26 : (Str.ofString "abcdefghijklmnopqrstuvwxyz").length = 26 := rfl
  have l10 : (Str.ofString "0123456789").length = 10 := rfl
  have yes : symB z = true → SW K (tRet (tC (V.bl true))) [some (.sh (.str z)), some (.sh (.str "abcdefghijklmnopqrstuvwxyz")), none, none] { nx := fun _ => False, rt := post__law_is_symbol [D.str z] } := fun h => by
    refine sw_ret ?_
    walk_at "e"
    intro z' e; cases e; rw [h]
  refine sw_seqP (fun γ1 => isLetterL (TL.tl z) = false ∧ z ≠ "#" ∧ γ1 = [some (.sh (.str z)), some (.sh (.str "abcdefghijklmnopqrstuvwxyz")), none, none]) ?_ ?_
  · refine sw_if ?_
    walk_at "e"
    refine ⟨fun h => ?_, fun h => ?_⟩
    · have h : z = "#" := by simpa using h
      walk_at "T"
      exact (yes (by unfold symB; rw [h]; decide +kernel)).mono (fun _ z => z.elim) (fun _ z => z) (fun _ z => z) fun _ z => z
    · have h : z ≠ "#" := by simpa using h
      walk_at "e"
      refine ⟨fun h1 => ?_, fun h1 => ?_⟩
      · have h1 : z.length = 1 := by simp at h1; omega
        obtain ⟨c, rfl⟩ := one_of h1
        walk_at "e"
        rw [inS_one, show decide (c ∈ TL.tl (Str.ofString "abcdefghijklmnopqrstuvwxyz")) = lowB c from low_mem]
        refine ⟨fun h2 => ?_, fun h2 => ?_⟩
        · exact (yes (by unfold symB; rw [show isLetterL (TL.tl ⟨#[c]⟩) = true from h2]; rfl)).mono (fun _ z => z.elim) (fun _ z => z) (fun _ z => z) fun _ z => z
        · exact sw_next ⟨h2, h, rfl⟩
      · have h1 : z.length ≠ 1 := by simp at h1; omega
        have hl : isLetterL (TL.tl z) = false := by
          rw [len_tl] at h1
          match e : TL.tl z, h1 with
          | [], _ => rfl
          | [c], h => exact (h rfl).elim
          | _ :: _ :: _, _ => rfl
        walk_at "F"
        exact sw_next ⟨hl, h, rfl⟩
  rintro γ ⟨hl1, hne, rfl⟩
  have hsym : symB z = isNameL (TL.tl (nmS z)) := by
    unfold symB; rw [hl1, decide_eq_false hne]; simp
  refine sw_seq (sw_asg ?_)
  walk_at "e"
  refine sw_seqP (fun γ1 => γ1 = [some (.sh (.str z)), some (.sh (.str "abcdefghijklmnopqrstuvwxyz")), some (.sh (.str (nmS z))), none]) ?_ ?_
  · refine sw_if ?_
    walk_at "e"
    refine ⟨fun h => ?_, fun h => ?_⟩
    · refine sw_asg ?_
      walk_at "e"
      have hp : 0 < z.length := by
        have h2 : Txt.endswith z ⟨#[126]⟩ = true := h
        rw [ends_one] at h2
        rw [len_tl]
        exact List.length_pos_of_mem (List.mem_of_getLast? (of_decide_eq_true h2))
      have e : cutS z none (some ((z.length : Int) - 1)) = nmS z := by
        unfold nmS
        have h : Txt.endswith z "~" = true := h
        rw [if_pos h]
        apply ext_tl
        rw [show (z.length : Int) - 1 = ((z.length - 1 : Nat) : Int) by omega, tl_cut_to, tl_cut_last, List.dropLast_eq_take, len_tl]
      rw [e]; rfl
    · refine sw_next ?_
      have e : nmS z = z := by
        unfold nmS
        have h : Txt.endswith z "~" = false := h
        rw [h, if_neg (by decide)]
      rw [e]; rfl
  rintro γ rfl
  have hnl := len_nm z
  generalize hw : nmS z = w at hnl hsym ⊢
  have no : isNameL (TL.tl w) = false → SW K (tRet (tC (V.bl false))) [some (.sh (.str z)), some (.sh (.str "abcdefghijklmnopqrstuvwxyz")), some (.sh (.str w)), none] { nx := fun _ => False, rt := post__law_is_symbol [D.str z] } := fun h => by
    refine sw_ret ?_
    walk_at "e"
    intro z' e; cases e; rw [hsym, h]
  have badlen : (¬ (1 ≤ (TL.tl w).length ∧ (TL.tl w).length ≤ 4)) → isNameL (TL.tl w) = false := fun h => by
    match e : TL.tl w, h with
    | [], _ => rfl
    | c :: r, h =>
      rw [List.length_cons] at h
      rw [isName_cons, decide_eq_false (by omega)]; rfl
  have lw := len_tl w
  refine sw_seqP (fun γ1 => ∃ c r, TL.tl w = c :: r ∧ r.length ≤ 3 ∧ capB c = true ∧ γ1 = [some (.sh (.str z)), some (.sh (.str "abcdefghijklmnopqrstuvwxyz")), some (.sh (.str w)), none]) ?_ ?_
  · refine sw_if ?_
    walk_at "e"
    refine ⟨fun h => ?_, fun h => ?_⟩
    · walk_at "T"
      exact (no (badlen (by simp at h; omega))).mono (fun _ z => z.elim) (fun _ z => z) (fun _ z => z) fun _ z => z
    walk_at "e"
    refine ⟨fun h2 => ?_, fun h2 => ?_⟩
    · walk_at "T"
      exact (no (badlen (by simp at h2; omega))).mono (fun _ z => z.elim) (fun _ z => z) (fun _ z => z) fun _ z => z
    have h3 : 1 ≤ (TL.tl w).length ∧ (TL.tl w).length ≤ 4 := by simp at h h2; omega
    obtain ⟨c, r, ecr⟩ : ∃ c r, TL.tl w = c :: r := by
      match e : TL.tl w, h3 with
      | c :: r, _ => exact ⟨c, r, rfl⟩
    have h4 : r.length ≤ 3 := by rw [ecr, List.length_cons] at h3; omega
    have i0 : atI w.cps.toList 0 = some c := atI_nat (j := 0) (by show (TL.tl w)[0]? = some c; rw [ecr]; rfl)
    walk_at "e"
    rw [inS_one, show decide (c ∈ TL.tl (Str.ofString "ABCDEFGHIJKLMNOPQRSTUVWXYZ")) = capB c from cap_mem]
    refine ⟨fun h5 => ?_, fun h5 => ?_⟩
    · have h5 : capB c = false := by simpa using h5
      exact (no (by rw [ecr, isName_cons, h5]; simp)).mono (fun _ z => z.elim) (fun _ z => z) (fun _ z => z) fun _ z => z
    · exact sw_next ⟨c, r, ecr, h4, by simpa using h5, rfl⟩
  rintro γ ⟨c, r, ecr, h4, hcap, rfl⟩
  have nm : isNameL (TL.tl w) = r.all tailB := by rw [ecr, isName_cons, decide_eq_true h4, hcap]; simp
  have er : TL.tl (cutS w (some ((1 : Nat) : Int)) none) = r := by rw [tl_cut_from, ecr]; rfl
  refine sw_seq (sw_for (js := [3]) ?_)
  walk_at "e"
  refine ⟨fun i γ => (r.take i).all tailB = true ∧ ∃ kv, γ = [some (.sh (.str z)), some (.sh (.str "abcdefghijklmnopqrstuvwxyz")), some (.sh (.str w)), kv], ⟨rfl, none, rfl⟩, ?_, ?_⟩
  · rintro i d γ hd ⟨hall, kv, rfl⟩
    obtain ⟨x, hx, rfl⟩ := signs_get hd
    rw [show TL.tl (cutS w (some 1) none) = r from er] at hx
    walk_at "e"
    refine sw_if ?_
    walk_at "e"
    rw [inS_one, show decide (x ∈ TL.tl (Str.ofString "abcdefghijklmnopqrstuvwxyz" ++ Str.ofString "0123456789")) = tailB x from tail_mem]
    refine ⟨fun h => ?_, fun h => ?_⟩
    · have h : tailB x = false := by simpa using h
      refine sw_ret ?_
      walk_at "e"
      intro z' e; cases e
      have : r.all tailB = false := by
        rw [← Bool.not_eq_true, List.all_eq_true]
        intro q
        have := q x (List.mem_of_getElem? hx)
        rw [h] at this; cases this
      rw [hsym, nm, this]
    · have h : tailB x = true := by simpa using h
      refine sw_next ⟨?_, _, rfl⟩
      rw [List.take_add_one, hx, List.all_append, hall]
      simp [h]
  · rintro γ ⟨hall, kv, rfl⟩
    rw [signs_len, show TL.tl (cutS w (some 1) none) = r from er, List.take_length] at hall
    refine sw_ret ?_
    walk_at "e"
    intro z' e; cases e
    rw [hsym, nm, hall]

theorem joinL_snoc (S w : List Nat) : ∀ l : List (List Nat), l ≠ [] → TL.joinL S (l ++ [w]) = TL.joinL S l ++ S ++ w
  | [], h => (h rfl).elim
  | [p], _ => by simp [TL.joinL]
  | p :: q :: r, _ => by
    have ih := joinL_snoc S w (q :: r) (by simp)
    show p ++ (S ++ TL.joinL S ((q :: r) ++ [w])) = p ++ (S ++ TL.joinL S (q :: r)) ++ S ++ w
    rw [ih]; simp
theorem join_one (w : Str) : Txt.join " " ([] ++ [w]) = w := by
  apply ext_tl
  rw [TL.join_eq, TL.tl_join]; rfl
theorem join_snoc (l : List Str) (w : Str) (h : l ≠ []) : Txt.join " " (l ++ [w]) = Txt.join " " l ++ " " ++ w := by
  apply ext_tl
  rw [TL.join_eq, TL.tl_join, List.map_append, TL.tl_append, TL.tl_append, TL.join_eq, TL.tl_join]
  exact joinL_snoc _ _ _ (by simpa using h)
theorem join_le (ps : List Str) : (Txt.join " " ps).length ≤ (ps.map (·.length)).sum + ps.length := by
  by_cases h : ps = []
  · subst h; decide
  · have := join_lenE ps h; omega
theorem sum_take (ps : List Str) (i : Nat) : ((ps.take i).map (·.length)).sum ≤ (ps.map (·.length)).sum := by
  conv => rhs; rw [← List.take_append_drop i ps, List.map_append, List.sum_append]
  omega
abbrev s__law_written : Stmt := top 24
abbrev N__law_written : List Str := ["_law_row", "_law_text", "_law_k"]
abbrev P__law_written : List Str := ["_law_row"]
theorem sc__law_written : FnScope N__law_written P__law_written (defScope s__law_written) := ⟨rfl, rfl, rfl, by decide +kernel, rfl, by decide +kernel, by decide +kernel⟩
def pre__law_written : List D → Prop := fun ds => ∃ ws : List Str, ds = [.lst (ws.map .str)] ∧ (ws.map (·.length)).sum + ws.length ≤ 100000
def post__law_written : List D → D → Prop := fun ds d => ∀ ws : List Str, ds = [.lst (ws.map .str)] → d = .str (fmtL ws)
set_option maxHeartbeats 4000000 in
theorem df__law_written {P : Program} {w : World} {K : PySem.W.Frag} {mg : Str → Option Value} {base : Heap} {fd : FuncData} {f : Addr} (F : FunD K "_law_written" "_law_written" (defArgs s__law_written) (defBody s__law_written) (defScope s__law_written) [] [] f fd) (hm : mg "_law_written" = some (.ref f)) (n_len : mg "len" = none) (n_range : mg "range" = none) :
    Df P w K mg base "_law_written" 1 P__law_written 1 pre__law_written post__law_written := by
  refine df_mk F hm sc__law_written (fun _ _ _ _ _ _ us hl => match us, hl with | [_], _ => rfl) fun cdv A outer s H E hr ds hl hp => ⟨_,
    (pss_cons (ps_set (i := 1) sc__law_written.nd rfl (by first | exact Or.inl rfl | exact Or.inr rfl) pe_str)
    (pss_cons (ps_for PassesOwn.never rfl (pi_range1 (by rfl) n_range (pa_cons (pe_callB (call_lenK K rfl) (by rfl) n_len PySem.boot_len (pa_cons (pv 0) pa_nil)) pa_nil)) (pg_name (i := 2) sc__law_written.nd rfl (by first | exact Or.inl rfl | exact Or.inr rfl)) (pss_cons (ps_if (pt_cmpR op_gt (pv 2) pe_int (nomark _)) (pss_one (ps_set (i := 1) sc__law_written.nd rfl (by first | exact Or.inl rfl | exact Or.inr rfl) (pe_op op_addStr (pv 1) pe_str))) pss_nil)
    (pss_one (ps_set (i := 1) sc__law_written.nd rfl (by first | exact Or.inl rfl | exact Or.inr rfl) (pe_op op_addStr (pv 1) (pe_ix (ix_listK K rfl) (pv 0) (pv 2) (fun _ _ => rfl)))))))
    (pss_cons (ps_if (pt_cmpR op_eq (pe_callB (call_lenK K rfl) (by rfl) n_len PySem.boot_len (pa_cons (pv 0) pa_nil)) pe_int (nomark _)) (pss_one (ps_ret pe_str)) pss_nil)
    (pss_one (ps_ret (pv 1)))))), ?_⟩
  obtain ⟨a0, rfl⟩ : ∃ a0, ds = [a0] := match ds, hl with | [_], _ => ⟨_, rfl⟩
  obtain ⟨ws, e, hl1⟩ := hp
  cases e
  refine sw_seq (sw_asg ?_)
  walk_at "e"
  refine sw_seq (sw_for (js := [2]) ?_)
  walk_at "e"
  rw [List.length_map, Int.toNat_natCast]
  refine ⟨by omega, by omega, fun i γ => ∃ kv, γ = [some (.sh (.lst (ws.map .str))), some (.sh (.str (Txt.join " " (ws.take i)))), kv], ⟨none, rfl⟩, ?_, ?_⟩
  · rintro i d γ hd ⟨kv, rfl⟩
    obtain ⟨hk, rfl⟩ := rng_get hd
    rw [Int.zero_add]
    have jl := join_le (ws.take i)
    have st := sum_take ws i
    have tl1 : (ws.take i).length ≤ ws.length := by rw [List.length_take]; omega
    have sp : (Str.ofString " ").length = 1 := rfl
    have hg : ws[i]? = some ws[i] := List.getElem?_eq_getElem hk
    have hw := mem_sum (List.mem_map.mpr ⟨ws[i], List.getElem_mem hk, rfl⟩ : (ws[i]).length ∈ ws.map (·.length))
    have ga : atI (ws.map D.str) (i : Int) = some (.str ws[i]) := by
      refine atI_nat ?_
      rw [List.getElem?_map, hg]; rfl
    walk_at "e"
    refine sw_seqP (fun γ1 => γ1 = [some (.sh (.lst (ws.map .str))), some (.sh (.str (if i = 0 then Txt.join " " (ws.take i) else Txt.join " " (ws.take i) ++ " "))), some (.sh (.int (i : Int)))]) ?_ ?_
    · refine sw_if ?_
      walk_at "e"
      refine ⟨fun h => ?_, fun h => ?_⟩
      · have h : i ≠ 0 := by simp at h; omega
        refine sw_asg ?_
        walk_at "e"
        rw [if_neg h]; rfl
      · have h : i = 0 := by simp at h; omega
        refine sw_next ?_
        rw [if_pos h]; rfl
    rintro γ rfl
    have e1 : (if i = 0 then Txt.join " " (ws.take i) else Txt.join " " (ws.take i) ++ " ") ++ ws[i] = Txt.join " " (ws.take (i + 1)) := by
      rw [List.take_add_one, hg]
      by_cases h : i = 0
      · subst h
        rw [if_pos rfl]
        show Txt.join " " [] ++ ws[0] = Txt.join " " ([] ++ [ws[0]])
        rw [join_one]
        apply ext_tl
        rw [TL.tl_append]; rfl
      · rw [if_neg h]
        refine (join_snoc _ _ ?_).symm
        intro z
        have := congrArg List.length z
        rw [List.length_take, List.length_nil] at this
        omega
    have e2 : (if i = 0 then Txt.join " " (ws.take i) else Txt.join " " (ws.take i) ++ " ").length ≤ (Txt.join " " (ws.take i)).length + 1 := by
      split
      · omega
      · rw [len_add]; exact Nat.le_refl _
    refine sw_asg ?_
    walk_at "e"
    rw [e1]
    exact ⟨_, rfl⟩
  rintro γ ⟨kv, rfl⟩
  rw [rng_len, List.take_length]
  refine sw_seq (sw_if ?_)
  walk_at "e"
  refine ⟨fun h => ?_, fun h => ?_⟩
  · refine sw_ret ?_
    walk_at "e"
    intro ws' e
    have e1 : ws.map D.str = ws'.map D.str := by injection e with e _; injection e
    have e1 := strs_inj e1
    subst e1
    unfold fmtL
    rw [if_pos (by have h := of_decide_eq_true h; rw [List.length_map] at h; exact List.length_eq_zero_iff.mp (by omega))]
  · refine sw_next ?_
    refine sw_ret ?_
    walk_at "e"
    intro ws' e
    have e1 : ws.map D.str = ws'.map D.str := by injection e with e _; injection e
    have e1 := strs_inj e1
    subst e1
    unfold fmtL
    rw [if_neg (by intro z; subst z; simp at h)]
abbrev s__law_read : Stmt := top 25
abbrev N__law_read : List Str := ["_law_text", "_law_words", "_law_word"]
abbrev P__law_read : List Str := ["_law_text"]
theorem sc__law_read : FnScope N__law_read P__law_read (defScope s__law_read) := ⟨rfl, rfl, rfl, by decide +kernel, rfl, by decide +kernel, by decide +kernel⟩
def pre__law_read : List D → Prop := fun ds => ∃ z, ds = [.str z] ∧ z.length ≤ 5000
def post__law_read : List D → D → Prop := fun ds d => ∀ z, ds = [.str z] → d = if rowB z = true then .tup ((wdsS z).map .str) else .non
set_option maxHeartbeats 4000000 in
theorem df__law_read {P : Program} {w : World} {K : PySem.W.Frag} {mg : Str → Option Value} {base : Heap} {fd : FuncData} {f : Addr} (F : FunD K "_law_read" "_law_read" (defArgs s__law_read) (defBody s__law_read) (defScope s__law_read) [] [] f fd) (hm : mg "_law_read" = some (.ref f)) (n_tuple : mg "tuple" = none) (g__law_is_symbol : Df P w K mg base "_law_is_symbol" 1 P__law_is_symbol 1 pre__law_is_symbol post__law_is_symbol) :
    Df P w K mg base "_law_read" 2 P__law_read 1 pre__law_read post__law_read := by
  refine df_mk F hm sc__law_read (fun _ _ _ _ _ _ us hl => match us, hl with | [_], _ => rfl) fun cdv A outer s H E hr ds hl hp => ⟨_,
    (pss_cons (ps_if (pt_cmpR op_eq (pv 0) pe_str (nomark _)) (pss_one (ps_ret (pe_tupF pa_nil))) pss_nil)
    (pss_cons (ps_set (i := 1) sc__law_read.nd rfl (by first | exact Or.inl rfl | exact Or.inr rfl) (pe_m1 PySem.F.slot_str_split PySem.F.type_str_split mt_splitZ (pv 0) pe_str))
    (pss_cons (ps_for PassesOwn.never rfl (pi_listK K rfl (pv 1)) (pg_name (i := 2) sc__law_read.nd rfl (by first | exact Or.inl rfl | exact Or.inr rfl)) (pss_one (ps_if (pt_not (pt_val (pe_dfK K rfl g__law_is_symbol hr (by decide) (by rfl) (pa_cons (pv 2) pa_nil)))) (pss_one (ps_ret pe_non)) pss_nil)))
    (pss_one (ps_ret (pe_callTy (call_tupK K rfl) (by rfl) n_tuple (by decide +kernel) (pa_cons (pv 1) pa_nil))))))), ?_⟩
  obtain ⟨a0, rfl⟩ : ∃ a0, ds = [a0] := match ds, hl with | [_], _ => ⟨_, rfl⟩
  obtain ⟨z, e, hz⟩ := hp
  cases e
  refine sw_seq (sw_if ?_)
  walk_at "e"
  refine ⟨fun h => ?_, fun h => ?_⟩
  · refine sw_ret ?_
    walk_at "e"
    intro z' e; cases e
    have h : z = "-" := by simpa using h
    subst h
    rfl
  have h : z ≠ "-" := by simpa using h
  have hw : wdsS z = Txt.split z " " := by unfold wdsS; rw [if_neg h]
  refine sw_next ?_
  refine sw_seq (sw_asg ?_)
  walk_at "e"
  refine rwm_new (rnm_split (by rfl) (by show _ ≤ (1000000 : Nat); omega) ?_)
  rw [show Txt.split z (Str.ofString " ") = wdsS z from hw.symm]
  have h1 := wds_len z
  refine sw_seq (sw_for (js := [2]) ?_)
  walk_at "e"
  refine ⟨fun i γ => ((wdsS z).take i).all symB = true ∧ ∃ kv, γ = [some (.sh (.str z)), some (.sh (.lst ((wdsS z).map .str))), kv], ⟨rfl, none, rfl⟩, ?_, ?_⟩
  · rintro i d γ hd ⟨hall, kv, rfl⟩
    rw [List.getElem?_map] at hd
    obtain ⟨x, hx, rfl⟩ := Option.map_eq_some_iff.mp hd
    have hxl := h1 x (List.mem_of_getElem? hx)
    walk_at "e"
    refine sw_if ?_
    walk_at "e"
    refine call_ok rfl ⟨x, rfl, by omega⟩ fun d hd => ?_
    obtain rfl := hd _ rfl
    walk_at "e"
    refine ⟨fun h => ?_, fun h => ?_⟩
    · have h : symB x = false := by simpa using h
      refine sw_ret ?_
      walk_at "e"
      intro z' e; cases e
      have : rowB z = false := by
        unfold rowB
        rw [← Bool.not_eq_true, List.all_eq_true]
        intro q
        have := q x (List.mem_of_getElem? hx)
        rw [h] at this; cases this
      rw [this]; rfl
    · have h : symB x = true := by simpa using h
      refine sw_next ⟨?_, _, rfl⟩
      rw [List.take_add_one, hx, List.all_append, hall]
      simp [h]
  · rintro γ ⟨hall, kv, rfl⟩
    rw [List.length_map, List.take_length] at hall
    refine sw_ret ?_
    walk_at "e"
    intro z' e; cases e
    have : rowB z = true := hall
    rw [this]; rfl
theorem idx_at {z : Str} {k : Int} (h0 : 0 ≤ k) (h1 : k < z.length) : ∃ c, atI z.cps.toList k = some c := by
  obtain ⟨n, rfl⟩ : ∃ n : Nat, k = (n : Int) := ⟨k.toNat, by omega⟩
  have hn : n < z.cps.toList.length := by show _ < (TL.tl z).length; rw [← len_tl]; omega
  exact ⟨_, atI_nat (List.getElem?_eq_getElem hn)⟩
theorem sum_set : ∀ (l : List Str) (i : Nat) (w : Str), ((l.set i w).map (·.length)).sum ≤ (l.map (·.length)).sum + w.length
  | [], _, _ => by simp
  | x :: l, 0, w => by simp [List.set]; omega
  | x :: l, i + 1, w => by
    have := sum_set l i w
    simp only [List.set_cons_succ, List.map_cons, List.sum_cons]
    omega
abbrev s__law_spoilt : Stmt := top 26
abbrev N__law_spoilt : List Str := ["_law_text", "_law_draws_here", "_law_signs", "_law_words", "_law_kind", "_law_at", "_law_sign", "_law_parts"]
abbrev P__law_spoilt : List Str := ["_law_text", "_law_draws_here"]
theorem sc__law_spoilt : FnScope N__law_spoilt P__law_spoilt (defScope s__law_spoilt) := ⟨rfl, rfl, rfl, by decide +kernel, rfl, by decide +kernel, by decide +kernel⟩
def pre__law_spoilt : List D → Prop := fun ds => ∃ (z : Str) (a b c : Int), ds = [.str z, .lst [.int a, .int b, .int c]] ∧ z.length ≤ 4000 ∧ 0 ≤ a ∧ 0 ≤ b ∧ 0 ≤ c
def post__law_spoilt : List D → D → Prop := fun ds d => ∃ y : Str, d = .str y ∧ ∀ z l, ds = [.str z, l] → y.length ≤ z.length + 10
set_option maxHeartbeats 4000000 in
theorem df__law_spoilt {P : Program} {w : World} {K : PySem.W.Frag} {mg : Str → Option Value} {base : Heap} {fd : FuncData} {f : Addr} (F : FunD K "_law_spoilt" "_law_spoilt" (defArgs s__law_spoilt) (defBody s__law_spoilt) (defScope s__law_spoilt) [] [] f fd) (hm : mg "_law_spoilt" = some (.ref f)) (n_int : mg "int" = none) (n_len : mg "len" = none) :
    Df P w K mg base "_law_spoilt" 1 P__law_spoilt 2 pre__law_spoilt post__law_spoilt := by
  refine df_mk F hm sc__law_spoilt (fun _ _ _ _ _ _ us hl => match us, hl with | [_, _], _ => rfl) fun cdv A outer s H E hr ds hl hp => ⟨_,
    (pss_cons (ps_set (i := 2) sc__law_spoilt.nd rfl (by first | exact Or.inl rfl | exact Or.inr rfl) pe_str)
    (pss_cons (ps_set (i := 3) sc__law_spoilt.nd rfl (by first | exact Or.inl rfl | exact Or.inr rfl) (pe_lst (pa_cons pe_str (pa_cons pe_str (pa_cons pe_str (pa_cons pe_str (pa_cons pe_str (pa_cons pe_str (pa_cons pe_str (pa_cons pe_str (pa_cons pe_str (pa_cons pe_str (pa_cons pe_str (pa_cons pe_str (pa_cons pe_str (pa_cons pe_str (pa_cons pe_str (pa_cons pe_str (pa_cons pe_str (pa_cons pe_str pa_nil))))))))))))))))))))
    (pss_cons (ps_set (i := 4) sc__law_spoilt.nd rfl (by first | exact Or.inl rfl | exact Or.inr rfl) (pe_op op_mod (pe_callTy call_int1 (by rfl) n_int (by decide +kernel) (pa_cons (pe_ix (ix_listK K rfl) (pv 1) pe_int (fun _ _ => rfl)) pa_nil)) pe_int))
    (pss_cons (ps_set (i := 5) sc__law_spoilt.nd rfl (by first | exact Or.inl rfl | exact Or.inr rfl) (pe_op op_mod (pe_callTy call_int1 (by rfl) n_int (by decide +kernel) (pa_cons (pe_ix (ix_listK K rfl) (pv 1) pe_int (fun _ _ => rfl)) pa_nil)) (pe_op op_add (pe_callB (call_lenK K rfl) (by rfl) n_len PySem.boot_len (pa_cons (pv 0) pa_nil)) pe_int)))
    (pss_cons (ps_set (i := 6) sc__law_spoilt.nd rfl (by first | exact Or.inl rfl | exact Or.inr rfl) (pe_ix ix_str (pv 2) (pe_op op_mod (pe_callTy call_int1 (by rfl) n_int (by decide +kernel) (pa_cons (pe_ix (ix_listK K rfl) (pv 1) pe_int (fun _ _ => rfl)) pa_nil)) (pe_callB (call_lenK K rfl) (by rfl) n_len PySem.boot_len (pa_cons (pv 2) pa_nil))) (fun _ _ => rfl)))
    (pss_cons (ps_if (pt_cmpR op_eq (pv 4) pe_int (nomark _)) (pss_one (ps_ret (pe_op op_addStr (pe_op op_addStr (pe_slice sl_str (pv 0) po_none (po_some (pv 5))) pe_str) (pe_slice sl_str (pv 0) (po_some (pv 5)) po_none)))) pss_nil)
    (pss_cons (ps_if (pt_cmpR op_eq (pv 4) pe_int (nomark _)) (pss_one (ps_ret (pe_op op_addStr (pe_op op_addStr (pe_slice sl_str (pv 0) po_none (po_some (pv 5))) (pv 6)) (pe_slice sl_str (pv 0) (po_some (pv 5)) po_none)))) pss_nil)
    (pss_cons (ps_if (pt_cmpR op_eq (pv 4) pe_int (nomark _)) (pss_one (ps_ret (pe_op op_addStr (pe_slice sl_str (pv 0) po_none (po_some (pv 5))) (pe_slice sl_str (pv 0) (po_some (pe_op op_add (pv 5) pe_int)) po_none)))) pss_nil)
    (pss_cons (ps_if (pt_cmpR op_eq (pv 4) pe_int (nomark _)) (pss_one (ps_ret (pe_op op_addStr (pe_op op_addStr (pe_slice sl_str (pv 0) po_none (po_some (pv 5))) (pv 6)) (pe_slice sl_str (pv 0) (po_some (pe_op op_add (pv 5) pe_int)) po_none)))) pss_nil)
    (pss_cons (ps_if (pt_cmpR op_eq (pv 4) pe_int (nomark _)) (pss_cons (ps_set (i := 7) sc__law_spoilt.nd rfl (by first | exact Or.inl rfl | exact Or.inr rfl) (pe_m1 PySem.F.slot_str_split PySem.F.type_str_split mt_splitZ (pv 0) pe_str))
    (pss_cons (ps_asg (pe_ix (ix_listK K rfl) (pv 3) (pe_op op_mod (pe_callTy call_int1 (by rfl) n_int (by decide +kernel) (pa_cons (pe_ix (ix_listK K rfl) (pv 1) pe_int (fun _ _ => rfl)) pa_nil)) (pe_callB (call_lenK K rfl) (by rfl) n_len PySem.boot_len (pa_cons (pv 3) pa_nil))) (fun _ _ => rfl)) (pg_sub (pv 7) (pe_op op_mod (pe_callTy call_int1 (by rfl) n_int (by decide +kernel) (pa_cons (pe_ix (ix_listK K rfl) (pv 1) pe_int (fun _ _ => rfl)) pa_nil)) (pe_callB (call_lenK K rfl) (by rfl) n_len PySem.boot_len (pa_cons (pv 7) pa_nil))) set_list))
    (pss_one (ps_ret (pe_m1 PySem.F.slot_str_join PySem.F.type_str_join (mt_joinK K rfl) pe_str (pv 7)))))) pss_nil)
    (pss_one (ps_ret (pe_ix (ix_listK K rfl) (pe_lst (pa_cons (pe_op op_addStr (pv 0) pe_str) (pa_cons pe_str (pa_cons (pe_op op_addStr pe_str (pv 0)) pa_nil)))) (pe_op op_sub (pv 4) pe_int) (fun _ _ => rfl)))))))))))))), ?_⟩
  obtain ⟨a0, a1, rfl⟩ : ∃ a0 a1, ds = [a0, a1] := match ds, hl with | [_, _], _ => ⟨_, _, rfl⟩
  obtain ⟨z, a, b, c, e, hz, ha, hb, hc⟩ := hp
  cases e
  have g0 : atI [D.int a, .int b, .int c] 0 = some (.int a) := rfl
  have g1 : atI [D.int a, .int b, .int c] 1 = some (.int b) := rfl
  have g2 : atI [D.int a, .int b, .int c] 2 = some (.int c) := rfl
  refine sw_seq (sw_asg ?_)
  walk_at "e"
  refine sw_gen 2 (fun d => ∃ y : Str, d = .str y ∧ 0 < y.length ∧ y.length ≤ 200) rfl ⟨_, rfl, by decide +kernel, by decide +kernel⟩ fun d hd => ?_
  obtain ⟨sg, rfl, lsg, lsg2⟩ := hd
  refine sw_seq (sw_asg ?_)
  walk_at "e"
  refine sw_gen 3 (fun d => ∃ wl : List Str, d = .lst (wl.map .str) ∧ wl.length = 18 ∧ ∀ w ∈ wl, w.length ≤ 6) rfl ⟨["", "A~a", "X~~", "ab", "##", "~", "1", "x1", "Xabcd", "XY", "X_", "-", "a~", "#~", "~X", "A~ ", "Q\n", "Z12~~"], rfl, rfl, by decide +kernel⟩ fun d hd => ?_
  obtain ⟨wl, rfl, lwl, hwl⟩ := hd
  refine sw_seq (sw_asg ?_)
  walk_at "e"
  refine sw_gen 4 (fun d => ∃ k : Int, d = .int k ∧ 0 ≤ k ∧ k < 8) rfl ⟨_, rfl, by omega, by omega⟩ fun d hd => ?_
  obtain ⟨k, rfl, hk0, hk1⟩ := hd
  refine sw_seq (sw_asg ?_)
  walk_at "e"
  have h0 := Int.emod_nonneg b (show (z.length : Int) + 1 ≠ 0 by omega)
  have h1 := Int.emod_lt_of_pos b (show 0 < (z.length : Int) + 1 by omega)
  refine sw_gen 5 (fun d => ∃ n : Nat, d = .int (n : Int)) rfl ⟨(b % (z.length + 1)).toNat, by rw [Int.toNat_of_nonneg h0]⟩ fun d hd => ?_
  obtain ⟨n, rfl⟩ := hd
  obtain ⟨x, hx⟩ := idx_at (z := sg) (k := c % (sg.length : Int)) (Int.emod_nonneg c (by omega)) (Int.emod_lt_of_pos c (by omega))
  refine sw_seq (sw_asg ?_)
  walk_at "e"
  have la := len_cut z none (some (n : Int))
  have lb := len_cut z (some (n : Int)) none
  have lc := len_cut z (some ((n : Int) + 1)) none
  have ta : (TL.tl (cutS z none (some (n : Int)))).length + (TL.tl (cutS z (some (n : Int)) none)).length ≤ z.length := by
    rw [tl_cut_to, tl_cut_from, List.length_take, List.length_drop, len_tl]; omega
  have tb : (TL.tl (cutS z none (some (n : Int)))).length + (TL.tl (cutS z (some ((n : Int) + 1)) none)).length ≤ z.length := by
    rw [show (n : Int) + 1 = ((n + 1 : Nat) : Int) by omega, tl_cut_to, tl_cut_from, List.length_take, List.length_drop, len_tl]; omega
  rw [← len_tl, ← len_tl] at ta tb
  have sp : (Str.ofString " ").length = 1 := rfl
  have spn : (Str.ofString "\n").length = 1 := rfl
  have spd : (Str.ofString "- ").length = 2 := rfl
  have fin : ∀ y : Str, y.length ≤ z.length + 10 → ∀ (z' : Str) (l : D), [D.str z, .lst [.int a, .int b, .int c]] = [.str z', l] → y.length ≤ z'.length + 10 := fun y hy z' l e => by cases e; exact hy
  refine sw_seqP (fun γ1 => 1 ≤ k ∧ γ1 = [some (.sh (.str z)), some (.sh (.lst [.int a, .int b, .int c])), some (.sh (.str sg)), some (.sh (.lst (wl.map .str))), some (.sh (.int k)), some (.sh (.int (n : Int))), some (.sh (.str ⟨#[x]⟩)), none]) ?_ ?_
  · refine sw_if ?_
    walk_at "e"
    refine ⟨fun h => ?_, fun h => ?_⟩
    · refine sw_ret ?_
      walk_at "e"
      exact fin _ (by rw [len_add, len_add]; omega)
    · exact sw_next ⟨by have h := of_decide_eq_false h; omega, rfl⟩
  rintro γ ⟨hkq1, rfl⟩
  refine sw_seqP (fun γ1 => 2 ≤ k ∧ γ1 = [some (.sh (.str z)), some (.sh (.lst [.int a, .int b, .int c])), some (.sh (.str sg)), some (.sh (.lst (wl.map .str))), some (.sh (.int k)), some (.sh (.int (n : Int))), some (.sh (.str ⟨#[x]⟩)), none]) ?_ ?_
  · refine sw_if ?_
    walk_at "e"
    refine ⟨fun h => ?_, fun h => ?_⟩
    · refine sw_ret ?_
      walk_at "e"
      exact fin _ (by rw [len_add, len_add, len_one]; omega)
    · exact sw_next ⟨by have h := of_decide_eq_false h; omega, rfl⟩
  rintro γ ⟨hkq2, rfl⟩
  refine sw_seqP (fun γ1 => 3 ≤ k ∧ γ1 = [some (.sh (.str z)), some (.sh (.lst [.int a, .int b, .int c])), some (.sh (.str sg)), some (.sh (.lst (wl.map .str))), some (.sh (.int k)), some (.sh (.int (n : Int))), some (.sh (.str ⟨#[x]⟩)), none]) ?_ ?_
  · refine sw_if ?_
    walk_at "e"
    refine ⟨fun h => ?_, fun h => ?_⟩
    · refine sw_ret ?_
      walk_at "e"
      exact fin _ (by rw [len_add]; omega)
    · exact sw_next ⟨by have h := of_decide_eq_false h; omega, rfl⟩
  rintro γ ⟨hkq3, rfl⟩
  refine sw_seqP (fun γ1 => 4 ≤ k ∧ γ1 = [some (.sh (.str z)), some (.sh (.lst [.int a, .int b, .int c])), some (.sh (.str sg)), some (.sh (.lst (wl.map .str))), some (.sh (.int k)), some (.sh (.int (n : Int))), some (.sh (.str ⟨#[x]⟩)), none]) ?_ ?_
  · refine sw_if ?_
    walk_at "e"
    refine ⟨fun h => ?_, fun h => ?_⟩
    · refine sw_ret ?_
      walk_at "e"
      exact fin _ (by rw [len_add, len_add, len_one]; omega)
    · exact sw_next ⟨by have h := of_decide_eq_false h; omega, rfl⟩
  rintro γ ⟨hkq4, rfl⟩
  have ssum := split_sum z
  have sne := split_ne z
  have slen : 0 < (Txt.split z " ").length := List.length_pos_iff.mpr sne
  refine sw_seqP (fun γ1 => 5 ≤ k ∧ γ1 = [some (.sh (.str z)), some (.sh (.lst [.int a, .int b, .int c])), some (.sh (.str sg)), some (.sh (.lst (wl.map .str))), some (.sh (.int k)), some (.sh (.int (n : Int))), some (.sh (.str ⟨#[x]⟩)), none]) ?_ ?_
  · refine sw_if ?_
    walk_at "e"
    refine ⟨fun h => ?_, fun h => ?_⟩
    · refine sw_seq (sw_asgN ?_)
      walk_at "e"
      refine rnm_split (by rfl) (by show _ ≤ (1000000 : Nat); omega) ?_
      generalize hps : Txt.split z (Str.ofString " ") = ps
      have hps : Txt.split z " " = ps := hps
      rw [hps] at ssum slen
      obtain ⟨j, hj, ej⟩ : ∃ j : Nat, j < ps.length ∧ b % (ps.length : Int) = (j : Int) := by
        have h0 := Int.emod_nonneg b (show (ps.length : Int) ≠ 0 by omega)
        have h1 := Int.emod_lt_of_pos b (show 0 < (ps.length : Int) by omega)
        exact ⟨(b % (ps.length : Int)).toNat, by omega, by omega⟩
      obtain ⟨m, hm, em⟩ : ∃ m : Nat, m < wl.length ∧ c % (wl.length : Int) = (m : Int) := by
        have h0 := Int.emod_nonneg c (show (wl.length : Int) ≠ 0 by omega)
        have h1 := Int.emod_lt_of_pos c (show 0 < (wl.length : Int) by omega)
        exact ⟨(c % (wl.length : Int)).toNat, by omega, by omega⟩
      have gm : atI (wl.map D.str) (m : Int) = some (.str wl[m]) := by
        refine atI_nat ?_
        rw [List.getElem?_map, List.getElem?_eq_getElem hm]; rfl
      have hwm := hwl _ (List.getElem_mem hm)
      refine sw_seq (sw_setI (n := 0) rfl ?_)
      walk_at "e"
      rw [List.length_map]
      refine rw_mod (by omega) ?_
      rw [em]
      walk_at "e"
      rw [List.length_map]
      refine rw_mod (by omega) ?_
      rw [ej]
      refine ⟨_, rfl, j, (by unfold ixN; rw [if_pos (by omega), if_pos (by omega)]; simp), ?_⟩
      show SW _ _ _ _
      have es : (ps.map D.str).set j (.str wl[m]) = (ps.set j wl[m]).map .str := by rw [List.map_set]
      rw [es]
      have s1 := sum_set ps j wl[m]
      refine sw_frz 7 rfl ?_
      refine sw_ret ?_
      walk_at "e"
      refine rwm_joinL ?_ ?_
      · show _ ≤ (1000000 : Nat)
        rw [show (Str.ofString " ").length = 1 from rfl, List.length_set]
        omega
      · have jl := join_le (ps.set j wl[m])
        rw [List.length_set] at jl
        exact ⟨_, rfl, fin _ (by omega)⟩
    · exact sw_next ⟨by have h := of_decide_eq_false h; omega, rfl⟩
  rintro γ ⟨hk5, rfl⟩
  refine sw_ret ?_
  walk_at "e"
  obtain h | h | h : k = 5 ∨ k = 6 ∨ k = 7 := by omega
  · subst h
    exact rw_ixL (d := .str (z ++ Str.ofString "\n")) rfl ⟨_, rfl, fin _ (by rw [len_add]; omega)⟩
  · subst h
    exact rw_ixL (d := .str (Str.ofString "")) rfl ⟨_, rfl, fin _ (by rw [show (Str.ofString "").length = 0 from rfl]; omega)⟩
  · subst h
    exact rw_ixL (d := .str (Str.ofString "- " ++ z)) rfl ⟨_, rfl, fin _ (by rw [len_add]; omega)⟩

theorem ok_row : eqOk 0 (.str (Str.ofString "row")) := by
  show PyData.strOk (Str.ofString "row") = true
  decide +kernel
theorem ok_bad : eqOk 0 (.str (Str.ofString "bad")) := by
  show PyData.strOk (Str.ofString "bad") = true
  decide +kernel
theorem ok_int (n : Int) : eqOk 0 (.int n) := trivial
abbrev s__law_good : Stmt := top 28
abbrev N__law_good : List Str := ["_law_text", "_law_due", "_law_told", "_law_actual", "_law_k", "_law_back"]
abbrev P__law_good : List Str := ["_law_text"]
theorem sc__law_good : FnScope N__law_good P__law_good (defScope s__law_good) := ⟨rfl, rfl, rfl, by decide +kernel, rfl, by decide +kernel, by decide +kernel⟩
def pre__law_good : List D → Prop := fun ds => ∃ z, ds = [.str z] ∧ z.length ≤ 5000
def post__law_good : List D → D → Prop := fun ds d => d = .bl true
set_option maxHeartbeats 4000000 in
theorem df__law_good {P : Program} {w : World} {K : PySem.W.Frag} {mg : Str → Option Value} {base : Heap} {fd : FuncData} {f : Addr} (F : FunD K "_law_good" "_law_good" (defArgs s__law_good) (defBody s__law_good) (defScope s__law_good) [] [] f fd) (hm : mg "_law_good" = some (.ref f)) (n_bool : mg "bool" = none) (n_int : mg "int" = none) (n_isinstance : mg "isinstance" = none) (n_len : mg "len" = none) (n_range : mg "range" = none) (n_str : mg "str" = none) (n_tuple : mg "tuple" = none) (g__law_parsed : Df P w K mg base "_law_parsed" 6 P__law_parsed 1 pre__law_parsed post__law_parsed) (g__law_read : Df P w K mg base "_law_read" 2 P__law_read 1 pre__law_read post__law_read) (g_format_row : Df P w K mg base "format_row" 1 P_format_row 1 pre_format_row post_format_row) :
    Df P w K mg base "_law_good" 7 P__law_good 1 pre__law_good post__law_good := by
  refine df_mk F hm sc__law_good (fun _ _ _ _ _ _ us hl => match us, hl with | [_], _ => rfl) fun cdv A outer s H E hr ds hl hp => ⟨_,
    (pss_cons (ps_set (i := 1) sc__law_good.nd rfl (by first | exact Or.inl rfl | exact Or.inr rfl) (pe_dfK K rfl g__law_read hr (by decide) (by rfl) (pa_cons (pv 0) pa_nil)))
    (pss_cons (ps_set (i := 2) sc__law_good.nd rfl (by first | exact Or.inl rfl | exact Or.inr rfl) (pe_dfK K rfl g__law_parsed hr (by decide) (by rfl) (pa_cons (pv 0) pa_nil)))
    (pss_cons (ps_set (i := 3) sc__law_good.nd rfl (by first | exact Or.inl rfl | exact Or.inr rfl) (pe_ix (ix_tupK K rfl) (pv 2) pe_int (fun _ _ => rfl)))
    (pss_cons (ps_if (pt_cmp (pc_isN (pv 1)) rfl) (pss_one (ps_ret (pe_and (pe_cmpR (op_eqDK K rfl hr.units) (pe_ix (ix_tupK K rfl) (pv 2) pe_int (fun _ _ => rfl)) pe_str (nomark _)) (pe_and (pe_callB (call_isiK K rfl) (by rfl) n_isinstance (by decide +kernel) (pa_cons (pv 3) (pa_cons (pe_bltn (v := .ty "int") (by rfl) n_int (by decide +kernel) rfl) pa_nil))) (pe_and (pe_not (pe_callB (call_isiK K rfl) (by rfl) n_isinstance (by decide +kernel) (pa_cons (pv 3) (pa_cons (pe_bltn (v := .ty "bool") (by rfl) n_bool (by decide +kernel) rfl) pa_nil)))) (pe_one (pe_cmpR (op_eqDK K rfl hr.units) (pv 3) pe_int (nomark _)))))))) pss_nil)
    (pss_cons (ps_if (PW.pt (pw_or (pt_cmpR (op_neDK K rfl hr.units) (pe_ix (ix_tupK K rfl) (pv 2) pe_int (fun _ _ => rfl)) pe_str (nomark _)) (pw_or (pt_not (pt_val (pe_callB (call_isiK K rfl) (by rfl) n_isinstance (by decide +kernel) (pa_cons (pv 3) (pa_cons (pe_bltn (v := .ty "tuple") (by rfl) n_tuple (by decide +kernel) rfl) pa_nil))))) (pw_or1 (pt_cmpR op_ne (pe_callB (call_lenK K rfl) (by rfl) n_len PySem.boot_len (pa_cons (pv 3) pa_nil)) (pe_callB (call_lenK K rfl) (by rfl) n_len PySem.boot_len (pa_cons (pv 1) pa_nil)) (nomark _)))))) (pss_one (ps_ret pe_bl)) pss_nil)
    (pss_cons (ps_for PassesOwn.never rfl (pi_range1 (by rfl) n_range (pa_cons (pe_callB (call_lenK K rfl) (by rfl) n_len PySem.boot_len (pa_cons (pv 1) pa_nil)) pa_nil)) (pg_name (i := 4) sc__law_good.nd rfl (by first | exact Or.inl rfl | exact Or.inr rfl)) (pss_one (ps_if (PW.pt (pw_or (pt_not (pt_val (pe_callB (call_isiK K rfl) (by rfl) n_isinstance (by decide +kernel) (pa_cons (pe_ix (ix_seqK K rfl) (pv 3) (pv 4) (fun _ _ => rfl)) (pa_cons (pe_bltn (v := .ty "str") (by rfl) n_str (by decide +kernel) rfl) pa_nil))))) (pw_or1 (pt_cmpR op_ne (pe_ix (ix_seqK K rfl) (pv 3) (pv 4) (fun _ _ => rfl)) (pe_ix (ix_seqK K rfl) (pv 1) (pv 4) (fun _ _ => rfl)) (nomark _))))) (pss_one (ps_ret pe_bl)) pss_nil)))
    (pss_cons (ps_set (i := 5) sc__law_good.nd rfl (by first | exact Or.inl rfl | exact Or.inr rfl) (pe_dfK K rfl g_format_row hr (by decide) (by rfl) (pa_cons (pv 3) pa_nil)))
    (pss_one (ps_ret (pe_and (pe_callB (call_isiK K rfl) (by rfl) n_isinstance (by decide +kernel) (pa_cons (pv 5) (pa_cons (pe_bltn (v := .ty "str") (by rfl) n_str (by decide +kernel) rfl) pa_nil))) (pe_one (pe_cmpR op_eq (pv 5) (pv 0) (nomark _))))))))))))), ?_⟩
  obtain ⟨a0, rfl⟩ : ∃ a0, ds = [a0] := match ds, hl with | [_], _ => ⟨_, rfl⟩
  obtain ⟨z, e, hz⟩ := hp
  cases e
  refine sw_seq (sw_asg ?_)
  walk_at "e"
  refine call_ok rfl ⟨z, rfl, hz⟩ fun d hd => ?_
  obtain rfl := hd _ rfl
  refine sw_seq (sw_asg ?_)
  walk_at "e"
  refine call_ok rfl ⟨z, rfl, hz⟩ fun d hd => ?_
  obtain rfl := hd _ rfl
  have h1 := wds_len z
  have h2 := wdss_len z
  have h3 := wdss_sum z
  by_cases hr : rowB z = true
  · rw [if_pos hr, if_pos hr]
    generalize hws : wdsS z = ws at *
    have g0 : atI [D.str (Str.ofString "row"), D.tup (ws.map .str)] 0 = some (.str (Str.ofString "row")) := rfl
    have g1 : atI [D.str (Str.ofString "row"), D.tup (ws.map .str)] 1 = some (.tup (ws.map .str)) := rfl
    refine sw_seq (sw_asg ?_)
    walk_at "e"
    refine sw_seq (sw_if ?_)
    walk_at "e"
    refine ew_isN0 ?_
    walk_at "e"
    refine ⟨(fun h => by cases h), _, rfl, ?_⟩
    walk_at "F"
    refine sw_next ?_
    refine sw_seq (sw_if ?_)
    walk_at "e"
    refine rw_neDD ok_row ok_row ?_
    rw [EqD_refl ok_row]
    refine ⟨_, rfl, ?_⟩
    walk_at "F"
    walk_at "e"
    walk_at "F"
    walk_at "e"
    rw [decide_eq_true rfl]
    walk_at "F"
    refine sw_next ?_
    refine sw_seq (sw_for (js := [4]) ?_)
    walk_at "e"
    rw [List.length_map, Int.toNat_natCast]
    refine ⟨by omega, by omega, fun i γ => ∃ kv, γ = [some (.sh (.str z)), some (.sh (.tup (ws.map .str))), some (.sh (.tup [.str (Str.ofString "row"), .tup (ws.map .str)])), some (.sh (.tup (ws.map .str))), kv, none], ⟨none, rfl⟩, ?_, ?_⟩
    · rintro i d γ hd ⟨kv, rfl⟩
      obtain ⟨hk, rfl⟩ := rng_get hd
      rw [Int.zero_add]
      have ga : atI (ws.map D.str) (i : Int) = some (.str ws[i]) := by
        refine atI_nat ?_
        rw [List.getElem?_map, List.getElem?_eq_getElem hk]; rfl
      walk_at "e"
      refine sw_if ?_
      walk_at "e"
      walk_at "F"
      walk_at "e"
      rw [decide_eq_true rfl]
      walk_at "F"
      exact sw_next ⟨_, rfl⟩
    rintro γ ⟨kv, rfl⟩
    refine sw_seq (sw_asg ?_)
    walk_at "e"
    refine call_ok rfl ⟨ws, rfl, by omega⟩ fun d hd => ?_
    obtain rfl := hd _ rfl
    refine sw_ret ?_
    walk_at "e"
    walk_at "T"
    walk_at "e"
    rw [← hws, fmt_wds, decide_eq_true rfl]
    rfl
  · rw [if_neg hr, if_neg hr]
    have g0 : atI [D.str (Str.ofString "bad"), D.int 1] 0 = some (.str (Str.ofString "bad")) := rfl
    have g1 : atI [D.str (Str.ofString "bad"), D.int 1] 1 = some (.int 1) := rfl
    refine sw_seq (sw_asg ?_)
    walk_at "e"
    refine sw_seq (sw_if ?_)
    walk_at "e"
    refine ew_isN1 ?_
    walk_at "e"
    refine ⟨rfl, _, rfl, ?_⟩
    walk_at "T"
    refine sw_ret ?_
    walk_at "e"
    refine rw_eqDD ok_bad ok_bad ?_
    rw [EqD_refl ok_bad]
    refine ⟨_, rfl, ?_⟩
    walk_at "T"
    walk_at "e"
    walk_at "T"
    walk_at "e"
    walk_at "T"
    walk_at "e"
    refine rw_eqDD (ok_int 1) (ok_int 1) ?_
    rw [EqD_refl (ok_int 1)]
    rfl

theorem draw_at {ms : List Int} {m : Nat} (h : ms.length = m) (hd : ∀ n ∈ ms, 0 ≤ n ∧ n < 1000) (k : Nat) (hk : k < m) : ∃ n : Int, atI (ms.map D.int) (k : Int) = some (.int n) ∧ 0 ≤ n ∧ n < 1000 := by
  have hk' : k < ms.length := by omega
  refine ⟨ms[k], atI_nat ?_, hd _ (List.getElem_mem hk')⟩
  rw [List.getElem?_map, List.getElem?_eq_getElem hk']; rfl
theorem draw3 {ms : List Int} (h : ms.length = 3) (hd : ∀ n ∈ ms, 0 ≤ n ∧ n < 1000) : ∃ a b c : Int, ms.map D.int = [.int a, .int b, .int c] ∧ 0 ≤ a ∧ 0 ≤ b ∧ 0 ≤ c := by
  match ms, h with
  | [a, b, c], _ => exact ⟨a, b, c, rfl, (hd a (by simp)).1, (hd b (by simp)).1, (hd c (by simp)).1⟩
theorem fmtL_len {ws : List Str} {L : Nat} (h : ∀ w ∈ ws, w.length ≤ L) : (fmtL ws).length ≤ ws.length * (L + 1) + 1 := by
  unfold fmtL
  split
  · show (1 : Nat) ≤ _; omega
  · have h1 := join_le ws
    have h2 := sum_len ws L h
    rw [Nat.mul_succ]; omega
theorem rowB_fmt {ws : List Str} (h : ∀ w ∈ ws, symB w = true) : rowB (fmtL ws) = true := by
  unfold rowB
  rw [wds_fmt h, List.all_eq_true]
  exact h
theorem ok_syms {ws : List Str} (h : ∀ w ∈ ws, symB w = true) : eqOk 1 (.tup (ws.map .str)) :=
  eqOk_strs fun x hx => strOk_of fun c hc => by have := sym_sg (h x hx) c hc; omega
abbrev s_law : Stmt := top 29
abbrev N_law : List Str := ["_law_script", "_law_draws_here", "_law_size", "_law_parts", "_law_row", "_law_text", "_law_told", "_law_other", "_law_k", "_law_spoilt_here"]
abbrev P_law : List Str := ["_law_script"]
theorem sc_law : FnScope N_law P_law (defScope s_law) := ⟨rfl, rfl, rfl, by decide +kernel, rfl, by decide +kernel, by decide +kernel⟩
def pre_law : List D → Prop := fun ds => ∃ ns : List Int, ds = [.scr ns] ∧ ns.length ≤ 63
def post_law : List D → D → Prop := fun ds d => d = .bl true
set_option maxHeartbeats 4000000 in
theorem df_law {P : Program} {w : World} {K : PySem.W.Frag} {mg : Str → Option Value} {base : Heap} {fd : FuncData} {f : Addr} (F : FunD K "law" "law" (defArgs s_law) (defBody s_law) (defScope s_law) [] [] f fd) (hm : mg "law" = some (.ref f)) (n_int : mg "int" = none) (n_isinstance : mg "isinstance" = none) (n_range : mg "range" = none) (n_str : mg "str" = none) (n_tuple : mg "tuple" = none) (g__law_cell : Df P w K mg base "_law_cell" 1 P__law_cell 2 pre__law_cell post__law_cell) (g__law_draws : Df P w K mg base "_law_draws" 1 P__law_draws 2 pre__law_draws post__law_draws) (g__law_good : Df P w K mg base "_law_good" 7 P__law_good 1 pre__law_good post__law_good) (g__law_read : Df P w K mg base "_law_read" 2 P__law_read 1 pre__law_read post__law_read) (g__law_spoilt : Df P w K mg base "_law_spoilt" 1 P__law_spoilt 2 pre__law_spoilt post__law_spoilt) (g__law_symbol : Df P w K mg base "_law_symbol" 1 P__law_symbol 3 pre__law_symbol post__law_symbol) (g__law_written : Df P w K mg base "_law_written" 1 P__law_written 1 pre__law_written post__law_written) (g_format_row : Df P w K mg base "format_row" 1 P_format_row 1 pre_format_row post_format_row) :
    Df P w K mg base "law" 8 P_law 1 pre_law post_law := by
  refine df_mk F hm sc_law (fun _ _ _ _ _ _ us hl => match us, hl with | [_], _ => rfl) fun cdv A outer s H E hr ds hl hp => ⟨_,
    (pss_cons (ps_set (i := 1) sc_law.nd rfl (by first | exact Or.inl rfl | exact Or.inr rfl) (pe_dfK K rfl g__law_draws hr (by decide) (by rfl) (pa_cons (pe_dfK K rfl g__law_cell hr (by decide) (by rfl) (pa_cons (pv 0) (pa_cons pe_int pa_nil))) (pa_cons pe_int pa_nil))))
    (pss_cons (ps_set (i := 2) sc_law.nd rfl (by first | exact Or.inl rfl | exact Or.inr rfl) (pe_op op_mod (pe_callTy call_int1 (by rfl) n_int (by decide +kernel) (pa_cons (pe_ix (ix_listK K rfl) (pv 1) pe_int (fun _ _ => rfl)) pa_nil)) pe_int))
    (pss_cons (ps_if (pt_cmpR op_eq (pe_op op_mod (pe_callTy call_int1 (by rfl) n_int (by decide +kernel) (pa_cons (pe_ix (ix_listK K rfl) (pv 1) pe_int (fun _ _ => rfl)) pa_nil)) pe_int) pe_int (nomark _)) (pss_one (ps_set (i := 2) sc_law.nd rfl (by first | exact Or.inl rfl | exact Or.inr rfl) (pe_op op_fdiv (pv 2) pe_int))) pss_nil)
    (pss_cons (ps_if (pt_cmpR op_eq (pe_op op_mod (pe_callTy call_int1 (by rfl) n_int (by decide +kernel) (pa_cons (pe_ix (ix_listK K rfl) (pv 1) pe_int (fun _ _ => rfl)) pa_nil)) pe_int) pe_int (nomark _)) (pss_one (ps_set (i := 2) sc_law.nd rfl (by first | exact Or.inl rfl | exact Or.inr rfl) (pe_op op_add pe_int (pe_op op_mod (pe_callTy call_int1 (by rfl) n_int (by decide +kernel) (pa_cons (pe_ix (ix_listK K rfl) (pv 1) pe_int (fun _ _ => rfl)) pa_nil)) pe_int)))) pss_nil)
    (pss_cons (ps_set (i := 3) sc_law.nd rfl (by first | exact Or.inl rfl | exact Or.inr rfl) (pe_dfK K rfl g__law_draws hr (by decide) (by rfl) (pa_cons (pe_dfK K rfl g__law_cell hr (by decide) (by rfl) (pa_cons (pv 0) (pa_cons pe_int pa_nil))) (pa_cons (pe_op op_mul pe_int (pv 2)) pa_nil))))
    (pss_cons (ps_setLc (i := 4) (own := [("_law_k", 8)]) rfl sc_law.nd rfl rfl (sw_true rfl rfl rfl (by decide +kernel)) (pi_range1 (by rfl) n_range (pa_cons (pv 2) pa_nil)) (blkOk_by (N := N_law) (sc := defScope s_law) (by decide +kernel)) (fun _ _ _ _ _ => (pg_name (i := 8) sc_law.nd rfl (by first | exact Or.inl rfl | exact Or.inr rfl))) (fun _ _ _ _ _ => pts_nil) (fun _ _ _ _ _ => (pe_dfK K rfl g__law_symbol hr (by decide) (by rfl) (pa_cons (pe_ix (ix_listK K rfl) (pv 3) (pe_op op_mul pe_int (pv 8)) (fun _ _ => rfl)) (pa_cons (pe_ix (ix_listK K rfl) (pv 3) (pe_op op_add (pe_op op_mul pe_int (pv 8)) pe_int) (fun _ _ => rfl)) (pa_cons (pe_ix (ix_listK K rfl) (pv 3) (pe_op op_add (pe_op op_mul pe_int (pv 8)) pe_int) (fun _ _ => rfl)) pa_nil))))))
    (pss_cons (ps_set (i := 5) sc_law.nd rfl (by first | exact Or.inl rfl | exact Or.inr rfl) (pe_dfK K rfl g__law_written hr (by decide) (by rfl) (pa_cons (pv 4) pa_nil)))
    (pss_cons (ps_set (i := 6) sc_law.nd rfl (by first | exact Or.inl rfl | exact Or.inr rfl) (pe_dfK K rfl g_format_row hr (by decide) (by rfl) (pa_cons (pe_callTy (call_tupK K rfl) (by rfl) n_tuple (by decide +kernel) (pa_cons (pv 4) pa_nil)) pa_nil)))
    (pss_cons (ps_if (PW.pt (pw_or (pt_not (pt_val (pe_callB (call_isiK K rfl) (by rfl) n_isinstance (by decide +kernel) (pa_cons (pv 6) (pa_cons (pe_bltn (v := .ty "str") (by rfl) n_str (by decide +kernel) rfl) pa_nil))))) (pw_or (pt_cmpR op_ne (pv 6) (pv 5) (nomark _)) (pw_or (pt_cmpR (op_neDK K rfl hr.units) (pe_dfK K rfl g__law_read hr (by decide) (by rfl) (pa_cons (pv 5) pa_nil)) (pe_callTy (call_tupK K rfl) (by rfl) n_tuple (by decide +kernel) (pa_cons (pv 4) pa_nil)) (nomark _)) (pw_or1 (pt_not (pt_val (pe_dfK K rfl g__law_good hr (by decide) (by rfl) (pa_cons (pv 5) pa_nil))))))))) (pss_one (ps_ret pe_bl)) pss_nil)
    (pss_cons (ps_for PassesOwn.never rfl (pi_listK K rfl (pe_lst (pa_cons (pe_op op_addStr (pv 5) pe_str) (pa_cons (pe_op op_addStr (pv 5) pe_str) (pa_cons (pe_op op_addStr pe_str (pv 5)) (pa_cons pe_str (pa_cons pe_str (pa_cons (pe_op op_addStr (pv 5) pe_str) (pa_cons (pe_op op_addStr pe_str (pv 5)) (pa_cons (pe_op op_addStr (pv 5) pe_str) (pa_cons pe_str (pa_cons pe_str (pa_cons pe_str (pa_cons pe_str pa_nil)))))))))))))) (pg_name (i := 7) sc_law.nd rfl (by first | exact Or.inl rfl | exact Or.inr rfl)) (pss_one (ps_if (pt_not (pt_val (pe_dfK K rfl g__law_good hr (by decide) (by rfl) (pa_cons (pv 7) pa_nil)))) (pss_one (ps_ret pe_bl)) pss_nil)))
    (pss_cons (ps_for PassesOwn.never rfl (pi_range1 (by rfl) n_range (pa_cons pe_int pa_nil)) (pg_name (i := 8) sc_law.nd rfl (by first | exact Or.inl rfl | exact Or.inr rfl)) (pss_cons (ps_set (i := 9) sc_law.nd rfl (by first | exact Or.inl rfl | exact Or.inr rfl) (pe_dfK K rfl g__law_spoilt hr (by decide) (by rfl) (pa_cons (pv 5) (pa_cons (pe_dfK K rfl g__law_draws hr (by decide) (by rfl) (pa_cons (pe_op op_add (pe_dfK K rfl g__law_cell hr (by decide) (by rfl) (pa_cons (pv 0) (pa_cons (pe_op op_add pe_int (pv 8)) pa_nil))) (pv 8)) (pa_cons pe_int pa_nil))) pa_nil))))
    (pss_one (ps_if (PW.pt (pw_or (pt_not (pt_val (pe_dfK K rfl g__law_good hr (by decide) (by rfl) (pa_cons (pv 9) pa_nil)))) (pw_or1 (pt_not (pt_val (pe_dfK K rfl g__law_good hr (by decide) (by rfl) (pa_cons (pe_dfK K rfl g__law_spoilt hr (by decide) (by rfl) (pa_cons (pv 9) (pa_cons (pe_dfK K rfl g__law_draws hr (by decide) (by rfl) (pa_cons (pe_op op_add (pe_dfK K rfl g__law_cell hr (by decide) (by rfl) (pa_cons (pv 0) (pa_cons (pe_op op_add pe_int (pv 8)) pa_nil))) (pv 8)) (pa_cons pe_int pa_nil))) pa_nil))) pa_nil))))))) (pss_one (ps_ret pe_bl)) pss_nil))))
    (pss_one (ps_ret (pe_dfK K rfl g__law_good hr (by decide) (by rfl) (pa_cons (pv 5) pa_nil))))))))))))))), ?_⟩
  obtain ⟨a0, rfl⟩ : ∃ a0, ds = [a0] := match ds, hl with | [_], _ => ⟨_, rfl⟩
  obtain ⟨ns, e, hns⟩ := hp
  cases e
  refine sw_seq (sw_asg ?_)
  walk_at "e"
  refine call_ok rfl ⟨ns, 0, rfl⟩ fun d hd => ?_
  obtain ⟨c, rfl⟩ := hd
  walk_at "e"
  refine call_ok rfl ⟨_, 2, rfl, by decide⟩ fun d hd => ?_
  obtain ⟨ms, rfl, h1, hdr⟩ := hd _ 2 rfl
  have dr := fun k => draw_at h1 hdr k
  obtain ⟨m0, g0, _, _⟩ := dr 0 (by decide)
  obtain ⟨m1, g1, _, _⟩ := dr 1 (by decide)
  refine sw_seq (sw_asg ?_)
  walk_at "e"
  refine sw_gen 2 (fun d => ∃ n : Nat, d = .int (n : Int) ∧ n ≤ 60) rfl ⟨(m1 % 13).toNat, by rw [Int.toNat_of_nonneg (by omega)], by omega⟩ fun d hd => ?_
  obtain ⟨n, rfl, hn⟩ := hd
  refine sw_seqP (fun γ1 => ∃ n : Nat, n ≤ 60 ∧ γ1 = [some (.sh (.scr ns)), some (.sh (.lst (ms.map .int))), some (.sh (.int (n : Int))), none, none, none, none, none, none, none]) ?_ ?_
  · refine sw_ifA2 ?_ ?_ ?_
    · walk_at "e"
      trivial
    · refine sw_asg ?_
      walk_at "e"
      refine ⟨n / 5, by omega, ?_⟩
      rw [show ((n / 5 : Nat) : Int) = (n : Int) / 5 by omega]; rfl
    · exact sw_next ⟨n, hn, rfl⟩
  rintro γ ⟨n, hn, rfl⟩
  refine sw_seqP (fun γ1 => ∃ n : Nat, n ≤ 60 ∧ γ1 = [some (.sh (.scr ns)), some (.sh (.lst (ms.map .int))), some (.sh (.int (n : Int))), none, none, none, none, none, none, none]) ?_ ?_
  · refine sw_ifA2 ?_ ?_ ?_
    · walk_at "e"
      trivial
    · refine sw_asg ?_
      walk_at "e"
      refine ⟨(13 + m1 % 48).toNat, by omega, ?_⟩
      rw [show (((13 + m1 % 48).toNat : Nat) : Int) = 13 + m1 % 48 by omega]; rfl
    · exact sw_next ⟨n, hn, rfl⟩
  rintro γ ⟨n, hn, rfl⟩
  refine sw_seq (sw_asg ?_)
  walk_at "e"
  refine call_ok rfl ⟨ns, 1, rfl⟩ fun d hd => ?_
  obtain ⟨c1, rfl⟩ := hd
  walk_at "e"
  rw [show (3 : Int) * (n : Int) = ((3 * n : Nat) : Int) by omega]
  refine call_ok rfl ⟨_, _, rfl, by omega⟩ fun d hd => ?_
  obtain ⟨ps, rfl, p1, pdr⟩ := hd _ _ rfl
  have dr := fun k => draw_at p1 pdr k
  refine sw_seq (sw_asgN (en_lc (js := [8]) (by decide) ?_))
  walk_at "e"
  rw [Int.toNat_natCast]
  refine ⟨by omega, by omega, fun i acc => ∃ ws : List Str, acc = ws.map .str ∧ ws.length = i ∧ i ≤ n ∧ ∀ w ∈ ws, symB w = true ∧ w.length ≤ 5, ⟨[], rfl, rfl, Nat.zero_le _, fun _ h => by cases h⟩, ?_, ?_⟩
  · rintro i d acc hd ⟨ws, rfl, hwl, hwi, hw⟩
    obtain ⟨hi, rfl⟩ := rng_get hd
    rw [Int.zero_add]
    refine ⟨by rw [List.length_map, hwl]; show _ < (1000000 : Nat); omega, gw_name (tw_yes ⟨fun _ => ?_, fun z => by cases z⟩)⟩
    obtain ⟨a, ga, _, _⟩ := dr (3 * i) (by omega)
    obtain ⟨b, gb, _, _⟩ := dr (3 * i + 1) (by omega)
    obtain ⟨c, gc, _, _⟩ := dr (3 * i + 2) (by omega)
    have ga : atI (ps.map D.int) (3 * (i : Int)) = some (.int a) := by rw [← ga]; congr 1
    have gb : atI (ps.map D.int) (3 * (i : Int) + 1) = some (.int b) := by rw [← gb]; congr 1
    have gc : atI (ps.map D.int) (3 * (i : Int) + 2) = some (.int c) := by rw [← gc]; congr 1
    walk_at "e"
    refine call_ok rfl ⟨a, b, c, rfl, by omega, by omega, by omega⟩ fun d hd => ?_
    obtain ⟨z, rfl, hz1, hz2⟩ := hd
    refine ⟨ws ++ [z], by rw [List.map_append]; rfl, by rw [List.length_append, hwl]; rfl, by omega, fun w h => ?_⟩
    rcases List.mem_append.mp h with h | h
    · exact hw w h
    · rw [List.mem_singleton.mp h]; exact ⟨hz1, hz2⟩
  rintro acc ⟨ws, rfl, hwl, hwi, hw⟩
  show SW _ _ _ _
  rw [rng_len] at hwl
  have wb : ∀ w ∈ ws, symB w = true := fun w h => (hw w h).1
  have wl : ∀ w ∈ ws, w.length ≤ 5 := fun w h => (hw w h).2
  have l1 := fmtL_len wl
  have l2 := sum_len ws 5 wl
  rw [hwl] at l1 l2
  have l3 : n * 6 ≤ 360 := by omega
  have l4 : n * 5 ≤ 300 := by omega
  refine sw_frz 4 rfl ?_
  refine sw_seq (sw_asg ?_)
  walk_at "e"
  refine call_ok rfl ⟨ws, rfl, by omega⟩ fun d hd => ?_
  obtain rfl := hd _ rfl
  refine sw_seq (sw_asg ?_)
  walk_at "e"
  refine call_ok rfl ⟨ws, rfl, by omega⟩ fun d hd => ?_
  obtain rfl := hd _ rfl
  have hrow := rowB_fmt wb
  have hwds := wds_fmt wb
  generalize hz : fmtL ws = z at *
  have lz : z.length ≤ 361 := by omega
  refine sw_seq (sw_if ?_)
  walk_at "e"
  walk_at "F"
  walk_at "e"
  rw [decide_eq_true rfl]
  walk_at "F"
  walk_at "e"
  refine call_ok rfl ⟨z, rfl, by omega⟩ fun d hd => ?_
  obtain rfl := hd _ rfl
  rw [if_pos hrow, hwds]
  walk_at "e"
  refine rw_neDD (ok_syms wb) (ok_syms wb) ?_
  rw [EqD_refl (ok_syms wb)]
  refine ⟨_, rfl, ?_⟩
  walk_at "F"
  walk_at "e"
  refine call_ok rfl ⟨z, rfl, by omega⟩ fun d hd => ?_
  obtain rfl := hd
  walk_at "e"
  walk_at "F"
  refine sw_next ?_
  have s1 : (Str.ofString "\n").length = 1 := rfl
  have s2 : (Str.ofString " ").length = 1 := rfl
  have s3 : (Str.ofString " -").length = 2 := rfl
  have s4 : (Str.ofString " #").length = 2 := rfl
  refine sw_seq (sw_for (js := [7]) ?_)
  walk_at "e"
  refine ⟨fun i γ => ∃ tv, γ = [some (.sh (.scr ns)), some (.sh (.lst (ms.map .int))), some (.sh (.int (n : Int))), some (.sh (.lst (ps.map .int))), some (.sh (.lst (ws.map .str))), some (.sh (.str z)), some (.sh (.str z)), tv, none, none], ⟨none, rfl⟩, ?_, ?_⟩
  · rintro i d γ hd ⟨tv, rfl⟩
    have hy : ∃ y : Str, d = .str y ∧ y.length ≤ 5000 := by
      have hm := List.mem_of_getElem? hd
      clear hd
      simp only [List.mem_cons, List.not_mem_nil, or_false] at hm
      rcases hm with rfl | rfl | rfl | rfl | rfl | rfl | rfl | rfl | rfl | rfl | rfl | rfl <;> first | exact ⟨_, rfl, by decide⟩ | exact ⟨_, rfl, by rw [len_add]; omega⟩
    obtain ⟨y, rfl, hy⟩ := hy
    walk_at "e"
    refine sw_if ?_
    walk_at "e"
    refine call_ok rfl ⟨y, rfl, hy⟩ fun d hd => ?_
    obtain rfl := hd
    walk_at "e"
    walk_at "F"
    exact sw_next ⟨_, rfl⟩
  rintro γ ⟨tv, rfl⟩
  refine sw_seq (sw_for (js := [8]) ?_)
  walk_at "e"
  refine ⟨by decide, by decide, fun i γ => ∃ kv sv, γ = [some (.sh (.scr ns)), some (.sh (.lst (ms.map .int))), some (.sh (.int (n : Int))), some (.sh (.lst (ps.map .int))), some (.sh (.lst (ws.map .str))), some (.sh (.str z)), some (.sh (.str z)), tv, kv, sv], ⟨none, none, rfl⟩, ?_, ?_⟩
  · rintro i d γ hd ⟨kv, sv, rfl⟩
    obtain ⟨hi, rfl⟩ := rng_get hd
    walk_at "e"
    refine sw_seq (sw_asg ?_)
    walk_at "e"
    refine call_ok rfl ⟨ns, 2 + i, by rw [show (2 + (0 + (i : Int))) = ((2 + i : Nat) : Int) by omega]⟩ fun d hd => ?_
    obtain ⟨c, rfl⟩ := hd
    walk_at "e"
    refine call_ok rfl ⟨_, 3, rfl, by decide⟩ fun d hd => ?_
    obtain ⟨qs, rfl, q1, q2⟩ := hd _ 3 rfl
    obtain ⟨a1, b1, c1, eq, qa, qb, qc⟩ := draw3 q1 q2
    rw [eq]
    walk_at "e"
    refine call_ok rfl ⟨z, a1, b1, c1, rfl, by omega, qa, qb, qc⟩ fun d hd => ?_
    obtain ⟨y, rfl, hy⟩ := hd
    have hy := hy _ _ rfl
    refine sw_if ?_
    walk_at "e"
    refine call_ok rfl ⟨y, rfl, by omega⟩ fun d hd => ?_
    obtain rfl := hd
    walk_at "e"
    walk_at "F"
    walk_at "e"
    refine call_ok rfl ⟨ns, 8 + i, by rw [show (8 + (0 + (i : Int))) = ((8 + i : Nat) : Int) by omega]⟩ fun d hd => ?_
    obtain ⟨c, rfl⟩ := hd
    walk_at "e"
    refine call_ok rfl ⟨_, 3, rfl, by decide⟩ fun d hd => ?_
    obtain ⟨qs, rfl, q1, q2⟩ := hd _ 3 rfl
    obtain ⟨a2, b2, c2, eq, qa, qb, qc⟩ := draw3 q1 q2
    rw [eq]
    walk_at "e"
    refine call_ok rfl ⟨y, a2, b2, c2, rfl, by omega, qa, qb, qc⟩ fun d hd => ?_
    obtain ⟨x, rfl, hx⟩ := hd
    have hx := hx _ _ rfl
    walk_at "e"
    refine call_ok rfl ⟨x, rfl, by omega⟩ fun d hd => ?_
    obtain rfl := hd
    walk_at "e"
    walk_at "F"
    exact sw_next ⟨_, _, rfl⟩
  rintro γ ⟨kv, sv, rfl⟩
  refine sw_ret ?_
  walk_at "e"
  refine call_ok rfl ⟨z, rfl, by omega⟩ fun d hd => ?_
  obtain rfl := hd
  rfl
end Z
namespace Z
open PySem PySem.Spec L2
instance : Tabs := ⟨[]⟩
def d_is_turned : He.DefD := ⟨("is_turned", none), "is_turned", "is_turned", defArgs s_is_turned, defBody s_is_turned, defScope s_is_turned, [], []⟩
def d_name_of : He.DefD := ⟨("name_of", none), "name_of", "name_of", defArgs s_name_of, defBody s_name_of, defScope s_name_of, [], []⟩
def d_is_name : He.DefD := ⟨("is_name", none), "is_name", "is_name", defArgs s_is_name, defBody s_is_name, defScope s_is_name, [], []⟩
def d_is_piece : He.DefD := ⟨("is_piece", none), "is_piece", "is_piece", defArgs s_is_piece, defBody s_is_piece, defScope s_is_piece, [], []⟩
def d_is_letter : He.DefD := ⟨("is_letter", none), "is_letter", "is_letter", defArgs s_is_letter, defBody s_is_letter, defScope s_is_letter, [], []⟩
def d_symbols_of : He.DefD := ⟨("symbols_of", none), "symbols_of", "symbols_of", defArgs s_symbols_of, defBody s_symbols_of, defScope s_symbols_of, [], []⟩
def d_is_row : He.DefD := ⟨("is_row", none), "is_row", "is_row", defArgs s_is_row, defBody s_is_row, defScope s_is_row, [], []⟩
def d_format_row : He.DefD := ⟨("format_row", none), "format_row", "format_row", defArgs s_format_row, defBody s_format_row, defScope s_format_row, [], []⟩
def d_check_lines : He.DefD := ⟨("check_lines", none), "check_lines", "check_lines", defArgs s_check_lines, defBody s_check_lines, defScope s_check_lines, [], []⟩
def d_parse_row : He.DefD := ⟨("parse_row", none), "parse_row", "parse_row", defArgs s_parse_row, defBody s_parse_row, defScope s_parse_row, [], []⟩
def d__law_parsed : He.DefD := ⟨("_law_parsed", none), "_law_parsed", "_law_parsed", defArgs s__law_parsed, defBody s__law_parsed, defScope s__law_parsed, [], []⟩
def d__law_cell : He.DefD := ⟨("_law_cell", none), "_law_cell", "_law_cell", defArgs s__law_cell, defBody s__law_cell, defScope s__law_cell, [], []⟩
def d__law_draws : He.DefD := ⟨("_law_draws", none), "_law_draws", "_law_draws", defArgs s__law_draws, defBody s__law_draws, defScope s__law_draws, [], []⟩
def d__law_symbol : He.DefD := ⟨("_law_symbol", none), "_law_symbol", "_law_symbol", defArgs s__law_symbol, defBody s__law_symbol, defScope s__law_symbol, [], []⟩
def d__law_is_symbol : He.DefD := ⟨("_law_is_symbol", none), "_law_is_symbol", "_law_is_symbol", defArgs s__law_is_symbol, defBody s__law_is_symbol, defScope s__law_is_symbol, [], []⟩
def d__law_written : He.DefD := ⟨("_law_written", none), "_law_written", "_law_written", defArgs s__law_written, defBody s__law_written, defScope s__law_written, [], []⟩
def d__law_read : He.DefD := ⟨("_law_read", none), "_law_read", "_law_read", defArgs s__law_read, defBody s__law_read, defScope s__law_read, [], []⟩
def d__law_spoilt : He.DefD := ⟨("_law_spoilt", none), "_law_spoilt", "_law_spoilt", defArgs s__law_spoilt, defBody s__law_spoilt, defScope s__law_spoilt, [], []⟩
def d__law_good : He.DefD := ⟨("_law_good", none), "_law_good", "_law_good", defArgs s__law_good, defBody s__law_good, defScope s__law_good, [], []⟩
def d_law : He.DefD := ⟨("law", none), "law", "law", defArgs s_law, defBody s_law, defScope s_law, [], []⟩
def fnL : List He.DefD := [d_is_turned, d_name_of, d_is_name, d_is_piece, d_is_letter, d_symbols_of, d_is_row, d_format_row, d_check_lines, d_parse_row, d__law_parsed, d__law_cell, d__law_draws, d__law_symbol, d__law_is_symbol, d__law_written, d__law_read, d__law_spoilt, d__law_good, d_law]
def faL : List He.Fa := [.glo "BadBook", .glo "BadText", .glo "TwiceError", .glo "is_turned", .glo "name_of", .glo "is_name", .glo "is_piece", .glo "is_letter", .glo "symbols_of", .glo "is_row", .glo "format_row", .glo "check_lines", .glo "parse_row", .glo "_law_parsed", .glo "_law_cell", .glo "_law_draws", .glo "_law_symbol", .glo "_law_is_symbol", .glo "_law_written", .glo "_law_read", .glo "_law_spoilt", .glo "_law_good", .glo "law", .free "ValueError", .free "abs", .free "all", .free "bool", .free "enumerate", .free "int", .free "isinstance", .free "len", .free "range", .free "str", .free "super", .free "tuple", .str "MARK" "#", .str "NOTHING" "-", .str "TURN" "~"]
def fileL : Str := PySem.Challenge.pw_twiceeach_k07_row_texts_there_and_back.main.file
def exL (K : PySem.W.Frag) : Bool := xd_BadText.ok K fileL && decide (PySem.W.exmOne K (.ref (He.ga K "BadText")) (.ref (He.ga K "BadText")) = some true) && decide (PySem.W.kitOne K (.ref (He.ga K "BadText")) (.ref (He.ga K "BadBook")) = some false) && decide (PySem.W.kitOne K (.ref (He.ga K "BadText")) (.ref (He.ga K "TwiceError")) = some true) && decide (PySem.W.kitOne K (.ref (He.ga K "BadText")) (.type "ValueError") = some true) && true
def sdL : List StX.SupD := [xd_BadText]
abbrev Rw : PySem.W.OpenRow := PySem.W.OpenLaw.row PySem.Challenge.rw_twiceeach_k07_row_texts_there_and_back
def tfL : List He.Defn := []
def tabsK (K : PySem.W.Frag) : Tabs := ⟨tfL.map fun p => (He.cT K p).2⟩
abbrev hk : PySem.W.Hook := StX.hookS 4 faL fnL [] tfL exL sdL
def ob (s : PySem.W.SharedT) : StX.AlS := StX.obsS 4 faL fnL [] tfL exL sdL (HandSHeadRun.getT s)
theorem ob_eq (s : PySem.W.SharedT) : ob s = hk.obs s.abs := StX.obsS_eq (HandSHeadRun.getT_eq s)
def looseL : List Str := ["__name__", "TwiceError", "BadBook", "BadText", "MARK", "TURN", "is_letter", "is_name", "is_piece", "is_turned", "name_of", "NOTHING", "format_row", "symbols_of", "is_row", "check_lines", "parse_row", "_law_cell", "_law_draws", "_law_symbol", "_law_is_symbol", "_law_written", "_law_read", "_law_spoilt", "_law_parsed", "_law_good"]
set_option maxHeartbeats 0 in
theorem run (w : World) : HandSHeadRun.RunEq Rw (PySem.W.view Rw.prog [29]) hk ob 4000 looseL w := by
  intro os
  kernel_rfl
theorem facts {P : Program} {w : World} {K : PySem.W.Frag} {h : Heap} {mg : Str → Option Value} {f : Addr} (X : K.In h) (G : h.Ns mainGlobals mg) (hfa : mg ("law" : Str) = some (.ref f)) (c : StX.SaysS faL fnL [] tfL exL sdL w h K) (hPf : P.main.file = fileL) (hPs : (P.main.scope.names.lookup ("super" : Str)).isSome = false) :
    ∃ fd : FuncData, (∀ (s : Shared) (v : Value), BindsTo s fd ⟨[v], []⟩ [("_law_script", v)]) ∧ ∀ base : Heap, K.In base → base.Ns mainGlobals mg → (∀ p ∈ tfL.map (He.cT K), GxR.TabB base mg p.1 p.2) → FnOk P w K mg base CX0 8 f fd ["_law_script"] (@spLawZ (tabsK K) K) := by
  letI := tabsK K
  have m_BadBook := He.glo_ok X G (c.x.t.d.fact 0 (f := .glo "BadBook") rfl)
  have m_BadText := He.glo_ok X G (c.x.t.d.fact 1 (f := .glo "BadText") rfl)
  have m_TwiceError := He.glo_ok X G (c.x.t.d.fact 2 (f := .glo "TwiceError") rfl)
  obtain ⟨f_is_turned, F_is_turned⟩ := c.x.t.d.def_ 0 (d := d_is_turned) rfl
  have m_is_turned := He.glo_ok X G (c.x.t.d.fact 3 (f := .glo "is_turned") rfl)
  obtain ⟨f_name_of, F_name_of⟩ := c.x.t.d.def_ 1 (d := d_name_of) rfl
  have m_name_of := He.glo_ok X G (c.x.t.d.fact 4 (f := .glo "name_of") rfl)
  obtain ⟨f_is_name, F_is_name⟩ := c.x.t.d.def_ 2 (d := d_is_name) rfl
  have m_is_name := He.glo_ok X G (c.x.t.d.fact 5 (f := .glo "is_name") rfl)
  obtain ⟨f_is_piece, F_is_piece⟩ := c.x.t.d.def_ 3 (d := d_is_piece) rfl
  have m_is_piece := He.glo_ok X G (c.x.t.d.fact 6 (f := .glo "is_piece") rfl)
  obtain ⟨f_is_letter, F_is_letter⟩ := c.x.t.d.def_ 4 (d := d_is_letter) rfl
  have m_is_letter := He.glo_ok X G (c.x.t.d.fact 7 (f := .glo "is_letter") rfl)
  obtain ⟨f_symbols_of, F_symbols_of⟩ := c.x.t.d.def_ 5 (d := d_symbols_of) rfl
  have m_symbols_of := He.glo_ok X G (c.x.t.d.fact 8 (f := .glo "symbols_of") rfl)
  obtain ⟨f_is_row, F_is_row⟩ := c.x.t.d.def_ 6 (d := d_is_row) rfl
  have m_is_row := He.glo_ok X G (c.x.t.d.fact 9 (f := .glo "is_row") rfl)
  obtain ⟨f_format_row, F_format_row⟩ := c.x.t.d.def_ 7 (d := d_format_row) rfl
  have m_format_row := He.glo_ok X G (c.x.t.d.fact 10 (f := .glo "format_row") rfl)
  obtain ⟨f_check_lines, F_check_lines⟩ := c.x.t.d.def_ 8 (d := d_check_lines) rfl
  have m_check_lines := He.glo_ok X G (c.x.t.d.fact 11 (f := .glo "check_lines") rfl)
  obtain ⟨f_parse_row, F_parse_row⟩ := c.x.t.d.def_ 9 (d := d_parse_row) rfl
  have m_parse_row := He.glo_ok X G (c.x.t.d.fact 12 (f := .glo "parse_row") rfl)
  obtain ⟨f__law_parsed, F__law_parsed⟩ := c.x.t.d.def_ 10 (d := d__law_parsed) rfl
  have m__law_parsed := He.glo_ok X G (c.x.t.d.fact 13 (f := .glo "_law_parsed") rfl)
  obtain ⟨f__law_cell, F__law_cell⟩ := c.x.t.d.def_ 11 (d := d__law_cell) rfl
  have m__law_cell := He.glo_ok X G (c.x.t.d.fact 14 (f := .glo "_law_cell") rfl)
  obtain ⟨f__law_draws, F__law_draws⟩ := c.x.t.d.def_ 12 (d := d__law_draws) rfl
  have m__law_draws := He.glo_ok X G (c.x.t.d.fact 15 (f := .glo "_law_draws") rfl)
  obtain ⟨f__law_symbol, F__law_symbol⟩ := c.x.t.d.def_ 13 (d := d__law_symbol) rfl
  have m__law_symbol := He.glo_ok X G (c.x.t.d.fact 16 (f := .glo "_law_symbol") rfl)
  obtain ⟨f__law_is_symbol, F__law_is_symbol⟩ := c.x.t.d.def_ 14 (d := d__law_is_symbol) rfl
  have m__law_is_symbol := He.glo_ok X G (c.x.t.d.fact 17 (f := .glo "_law_is_symbol") rfl)
  obtain ⟨f__law_written, F__law_written⟩ := c.x.t.d.def_ 15 (d := d__law_written) rfl
  have m__law_written := He.glo_ok X G (c.x.t.d.fact 18 (f := .glo "_law_written") rfl)
  obtain ⟨f__law_read, F__law_read⟩ := c.x.t.d.def_ 16 (d := d__law_read) rfl
  have m__law_read := He.glo_ok X G (c.x.t.d.fact 19 (f := .glo "_law_read") rfl)
  obtain ⟨f__law_spoilt, F__law_spoilt⟩ := c.x.t.d.def_ 17 (d := d__law_spoilt) rfl
  have m__law_spoilt := He.glo_ok X G (c.x.t.d.fact 20 (f := .glo "_law_spoilt") rfl)
  obtain ⟨f__law_good, F__law_good⟩ := c.x.t.d.def_ 18 (d := d__law_good) rfl
  have m__law_good := He.glo_ok X G (c.x.t.d.fact 21 (f := .glo "_law_good") rfl)
  obtain ⟨f_law, F_law⟩ := c.x.t.d.def_ 19 (d := d_law) rfl
  have m_law := He.glo_ok X G (c.x.t.d.fact 22 (f := .glo "law") rfl)
  have n_ValueError := He.free_ok X G (c.x.t.d.fact 23 (f := .free "ValueError") rfl)
  have n_abs := He.free_ok X G (c.x.t.d.fact 24 (f := .free "abs") rfl)
  have n_all := He.free_ok X G (c.x.t.d.fact 25 (f := .free "all") rfl)
  have n_bool := He.free_ok X G (c.x.t.d.fact 26 (f := .free "bool") rfl)
  have n_enumerate := He.free_ok X G (c.x.t.d.fact 27 (f := .free "enumerate") rfl)
  have n_int := He.free_ok X G (c.x.t.d.fact 28 (f := .free "int") rfl)
  have n_isinstance := He.free_ok X G (c.x.t.d.fact 29 (f := .free "isinstance") rfl)
  have n_len := He.free_ok X G (c.x.t.d.fact 30 (f := .free "len") rfl)
  have n_range := He.free_ok X G (c.x.t.d.fact 31 (f := .free "range") rfl)
  have n_str := He.free_ok X G (c.x.t.d.fact 32 (f := .free "str") rfl)
  have n_super := He.free_ok X G (c.x.t.d.fact 33 (f := .free "super") rfl)
  have n_tuple := He.free_ok X G (c.x.t.d.fact 34 (f := .free "tuple") rfl)
  have c_MARK := He.str_ok X G (c.x.t.d.fact 35 (f := .str "MARK" "#") rfl)
  have c_NOTHING := He.str_ok X G (c.x.t.d.fact 36 (f := .str "NOTHING" "-") rfl)
  have c_TURN := He.str_ok X G (c.x.t.d.fact 37 (f := .str "TURN" "~") rfl)
  have more := c.x.more
  unfold exL at more
  simp only [Bool.and_eq_true, decide_eq_true_eq] at more
  obtain ⟨⟨⟨⟨⟨o_BadText, exm_BadText_BadText⟩, kit_BadText_BadBook⟩, kit_BadText_TwiceError⟩, kit_BadText_ValueError⟩, _⟩ := more
  have r_BadText := fun (base : Heap) => rz_BadText (P := P) (w := w) (base := base) (c.def_ 0 (d := xd_BadText) rfl) o_BadText hPf n_super hPs m_BadText
  have e := hfa.symm.trans m_law
  cases e
  have b := FunD.bindsA (ps := ["_law_script"]) F_law fun _ _ _ _ _ _ us hl => match us, hl with | [_], _ => rfl
  refine ⟨f_law, fun s v => b s [v] rfl, fun base _ _ hTB => ?_⟩
  have g_is_turned := df_is_turned (P := P) (w := w) (base := base) F_is_turned m_is_turned c_TURN
  have g_name_of := df_name_of (P := P) (w := w) (base := base) F_name_of m_name_of g_is_turned
  have g_is_name := df_is_name (P := P) (w := w) (base := base) F_is_name m_is_name n_all n_len
  have g_is_piece := df_is_piece (P := P) (w := w) (base := base) F_is_piece m_is_piece g_is_name g_name_of
  have g_is_letter := df_is_letter (P := P) (w := w) (base := base) F_is_letter m_is_letter n_len
  have g_symbols_of := df_symbols_of (P := P) (w := w) (base := base) F_symbols_of m_symbols_of c_NOTHING
  have g_is_row := df_is_row (P := P) (w := w) (base := base) F_is_row m_is_row n_all c_MARK g_is_letter g_is_piece g_symbols_of
  have g_format_row := df_format_row (P := P) (w := w) (base := base) F_format_row m_format_row c_NOTHING
  have g_check_lines := df_check_lines (P := P) (w := w) (base := base) F_check_lines m_check_lines n_enumerate (r_BadText base) exm_BadText_BadText kit_BadText_BadBook kit_BadText_TwiceError kit_BadText_ValueError
  have g_parse_row := df_parse_row (P := P) (w := w) (base := base) F_parse_row m_parse_row n_tuple exm_BadText_BadText kit_BadText_BadBook kit_BadText_TwiceError kit_BadText_ValueError g_check_lines g_is_row g_symbols_of
  have g__law_parsed := df__law_parsed (P := P) (w := w) (base := base) F__law_parsed m__law_parsed n_ValueError n_isinstance m_BadBook m_BadText m_TwiceError (r_BadText base) exm_BadText_BadText kit_BadText_BadBook kit_BadText_TwiceError kit_BadText_ValueError g_parse_row
  have g__law_cell := df__law_cell (P := P) (w := w) (base := base) F__law_cell m__law_cell n_len
  have g__law_draws := df__law_draws (P := P) (w := w) (base := base) F__law_draws m__law_draws n_abs n_int n_range
  have g__law_symbol := df__law_symbol (P := P) (w := w) (base := base) F__law_symbol m__law_symbol n_int
  have g__law_is_symbol := df__law_is_symbol (P := P) (w := w) (base := base) F__law_is_symbol m__law_is_symbol n_len
  have g__law_written := df__law_written (P := P) (w := w) (base := base) F__law_written m__law_written n_len n_range
  have g__law_read := df__law_read (P := P) (w := w) (base := base) F__law_read m__law_read n_tuple g__law_is_symbol
  have g__law_spoilt := df__law_spoilt (P := P) (w := w) (base := base) F__law_spoilt m__law_spoilt n_int n_len
  have g__law_good := df__law_good (P := P) (w := w) (base := base) F__law_good m__law_good n_bool n_int n_isinstance n_len n_range n_str n_tuple g__law_parsed g__law_read g_format_row
  have g_law := df_law (P := P) (w := w) (base := base) F_law m_law n_int n_isinstance n_range n_str n_tuple g__law_cell g__law_draws g__law_good g__law_read g__law_spoilt g__law_symbol g__law_written g_format_row
  exact law_ofF F_law m_law g_law (fun ns hn => by first | exact ⟨_, rfl, hn⟩ | exact hn | trivial | exact ⟨rfl, hn⟩) (fun ns d h => by first | exact h | exact h rfl)
end Z
open PySem PySem.W PySem.Calls PyProof.Rows
set_option maxRecDepth 100000 in
set_option maxHeartbeats 0 in
theorem PySem.Challenge.cw_twiceeach_k07_row_texts_there_and_back_holds : PySem.Challenge.rw_twiceeach_k07_row_texts_there_and_back.Holds := by
  w_on; o_law
  refine HandSHeadRun.head_any (r := OpenLaw.row PySem.Challenge.rw_twiceeach_k07_row_texts_there_and_back) (q := view (OpenLaw.row PySem.Challenge.rw_twiceeach_k07_row_texts_there_and_back).prog [29]) (H := Z.hk) (ob := Z.ob) (M := 4000) (loose := Z.looseL) (d := HandSHeadRun.topDef (OpenLaw.row PySem.Challenge.rw_twiceeach_k07_row_texts_there_and_back).prog 29) (kwd := []) Z.ob_eq
    (by kernel_rfl) (fun s => by kernel_rfl) Z.run (by kernel_rfl) (by kernel_rfl) (by kernel_rfl) (by rfl) (by first | assumption | decide +kernel) (by decide +kernel) ⟨rfl, rfl, rfl, rfl, rfl, by decide +kernel⟩ ?hw ?hc
  case hw => w_witness2
  case hc =>
    refine LamX.walk_ofTsE (l := PySem.Challenge.rw_twiceeach_k07_row_texts_there_and_back) (n := 63) (k := 8) (x := "_law_script") (CX := fun _ => L2.CX0) rfl (by decide) (by kernel_rfl) ⟨rfl, by decide, by decide⟩ ?F (fun _ _ _ _ _ z => z)
    intro w mg fa h Y G hmg0
    obtain ⟨K, KX, c⟩ := Y
    have hmg : mg ("law" : PySem.Str) = some (.ref fa) := by
      have e : (HandSHeadRun.topDef (OpenLaw.row PySem.Challenge.rw_twiceeach_k07_row_texts_there_and_back).prog 29).name = ("law" : PySem.Str) := by kernel_rfl
      rw [← e]
      exact hmg0
    obtain ⟨fd, hb, hF⟩ := Z.facts (P := (PySem.Challenge.rw_twiceeach_k07_row_texts_there_and_back).prog) (w := w) KX G hmg c rfl (by decide +kernel)
    refine ⟨K, KX, fd, Z.tfL.map (He.cT K), @Z.spLawZ (Z.tabsK K) K, fun p hp => ?_, fun p hp => ?_, fun p hp => ?_, hb, fun H a ns hl _ hT hS => ⟨a, ns, rfl, fun R hR => ?_, hS, hl, fun _ => rfl⟩, fun base h1 h2 h3 => hF base h1 h2 fun p hp => ⟨(h3 p hp).code, (h3 p hp).bm, (h3 p hp).gP⟩⟩
    · obtain ⟨q, hq, rfl⟩ := List.mem_map.mp hp
      exact c.x.empty q hq
    · obtain ⟨q, hq, rfl⟩ := List.mem_map.mp hp
      exact c.x.out q hq
    · obtain ⟨q, hq, rfl⟩ := List.mem_map.mp hp
      exact PySem.W.codeHd_of_K KX (c.x.hd q hq)
    · obtain ⟨q, hq, rfl⟩ := List.mem_map.mp hR
      exact ⟨#[], hT _ (List.mem_map.mpr ⟨q, hq, rfl⟩), by first | trivial | decide | exact .nil⟩
#print axioms PySem.Challenge.cw_twiceeach_k07_row_texts_there_and_back_holds
