import PyProof.Rows.All
import Wide.All
import OpenK.AllK
import Wide.FinOn
import KE.KStateDown
import Lean
import HandS.ForMost
import HandS.IsInst
import HandS.FStr
import HandS.Style
import HandS.TupAny
import HandS.Defaults
import HandS.More
import HandS.WordsExc
import HandS.Head0
import HandS.Head1
import HandS.Head2
import HandS.HeadEnd
import HandS.HeadHook1
import HandS.HeadHook2
import HandS.GenList
import PyProof.TupleOfGen
import HandS.AnyAll
import HandS.Star
import HandS.Text
import HandS.List
import HandS.Iter
import PyProof.WalkInts
import PyProof.SliceStr2
import PyProof.StrOps2
import KE.KRevSl
import HandS.FltList
import KE.KSuper
import KE.KExcSuper
import HandS.Nested
import HandS.ExcInit
import HandS.Exc
import KE.KExcIs
import HandS.ExcIs
import HandS.ExcField
import HandS.ExcOwn
import HandS.TryOnly
import HandS.TryMany
import HandS.HeadHook4
import HandS.HeadWalk
import KE.KOpsOwn
import KE.KCallOwn
import HandS.Small
import PyProof.ExcBaseAll.ValueError
import HandS.SortInts
import HandS.Zip
import KE.GoesEnum
import HandS.ExcCtx
import HandS.HotCalls
import HandS.ExcInitHot
import HandS.Comp
import HandS.SetFor
import HandS.Conv
import PyProof.Rows.SortShellAny
import HandS.SetBool
import PyProof.ToksMono
import HandS.ReplaceLit
import HandS.Dict
import HandS.RevTup
import PyProof.FitsInt
import PyProof.StrLawsRepr
import HandS.SetKeys
import HandS.StrMore
import PyProof.StrLawsFrom
import HandS.DictComp
import HandS.ClsMeth
import HandS.MakeKwOnly
import KE.GoesZip
import KE.GoesMore
import HandS.SortOrd
import HandS.HeadNt
import HandS.Rev
import HandS.IterVal
import KE.KOwnIter
import HandS.CallSlots
import PySem.Challenge.RW_twiceeach_k43_fewest_blocks_of_a_map
set_option Elab.async false
set_option linter.all false
set_option maxRecDepth 100000
set_option maxHeartbeats 4000000
namespace L2
open PySem PySem.Spec PyProof.Rows GenW
section
variable {P : Program} {w : World} {outer : List Env} {H : Hp} {sc s : Shared} {ex : List Addr} {Q : List V → Hp → Prop} {EX : XK} {A : Around} {k : Nat} {E : Value → Shared → Prop}
/-- what stands once a generator is drained into the list at S -/
structure Drained (P : Program) (w : World) (outer : List Env) (H : Hp) (sc : Shared) (ex : List Addr) (Q : List V → Hp → Prop) (s' : Shared) (S : Addr) (acc : Array Value) (H' : Hp) (ys : List V) : Prop where
  vals : Vals ys acc.toList
  le : ys.length ≤ sizeLine
  os : s'.os = sc.os
  bare : AllBare s'.gens
  un : Un (frs outer) ex H H' sc.heap s'.heap
  hok : HOk P w H' s'.heap
  no : H' S = none
  q : Q ys H'
theorem gen_ne_list : ((Value.type "generator" == Value.type "list") || (Value.type "generator" == Value.type "tuple")) = false := by decide
/-- the items of a generator that has not begun, collected -/
theorem collectG (hr : Room (k + 3) A) (hfr : A.frames = some outer) {u : Value} (h : GMade P w k outer H sc ex Q EX u s) {Q' : List Value → Shared → Prop}
    (hQ : ∀ S s' acc c H' ys, s.heap.objs.size ≤ S → s'.heap.get? S = some (lstObj acc c) → Drained P w outer H sc ex Q s' S acc H' ys → Q' acc.toList s')
    (hexc : ∀ e s' g, CX P w outer H sc EX e s' → NotStop (model P w) e s'.heap ∧ E e (s'.setGen g .finished)) : wpAny (model P w) A.in1.in1 (collect u) Q' E s := by
  obtain ⟨a, g, c, rfl, _, ha2, hg, hgs, hos, hb, hl, _, wake⟩ := h
  have nSa : s.heap.objs.size ≠ a := fun e => absurd ha2 (by rw [e]; exact Nat.lt_irrefl _)
  have nSc : s.heap.objs.size ≠ cStatics := fun e => by
    obtain ⟨_, hn, _⟩ := hl
    exact absurd hn.lt (by rw [e]; exact Nat.lt_irrefl _)
  unfold collect
  refine wpAny_bind (wpAny_runValue (codeAny_builtin F.entry_proto_collect (by
    rw [Around.under_plainId F.plain_proto_collect _]
    show wpAny _ A.in1.in1.in1 (newList [] >>= fun l => again (.builtin "list.__iadd__" ⟨[l, .ref a], []⟩)) _ _ s
    refine wpAny_bind (wpAny_newObj_type (wpAny_pure ⟨plainId_quiet F.plain_list_iadd _, codeAny_builtin F.entry_list_iadd ?_⟩))
    rw [Around.under_plainId F.plain_list_iadd _]
    show wpAny _ A.in1.in1.in1 (Builtin.List.listExtendWith (.ref s.heap.objs.size) (.ref a) (.ref s.heap.objs.size)) _ _ _
    unfold Builtin.List.listExtendWith
    have kk : ∀ b o, s.heap.get? b = some o → (s.heap.push { cls := .type "list", data := .seq ([] : List Value).toArray }).get? b = some o := fun b o e => Heap.get?_push_of_some _ e
    have up : ∀ (h : Heap) (f : Obj → Obj), (∀ b o, s.heap.get? b = some o → h.get? b = some o) → ∀ b o, s.heap.get? b = some o → (h.update s.heap.objs.size f).get? b = some o :=
      fun h f q b o e => by
        rw [Heap.get?_update_other _ _ (fun z => absurd (Heap.lt_size e) (by rw [z]; exact Nat.lt_irrefl _))]
        exact q b o e
    have gt : ∀ {h : Heap}, (∀ b o, s.heap.get? b = some o → h.get? b = some o) → h.IsGen a g := hg.keeps
    refine wpAny_bind (wpAny_typeOf (Heap.IsGen.typeIs (s := { s with heap := _ }) (gt kk)) ?_)
    have e1 : Builtin.List.listSameRef (.ref s.heap.objs.size) (.ref a) = false := by unfold Builtin.List.listSameRef; simp [nSa]
    simp only [e1, gen_ne_list, Bool.or_false, Bool.false_eq_true, if_false]
    refine wpAny_bind (wpAny_pyIter_gen (s := { s with heap := _ }) (gt kk) (wpAny_bind (wpAny_holding ?_)))
    unfold Builtin.List.listLengthHint
    refine wpAny_bind (wpAny_specialOf (Heap.IsGen.typeIs (s := { s with heap := _ }) (gt kk)) F.gen_no_len ?_)
    show wpAny _ A.in1.in1.in1 (specialOf (Value.ref a) (Str.ofString "__length_hint__") >>= _) _ _ _
    refine wpAny_bind (wpAny_specialOf (Heap.IsGen.typeIs (s := { s with heap := _ }) (gt kk)) F.gen_no_hint (wpAny_pure ?_))
    show wpAny _ A.in1.in1.in1 (rule "list.extend.makes-room" >>= fun _ => Builtin.List.listTouch (.ref s.heap.objs.size) >>= fun _ => again (.builtin "list.extend.loop" ⟨[.ref s.heap.objs.size, .ref a, .ref s.heap.objs.size], []⟩)) _ _ _
    have o1 : (s.heap.push { cls := .type "list", data := .seq ([] : List Value).toArray }).get? s.heap.objs.size = some { cls := .type "list", data := .seq ([] : List Value).toArray } := Heap.get?_push_size _ rfl
    refine wpAny_bind (wpAny_rule (wpAny_bind ?_))
    show wpAny _ A.in1.in1.in1 (updateSeq s.heap.objs.size (·.push .none) >>= fun _ => updateSeq s.heap.objs.size (·.pop)) _ _ _
    have o2 := Heap.get?_update_self (Obj.mapSeq (·.push Value.none)) o1 rfl
    have o3 := Heap.get?_update_self (Obj.mapSeq (·.pop)) o2 rfl
    refine wpAny_bind (wpAny_updateSeq o1 rfl (wpAny_updateSeq (hz := by seq_fits) o2 rfl ?_))
    have k3 := up _ (Obj.mapSeq (·.pop)) (up _ (Obj.mapSeq (·.push Value.none)) kk)
    refine wpAny_pure ⟨plainId_quiet F.plain_extend_loop _, ?_⟩
    refine drain (P := P) (w := w) (outer := outer) (H := H) (sc := sc) (ex := ex) (Q := Q) (EX := EX) (A := A.in1.in1) (g := g) hr.hd (by have := hr.dp; show A.depth < _; omega) nSa nSc ?_ (fun e s' hc => hexc e s' g hc) sizeLine _ (gt k3) (hl.keeps k3) ⟨_, hgs, rfl, ?_⟩
    · intro s' acc c' H' ys q1 q2 q3 q4 q5 q6 q7 q8 q9
      show wpAny _ A.in1.in1 (load s.heap.objs.size >>= _) _ _ s'
      exact wpAny_bind (wpAny_load q1 (wpAny_pure (hQ _ s' acc c' H' ys (Nat.le_refl _) q1 ⟨q2, q3, q4, q5, q6, q7, q8, q9⟩)))
    · refine wake _ _ _ ⟨hr.hd, ?_, ?_⟩ hfr (Nat.le_refl _) k3 ⟨_, o3⟩ hos (allBare_setGen (s := { s with heap := _ }) hb rfl)
      · have := hr.dp
        show A.depth + 3 * k + 5 < _
        omega
      · have := hr.un
        show A.units + 1 + 1 + 1 + 1 + 16 * k + 200 < _
        omega)))
/-- tuple(g) -/
theorem tupleG (hr : Room (k + 3) A) (hfr : A.frames = some outer) {u : Value} (h : GMade P w k outer H sc ex Q EX u s) {Q' : Value → Shared → Prop}
    (hQ : ∀ S s' acc c H' ys, s.heap.objs.size ≤ S → s'.heap.get? S = some (lstObj acc c) → Drained P w outer H sc ex Q s' S acc H' ys → Q' (.ref s'.heap.objs.size) { s' with heap := s'.heap.push { cls := .type "tuple", data := .seq acc } })
    (hexc : ∀ e s' g, CX P w outer H sc EX e s' → NotStop (model P w) e s'.heap ∧ E e (s'.setGen g .finished)) : wpAny (model P w) A (call (.type "tuple") [u]) Q' E s := by
  have hT : ∃ a, u = .ref a ∧ s.TypeIs (.ref a) "generator" := by
    obtain ⟨a, g, c, rfl, _, _, hg, _⟩ := id h
    exact ⟨a, rfl, hg.typeIs⟩
  obtain ⟨a, rfl, hT⟩ := hT
  refine callType_codes (Q₁ := fun o t => t.TypeIs o "tuple" ∧ Q' o t) F.called_tuple (F.typeCall_tuple_1 _) F.entry_object_init ?_ fun o t ht => ⟨ht.1, F.args_object_init_2 o _, object_init_meets F.called_tuple.init.lookup F.called_tuple.made (by decide) P w A.in1 _ t ⟨ht.1, rfl, ht.2⟩⟩
  refine codeAny_of_tree ?_
  show wpAny _ A.in1.in1 (do checkBuiltinCall "tuple.__new__" ⟨[.type "tuple", .ref a], []⟩; again (.builtin "tuple.__new__" ⟨[.type "tuple", .ref a], []⟩)) _ _ s
  refine wpAny_bind (wpAny_of_eq (F.newCall_tuple_1 _) (wpAny_pure ⟨plainId_quiet F.plain_tuple_new _,
    codeAny_builtin F.entry_tuple_new ?_⟩))
  rw [Around.under_plainId F.plain_tuple_new _]
  have x1 := sub_tuple_self
  have x2 := init_tuple_lookup
  have x3 := madeHere_tuple
  wp_walk using wpAny_typeOf hT, collectG hr hfr h
  · intro S s' acc c H' ys q0 q1 q2
    show wpAny _ _ (Builtin.Tuple.tupleExact acc.toList.toArray >>= fun v => ret v) _ _ _
    unfold Builtin.Tuple.tupleExact
    have e : acc.toList.toArray = acc := by simp
    rw [e]
    have le : acc.size ≤ sizeLine := by
      have h1 := q2.vals.length
      have h2 := q2.le
      have h3 : acc.toList.length = acc.size := by simp
      omega
    exact wpAny_bind (wpAny_newObj_type (wpAny_pure ⟨⟨_, Heap.get?_push_size _ rfl, rfl⟩, hQ S s' acc c H' ys q0 q1 q2⟩) le)
  · exact fun e s' g hc => hexc e s' g hc
end
end L2

namespace L2
open PySem PySem.Spec PyProof.Rows GenW
section
variable {X : Cx} {k : Nat}
theorem notE0 {P : Program} {w : World} {outer : List Env} {H : Hp} {s : Shared} {e : Value} {s' : Shared} (h : CX P w outer H s E0 e s') : False := by
  obtain ⟨_, _, _, _, _, _, _, _, _, _, _, _, z⟩ := h
  exact z
def tTupG (tg : TGen) : TE := fun σ H Q => tg σ H fun out H2 => ∀ p, H2 p = none → Q (.ref p) (upd H2 p (.tup out))
/-- tuple(g), g a generator that lets nothing out -/
theorem pe_tupG {e : Expr} {tg : TGen} {nm : Str} {p pos : Pos} (h : PGen X k e tg E0) (hr : Room (k + 3) X.A) (hg : Gl X nm) (hmg : X.mg nm = none) (hv : bootBuiltins nm = some (.type "tuple")) (hnm : nm ≠ "__name__" := by decide) (hdb : (nm == ("__debug__" : Str)) = false := by decide)
    (he : starEach [e] X.env = (false, eval e X.env) :: starEach [] X.env := by rfl) : PE X (.Call (.Name nm p) [e] [] pos) (tTupG tg) := by
  refine ⟨fun pins s σ H Q I hq => wpAny_Call_Name_kw (ld_blt I hg hmg hv ?_ hnm hdb)⟩
  refine PyProof.Rows.callWith_type1 ?_ he rfl
  rw [he]
  show wpAny _ _ (spliced ((false, eval e X.env) :: backTo pos (starEach [] X.env))) _ _ s
  refine Calls.spliced_cons (thn (h.run pins s σ H _ I hq) fun u s1 ⟨H1, sc, ex, I1, hex, hG⟩ => Calls.spliced_nil ?_)
  refine tupleG hr I1.ok.frames hG (fun S s' acc c H' ys q0 q1 d => ?_) fun e s' g hc => (notE0 hc).elim
  have I2 : Inv X pins σ H' s' := I1.call' (ch := ex) d.os d.un d.hok d.bare hex
  have nw : (s'.heap.push { cls := .type "tuple", data := .seq acc }).get? s'.heap.objs.size = some { cls := .type "tuple", data := .seq acc } := Heap.get?_push_size _ rfl
  refine ⟨.ref s'.heap.objs.size, upd H' s'.heap.objs.size (.tup ys), ?_, rfl, d.q _ (I2.hok.fresh (Nat.le_refl _))⟩
  exact I2.laid (t' := s'.toks) (fun b o z => Heap.get?_push_of_some _ z) (Nat.le_refl _) ⟨d.le, acc.toList, d.vals, ⟨_, nw, rfl, 0, by simp⟩⟩
end
end L2

namespace L2
open PySem PySem.Spec PyProof.Rows GenW GxR
/-- the frame of a generator expression -/
abbrev Cx.gx (X : Cx) (A : Around) (s : Shared) (H : Hp) (cenv : Env) (fp : List Addr) (pn : List (Addr × Obj)) : Cx :=
  { X with A := A.deeper cenv, s_0 := s, H_0 := H, env := cenv, outer := X.stack, stack := cenv :: X.stack, ex := fp, fn := fun _ => false, pn := pn, xe := fun _ _ => False }
/-- its scope: the target's names (with their places in N), the walked thing at «.0», what it captures; no cells -/
structure GenB (N : List Str) (sc scope : Scope) (own : List (Str × Nat)) : Prop extends BlkOk N sc scope own where
  co : scope.isCoroutine = false
  nocell : ∀ y ∈ scope.names, y.2 ≠ .cell
  dot : scope.names.lookup (".0" : Str) = some NameKind.local
section
variable {X : Cx} {pins : List (Addr × Obj)} {σ : L2.St} {H : Hp} {s s6 : Shared}
theorem gen_start {A : Around} {scope : Scope} {own : List (Str × Nat)} {fp : List Addr} {code : Value} {pn ip : List (Addr × Obj)} {m : Str → Option Value} (I : Inv X pins σ H s) (ok : GenB X.N X.env.scope scope own) (hN : X.N.Nodup) (hfp : ∀ b ∈ fp, FpOk X pins H b ∧ b < s.heap.objs.size)
    (hA : A.handled = none) (hfr : A.frames = some X.stack) (hm : s6.heap.Ns s.heap.objs.size m) (kp : ∀ b o, s.heap.get? b = some o → s6.heap.get? b = some o) (os : s6.os = s.os) (bare : AllBare s6.gens)
    (hp : ∀ p ∈ pn ++ ip, s6.heap.get? p.1 = some p.2 ∧ s.heap.objs.size < p.1 ∧ ∀ v, p.2.data ≠ .cell v) :
    Inv (X.gx A s H (genEnv scope (cloFrom X.env.cells scope.names []) s.heap.objs.size code builtinsNs X.env) fp pn) ip (wipe σ (own.map (·.2))) H s6 := by
  have hfree : ∀ y ∈ scope.names, y.2 = .free → ∃ c, X.env.cells.lookup y.1 = some c := fun y hy e => (ok.free y hy e).elim (fun k => I.ok.has _ (.inl k)) fun k => I.ok.has _ (.inr k)
  generalize hce : genEnv scope (cloFrom X.env.cells scope.names []) s.heap.objs.size code builtinsNs X.env = ce
  have eL : ce.locals = s.heap.objs.size := by rw [← hce]; rfl
  have eC : ce.cells = cloFrom X.env.cells scope.names [] := by rw [← hce]; rfl
  have eS : ce.scope = scope := by rw [← hce]; rfl
  have eF : ce.frame = some ce.locals := by rw [← hce]; rfl
  have cm : ∀ {y c}, ce.cells.lookup y = some c → X.env.cells.lookup y = some c ∧ c < s.heap.objs.size := fun {y c} e => by
    rw [eC] at e
    rcases cloFrom_mem (PySem.mem_of_lookup e) with z | ⟨h1, rfl⟩
    · cases z
    · obtain ⟨c, hc⟩ := hfree _ h1 rfl
      obtain ⟨w, q⟩ := I.cell _ _ hc
      rw [hc]
      exact ⟨rfl, q.lt⟩
  have look : ∀ {y}, scope.names.lookup y = some .free → ∃ c, ce.cells.lookup y = some c ∧ X.env.cells.lookup y = some c := fun {y} hl => by
    obtain ⟨c, e⟩ := mem_lookup (cloFrom_has (cells := X.env.cells) (acc := []) (PySem.mem_of_lookup hl))
    rw [← eC] at e
    exact ⟨c, e, (cm e).1⟩
  have nc : ∀ y, scope.names.lookup y ≠ some .cell := fun y e => ok.nocell _ (PySem.mem_of_lookup e) rfl
  have okB : (X.gx A s H ce fp pn).Ok := by
    constructor
    · exact I.ok.mod
    · show ce.scope.kind = _
      rw [eS]; exact ok.kind
    · show ce.globals = _
      rw [← hce]; exact I.ok.glob
    · show ce.builtins = _
      rw [← hce]; rfl
    · show s.heap.objs.size ≤ ce.locals
      rw [eL]; exact Nat.le_refl _
    · exact fun y z c e1 e2 => I.ok.inj y z c (cm e1).1 (cm e2).1
    · intro y hy
      have hy : ce.scope.names.lookup y = some .cell ∨ ce.scope.names.lookup y = some .free := hy
      rw [eS] at hy
      rcases hy with hy | hy
      · exact absurd hy (nc y)
      · obtain ⟨c, h1, _⟩ := look hy
        exact ⟨c, h1⟩
    · exact fun y c z => absurd z Bool.false_ne_true
    · exact fun _ => hA
    · exact Around.frames_deeper hfr
    · exact .inr ⟨rfl, eF⟩
    · intro b hb
      refine ⟨?_, fun y c e z => (hfp b hb).1.2.2.2.2.1 y c (cm e).1 z⟩
      show b ≠ ce.locals
      rw [eL]; exact Nat.ne_of_lt (hfp b hb).2
    · exact I.bs
    · exact Nat.le_trans I.ok.bsz I.sz
    · intro b o e hb
      rcases (hfp b hb).1.2.2.2.1 with z | z
      · exact I.ok.noex b o e z
      · exact absurd (Nat.lt_of_lt_of_le (Heap.lt_size e) (Nat.le_trans I.ok.bsz z)) (Nat.lt_irrefl _)
    · intro b hb z
      rcases List.mem_cons.mp (I.stkSub b z) with z | z
      · exact (hfp b hb).1.2.1 z
      · exact (hfp b hb).1.2.2.1 z
    · exact I.stack
    · exact I.stkFree
  refine ⟨okB, os, bare, Un.kept kp, ⟨m, ?_, fun i y av e1 e2 e3 => ?_⟩, fun y c e => ?_, ?_, fun y c e => I.freeC y c (cm e).1, fun p hq => ?_, I.hok.kept kp, by rw [wipe_length]; exact I.len⟩
  · show Heap.Ns _ ce.locals _
    rw [eL]; exact hm
  · obtain ⟨e2, hne⟩ := wipe_some e2
    have e3 : Vis ce.scope y := e3
    rw [eS] at e3
    have no : ∀ k, scope.names.lookup y = some k → ¬ (k = .local ∨ k = .cell) := fun k e hh => by
      rcases ok.own _ (PySem.mem_of_lookup e) hh with e' | e'
      · obtain ⟨p, hp, hpy⟩ := List.mem_map.mp e'
        have z := ok.ix p hp
        rw [show p.1 = y from hpy] at z
        exact hne (List.mem_map.mpr ⟨p, hp, nodup_ix hN z e1⟩)
      · exact e' (List.mem_of_getElem? e1)
    rcases e3 with e3 | e3 | e3
    · exact absurd (.inl rfl) (no _ e3)
    · exact absurd (.inr rfl) (no _ e3)
    · obtain ⟨m0, hn0, hl⟩ := I.loc
      obtain ⟨w, r, q⟩ := hl i y av e1 e2 ((ok.free _ (PySem.mem_of_lookup e3) rfl).elim (fun k => .inr (.inl k)) fun k => .inr (.inr k))
      have kf : ce.scope.names.lookup y = some .free := by rw [eS]; exact e3
      refine ⟨w, r, .inr ⟨.inr kf, ?_⟩⟩
      obtain ⟨c, h1, h2⟩ := look e3
      rcases q with ⟨k, _⟩ | ⟨_, c', e', z⟩
      · have k : X.env.scope.names.lookup y = some .local := k
        rcases ok.free _ (PySem.mem_of_lookup e3) rfl with k' | k' <;> rw [show X.env.scope.names.lookup y = _ from k'] at k <;> cases k
      · rw [h2] at e'; cases e'
        exact ⟨c, h1, z.keeps kp⟩
  · obtain ⟨w, z⟩ := I.cell y c (cm e).1
    exact ⟨w, z.keeps kp⟩
  · show H ce.locals = none
    rw [eL]; exact I.hok.fresh (Nat.le_refl _)
  · obtain ⟨h1, h2, h3⟩ := hp p hq
    have ge := Nat.le_of_lt h2
    refine ⟨h1, I.hok.fresh ge, ?_, fun z => ?_, h3⟩
    · show p.1 ≠ ce.locals
      rw [eL]; exact Nat.ne_of_gt h2
    · rcases List.mem_cons.mp (I.stkSub p.1 z) with z | z
      · have := I.lt
        rw [← z] at this
        exact absurd (Nat.lt_of_lt_of_le this ge) (Nat.lt_irrefl _)
      · exact I.nofs ge z
end
end L2

namespace L2
open PySem PySem.Spec PyProof.Rows GenW GxR
theorem over_gloop {A : Around} {elt : Expr} {cs : List Comprehension} {sc : Scope} {p : Pos} {it acc : Value} {env : Env} : A.over (.compLoop (.GeneratorExp elt cs sc p) 0 it acc env) [] = A.deeper env := rfl
theorem over_gstart {A : Around} {elt : Expr} {cs : List Comprehension} {sc : Scope} {p : Pos} {it acc : Value} {env : Env} : A.over (.compStart (.GeneratorExp elt cs sc p) 0 it acc env) [] = A.deeper env := rfl
end L2

namespace L2
open PySem PySem.Spec PyProof.Rows GenW GxR
/-- one turn of a generator expression: ys is out -/
def GeTurn (J : It) (g : TG) (tt : TT) (te : TE) (vs : List Nat) (σ : L2.St) (cont : List V → Hp → Prop) (W : Nat → Nat → List V → Hp → Prop) : Prop := ∀ i m ys H, W i m ys H →
  (J.stop i H ∧ cont ys H) ∨ (J.go i H ∧ ∃ Nx : List V → Hp → Prop, (∀ ys' H', Nx ys' H' → ∃ m', m' < m ∧ W (i + 1) m' ys' H') ∧ ∀ x H', J.yld i H x H' → g x (wipe σ vs) H' fun σ2 H2 => wipe σ2 vs = wipe σ vs ∧ tt σ2 H2 fun b H3 =>
    if b = true then te σ2 H3 fun y H4 => ys.length < sizeLine ∧ Nx (ys ++ [y]) H4 else Nx ys H3)
section
variable {X : Cx}
theorem segF {α : Type} {M : Model} {A : Around} {R : GenEnd} {Y : Protocol} {n : Nat} {s₀ s : Shared} {c : Code} {β : Type} {m : Sem α} {K : α → Sem β} {K' : β → Sem PySem.Fin} {J' : Value → Sem PySem.Fin} {gd lv} {B : Around} {Q : α → Shared → Prop} (e : A.over c [] = B) (h : wpAny M B m Q (fun _ _ => False) s)
    (k : ∀ a s', Q a s' → Seg M A R Y n s₀ c ((K a).wrap K' J' gd lv) [] s') : Seg M A R Y n s₀ c ((m >>= K).wrap K' J' gd lv) [] s := by
  refine seg_bind_wrap ?_
  rw [e]
  exact wpAny_mono h k fun _ _ z => z.elim
theorem seg_gx {A : Around} {s4 : Shared} {H4 : Hp} {ce : Env} {fp : List Addr} {elt tg iter : Expr} {ifs : List Expr} {scope : Scope} {pos : Pos} {it a S : Addr} {gi : Nat} {go : Obj} {J : It} {tn : Nat → Heap → Prop} {g : TG} {tt : TT} {te : TE} {vs : List Nat} {σ : L2.St}
    {cont : List V → Hp → Prop} {W : Nat → Nat → List V → Hp → Prop} (hc : X.calm = true) (T : Turn X.prog X.w X.K tg J fp it tn) (pg : PG (X.gx A s4 H4 ce fp [(a, go)]) tg g) (pt : PTs (X.gx A s4 H4 ce fp [(a, go)]) ifs tt) (pe : PE (X.gx A s4 H4 ce fp [(a, go)]) elt te)
    (hco : ce.scope.isCoroutine = false) (turn : GeTurn J g tt te vs σ cont W) (hgo : ∀ h : Heap, h.get? a = some go → h.IsGen a gi) (haS : a ≠ S) (haf : a ∉ fp) (hSf : S ∉ fp) (hAp : Apart (X.gx A s4 H4 ce fp [(a, go)]) S) :
    ∀ (m i n : Nat) (ys : List V) (s₀ s : Shared) (H : Hp), n + ys.length = sizeLine → GI (X.gx A s4 H4 ce fp [(a, go)]) S [] ys (wipe σ vs) H s → tn i s.heap → (∀ b ∈ fp, H b = none) → W i m ys H →
      Seg (model X.prog X.w) A (REnd X.prog X.w X.stack H4 s4 fp S a gi cont E0) (YItem s4 S a gi) n s₀ (.compLoop (.GeneratorExp elt [⟨tg, iter, ifs, 0⟩] scope pos) 0 (.ref it) .none ce)
        ((model X.prog X.w).den (.compLoop (.GeneratorExp elt [⟨tg, iter, ifs, 0⟩] scope pos) 0 (.ref it) .none ce)) [] s := by
  have ov : A.over (.compLoop (.GeneratorExp elt [⟨tg, iter, ifs, 0⟩] scope pos) 0 (.ref it) .none ce) [] = A.deeper ce := over_gloop
  have pnS : ∀ p ∈ (X.gx A s4 H4 ce fp [(a, go)]).pn, p.1 ≠ S := fun p hp => by rw [List.mem_singleton.mp hp]; exact haS
  have stat : ∀ {σ' : L2.St} {H' : Hp} {s' : Shared} {ob : Obj}, Inv (X.gx A s4 H4 ce fp [(a, go)]) [(S, ob)] σ' H' s' → (∀ b ∈ fp, H' b = none) → ∀ b ∈ fp, FpOk (X.gx A s4 H4 ce fp [(a, go)]) [(S, ob)] H' b := fun {σ' H' s' ob} I' hn b hb =>
    ⟨hn b hb, (I'.ok.exf b hb).1, I'.ok.exfs b hb, .inl hb, fun x c e => (I'.ok.exf b hb).2 x c e, fun p hp z => by
      rcases List.mem_cons.mp (show p ∈ [(a, go), (S, ob)] from hp) with q | q
      · subst q; exact haf (by rw [show a = b from z]; exact hb)
      · rw [List.mem_singleton.mp q] at z; exact hSf (by rw [show S = b from z]; exact hb)⟩
  intro m
  induction m using Nat.strongRecOn with
  | ind m ih =>
    intro i n ys s₀ s H hn hI st nf w
    show Seg _ A _ _ n s₀ _ ((compTurn (.GeneratorExp elt [⟨tg, iter, ifs, 0⟩] scope pos) 0 (.ref it) .none ce).onRaise (leaving ce)) [] s
    rw [compTurn_gen, Sem.onRaise_eq_wrap]
    refine seg_bind_wrap (wpAny_standAt ?_)
    obtain ⟨acc, c0, ra, I⟩ := hI
    rcases turn i m ys H w with ⟨stop, q⟩ | ⟨gg, Nx, hNx, step⟩
    · have td := T.done (X.gx A s4 H4 ce fp [(a, go)]) rfl rfl rfl hc i _ s _ H (fun _ _ => False) I (stat I nf) st stop
      refine segF ov td fun r s1 ⟨hr, I1⟩ => ?_
      subst hr
      obtain ⟨p1, p2, _⟩ := I1.pin (S, lstObj acc c0) (List.mem_append_right _ List.mem_cons_self)
      exact seg_end (.ok .next) (.inl ⟨.inr rfl, H, ys, acc, c0, I1.os, I1.bare, I1.base, I1.hok, p2, p1, ra, by omega, q⟩)
    · have ti := T.item (X.gx A s4 H4 ce fp [(a, go)]) rfl rfl rfl hc i _ s _ H (fun _ _ => False) I (stat I nf) st gg
      refine segF ov ti fun r s1 ⟨u, hr, h1⟩ => ?_
      subst hr
      refine segF ov h1 fun _ s2 ⟨x, H2, I2, r2, y2, st2, n2⟩ => ?_
      have I2' := I2.pinned (stat I2 n2) (T.obj _ _ st2)
      refine segF ov (pg.run _ s2 _ H2 x u _ I2' r2 (step x H2 y2)) fun _ s3 ⟨σ3, H3, I3, hw3, q3⟩ => ?_
      refine segF ov (pt.run _ s3 σ3 H3 _ I3 q3) fun b s5 ⟨H5, I5, q5⟩ => ?_
      -- the turn's end
      have hl : (wipe σ vs).length = σ3.length := by rw [← hw3, wipe_length]
      have fin : ∀ {s' : Shared} {H' : Hp} {ys' : List V} {n' : Nat} {s₀' : Shared}, n' + ys'.length = sizeLine → GI (X.gx A s4 H4 ce fp [(a, go)]) S (pinsAt fp s2.heap) ys' σ3 H' s' → Nx ys' H' →
          Seg (model X.prog X.w) A (REnd X.prog X.w X.stack H4 s4 fp S a gi cont E0) (YItem s4 S a gi) n' s₀' (.compLoop (.GeneratorExp elt [⟨tg, iter, ifs, 0⟩] scope pos) 0 (.ref it) .none ce)
            ((model X.prog X.w).den (.compLoop (.GeneratorExp elt [⟨tg, iter, ifs, 0⟩] scope pos) 0 (.ref it) .none ce)) [] s' := fun {s' H' ys' n' s₀'} hn' ⟨acc', c', ra', I'⟩ nx => by
        obtain ⟨m', hm, w'⟩ := hNx ys' H' nx
        have pin' : ∀ b ∈ fp, ∀ o, s2.heap.get? b = some o → s'.heap.get? b = some o ∧ H' b = none := fun b hb o e =>
          let z := I'.pin (b, o) (List.mem_append_right _ (List.mem_cons_of_mem _ (mem_pinsAt hb e)))
          ⟨z.1, z.2.1⟩
        have I'' : Inv (X.gx A s4 H4 ce fp [(a, go)]) [(S, lstObj acc' c')] σ3 H' s' := Inv.unpinned (pins := [(S, lstObj acc' c')]) (pl := pinsAt fp s2.heap) I'
        refine ih m' hm (i + 1) n' ys' s₀' s' H' hn' ⟨acc', c', ra', I''.weak hl fun j v e => ?_⟩ (T.keep _ _ _ st2 fun b hb o e => (pin' b hb o e).1) (fun b hb => ?_) w'
        · rw [← hw3] at e
          exact (wipe_some e).1
        · obtain ⟨o, e, _⟩ := T.obj _ _ st2 b hb
          exact (pin' b hb o e).2
      cases b with
      | false =>
        simp only [Bool.false_eq_true, if_false] at q5 ⊢
        exact seg_again rfl (fin hn ⟨acc, c0, ra, I5⟩ q5)
      | true =>
        simp only [if_true] at q5 ⊢
        have hy : ∀ v, yieldOut ce v = yieldValue v := fun v => by unfold yieldOut; rw [hco]; rfl
        simp only [hy]
        rw [Sem.bind_eq_wrap', Sem.bind_eq_wrap', Sem.wrap_wrap, Sem.wrap_wrap]
        refine seg_wrap ?_
        rw [ov]
        refine wpAny_mono (pe.run _ s5 σ3 H5 _ I5 q5) (fun v s6 ⟨yv, H6, I6, r6, le, nx⟩ => ?_) fun _ _ z => z.elim
        obtain ⟨n, rfl⟩ : ∃ k, n = k + 1 := ⟨n - 1, by omega⟩
        have G6 : GI (X.gx A s4 H4 ce fp [(a, go)]) S (pinsAt fp s2.heap) ys σ3 H6 s6 := ⟨acc, c0, ra, I6⟩
        obtain ⟨p1, p2, _⟩ := I6.pin (S, lstObj acc c0) (List.mem_append_right _ List.mem_cons_self)
        have pa := (I6.pin (a, go) (List.mem_append_left _ (List.mem_singleton.mpr rfl))).1
        have ipS : ∀ p ∈ pinsAt fp s2.heap, p.1 ≠ S := fun p hp z => hSf (by rw [← z]; exact (of_pinsAt hp).1)
        have sz : acc.size = ys.length := by
          have e1 := ra.length
          have e2 : acc.toList.length = acc.size := by simp
          omega
        refine seg_at (seg_yield rfl rfl rfl ⟨I6.os, I6.bare, I6.nolimit, hgo _ pa, ⟨acc, c0, p1, by rw [sz]; exact hn⟩, fun s7 z => ?_⟩)
        refine seg_again rfl (fin ?_ (G6.woken pnS ipS hAp r6 z) nx)
        rw [List.length_append, List.length_singleton]; omega
end
end L2

namespace L2
open PySem PySem.Spec PyProof.Rows GenW GxR
def tGx (P : Addr) (wi : TI) (g : TG) (tt : TT) (te : TE) (vs : List Nat) : TGen := fun σ H cont => wi σ H fun J H1 => TabG H1 P ∧ ∀ H2, Tabbed P H1 H2 → ∃ W : Nat → Nat → List V → Hp → Prop, (∃ m, W 0 m [] H2) ∧ GeTurn J g tt te vs σ cont W
section
variable {X : Cx}
/-- (elt for tg in iter if ..): a generator that has not begun; the def's table may have grown -/
theorem pgen_gx {c P : Addr} {k : Nat} {elt tg iter : Expr} {ifs : List Expr} {scope : Scope} {own : List (Str × Nat)} {gpos : Pos} {wi : TI} {g : TG} {tt : TT} {te : TE} (hr : Room k X.A) (hc : X.calm = true) (hN : X.N.Nodup) (TB : TabB X.base X.mg c P) (hcode : X.env.code = .ref c) (ok : GenB X.N X.env.scope scope own) (hi : PI X tg iter wi)
    (hg : ∀ (A : Around) (s : Shared) (H : Hp) (C : Addr) (cl : List (Str × Addr)) (code : Value) (fp : List Addr) (pn : List (Addr × Obj)), Room k (A.deeper (genEnv scope cl C code builtinsNs X.env)) → PG (X.gx A s H (genEnv scope cl C code builtinsNs X.env) fp pn) tg g)
    (ht : ∀ (A : Around) (s : Shared) (H : Hp) (C : Addr) (cl : List (Str × Addr)) (code : Value) (fp : List Addr) (pn : List (Addr × Obj)), Room k (A.deeper (genEnv scope cl C code builtinsNs X.env)) → PTs (X.gx A s H (genEnv scope cl C code builtinsNs X.env) fp pn) ifs tt)
    (he : ∀ (A : Around) (s : Shared) (H : Hp) (C : Addr) (cl : List (Str × Addr)) (code : Value) (fp : List Addr) (pn : List (Addr × Obj)), Room k (A.deeper (genEnv scope cl C code builtinsNs X.env)) → PE (X.gx A s H (genEnv scope cl C code builtinsNs X.env) fp pn) elt te)
    (hs : ∀ v, genFold iter X.env v = pure v) : PGen X (k + 1) (.GeneratorExp elt [⟨tg, iter, ifs, 0⟩] scope gpos) (tGx P wi g tt te (own.map (·.2))) E0 := by
  refine ⟨fun pins s σ H cont I h => ?_⟩
  have hfree : ∀ y ∈ scope.names, y.2 = .free → ∃ c, X.env.cells.lookup y.1 = some c := fun y hy e => (ok.free y hy e).elim (fun k => I.ok.has _ (.inl k)) fun k => I.ok.has _ (.inr k)
  refine wpAny_GeneratorExp_make ok.co (closure_ok hfree) ok.nocell ok.dot ok.kind (by have := hr.dp; omega) ?_ hs
  refine thn (hi.run pins s σ H _ I h) fun xv s1 hx => thn hx fun itv s2 h2 => ?_
  obtain ⟨it, fp, tn, J, H2, rfl, I2, T, st2, f2, ⟨ps, hP, ht3⟩, rest⟩ := h2
  have hPs : s2.heap.get? P = some { cls := .none, data := .fields ps } := I2.hok P _ hP
  have cd : PySem.W.CodeHd s2.heap c P := TB.code.keeps I2.bk
  have nPf : ∀ b ∈ fp, b ≠ P := fun b hb e => by
    have z := (f2 b hb).1
    rw [e, hP] at z; cases z
  refine ⟨I2.nolimit, ?_⟩
  -- the code is there: the table at P is ps ++ more
  have cont2 : ∀ (code : Value) (h3 : Heap) (tk : Nat) (more : Array Value), Heap.ExtBut P s2.heap h3 → s2.heap.objs.size ≤ h3.objs.size → h3.get? P = some { cls := .none, data := .fields (ps ++ more) } → TriplesOk (ps ++ more).toList →
      wpAny (model X.prog X.w) X.A (builtinsFor X.env.globals X.env.builtins) (fun bi s₄ =>
        ∀ h', h'.Ns s₄.heap.objs.size (fun y => if y = ".0" then some (.ref it) else none) → Heap.SameBut s₄.heap.objs.size (s₄.heap.push { cls := .type "frame", data := .dict #[] }) h' →
          (fun u s' => ∃ H1 sc ex, Inv X pins σ H1 sc ∧ ExOk X pins ex ∧ GMade X.prog X.w (k + 1) X.stack H1 sc ex cont E0 u s') (.ref h'.objs.size) { s₄ with
            gens := s₄.gens.push (.fresh (.compStart (.GeneratorExp elt [⟨tg, iter, ifs, 0⟩] scope gpos) 0 (.ref it) .none (genEnv scope (cloFrom X.env.cells scope.names []) s₄.heap.objs.size code bi X.env))),
            toks := s₄.toks + 1 + 1 + 1,
            heap := h'.push { cls := .type "generator", data := .fields #[.int s₄.gens.size 0, .str "<genexpr>" (s₄.toks + 1), .str (X.env.qual ++ "<genexpr>") (s₄.toks + 1 + 1)] } }) X.xe { s2 with heap := h3, toks := tk } := by
    intro code h3 tk more hx hsz hP3 htr
    obtain ⟨bm, ob, e1, e2, e3, e4, e5, e6, e7, e8⟩ := TB.bm
    have keep3 : ∀ b u, b ≠ P → s2.heap.get? b = some u → h3.get? b = some u := fun b u hb e => hx b u hb e
    refine wpAny_builtinsFor (m := X.mg) (by rw [I2.ok.glob]; exact (I2.mod.glob.keeps I2.bk).extBut hx TB.gP) e1 e2 (keep3 _ _ e4 (I2.bk _ _ e5)) e6 e7 e8 ?_
    have I4 : Inv X pins σ (upd H2 P (.tbl (ps ++ more))) { s2 with heap := h3, toks := tk } := inv_tab (g' := s2.gens) (d' := s2.drawn) (t' := tk) I2 hP keep3 hP3 I2.bare
    have nf4 : ∀ b ∈ fp, upd H2 P (.tbl (ps ++ more)) b = none := fun b hb => by rw [upd_ne (nPf b hb)]; exact (f2 b hb).1
    obtain ⟨W, ⟨m0, w0⟩, turn⟩ := rest (upd H2 P (.tbl (ps ++ more))) ⟨⟨ps ++ more, upd_same, htr⟩, fun b hb => upd_ne hb⟩
    have k24 : ∀ b u, b ≠ P → s2.heap.get? b = some u → ({ s2 with heap := h3, toks := tk } : Shared).heap.get? b = some u := keep3
    have z24 : s2.heap.objs.size ≤ ({ s2 with heap := h3, toks := tk } : Shared).heap.objs.size := hsz
    revert I4 nf4 w0 k24 z24
    generalize ({ s2 with heap := h3, toks := tk } : Shared) = s4
    generalize upd H2 P (.tbl (ps ++ more)) = H4
    intro I4 nf4 w0 k24 z24 h' hn' sb
    have sz : h'.objs.size = s4.heap.objs.size + 1 := by rw [sb.1, Heap.size_push]
    have k4 : ∀ b o, s4.heap.get? b = some o → h'.get? b = some o := fun b o e => sb.extBut b o (fun z => absurd (Heap.lt_size e) (by rw [z]; exact Nat.lt_irrefl _)) (Heap.get?_push_of_some _ e)
    generalize hgo : ({ cls := .type "generator", data := .fields #[.int s4.gens.size 0, .str "<genexpr>" (s4.toks + 1), .str (X.env.qual ++ "<genexpr>") (s4.toks + 1 + 1)] } : Obj) = go
    have isg : ∀ h : Heap, h.get? h'.objs.size = some go → h.IsGen h'.objs.size s4.gens.size := fun h e => ⟨go, _, _, e, by rw [← hgo], by rw [← hgo], by rw [← hgo]⟩
    have gnc : ∀ v, go.data ≠ .cell v := fun v z => by rw [← hgo] at z; cases z
    have pgo : (h'.push go).get? h'.objs.size = some go := Heap.get?_push_size _ (by rw [← hgo]; rfl)
    have k5 : ∀ b o, s4.heap.get? b = some o → (h'.push go).get? b = some o := fun b o e => Heap.get?_push_of_some _ (k4 b o e)
    have fl : ∀ b ∈ fp, b < s4.heap.objs.size := fun b hb => by
      obtain ⟨o, e, _⟩ := T.obj _ _ st2 b hb
      exact Nat.lt_of_lt_of_le (Heap.lt_size e) z24
    refine ⟨H4, s4, fp, I4, fun b hb => (f2 b hb).2.2.2 |> fun q => ⟨q.1, (f2 b hb).2.1, q.2.1, q.2.2⟩, h'.objs.size, s4.gens.size, _, rfl, by rw [sz]; exact Nat.le_succ _, by show _ < (h'.push go).objs.size; rw [Heap.size_push]; exact Nat.lt_succ_self _, isg _ pgo, Array.getElem?_push_size .., rfl, AllBare.push I4.bare rfl, I4.nolimit.keeps k5, k5, ?_⟩
    intro A S s6 hrA hfrA hS kp6 hSo os6 ba6
    obtain ⟨cS, eS⟩ := hSo
    have hS' : h'.objs.size + 1 ≤ S := by
      have z : (h'.push go).objs.size ≤ S := hS
      rw [Heap.size_push] at z
      exact z
    have l4 : s4.heap.objs.size < h'.objs.size := by rw [sz]; exact Nat.lt_succ_self _
    have lS : h'.objs.size < S := hS'
    have l4S : s4.heap.objs.size < S := Nat.lt_trans l4 lS
    have k46 : ∀ b o, s4.heap.get? b = some o → s6.heap.get? b = some o := fun b o e => kp6 b o (k5 b o e)
    have hf4 : ∀ b ∈ fp, FpOk X pins H4 b ∧ b < s4.heap.objs.size := fun b hb => ⟨⟨nf4 b hb, (f2 b hb).2⟩, fl b hb⟩
    have I6 := gen_start (code := code) (pn := [(h'.objs.size, go)]) (ip := [(S, lstObj #[] cS)]) I4 ok hN hf4 hrA.hd hfrA ((hn'.push go).keeps kp6) k46 os6 ba6 fun p hp => by
      rcases List.mem_cons.mp (show p ∈ [(h'.objs.size, go), (S, lstObj #[] cS)] from hp) with z | z
      · subst z
        exact ⟨kp6 _ _ pgo, by show _ < h'.objs.size; rw [sz]; exact Nat.lt_succ_self _, gnc⟩
      · rw [List.mem_singleton.mp z]
        exact ⟨eS, l4S, fun v q => by cases q⟩
    have hR := hrA.deeper (genEnv scope (cloFrom X.env.cells scope.names []) s4.heap.objs.size code builtinsNs X.env)
    have pg := hg A s4 H4 s4.heap.objs.size (cloFrom X.env.cells scope.names []) code fp [(h'.objs.size, go)] hR
    have pt := ht A s4 H4 s4.heap.objs.size (cloFrom X.env.cells scope.names []) code fp [(h'.objs.size, go)] hR
    have pe := he A s4 H4 s4.heap.objs.size (cloFrom X.env.cells scope.names []) code fp [(h'.objs.size, go)] hR
    have hco : (genEnv scope (cloFrom X.env.cells scope.names []) s4.heap.objs.size code builtinsNs X.env).scope.isCoroutine = false := ok.co
    have eL : (genEnv scope (cloFrom X.env.cells scope.names []) s4.heap.objs.size code builtinsNs X.env).locals = s4.heap.objs.size := rfl
    revert I6 pg pt pe hco eL
    generalize genEnv scope (cloFrom X.env.cells scope.names []) s4.heap.objs.size code builtinsNs X.env = ce
    intro I6 pg pt pe hco eL
    have ap : Apart (X.gx A s4 H4 ce fp [(h'.objs.size, go)]) S := by
      refine ⟨Nat.le_of_lt l4S, by show S ≠ ce.locals; rw [eL]; exact Nat.ne_of_gt l4S, fun y c e z => ?_⟩
      obtain ⟨v, ob, ho, hd⟩ := I6.cell y c e
      rw [z, eS] at ho
      cases ho
      have hd2 : (lstObj #[] cS).data = .cell v := by first | exact hd | exact hd.1 | exact hd.2
      cases hd2
    have st6 : tn 0 s6.heap := T.keep _ _ _ st2 fun b hb o e => k46 b o (k24 b o (nPf b hb) e)
    have loop := seg_gx (pos := gpos) (scope := scope) (iter := iter) (S := S) (a := h'.objs.size) (gi := s4.gens.size) hc T pg pt pe hco turn isg (Nat.ne_of_lt lS) (fun hm => absurd (Nat.lt_trans l4 (fl _ hm)) (Nat.lt_irrefl _)) (fun hm => absurd (Nat.lt_trans l4S (fl _ hm)) (Nat.lt_irrefl _)) ap m0 0 sizeLine [] s6 s6 H4 (Nat.add_zero _) ⟨#[], cS, .nil, I6⟩ st6 nf4 w0
    show Seg _ A _ _ _ s6 _ ((compStart (.GeneratorExp elt [⟨tg, iter, ifs, 0⟩] scope gpos) 0 (.ref it) .none ce).onRaise (leaving ce)) [] s6
    unfold compStart
    rw [Sem.onRaise_eq_wrap]
    show Seg _ A _ _ _ s6 _ ((ask >>= _).wrap _ _ _ _) [] s6
    refine seg_bind_wrap (wpAny_askSetting ?_)
    split
    · exact seg_again rfl loop
    · first
        | exact seg_bind_wrap (wpAny_rule (seg_bind_wrap (wpAny_standAt (seg_bind_wrap (T.self _ 0 s6 _ _ st6 (seg_again rfl loop))))))
        | (refine seg_bind_wrap (wpAny_rule ?_); show Seg _ A _ _ _ s6 _ ((standAt iter.pos >>= _).wrap _ _ _ _) [] s6; exact seg_bind_wrap (wpAny_standAt (seg_bind_wrap (T.self _ 0 s6 _ _ st6 (seg_again rfl loop)))))
  cases hf : codeAmong gpos ps.toList with
  | none =>
    refine wpAny_genexprCodeX hcode (cd.code hPs ht3) (cd.tab hPs) hf fun c' h' tk hx hge hlt hco' _ htab _ => ?_
    obtain ⟨o1, vs, f1, tf, fl, tg', inF, tx, tt', op, _, _, _, _, _, _, _, _, _, htr, _⟩ := hco'
    exact cont2 _ h' tk _ hx (Nat.le_trans hge (Nat.le_of_lt hlt)) htab.2 htr
  | some cv =>
    refine wpAny_genexprCode_hit hcode (cd.code hPs ht3) hf ?_
    exact cont2 cv s2.heap s2.toks #[] (Heap.ExtBut.refl _ _) (Nat.le_refl _) (by rw [Array.append_empty]; exact hPs) (by rw [Array.append_empty]; exact ht3)
end
end L2

namespace L2
open PySem PySem.Spec PyProof.Rows
section
variable {prog : Program} {w : World} {A : Around} {E : Value → Shared → Prop} {s : Shared}
theorem adj_rev (n : Nat) : Builtin.Slice.sliceAdjust none none (-1) (n : Int) = ((n : Int) - 1, -1) := by
  unfold Builtin.Slice.sliceAdjust
  first
    | rfl
    | (simp only [show ((-1 : Int) < 0) from by decide, if_true])
theorem pla_rev (n : Nat) : Builtin.Slice.slicePlaces ((n : Int) - 1) (-1) (-1) = n := by
  unfold Builtin.Slice.slicePlaces
  first
    | (simp; done)
    | (simp; omega)
    | (split <;> (try simp) <;> omega)
theorem pick_rev (xs : Array Value) : ((List.range xs.size).filterMap fun (k : Nat) => xs[(((xs.size : Int) - 1) + (k : Int) * (-1)).toNat]?).toArray = xs.toList.reverse.toArray := by
  congr 1
  have e : ∀ l : List Nat, (∀ k ∈ l, k < xs.size) → (l.filterMap fun (k : Nat) => xs[(((xs.size : Int) - 1) + (k : Int) * (-1)).toNat]?) = l.map fun k => xs.toList.reverse.getD k .none := by
    intro l
    induction l with
    | nil => intro _; rfl
    | cons k l ih =>
      intro h
      have hk := h k List.mem_cons_self
      have e1 : (((xs.size : Int) - 1) + (k : Int) * (-1)).toNat = xs.size - 1 - k := by omega
      have h2 : xs.size - 1 - k < xs.size := by omega
      rw [List.filterMap_cons, e1, Array.getElem?_eq_getElem h2, List.map_cons, ih fun j hj => h j (List.mem_cons_of_mem _ hj)]
      show xs[xs.size - 1 - k] :: _ = _
      congr 1
      rw [List.getD_eq_getElem?_getD, List.getElem?_reverse (by simpa using hk)]
      simp [h2]
  rw [e _ fun k hk => List.mem_range.mp hk]
  apply List.ext_getElem?
  intro i
  rw [List.getElem?_map]
  by_cases hi : i < xs.size
  · rw [List.getElem?_range hi]
    show some (xs.toList.reverse.getD i Value.none) = _
    rw [List.getD_eq_getElem?_getD, List.getElem?_eq_getElem (by simpa using hi)]
    rfl
  · rw [List.getElem?_eq_none (by simpa using hi), List.getElem?_eq_none (by simpa using hi)]; rfl
theorem applied_rev {sl : Addr} {vl vu vs : Value} {n : Nat} {Q : Int × Int × Nat → Shared → Prop} (hs : s.heap.IsSliceOf sl vl vu vs) (pl : IsPart vl none) (pu : IsPart vu none) (ps : IsPart vs (some (-1)))
    (h : Q ((n : Int) - 1, -1, n) s) : wpAny (model prog w) A (Builtin.Slice.sliceApplied (.ref sl) (pure (n : Int))) Q E s := by
  obtain ⟨os, hos, hcs, hds⟩ := id hs
  unfold Builtin.Slice.sliceApplied Builtin.Slice.sliceFields
  refine wpAny_bind (wpAny_bind (wpAny_field hos hds (x := vl) rfl (wpAny_bind (wpAny_field hos hds (x := vu) rfl (wpAny_bind (wpAny_field hos hds (x := vs) rfl (wpAny_pure ?_)))))))
  refine wpAny_bind (HT.slicePart_ ps ?_)
  show wpAny _ _ (if ((-1 : Int) == 0) = true then _ else _) _ _ s
  rw [if_neg (by decide)]
  refine wpAny_bind (HT.slicePart_ pl (wpAny_bind (HT.slicePart_ pu (wpAny_bind (wpAny_pure ?_)))))
  show wpAny _ _ (match Builtin.Slice.sliceAdjust none none (-1) (n : Int) with | (lo, hi) => pure (lo, (-1 : Int), Builtin.Slice.slicePlaces lo hi (-1))) _ _ s
  rw [adj_rev]
  show wpAny _ _ (pure ((n : Int) - 1, (-1 : Int), Builtin.Slice.slicePlaces ((n : Int) - 1) (-1) (-1))) _ _ s
  rw [pla_rev]
  exact wpAny_pure h
theorem getItem_tup_rev {t sl : Addr} {items : Array Value} {vl vu vs : Value} {Q : Value → Shared → Prop} (ht : IsTup s.heap t items) (hs : s.heap.IsSliceOf sl vl vu vs) (pl : IsPart vl none) (pu : IsPart vu none) (ps : IsPart vs (some (-1)))
    (h : Q (.ref s.heap.objs.size) { s with heap := s.heap.push { cls := .type "tuple", data := .seq items.toList.reverse.toArray } }) (hsz : items.size ≤ sizeLine) : wpAny (model prog w) A (getItem (.ref t) (.ref sl)) Q E s := by
  obtain ⟨os, hos, hcs, hds⟩ := id hs
  have hTs : s.TypeIs (.ref sl) "slice" := ⟨os, hos, hcs⟩
  unfold getItem
  try with_reducible refine wpAny_holding ?_
  first | refine wpAny_bind (wpAny_pure ?_) | skip
  refine wpAny_bind (wpAny_sequenceKey ht.typeIs (by decide) (wpAny_bind (wpAny_callSpecial?_slot (name := Str.ofString "__getitem__") ht.typeIs PyProof.Rows.slot_tuple_getitem
    (wpAny_call_entry PyProof.Rows.slot_tuple_getitem ht.typeIs entry_tuple_getitem ?_ (args_tuple_getitem _ _)))))
  show wpAny _ _ (Builtin.Tuple.tupleItemsOf (.ref t) >>= _) _ _ s
  refine wpAny_bind (tupleItemsOf_ ht (wpAny_bind (wpAny_typeOf hTs ?_)))
  rw [if_pos (by decide)]
  refine wpAny_bind (applied_rev hs pl pu ps ?_)
  have hno : ¬ ((((items.size : Int) - 1) == 0 && (-1 : Int) == 1 && items.size == items.size) = true) := by
    rw [show ((-1 : Int) == 1) = false from by decide, Bool.and_false, Bool.false_and]
    exact Bool.false_ne_true
  show wpAny _ _ (if (((items.size : Int) - 1) == 0 && (-1 : Int) == 1 && items.size == items.size) = true then _ else _) _ _ s
  rw [if_neg hno]
  show wpAny _ _ (Builtin.Tuple.tupleExact ((List.range items.size).filterMap fun (k : Nat) => items[(((items.size : Int) - 1) + (k : Int) * (-1)).toNat]?).toArray >>= fun v => ret v) _ _ s
  rw [pick_rev]
  unfold Builtin.Tuple.tupleExact
  exact wpAny_bind (wpAny_newObj_type (wpAny_pure ⟨_, rfl, wpAny_pure h⟩) (by show items.toList.reverse.toArray.size ≤ sizeLine; simp; exact hsz))
end
/-! ### t[::-1] -/
def tRevT (K : PySem.W.Frag) (te : TE) : TE := fun σ H Q => te σ H fun x H1 => ∃ a xs, x = .ref a ∧ SqT K H1 a xs ∧ ∀ p, H1 p = none → Q (.ref p) (upd H1 p (.tup xs.reverse))
section
variable {X : Cx}
theorem pe_revT {e : Expr} {te : TE} {k : Nat} {p1 p2 p3 pos : Pos} (he : PE X e te) : PE X (.Subscript e (.Slice none none (some (.UnaryOp .USub (.Constant (.int 1) k p1) p2)) p3) pos) (tRevT X.K te) := by
  refine ⟨fun pins s σ H Q I h => Subscript_ (thn (he.run pins s σ H _ I h) fun v s1 ⟨x, H1, I1, r1, a, xs, ex, hx, q⟩ => ?_)⟩
  subst ex
  cases r1
  have step : PO X (some (.UnaryOp .USub (.Constant (.int 1) k p1) p2)) (tPart (tUn (rU fun i => .int (-i)) (tC (.int 1)))) := po_some (pe_un un_neg pe_int)
  refine wpAny_Slice (thn (po_none.run pins s1 σ H1 (fun o Hx => o = none ∧ Hx = H1) I1 ⟨rfl, rfl⟩) fun vl s2 ⟨l, H2, I2, pl, el, e2⟩ => ?_)
  subst el e2
  refine thn (po_none.run pins s2 σ H2 (fun o Hx => o = none ∧ Hx = H2) I2 ⟨rfl, rfl⟩) fun vu s3 ⟨u, H3, I3, pu, eu, e3⟩ => ?_
  subst eu e3
  refine thn (step.run pins s3 σ H3 (fun o Hx => o = some (-1) ∧ Hx = H3) I3 ⟨1, rfl, -1, rfl, rfl, rfl⟩) fun vs s4 ⟨o, H4, I4, ps, eo, e4⟩ => ?_
  subst eo e4
  have J : Inv X pins σ H4 { s4 with heap := s4.heap.push { cls := .type "slice", data := .fields #[vl, vu, vs] } } := I4.kept (t' := s4.toks) fun b ob z => Heap.get?_push_of_some _ z
  obtain ⟨its, r, ht, hz⟩ := J.tuple hx
  have ln := r.length
  show wpAny (model X.prog X.w) X.A (subscriptTail e (.Slice none none (some (.UnaryOp .USub (.Constant (.int 1) k p1) p2)) p3) (.ref a) (.ref s4.heap.objs.size)) (EP X pins σ Q) X.xe { s4 with heap := s4.heap.push { cls := .type "slice", data := .fields #[vl, vu, vs] } }
  refine tail_any (ops := [.ref a, .ref s4.heap.objs.size]) ht.typeIs (PyProof.Rows.slot_tuple_getitem.lookup) ?_ (by with_unfolding_all rfl)
  refine getItem_tup_rev ht (Heap.IsSliceOf.new _ vl vu vs) pl pu ps ?_ (by rw [List.size_toArray]; omega)
  refine ⟨.ref _, _, J.laid (t' := s4.toks) (o := .tup xs.reverse) (fun b ob z => Heap.get?_push_of_some _ z) (Nat.le_refl _) ?_, rfl, q _ (J.hok.fresh (Nat.le_refl _))⟩
  exact ⟨by rw [List.length_reverse]; exact hz, _, r.reverse, ⟨_, Heap.get?_push_size _ rfl, rfl, 0, by simp⟩⟩
theorem pe_revTK (K : PySem.W.Frag) (h : X.K = K) {e : Expr} {te : TE} {k : Nat} {p1 p2 p3 pos : Pos} (he : PE X e te) : PE X (.Subscript e (.Slice none none (some (.UnaryOp .USub (.Constant (.int 1) k p1) p2)) p3) pos) (tRevT K te) := h ▸ pe_revT he
end
end L2

namespace L2
open PySem PySem.Spec PyProof.Rows
open PySem.AutoSeq1 (wpAny_loadPart')
theorem ext_tup (l : Addr) (xs : Array Value) (n : Nat) (b : Addr) (od : Option Addr) (ys : Array Value) (n2 : Nat) (osl : Array (Option Value)) (h0 : ¬(!xs.isEmpty && Builtin.List.listTooLong (xs.size + ys.size)) = true) (h1 : xs.size ≤ sizeLine) (h2 : xs.size + ys.size ≤ sizeLine + 1) :
    Meets (Builtin.«list.extend» ⟨[.ref l, .ref b], []⟩) (fun _ R s => s.heap.get? l = some { cls := .type "list", dict := none, data := .seq xs n, slots := #[] } ∧ s.heap.get? b = some ⟨.type "tuple", od, .seq ys n2, osl⟩ ∧ R (.ok (.ret Value.none)) { s with heap := s.heap.update l (Obj.mapSeq fun x => x ++ ys), toks := s.toks }) :=
  .of_wp fun prog w A R s h => by
    obtain ⟨hp, g, d, tk, os⟩ := s
    obtain ⟨ql, qb, h⟩ := h
    have f1 := PySem.AutoSeq1.idx_int
    have f2 := PySem.AutoSeq1.sub_tuple_tuple
    have f3 := PySem.AutoSeq1.sub_list_list
    have f4 := PySem.AutoSeq1.sub_tuple_list
    have f5 := PySem.AutoSeq1.sub_list_tuple
    have z : (xs ++ ys).size ≤ sizeLine + 1 := by rw [Array.size_append]; exact h2
    wp_walk using (wpAny_updateSeq ql rfl (hz := h1) (_hz' := z)), wpAny_loadPart' ql, wpAny_loadPart' qb
    exact ⟨_, rfl, h⟩
def rExtT (K : PySem.W.Frag) : V → List V → Hp → VK → Prop := fun x vs H Q => ∃ l b xs zs, x = .ref l ∧ vs = [.ref b] ∧ H l = some (.lst xs) ∧ SqT K H b zs ∧ xs.length + zs.length ≤ sizeLine ∧ Q .non (upd H l (.lst (xs ++ zs)))
theorem mt_extT {X : Cx} : MtR X "list.extend" (rExtT X.K) := by
  intro pins s σ H x vs v us Q I rx rv h
  obtain ⟨l, b, xs, zs, rfl, rfl, hH, hB, hz, q⟩ := h
  cases rx
  obtain ⟨u, rfl, ru⟩ := rv.one
  cases ru
  obtain ⟨z, its, n, r, hl, e⟩ := I.lstM hH
  obtain ⟨its2, r2, ⟨ob, hob, hc, n2, hd⟩, hz2⟩ := I.tuple hB
  have hl2 := r2.length
  obtain ⟨oc, od, oda, osl⟩ := ob
  have hc : oc = .type "tuple" := hc
  have hd : oda = .seq its2.toArray n2 := hd
  subst hc hd
  have hsz : its.toArray.size + its2.toArray.size ≤ sizeLine := by
    rw [List.size_toArray, List.size_toArray]
    omega
  have no : ¬ (!its.toArray.isEmpty && Builtin.List.listTooLong (its.toArray.size + its2.toArray.size)) = true := by rw [notLongL hsz, Bool.and_false]; exact Bool.false_ne_true
  refine call_meets F.slot_list_extend ⟨_, e, rfl⟩ F.entry_list_extend (F.args_list_extend_2 _ _) (ext_tup l its.toArray n b od its2.toArray n2 osl no (by rw [List.size_toArray]; omega) (by omega)) ⟨e, hob, ?_⟩
  exact ⟨.non, _, I.lset (its' := its ++ its2) hH e (by simp) (r.append r2) (by rw [List.length_append]; omega), rfl, q⟩
theorem mt_extTK (K : PySem.W.Frag) {X : Cx} (h : X.K = K) : MtR X "list.extend" (rExtT K) := h ▸ mt_extT
end L2

namespace L2
open PySem PySem.Spec PyProof.Rows
def isStr (z : Str) : Value → Bool
  | .str a _ => a == z
  | _ => false
theorem isStr_all {z : Str} : ∀ {zs : List Str} {its : List Value}, Vals (zs.map V.str) its → (∀ y ∈ its, ∃ a t, y = .str a t) ∧ its.countP (isStr z) = zs.count z
  | [], _, r => by
    cases r
    exact ⟨fun _ h => (by cases h), rfl⟩
  | x :: zs, _, r => by
    cases r with
    | cons h r =>
      obtain ⟨t, rfl⟩ := h
      obtain ⟨h1, h2⟩ := isStr_all (z := z) r
      refine ⟨fun y hy => ?_, ?_⟩
      · rcases List.mem_cons.mp hy with e | e
        · exact ⟨x, t, e⟩
        · exact h1 y e
      · rw [List.countP_cons, List.count_cons, h2]
        rfl
def rCntS (K : PySem.W.Frag) : V → List V → Hp → VK → Prop := fun x xs H Q => ∃ (p : Addr) (zs : List Str) (z : Str), x = .ref p ∧ xs = [.str z] ∧ SqT K H p (zs.map V.str) ∧ Q (.int (zs.count z : Nat)) H
theorem mt_tcount {X : Cx} : MtR X "tuple.count" (rCntS X.K) := by
  intro pins s σ H x xs v us Q I rx rxs h
  obtain ⟨p, zs, z, rfl, rfl, hs, q⟩ := h
  cases rx
  obtain ⟨u, rfl, ru⟩ := rxs.one
  obtain ⟨t, rfl⟩ := ru
  obtain ⟨its, rv, ⟨⟨cls, dd, data, sl⟩, ho, hc, n, hd⟩, hlen⟩ := I.tuple hs
  have hc : cls = .type "tuple" := hc
  have hd : data = .seq its.toArray n := hd
  subst hc hd
  obtain ⟨all, ct⟩ := isStr_all (z := z) rv
  refine call_meets PySem.F.slot_tuple_count ⟨_, ho, rfl⟩ PySem.F.entry_tuple_count (PySem.F.args_tuple_count_2 _ _) (SeqAt.tuple_countAt p its.toArray n dd sl (.str z t) (isStr z)) ⟨ho, fun y hy => ?_, ?_⟩
  · obtain ⟨a, t2, rfl⟩ := all y (by simpa using hy)
    exact SeqAt.EqAt.str_str a t2 z t
  · refine ⟨.int (zs.count z : Nat), H, I.tok _, ⟨s.toks, ?_⟩, q⟩
    show Value.int ((its.toArray.toList.countP (isStr z) : Nat) : Int) s.toks = Value.int ((zs.count z : Nat) : Int) s.toks
    rw [← ct]
theorem mt_tcountK (K : PySem.W.Frag) {X : Cx} (h : X.K = K) : MtR X "tuple.count" (rCntS K) := h ▸ mt_tcount
end L2

namespace L2
open PySem PySem.Spec PyProof.Rows GenW
/-- a new tuple, known to the last: it has no dict -/
def NewF (H : Hp) (xs : List V) (Q : VK) : Prop := ∀ (p : Addr) (ob : Obj), ob.dict = none → H p = none → Q (.ref p) (upd H p (.frz ob (.tup xs)))
abbrev tupO (its : Array Value) : Obj := { cls := .type "tuple", dict := none, data := .seq its, slots := #[] }
section
variable {X : Cx} {pins : List (Addr × Obj)} {σ : L2.St} {H : Hp} {s : Shared} {Q : VK}
/-- a tuple has been laid at the heap's end -/
theorem newF (I : Inv X pins σ H s) {xs : List V} {its : List Value} (z : xs.length ≤ sizeLine) (r : Vals xs its) (h : NewF H xs Q) : EP X pins σ Q (.ref s.heap.objs.size) { s with heap := s.heap.push (tupO its.toArray) } := by
  have at_ : (s.heap.push (tupO its.toArray)).get? s.heap.objs.size = some (tupO its.toArray) := Heap.get?_push_size _ rfl
  refine ⟨.ref s.heap.objs.size, upd H s.heap.objs.size (.frz (tupO its.toArray) (.tup xs)), I.laid (t' := s.toks) (fun b u e => Heap.get?_push_of_some _ e) (Nat.le_refl _) ?_, rfl, h _ _ rfl (I.hok.fresh (Nat.le_refl _))⟩
  exact ⟨at_, z, its, r, ⟨_, at_, rfl, _, rfl⟩⟩
end
section
variable {X : Cx} {es : List Expr} {pos : Pos} {t : TA}
def tTupF (t : TA) : TE := fun σ H Q => t σ H fun xs H1 => xs.length ≤ sizeLine ∧ NewF H1 xs Q
theorem pe_tupF {c} (h : PA X es t) : PE X (.Tuple es c pos) (tTupF t) :=
  ⟨fun pins s σ H Q I hq => wpAny_Tuple_spliced (thn (h.run pos pins s σ H _ I hq) fun us s1 ⟨xs, H1, I1, r, z, q⟩ => ⟨by rw [← r.length]; exact z, newF I1 z r q⟩)⟩
def rTupF (K : PySem.W.Frag) : List V → Hp → VK → Prop := fun xs H Q => ∃ p ys, xs = [.ref p] ∧ ((SqL K H p ys ∧ NewF H ys Q) ∨ (SqT K H p ys ∧ Q (.ref p) H))
theorem call_tupF : CallR X (.type "tuple") (rTupF X.K) := by
  intro pins s σ H xs us Q I r ⟨p, ys, e, h⟩
  subst e
  obtain ⟨u, rfl, rx⟩ := vals1 r
  cases rx
  rcases h with ⟨hq, q⟩ | ⟨hq, q⟩
  · obtain ⟨its, r', pl, hz⟩ := I.list hq
    have ln := r'.length
    refine call_tuple_list pl.isList (fun h' kp => ?_) (by simp only [List.size_toArray] <;> omega)
    have I1 : Inv X pins σ H { s with heap := h' } := I.kept (t' := s.toks) kp
    exact newF I1 hz r' q
  · obtain ⟨its, r', pl, hz⟩ := I.tuple hq
    exact call_tuple_same pl ⟨.ref p, H, I, rfl, q⟩
def rCatF (K : PySem.W.Frag) : R2 := fun x y H Q => ∃ a b xs ys, x = .ref a ∧ y = .ref b ∧ SqT K H a xs ∧ SqT K H b ys ∧ xs.length + ys.length ≤ sizeLine ∧
  (xs = [] → Q (.ref b) H) ∧ (xs ≠ [] → ys = [] → Q (.ref a) H) ∧ (xs ≠ [] → ys ≠ [] → NewF H (xs ++ ys) Q)
theorem op_catF : OpR X (binaryOp .Add) (rCatF X.K) := by
  intro pins s σ H x y v u Q I rx ry ⟨a, b, xs, ys, ex, ey, ha, hb, hz, q0, q1, q2⟩
  subst ex ey
  cases rx
  cases ry
  obtain ⟨its, r1, p1, _⟩ := I.tuple ha
  obtain ⟨jts, r2, p2, _⟩ := I.tuple hb
  by_cases hx : xs = []
  · subst hx
    cases r1
    exact cat_tup0 p1 p2 ⟨.ref b, H, I, rfl, q0 rfl⟩
  · refine HT.cat_tup p1 p2 (fun w => hx (r1.nil_iff.mp w)) (fun w => ⟨.ref a, H, I, rfl, q1 hx (r2.nil_iff.mp w)⟩) (fun w => ?_) (by rw [← r1.length, ← r2.length]; exact hz)
    exact newF I (by rw [List.length_append]; exact hz) (r1.append r2) (q2 hx fun e => w (r2.nil_iff.mpr e))
def rSlF (K : PySem.W.Frag) : V → Option Int → Option Int → Hp → VK → Prop := fun x lo hi H Q => ∃ a xs, x = .ref a ∧ SqT K H a xs ∧
  (HT.sIx xs.length 0 lo = 0 ∧ HT.sIx xs.length xs.length hi = xs.length → Q (.ref a) H) ∧ (¬ (HT.sIx xs.length 0 lo = 0 ∧ HT.sIx xs.length xs.length hi = xs.length) → NewF H (cutV xs lo hi) Q)
theorem sl_tupF : SlR X (rSlF X.K) := by
  intro pins s σ H x v vl vu lo hi sl Q I rx hs pl pu ⟨a, xs, ex, hx, q1, q2⟩
  subst ex
  by_cases hw : HT.sIx xs.length 0 lo = 0 ∧ HT.sIx xs.length xs.length hi = xs.length
  · exact sl_tupA pins s σ H _ v vl vu lo hi sl Q I rx hs pl pu ⟨a, xs, rfl, hx, q1, fun n => absurd hw n⟩
  · cases rx
    obtain ⟨its, r, ht, hz⟩ := I.tuple hx
    have ln : its.toArray.size = xs.length := by rw [List.size_toArray]; exact r.length.symm
    refine ⟨"tuple", _, PyProof.Rows.slot_tuple_getitem.lookup, ht.typeIs, HT.getItem_tuple_cut ht hs pl pu (by rw [ln]; exact hw) ?_ (by rw [ln]; exact hz)⟩
    rw [ln]
    exact newF I (Nat.le_trans (cutV_length xs lo hi) hz) ((r.drop (HT.sIx xs.length 0 lo)).take (HT.sIx xs.length xs.length hi - HT.sIx xs.length 0 lo)) (q2 hw)
theorem call_tupFK (K : PySem.W.Frag) (h : X.K = K) : CallR X (.type "tuple") (rTupF K) := h ▸ call_tupF
theorem op_catFK (K : PySem.W.Frag) (h : X.K = K) : OpR X (binaryOp .Add) (rCatF K) := h ▸ op_catF
theorem sl_tupFK (K : PySem.W.Frag) (h : X.K = K) : SlR X (rSlF K) := h ▸ sl_tupF
end
/-! ### tuple(g), t[::-1] -/
section
variable {X : Cx} {k : Nat}
def tTupGF (tg : TGen) : TE := fun σ H Q => tg σ H fun out H2 => NewF H2 out Q
theorem pe_tupGF {e : Expr} {tg : TGen} {nm : Str} {p pos : Pos} (h : PGen X k e tg E0) (hr : Room (k + 3) X.A) (hg : Gl X nm) (hmg : X.mg nm = none) (hv : bootBuiltins nm = some (.type "tuple")) (hnm : nm ≠ "__name__" := by decide) (hdb : (nm == ("__debug__" : Str)) = false := by decide)
    (he : starEach [e] X.env = (false, eval e X.env) :: starEach [] X.env := by rfl) : PE X (.Call (.Name nm p) [e] [] pos) (tTupGF tg) := by
  refine ⟨fun pins s σ H Q I hq => wpAny_Call_Name_kw (ld_blt I hg hmg hv (PyProof.Rows.callWith_type1 ?_ he rfl) hnm hdb)⟩
  rw [he]
  show wpAny _ _ (spliced ((false, eval e X.env) :: backTo pos (starEach [] X.env))) _ _ s
  refine Calls.spliced_cons (thn (h.run pins s σ H _ I hq) fun u s1 ⟨H1, sc, ex, I1, hex, hG⟩ => Calls.spliced_nil ?_)
  refine tupleG hr I1.ok.frames hG (fun S s' acc c H' ys q0 q1 d => ?_) fun e s' g hc => (notE0 hc).elim
  have J : Inv X pins σ H' s' := I1.call' (ch := ex) d.os d.un d.hok d.bare hex
  have z := newF J d.le d.vals d.q
  have e : acc.toList.toArray = acc := Array.toArray_toList
  rw [e] at z
  exact z
def tRevF (K : PySem.W.Frag) (te : TE) : TE := fun σ H Q => te σ H fun x H1 => ∃ a xs, x = .ref a ∧ SqT K H1 a xs ∧ NewF H1 xs.reverse Q
/-- the slice object of [::-1] -/
abbrev slcO (a b c : Value) : Obj := { cls := .type "slice", data := .fields #[a, b, c] }
abbrev slcH (h : Heap) (a b c : Value) : Heap := h.push (slcO a b c)
abbrev backE (k : Nat) (p1 p2 p3 : Pos) : Expr := .Slice none none (some (.UnaryOp .USub (.Constant (.int 1) k p1) p2)) p3
theorem back_slice {pins : List (Addr × Obj)} {σ : L2.St} {H : Hp} {s : Shared} {k : Nat} {p1 p2 p3 : Pos} {Q : Value → Shared → Prop} (I : Inv X pins σ H s)
    (h : ∀ (a b c : Value) (t : Shared), IsPart a none → IsPart b none → IsPart c (some (-1)) → Inv X pins σ H { t with heap := slcH t.heap a b c } → Q (.ref t.heap.objs.size) { t with heap := slcH t.heap a b c }) :
    wpAny (model X.prog X.w) X.A (eval (backE k p1 p2 p3) X.env) Q X.xe s := by
  have minus : PO X (some (.UnaryOp .USub (.Constant (.int 1) k p1) p2)) (tPart (tUn (rU fun i => .int (-i)) (tC (.int 1)))) := po_some (pe_un un_neg pe_int)
  have stay : ∀ (p : Option Int), p = p ∧ H = H := fun _ => ⟨rfl, rfl⟩
  apply wpAny_Slice
  apply thn (po_none.run pins s σ H (fun o G => o = none ∧ G = H) I (stay none))
  rintro a s1 ⟨_, _, J1, pa, rfl, rfl⟩
  apply thn (po_none.run pins s1 σ _ (fun o G => o = none ∧ G = _) J1 ⟨rfl, rfl⟩)
  rintro b s2 ⟨_, _, J2, pb, rfl, rfl⟩
  apply thn (minus.run pins s2 σ _ (fun o G => o = some (-1) ∧ G = _) J2 ⟨1, rfl, -1, rfl, rfl, rfl⟩)
  rintro c s3 ⟨_, _, J3, pc, rfl, rfl⟩
  exact h a b c s3 pa pb pc (J3.kept (t' := s3.toks) fun _ _ => Heap.get?_push_of_some _)
theorem pe_revF {e : Expr} {te : TE} {k : Nat} {p1 p2 p3 pos : Pos} (he : PE X e te) : PE X (.Subscript e (backE k p1 p2 p3) pos) (tRevF X.K te) where
  run := fun pins s σ H Q I h => by
    apply Subscript_
    apply thn (he.run pins s σ H _ I h)
    rintro v s1 ⟨_, H1, J, rv, t, xs, rfl, sq, q⟩
    cases (rv : v = .ref t)
    apply back_slice J
    intro a b c s2 pa pb pc J2
    rcases J2.tuple sq with ⟨its, r, ht, small⟩
    have short : its.toArray.size ≤ sizeLine := by rw [List.size_toArray, ← r.length]; exact small
    refine tail_any (ops := [.ref t, .ref s2.heap.objs.size]) ht.typeIs PyProof.Rows.slot_tuple_getitem.lookup (getItem_tup_rev ht (Heap.IsSliceOf.new _ a b c) pa pb pc ?_ short) (by with_unfolding_all rfl)
    exact newF J2 (by rw [List.length_reverse]; exact small) r.reverse q
theorem pe_revFK (K : PySem.W.Frag) (h : X.K = K) {e : Expr} {te : TE} {k : Nat} {p1 p2 p3 pos : Pos} (he : PE X e te) : PE X (.Subscript e (.Slice none none (some (.UnaryOp .USub (.Constant (.int 1) k p1) p2)) p3) pos) (tRevF K te) := h ▸ pe_revF he
end
/-! ### t.count(text) -/
/-- a tuple whose object is known: it has no dict -/
def FrT (H : Hp) (a : Addr) (xs : List V) : Prop := ∃ ob : Obj, ob.dict = none ∧ H a = some (.frz ob (.tup xs))
theorem FrT.sq {K : PySem.W.Frag} {H : Hp} {a : Addr} {xs : List V} (h : FrT H a xs) : SqT K H a xs := by
  obtain ⟨ob, _, h⟩ := h
  exact .inl (.inr ⟨ob, h⟩)
def tTcnt (to : TE) (t : TA) : TE := fun σ H Q => to σ H fun x H1 => ∃ (a : Addr) (zs : List Str), x = .ref a ∧ FrT H1 a (zs.map V.str) ∧ t σ H1 fun ys H2 => ∃ z, ys = [.str z] ∧ FrT H2 a (zs.map V.str) ∧ Q (.int (zs.count z : Nat)) H2
theorem pe_tcnt {X : Cx} {o e : Expr} {es : List Expr} {to : TE} {t : TA} {apos cpos : Pos} (ho : PE X o to) (ha : PA X (e :: es) t)
    (hbase : attributeBase o "count" X.env (eval o X.env) = eval o X.env := by rfl)
    (hfew : ((backTo cpos (starEach (e :: es) X.env)).all (fun x => !x.1) && (backToKw cpos (keywordEach [] X.env)).all (fun x => x.1.isSome) && decide ((e :: es).length + ([] : List Keyword).length + (if ([] : List Keyword).isEmpty then 0 else 1) < 30)) = true := by rfl)
    (hline : (apos.endLine == cpos.line) = true := by rfl) (hs : starEach (e :: es) X.env = (false, eval e X.env) :: starEach es X.env := by rfl) (hplain : (backTo cpos (starEach es X.env)).any (·.1) = false := by rfl) :
    PE X (.Call (.Attribute o "count" apos) (e :: es) [] cpos) (tTcnt to t) := by
  refine ⟨fun pins s σ H Q I h => wpAny_Call_method_late hbase hfew hline rfl (thn (ho.run pins s σ H _ I h) fun v s1 ⟨x, H1, I1, r1, a, zs, ex, ⟨ob, hd, hf⟩, q⟩ => ?_)⟩
  subst ex
  cases r1
  obtain ⟨at1, ok1⟩ := I1.hok a _ hf
  obtain ⟨_, its, _, ob2, e2, hcl, _⟩ := ok1
  rw [at1] at e2
  cases e2
  refine ⟨"tuple", "tuple.count", PySem.F.plainAttrs_tuple, PySem.F.slot_tuple_count, PySem.F.type_tuple_count, ⟨ob, at1, hcl⟩, fun b eb => ⟨ob, by cases eb; exact at1, hd⟩, ?_⟩
  have hA := ha.run cpos pins s1 σ H1 _ I1 q
  rw [hs] at hA ⊢
  refine Calls.callWith_builtin (by show (false || (backTo cpos (starEach es X.env)).any (·.1)) = false; rw [hplain] <;> rfl) (Calls.evalArgs_plain (thn hA fun us s2 ⟨vs, H2, I2, r2, z, ey, h2, q2⟩ => ?_))
  subst ey
  exact mt_tcount pins s2 σ H2 (.ref a) [.str z] (.ref a) us Q I2 rfl r2 ⟨a, zs, z, rfl, rfl, h2.sq, q2⟩
/-! ### a def with a star parameter: the tuple is known -/
section
open StX
variable {P : Program} {w : World} {K : PySem.W.Frag} {mg : Str → Option Value} {base : Heap} {k : Nat} {f : Addr} {name qual : Str} {params : Arguments} {body : List Stmt} {scope : Scope} {dV kV doc pm cdv ct oc : Value} {an od : Option Addr} {osl : Array (Option Value)} {N ps : List Str} {sp : Sp}
theorem fn_starF {pv : Str} (lk : K.lookup f = some ⟨oc, od, .func (PySem.W.fnOf name qual params body scope dV kV doc pm an cdv ct), osl⟩) (hcd : PySem.W.codeIn K cdv qual = true) (S : FnScope N (ps ++ [pv]) scope)
    (hb : ∀ us rest : List Value, us.length = ps.length → bindArgs (PySem.W.fnOf name qual params body scope dV kV doc pm an cdv ct) ⟨us ++ rest, []⟩ = (newTuple rest >>= fun t => pure (ps.zip us ++ [(pv, t)])))
    (hbody : ∀ (A : Around) (outer : List Env) (s : Shared) (H : Hp) (vs : List V) (Q : VK) (E : XK), Room k (A.deeper (PyProof.Rows.envOfC qual scope s.heap.objs.size f cdv)) → sp vs H Q E →
      ∃ t, PSs (cxOf CX0 P w K mg base N qual scope f cdv A outer s H E) body t ∧ t { nx := fun _ H' => Q .non H', rt := Q } (L2.start N vs) H) :
    FnR P w K mg base CX0 (k + 1) f (fun vs H Q E => ∃ ws rest, vs = ws ++ rest ∧ ws.length = ps.length ∧ rest.length ≤ sizeLine ∧ ∀ p ob, ob.dict = none → H p = none → sp (ws ++ [V.ref p]) (upd H p (.frz ob (.tup rest))) Q E) := by
  intro A outer s H us vs Q E hr e0 r ⟨ws, rest, ev, hl, hz, hq⟩
  subst ev
  obtain ⟨u1, u2, eu, r1, r2⟩ := vals_split r
  subst eu
  have hn : H s.heap.objs.size = none := e0.hok.fresh (Nat.le_refl _)
  have l1 : u1.length = ps.length := by rw [← r1.length]; exact hl
  refine run_bnd lk hcd S hr e0 (G := fun xs H2 => ∃ p ob, ob.dict = none ∧ H p = none ∧ xs = ws ++ [V.ref p] ∧ H2 = upd H p (.frz ob (.tup rest))) (fun A' Ex Q' h => ?_) fun s2 H2 xs ⟨p, ob, hd, hp, ex, eH⟩ hr' => ?_
  · rw [hb u1 u2 l1]
    refine wpAny_bind (wpAny_newTuple (wpAny_pure ?_) (by rw [← r2.length]; exact hz))
    have at_ : (s.heap.push (tupO u2.toArray)).get? s.heap.objs.size = some (tupO u2.toArray) := Heap.get?_push_size _ rfl
    have un := un_laid (fs := frs outer) (s := s) (o := tupO u2.toArray) (u := .frz (tupO u2.toArray) (.tup rest)) hn
    have z := h _ _ (ws ++ [V.ref s.heap.objs.size]) (u1 ++ [Value.ref s.heap.objs.size]) (env0_laid (o := tupO u2.toArray) (u := .frz (tupO u2.toArray) (.tup rest)) e0 ⟨at_, hz, u2, r2, ⟨_, at_, rfl, _, rfl⟩⟩) un rfl (fun e s' z => False.elim z) (r1.append (.cons rfl .nil)) (by rw [List.length_append, List.length_append, hl] <;> rfl) ⟨_, _, rfl, hn, rfl, rfl⟩
    rw [List.zip_append l1.symm] at z
    exact z
  · subst ex eH
    exact hbody A outer s2 _ _ Q E hr' (hq p ob hd hp)
end
end L2

/-! texts: text * int, text[::-1], min of a list of texts -/
namespace StX
open PySem PySem.Spec L2 Builtin Builtin.Str Builtin.Int PyProof.Rows
section
variable {X : Cx}
/-- a text, n times -/
def repS (z : Str) (n : Nat) : Str := ⟨((List.replicate n z.cps.toList).flatten).toArray⟩
theorem repS_fold (c : Array Nat) : ∀ (n : Nat) (a : Array Nat), (List.replicate n c).foldl (· ++ ·) a = a ++ ((List.replicate n c.toList).flatten).toArray
  | 0, a => by simp
  | n + 1, a => by
    rw [List.replicate_succ, List.foldl_cons, repS_fold c n, List.replicate_succ, List.flatten_cons, ← Array.toList_inj]
    simp
theorem repS_one (z : Str) : repS z 1 = z := by
  unfold repS
  simp
theorem repS_nil (n : Nat) : repS Str.empty n = Str.empty := by
  unfold repS
  have : ((List.replicate n Str.empty.cps.toList).flatten) = [] := by
    rw [show Str.empty.cps.toList = [] from rfl]
    induction n with
    | zero => rfl
    | succ n ih => rw [List.replicate_succ, List.flatten_cons, ih]; rfl
  rw [this]; rfl
def rRepS : R2 := fun x y H Q => ∃ z k, x = .str z ∧ y = .int k ∧ -(2 ^ 63) ≤ k ∧ k < 2 ^ 63 ∧ z.length * k.toNat ≤ sizeLine ∧ Q (.str (repS z k.toNat)) H
theorem op_repS : OpR X (binaryOp .Mult) rRepS := by
  intro pins s σ H x y v u Q I rx ry h
  obtain ⟨z, k, rfl, rfl, h1, h2, hz, q⟩ := h
  obtain ⟨t, rfl⟩ := rx
  obtain ⟨t', rfl⟩ := ry
  have hsz : (sizeLine : Nat) ≤ (2 ^ 63 - 1) / 8 := by decide
  have hlong : ¬ k < 1 → tooLong (z.length * k.toNat) = false := fun _ => by
    unfold tooLong
    first
      | exact decide_eq_false (by omega)
      | omega
  refine PySem.P.mul_str ?_ (fun hk _ hb => ?_) (fun hk _ => hlong hk) ?_
  · rw [decide_eq_false (by omega), decide_eq_false (by omega)]; rfl
  · have h3 : (z.length : Int) * k ≤ sizeLine := by
      have e : ((z.length * k.toNat : Nat) : Int) = (z.length : Int) * k := by rw [Int.natCast_mul, Int.toNat_of_nonneg (by omega)]
      rw [← e]; exact Int.ofNat_le.mpr hz
    have h4 : (2 ^ 63 - 1) / k * k ≥ 2 ^ 63 - 1 - (k - 1) := by
      have := Int.emod_add_mul_ediv (2 ^ 63 - 1) k
      have h5 := Int.emod_lt_of_pos (2 ^ 63 - 1) (show 0 < k by omega)
      rw [Int.mul_comm] at this
      omega
    have h6 : ((2 ^ 63 - 1) / k + 1) * k ≤ (z.length : Int) * k := Int.mul_le_mul_of_nonneg_right (by omega) (by omega)
    rw [Int.add_mul, Int.one_mul] at h6
    have h7 : (sizeLine : Int) ≤ (2 ^ 63 - 1) / 8 := by omega
    omega
  · by_cases c1 : k < 1
    · rw [if_pos c1]
      have e : repS z k.toNat = Str.empty := by
        rw [show k.toNat = 0 by omega]; rfl
      rw [e] at q
      exact ⟨by decide, .str _, H, I.tok _, ⟨_, rfl⟩, q⟩
    · rw [if_neg c1]
      by_cases c2 : (k == 1 || z.length == 0) = true
      · rw [if_pos c2]
        have e : repS z k.toNat = z := by
          rcases Bool.or_eq_true _ _ ▸ c2 with c | c
          · have : k = 1 := by simpa using c
            subst this
            exact repS_one z
          · have e0 : z = Str.empty := by
              have : z.length = 0 := by simpa using c
              cases z with
              | mk a =>
                have : a.size = 0 := this
                rw [Array.size_eq_zero_iff.mp this]; rfl
            subst e0
            exact repS_nil _
        rw [e] at q
        exact ⟨.str z, H, I, ⟨t, rfl⟩, q⟩
      · rw [if_neg c2]
        have e : (⟨(List.replicate k.toNat z.cps).foldl (· ++ ·) #[]⟩ : Str) = repS z k.toNat := by
          unfold repS
          rw [repS_fold]
          simp
        rw [e]
        refine ⟨?_, .str _, H, I.tok _, ⟨_, rfl⟩, q⟩
        have e2 : (repS z k.toNat).length = z.length * k.toNat := by
          unfold repS
          show ((List.replicate k.toNat z.cps.toList).flatten).toArray.size = _
          rw [List.size_toArray, List.length_flatten, List.map_replicate, List.sum_replicate_nat, Nat.mul_comm]
          rfl
        rw [e2]
        exact hz
/-- text[::-1] -/
def revS (z : Str) : Str := ⟨(z.cps.toList.reverse).toArray⟩
def tRevS (te : TE) : TE := fun σ H Q => te σ H fun x H1 => ∃ z, x = .str z ∧ z.length ≤ sizeLine ∧ Q (.str (revS z)) H1
theorem rev_pick (z : Str) : ((strSliceIndices none none (-1) z.length).filterMap (z.cps[·]?)).toArray = z.cps.toList.reverse.toArray := by
  have e : strSliceIndices none none (-1) z.length = (List.range z.length).reverse := by
    show sliceRange ((z.length : Int) - 1) (-1) (-1) = _
    rw [PySem.W.krv_sliceRange, PySem.W.krv_range]
  rw [e, List.filterMap_reverse]
  congr 2
  exact PySem.W.krv_all z.cps
theorem pe_revS {e : Expr} {te : TE} {k : Nat} {p1 p2 p3 pos : Pos} (he : PE X e te) : PE X (.Subscript e (backE k p1 p2 p3) pos) (tRevS te) where
  run := fun pins s σ H Q I h => by
    apply Subscript_
    apply thn (he.run pins s σ H _ I h)
    rintro v s1 ⟨_, H1, J, rv, z, rfl, small, q⟩
    rcases rv with ⟨t, rfl⟩
    apply back_slice J
    intro a b c s2 pa pb pc J2
    rcases IsPart.raw pa with ⟨l, rfl, hl⟩
    rcases IsPart.raw pb with ⟨u, rfl, hu⟩
    rcases IsPart.raw pc with ⟨st, rfl, hs⟩
    have cell := Heap.IsSliceOf.new s2.heap (partValue l) (partValue u) (partValue st)
    refine tail_any (ops := [.str z t, .ref s2.heap.objs.size]) (typeIs_str _ _ _) F.slot_str_getitem.lookup (wpAny_getItem_str_slice (l := l) (u := u) (st := st) ⟨_, Heap.get?_push_size _ rfl, rfl, rfl⟩ (by rw [hs]; rfl) ?_) (by with_unfolding_all rfl)
    have picked : sliceMade z t l u st = Made.str ⟨z.cps.toList.reverse.toArray⟩ := by
      unfold sliceMade slicePicked
      rw [hs, hl, hu]
      rw [if_neg (by simp)]
      exact congrArg (fun c => Made.str ⟨c⟩) (rev_pick z)
    rw [picked]
    have same : (⟨z.cps.toList.reverse.toArray⟩ : Str).length = z.length := by
      show z.cps.toList.reverse.toArray.size = z.cps.size
      simp
    exact ⟨same ▸ small, .str _, _, J2.tok _, ⟨_, rfl⟩, q⟩
end
end StX

/-! min of a list of texts -/
namespace StX
open PySem PySem.Spec L2 Builtin Builtin.Str Builtin.Int PyProof.Rows
/-- the least so far is below none of those looked at -/
theorem argBest_ltL (num : Nat → List Nat) (k : Nat) : argBest (fun i j => decide (num i < num j)) k ≤ k ∧ ∀ j, j ≤ k → ¬ num j < num (argBest (fun i j => decide (num i < num j)) k) := by
  induction k with
  | zero => exact ⟨Nat.le_refl 0, fun j le => by rw [Nat.le_zero.mp le]; exact List.lt_irrefl _⟩
  | succ k ih =>
    unfold argBest
    generalize argBest (fun i j => decide (num i < num j)) k = b at ih ⊢
    by_cases new : num (k + 1) < num b
    all_goals simp only [new, decide_true, decide_false, if_true, Bool.false_eq_true, if_false]
    · refine ⟨Nat.le_refl _, fun j le less => ?_⟩
      rcases Nat.le_succ_iff.mp le with le | rfl
      · exact ih.2 j le (List.lt_trans less new)
      · exact List.lt_irrefl _ less
    · refine ⟨Nat.le_succ_of_le ih.1, fun j le less => ?_⟩
      rcases Nat.le_succ_iff.mp le with le | rfl
      · exact ih.2 j le less
      · exact new less
def txtAt (its : Array Value) (i : Nat) : List Nat := match its[i]? with | some (.str z _) => z.cps.toList | _ => []
theorem txtAt_eq {its : Array Value} {i : Nat} {z : Str} {t : Tok} (h : its[i]? = some (.str z t)) : txtAt its i = z.cps.toList := by
  unfold txtAt; rw [h]
theorem cmp_strs_lt {prog : Program} {w : World} {A : Around} {P : Nat → Value → Prop} (val : Nat → List Nat) (hval : ∀ i v, P i v → ∃ z t, v = .str z t ∧ z.cps.toList = val i) :
    CmpOf prog w A .Lt P (fun i j => decide (val i < val j)) := fun i j vi vj s Q E hi hj h => by
  obtain ⟨z, t, rfl, e1⟩ := hval i vi hi
  obtain ⟨y, u, rfl, e2⟩ := hval j vj hj
  have h : Q (.bool (decide (val i < val j))) s := h
  rw [← e1, ← e2] at h
  exact richCompare_gives (op := .Lt) (typeIs_str s _ t) (typeIs_str s _ u) F.slot_str_lt F.entry_str_lt (F.args_str_lt_2 _ _) (gives_str_lt z y t u) (fun x => nomatch x) h
section
variable {X : Cx}
theorem strs_at : ∀ {zs : List Str} {its : List Value} {i : Nat} {v : Value}, Vals (zs.map V.str) its → its[i]? = some v → ∃ z t, v = .str z t ∧ zs[i]? = some z
  | [], its, i, v, r, h => by
    cases r; simp at h
  | z :: zs, its, i, v, r, h => by
    cases r with
    | cons r1 r2 =>
      cases i with
      | zero =>
        obtain ⟨t, rfl⟩ := r1
        simp at h
        exact ⟨z, t, h.symm, rfl⟩
      | succ i => exact strs_at (zs := zs) (i := i) r2 (by simpa using h)
def rMinS (K : PySem.W.Frag) : List V → Hp → VK → Prop := fun vs H Q => ∃ (a : Addr) (zs : List Str), vs = [V.ref a] ∧ SqL K H a (zs.map V.str) ∧ zs ≠ [] ∧ ∀ m, m ∈ zs → (∀ y, y ∈ zs → ¬ y.cps.toList < m.cps.toList) → Q (.str m) H
theorem cr_minS (hc : X.calm = true) : CallR X (.builtin "min") (rMinS X.K) := by
  intro pins s σ H vs us Q I r h
  obtain ⟨a, zs, rfl, hs, hne, q⟩ := h
  obtain ⟨its, rv, hl, _⟩ := I.list hs
  rw [Vals.ref1 r]
  have hlen : its.length = zs.length := by rw [← rv.length, List.length_map]
  have hpos : 0 < zs.length := List.length_pos_iff.mpr hne
  have key : ∀ i v, its.toArray[i]? = some v → ∃ z t, v = .str z t ∧ zs[i]? = some z ∧ z.cps.toList = txtAt its.toArray i := fun i v hv => by
    obtain ⟨z, t, rfl, hz⟩ := strs_at rv (by simpa using hv)
    exact ⟨z, t, rfl, hz, (txtAt_eq hv).symm⟩
  refine call_min_walk (iter_anyList hl.isList fun s₂ e st hfp hlI => ?_)
  subst e
  refine ⟨_, _, _, its.toArray.size, _, _, _, rfl, Walks.list (A := X.A.in1) (I.ok.hd hc) _ a hlI its.toArray, st, hfp, by rw [List.size_toArray, hlen]; exact hpos, cmp_strs_lt (txtAt its.toArray) (fun i v hP => ?_), fun v h' tk hP hk => ?_⟩
  · obtain ⟨z, t, e, _, e2⟩ := key i v hP
    exact ⟨z, t, e, e2⟩
  · obtain ⟨h1, h2⟩ := argBest_ltL (txtAt its.toArray) (its.toArray.size - 1)
    obtain ⟨z, t, rfl, hz, e2⟩ := key _ v hP
    have hk' : ∀ b o, s.heap.get? b = some o → h'.get? b = some o := fun b o z => hk b o (fun m => Nat.ne_of_lt (Heap.lt_size z) (List.mem_singleton.mp m)) (Heap.get?_push_of_some _ z)
    refine ⟨.str z, H, I.kept (t' := tk) hk', ⟨t, rfl⟩, q z (List.mem_of_getElem? hz) fun y hy => ?_⟩
    obtain ⟨j, hj⟩ := List.getElem?_of_mem hy
    have hj1 : j < zs.length := (List.getElem?_eq_some_iff.mp hj).1
    have hj2 : j < its.length := by omega
    obtain ⟨y', t', e3, hy', e4⟩ := key j its[j] (by simp [hj2])
    rw [hj] at hy'; cases hy'
    rw [e2, e4]
    exact h2 j (by rw [List.size_toArray]; omega)
end
end StX

/-! an own exception class over ValueError, whose __init__ begins with super().__init__(e) -/
namespace StX
open PySem PySem.Spec L2 Builtin Builtin.Str Builtin.Int PyProof.Rows
open PySem.W (kxs_mw ks_superObj ks_superIn clsIn mroIn subIn alongIn)
section
variable {M : Model} {prog : Program} {w : World} {A : Around} {E : Value → Shared → Prop} {h : Heap} {g : Array GenState} {d : Drawn} {t : Nat} {os : OsState}
variable {nm q : Str} {C N : Addr} {bs bm : List Value} {hdct : Bool} {sn : List Str} {sub : List Value} {ab : Bool} {col : Option Bool} {dd : Option Addr} {k0 k1 k2 k3 k5 : Option Value}
/-- the bound ValueError.__init__, called: the exception's fields are told anew, all else stands -/
theorem call_mwV {u e t0 : Addr} {rest : List Value} {Q : Value → Shared → Prop} (cls : h.get? C = some (excClassObj nm q C N bs bm hdct sn sub ab col dd k0 k1 k2 k3 k5 "ValueError.__new__")) (exc : h.get? e = some (HandSPX.excO C t0))
    (mw : h.get? u = some (kxs_mw "ValueError.__init__" e)) (short : rest.length ≤ sizeLine) (after : ∀ h' t1, (∀ b o, b ≠ e → h.get? b = some o → h'.get? b = some o) → h'.get? e = some (HandSPX.excO C t1) → Q .none ⟨h', g, d, t, os⟩) : wpAny (model prog w) A (call (.ref u) rest) Q E ⟨h, g, d, t, os⟩ := by
  have told := F.excBase_ValueError
  have kind : ∀ x y : Bool, (x || y || (Value.type "method-wrapper" == Value.type "method-wrapper")) = true := fun x y => by rw [beq_self_eq_true, Bool.or_true]
  apply wpAny_call; apply codeAny_of_tree
  change wpAny _ A.in1 (callAny (Value.ref u) { pos := rest }) _ _ _
  unfold callAny
  apply wpAny_bind
  apply wpAny_load mw
  simp only [kxs_mw, kind, if_true]
  refine W.KFB.if_so (by decide) (wpAny_bind (W.check_bound_init told.toExcCallFacts cls exc rfl (wpAny_bind (wpAny_pure (wpAny_pure ⟨Code.quiet_builtin _ (by decide +kernel), codeAny_builtin told.initEntry ?_⟩)))))
  rw [Around.under_plainId told.init.plain _]
  wp_walk
  have grown : ∀ b o, h.get? b = some o → (h.push (PySem.W.kdv_tup rest)).get? b = some o := fun b o => Heap.get?_push_of_some _
  apply after _ h.objs.size
  · intro b o ne z
    rw [Heap.get?_update_other _ _ (Ne.symm ne)]
    exact grown b o z
  · rw [Heap.get?_update_self _ (grown e _ exc) rfl]
    rfl
end
end StX
namespace StX
open PySem PySem.Spec L2 Builtin Builtin.Str Builtin.Int PyProof.Rows NdefX
open PySem.W (kxs_mw ks_superObj ks_superIn clsIn mroIn subIn alongIn)
theorem boot_super : bootBuiltins "super" = some (.type "super") := by first | boot_by_name | rfl | kernel_rfl
/-- the facts of such a class at C, its __init__ at f -/
structure SupC (P : Program) (K : PySem.W.Frag) (mg : Str → Option Value) (C cda cc : Addr) (qual : Str) (params : Arguments) (scope : Scope) (ps : List Str) : Prop where
  oex : OexC K C
  hcd : PySem.W.codeIn K (.ref cda) qual = true
  sup : scope.names.lookup ("super" : Str) = some .globalImplicit
  par : ∃ ar : Arg, (params.posonlyargs ++ params.args).head? = some ar ∧ ps[0]? = some ar.arg
  code : ∃ ccl cdd vs0 ccs file tf, K.lookup cda = some ⟨ccl, cdd, .fields vs0, ccs⟩ ∧ vs0[2]? = some (.str file tf) ∧ ((P.main.file : Str) == file) = true
  cell : ∃ cl cld csl, K.lookup cc = some ⟨cl, cld, .cell (some (.ref C)), csl⟩
  noS : mg "super" = none
  top : (P.main.scope.names.lookup ("super" : Str)).isSome = false
  mro : mroIn K C (.ref C) = some true
  ini : ks_superIn K C C "__init__" = some (some (.builtin "ValueError.__init__"))
  sub : subIn K (.ref C) (.type "ValueError") = some true
  third : PySem.W.nsIn K cStatics "thirdparty.any" = some none
section
variable {CX : CXT} {P : Program} {w : World} {K : PySem.W.Frag} {mg : Str → Option Value} {base : Heap} {k : Nat} {f C cda cc : Addr} {name qual : Str} {params : Arguments} {rest : List Stmt} {scope : Scope} {dV kV doc pm ct oc : Value} {an od : Option Addr}
  {osl : Array (Option Value)} {p0 p1 pa pc px : Pos} {e : Expr} {N ps : List Str} {sp : Sp}
abbrev supBody (p0 p1 pa pc px : Pos) (e : Expr) (rest : List Stmt) : List Stmt := .Expr (.Call (.Attribute (.Call (.Name "super" p0) [] [] p1) "__init__" pa) [e] [] pc) px :: rest
abbrev supNF (name qual : Str) (params : Arguments) (body : List Stmt) (scope : Scope) (cc cda : Addr) : NF := ⟨name, qual, params, body, scope, [("__class__", cc)], cda⟩
theorem fn_supI (T : SupC P K mg C cda cc qual params scope ps) (lk : K.lookup f = some ⟨oc, od, .func (PySem.W.ksFn name qual params (supBody p0 p1 pa pc px e rest) scope dV kV doc pm an (.ref cda) ct cc), osl⟩)
    (S : NScope N ps ["__class__"] scope) (len : ∀ vs H Q E, sp vs H Q E → vs.length = ps.length)
    (he : ∀ env : Env, starEach [e] env = [(false, PySem.eval e env)]) (pl : Env → Sem Bool)
    (heq : ∀ env : Env, PySem.eval (.Call (.Attribute (.Call (.Name "super" p0) [] [] p1) "__init__" pa) [e] [] pc) env = (do
      let ov ← attributeBase (.Call (.Name "super" p0) [] [] p1) "__init__" env (PySem.eval (.Call (.Name "super" p0) [] [] p1) env)
      standAt pa.atName
      let (f, first) ← holding [ov] (getMethod ov "__init__" (pl env))
      callWith pc f first (backTo pc (starEach [e] env)) []))
    (hbody : ∀ (A : Around) (outer : List Env) (s : Shared) (H : Hp) (vs : List V) (Q : VK) (E : XK), Room k (A.deeper (envF (supNF name qual params (supBody p0 p1 pa pc px e rest) scope cc cda) f s.heap.objs.size)) → sp vs H Q E →
      ∃ (a : Addr) (ws : List V), vs = .ref a :: ws ∧ H a = some (exo a C none) ∧
        ∃ tm t, PE (ncx CX P w K mg base N (supNF name qual params (supBody p0 p1 pa pc px e rest) scope cc cda) f A outer s H E) e tm ∧ PSs (ncx CX P w K mg base N (supNF name qual params (supBody p0 p1 pa pc px e rest) scope cc cda) f A outer s H E) rest t ∧
          tCons tm tNil (startF N vs [none]) H fun vs1 H1 => vs1.length = 1 ∧ H1 a = some (exo a C none) ∧ t { nx := fun _ H' => Q .non H', rt := Q } (startF N vs [none]) H1) :
    FnOk P w K mg base CX (k + 1) f (PySem.W.ksFn name qual params (supBody p0 p1 pa pc px e rest) scope dV kV doc pm an (.ref cda) ct cc) ps sp := by
  refine ⟨len, fun A outer s H args us vs Q E hr e0 hb r hsp => ?_⟩
  have hl := len _ _ _ _ hsp
  have KX : K.In s.heap := e0.mod.kin.keeps fun b o e => (e0.bs b o e).1
  have lim : s.heap.NoLimit := e0.mod.nolimit.keeps fun b o e => (e0.bs b o e).1
  obtain ⟨cl, cld, csl, hcell⟩ := T.cell
  obtain ⟨ccl, cdd, vs0, ccs, file, tf, hcode, hvs, hfile⟩ := T.code
  obtain ⟨ar, har, hps⟩ := T.par
  obtain ⟨nm, q, NN, bs, bm, sn, sub, ab, col, dd, k0, k1, k2, k3, k5, hCl, hbm⟩ := T.oex.cls
  have hclsI : clsIn K C = some { name := nm, bases := bs, mro := .ref C :: bm, ns := NN, qualname := q, hasDict := true, slotNames := sn, subclasses := sub, abstract := ab, collection := col, hasDel := false } := by unfold PySem.W.clsIn; rw [hCl] <;> rfl
  refine codeAny_call_function hr.depth (KX _ _ lk) rfl S.co S.gen rfl (PySem.W.codeRec_of KX T.hcd) (hb _ _ _ _ ?_)
  refine wpAny_newFunctionEnv S.nocell (fun ⟨n, _⟩ hy => S.par n (List.of_mem_zip hy).1) (fun h₁ hns hsb => ⟨lim.fresh _ hsb, ?_⟩) S.kind
  refine ks_codeAny_funcAt ?_
  have kp : ∀ b o, s.heap.get? b = some o → h₁.get? b = some o := fun b o e => hsb.extBut b o (Nat.ne_of_lt (Heap.lt_size e)) (Heap.get?_push_of_some _ e)
  obtain ⟨a, ws, ev, ha, tm, t, hm, ht, hq⟩ := hbody A outer s H vs Q E (hr.deeper _) hsp
  have Cl : CellsAt [(("__class__" : Str), cc)] ["__class__"] [none] s.heap H := by
    have hc1 : ∀ y c, [(("__class__" : Str), cc)].lookup y = some c → y = "__class__" ∧ c = cc := fun y c z => by
      have := PySem.mem_of_lookup z
      simp at this
      exact this
    have hb' := e0.mod.kin _ _ hcell
    refine ⟨rfl, fun y c z => ?_, fun x y c z1 z2 => by rw [(hc1 _ _ z1).1, (hc1 _ _ z2).1], fun i y hi => ?_⟩
    · obtain ⟨_, rfl⟩ := hc1 y c z
      exact ⟨(e0.bs _ _ hb').2, _, _, (e0.bs _ _ hb').1, rfl⟩
    · cases i with
      | zero =>
        have : y = "__class__" := (Option.some.inj hi).symm
        subst this
        exact ⟨cc, by simp [List.lookup], fun v hv => by simp at hv⟩
      | succ i => simp at hi
  have I : Inv (ncx CX P w K mg base N (supNF name qual params (supBody p0 p1 pa pc px e rest) scope cc cda) f A outer s H E) [] (startF N vs [none]) H { s with heap := h₁, toks := s.toks + (ps.zip us).length } := inv_startN S hr.hd e0 hl r Cl hns kp
  have I1 := I.pins_of (pins' := []) fun p hp => absurd hp (by simp)
  refine ks_wpAt_execs_cons (ks_wpAt_Expr_any (ks_wpAt_MethodCall (pl := pl _) ?_ (heq _)) I.quiet)
  subst ev
  obtain ⟨u0, ur, eus, ru0, _⟩ : ∃ u0 ur, us = u0 :: ur ∧ RelV (.ref a) u0 ∧ Vals ws ur := by
    cases r with
    | cons r1 r2 => exact ⟨_, _, rfl, r1, r2⟩
  obtain rfl : u0 = Value.ref a := ru0
  obtain ⟨t0, hxa⟩ := exo_at I.hok ha
  have hself : ∃ m, h₁.Ns s.heap.objs.size m ∧ m ar.arg = some (.ref a) := by
    refine ⟨_, hns, ?_⟩
    exact zip_look (i := 0) (by
      have q := S.nd.sublist (List.take_sublist (ps.length + 1) N)
      rw [show ps.length + 1 = ps.length + (["__class__"] : List Str).length from rfl, S.pre] at q
      exact (List.nodup_append.mp q).1) hps (by rw [eus]; rfl)
  obtain ⟨m, hmns, hma⟩ := hself
  have KX1 : K.In h₁ := I.kIn
  have hC1 := KX1 _ _ hCl
  have hlocal : scope.names.lookup ar.arg = some .local := S.par _ (List.mem_of_getElem? hps)
  refine ks_wpAt_super_base (env := envF (supNF name qual params (supBody p0 p1 pa pc px e rest) scope cc cda) f s.heap.objs.size) T.sup (S.frk _ (by simp)) (by decide) rfl (KX1 _ _ lk) rfl har rfl (KX1 _ _ hcode) rfl hvs hfile T.top ?_
  obtain ⟨mb, h1, h2⟩ := I.mod.blt
  refine PySem.W.ks_loadName_global S.kind T.sup (Calls.loadGlobal_builtin (I.mod.glob.keeps I.bk) T.noS (h1.keeps I.bk) ((h2 _ (by decide)).trans boot_super) ⟨rfl, ?_⟩)
  refine wpAny_loadName_free S.kind (S.frk _ (by simp)) (by simp [List.lookup]) ⟨_, KX1 _ _ hcell, rfl⟩ ?_
  refine wpAny_loadName_local S.kind hlocal hmns hma ?_
  refine ks_wpAny_isType_cls hC1 rfl ⟨rfl, ?_⟩
  refine ks_wpAny_call_super hC1 rfl hxa rfl (fun c z => by cases z) (PySem.W.looks_mroIn KX1 T.mro) (fun h' ho k1' => ?_)
  have I2 : Inv (ncx CX P w K mg base N (supNF name qual params (supBody p0 p1 pa pc px e rest) scope cc cda) f A outer s H E) [] (startF N (V.ref a :: ws) [none]) H { s with heap := h', toks := s.toks + (ps.zip us).length } := I.kept (t' := s.toks + (ps.zip us).length) k1'
  have KX2 : K.In h' := I2.kIn
  obtain ⟨t1, hxa2⟩ := exo_at I2.hok ha
  have In2 : PySem.W.InstAt h' a { cls := .ref C, dict := none, data := .fields #[.ref t1, .none, .none, .none, .bool false, .none] } C none := ⟨hxa2, rfl, rfl, trivial⟩
  have hf : alongIn K "__init__" (((Value.ref C :: bm).dropWhile (· != .ref C)).drop 1) = some (some (.builtin "ValueError.__init__")) := by
    have := T.ini
    unfold ks_superIn at this
    rw [hclsI] at this
    exact this
  refine PySem.W.kxs_getMethod PySem.W.kxs_ValueError ho (PySem.W.looks_opaque KX2 T.third) (l₀ := Value.ref C :: bm) (fun A Q E s k q => wpAny_bind ((PySem.W.looks_clsIn KX2 hclsI) A _ E s k (wpAny_pure q))) rfl KX2 hf (In2.type.andThen (PySem.W.looks_subIn KX2 T.sub)) (PySem.W.ks_ne KX2 In2 hclsI) (by decide) ?_
  have I3 : Inv (ncx CX P w K mg base N (supNF name qual params (supBody p0 p1 pa pc px e rest) scope cc cda) f A outer s H E) [(h'.objs.size, kxs_mw "ValueError.__init__" a)] (startF N (V.ref a :: ws) [none]) H { s with heap := h'.push (kxs_mw "ValueError.__init__" a), toks := s.toks + (ps.zip us).length + 1 } := by
    have J := I2.kept (h' := h'.push (kxs_mw "ValueError.__init__" a)) (t' := s.toks + (ps.zip us).length + 1) fun b o q => Heap.get?_push_of_some _ q
    refine J.pins_of fun p hp => ?_
    obtain rfl := List.mem_singleton.mp hp
    exact ⟨Heap.get?_push_size _ rfl, I2.hok.fresh (Nat.le_refl _), Nat.ne_of_gt I2.lt, I2.nofs (Nat.le_refl _), fun v z => by cases z⟩
  have hPA := pa_cons hm pa_nil (he _)
  show wpAny _ _ (callWith pc (.ref h'.objs.size) [] (backTo pc (starEach [e] (envF (supNF name qual params (supBody p0 p1 pa pc px e rest) scope cc cda) f s.heap.objs.size))) []) _ _ _
  rw [he]
  refine PySem.W.kxs_callWith (i := "ValueError.__init__") (x := a) rfl ?_
  refine PySem.Calls.evalArgs_plain ?_
  have step := hPA.run pc _ _ _ H _ I3 hq
  rw [show starEach [e] (ncx CX P w K mg base N (supNF name qual params (supBody p0 p1 pa pc px e rest) scope cc cda) f A outer s H E).env = [(false, PySem.eval e (ncx CX P w K mg base N (supNF name qual params (supBody p0 p1 pa pc px e rest) scope cc cda) f A outer s H E).env)] from he _] at step
  refine wpAny_mono step (fun us1 s1 hs => ?_) fun _ _ z => z
  obtain ⟨vs1, H1, I4, rv, hl1, ha1, hq1⟩ := hs
  obtain ⟨pu, _, _, _⟩ := I4.pin (h'.objs.size, kxs_mw "ValueError.__init__" a) (by simp)
  refine ⟨pu, ?_⟩
  have I5 := I4.pins_of (pins' := []) fun p hp => absurd hp (by simp)
  obtain ⟨t2, hxa3⟩ := exo_at I5.hok ha1
  have hrest : us1.length ≤ sizeLine := by
    rw [← Paired.length rv, hl1]; decide
  obtain ⟨hp1, g1, d1, tk1, os1⟩ := s1
  refine call_mwV (I5.kIn _ _ hCl) hxa3 pu hrest fun h4 t3 k4 hx4 => ?_
  have J := I5.write (t' := tk1) (x := a) (e := a) (o := exo a C none) (by rw [ha1]; exact True.intro) (.inl rfl) k4 ⟨_, hx4⟩ (exo_ok hx4)
  have eu : upd H1 a (exo a C none) = H1 := by
    funext b
    by_cases hb : b = a
    · rw [hb, upd_same, ha1]
    · rw [upd_ne hb]
  rw [eu] at J
  refine wpAt_of_wpAny ?_
  refine wpAny_mono (ht.run [] _ _ H1 _ J hq1) (fun fl s' hs => ?_) fun e s' hs => hs
  have fin : ∀ {σ' : L2.St} {H' : Hp} {v : V} {u : Value}, Inv (ncx CX P w K mg base N (supNF name qual params (supBody p0 p1 pa pc px e rest) scope cc cda) f A outer s H E) [] σ' H' s' → L2.RelV v u → Q v H' → CE outer P w H s Q u s' :=
    fun {σ' H' v u} J rv q => ⟨v, H', J.os, J.bare, J.base, J.hok, rv, q⟩
  cases fl with
  | ret u =>
    obtain ⟨v, σ', H', J, rv, q⟩ := hs
    exact fin J rv q
  | next =>
    obtain ⟨σ', H', J, q⟩ := hs
    exact fin (v := V.non) (u := Value.none) J rfl q
  | brk =>
    obtain ⟨_, _, _, q⟩ := hs
    exact False.elim q
  | cont =>
    obtain ⟨_, _, _, q⟩ := hs
    exact False.elim q
end
end StX

/-! isinstance of a caught error that has fields -/
namespace StX
open PySem PySem.Spec L2 Builtin Builtin.Str Builtin.Int PyProof.Rows
def rIsEd (K : PySem.W.Frag) (D a : Addr) (d : Option Addr) : List V → Hp → VK → Prop := fun xs H Q => ∃ (c : V) (cv : Value) (b : Bool), xs = [.ref a, c] ∧ (∀ u, RelV c u → u = cv) ∧ PySem.W.kitOne K (.ref D) cv = some b ∧ (d = none ∨ ∃ dd fs, d = some dd ∧ H dd = some (.xd fs)) ∧ Q (.bl b) H
theorem call_isEd {X : Cx} {a D : Addr} {d : Option Addr} {oe : Obj} {pn : List (Addr × Obj)} (C : ExcC X.K D) (hz : Zc (.ref D) d oe) (hf : ∃ vs, oe.data = .fields vs) : CallR (X.suite a ((a, oe) :: pn)) (.builtin "isinstance") (rIsEd X.K D a d) := by
  intro pins s σ H xs us Q I r h
  obtain ⟨c, cv, b, rfl, hcv, e, hd, q⟩ := h
  cases r with
  | cons rx rr =>
    cases rr with
    | cons rt rr =>
      cases rr
      cases rx
      have ec := hcv _ rt
      subst ec
      obtain ⟨hget, _⟩ := I.pin (a, oe) (List.mem_append.mpr (.inl List.mem_cons_self))
      obtain ⟨vs, hv⟩ := hf
      have J : ∃ od, PySem.W.InstAt s.heap a oe D od := by
        obtain ⟨oc, od, oda, osl⟩ := oe
        obtain ⟨h1, h2⟩ := hz
        dsimp only at h1 h2 hv
        subst h1 h2 hv
        rcases hd with rfl | ⟨dd, fs, rfl, hx⟩
        · exact ⟨none, hget, rfl, rfl, trivial⟩
        · obtain ⟨mA, ⟨o, es, ep, ho, hr⟩, _⟩ := I.hok dd _ hx
          exact ⟨some o, hget, rfl, rfl, ho⟩
      obtain ⟨od, J⟩ := J
      have hcl : (PySem.W.clsIn X.K D).isSome = true := by
        have h1 := C.hd
        unfold PySem.W.hasDictIn at h1
        cases z : PySem.W.clsIn X.K D with
        | none => rw [z] at h1; cases h1
        | some _ => rfl
      exact PySem.W.kia_one (PySem.W.kitx_exc hcl C.hg C.hk C.hs C.ha C.hn C.ht C.hm) I.kIn J e (fun z => nomatch z) fun tk => ⟨.bl b, H, I.kept (t' := tk) fun _ _ z => z, rfl, q⟩
/-! ### facts of the written part, by Bool -/
def oexB (K : PySem.W.Frag) (C : Addr) : Bool := (match K.lookup C with
  | some ⟨.type "type", _, .cls cd, sl⟩ => (match cd.mro, sl.toList with
    | .ref C' :: bm, [_, _, _, _, some (.builtin n), _] => C' == C && n == "ValueError.__new__" && !cd.hasDel && cd.hasDict && PySem.HandSPX.refsVE bm
    | _, _ => false)
  | _ => false) && (decide (PySem.W.findIn K (.ref C) "__setattr__" = some (some (.builtin "object.__setattr__"))) && decide (PySem.W.subIn K (.ref C) (.type "BaseException") = some true) && decide (PySem.W.typeIn K (.ref C) = some (.type "type")) && PySem.W.keepIn K (.ref C))
theorem oexB_ok {K : PySem.W.Frag} {C : Addr} (h : oexB K C = true) : OexC K C := by
  unfold oexB at h
  obtain ⟨q, h⟩ := Bool.and_eq_true_iff.mp h
  simp only [Bool.and_eq_true, decide_eq_true_eq] at h
  obtain ⟨⟨⟨h1, h2⟩, h3⟩, h4⟩ := h
  refine ⟨?_, h1, h2, h3, h4⟩
  split at q
  · rename_i dd cd sl ho
    split at q
    · rename_i C' bm k0 k1 k2 k3 n k5 hm hs
      simp only [Bool.and_eq_true, beq_iff_eq, Bool.not_eq_true'] at q
      obtain ⟨⟨⟨⟨rfl, rfl⟩, hdel⟩, hdict⟩, hr⟩ := q
      obtain ⟨nm, bs, mro, ns, qn, hd, sn, sub, ab, col, del⟩ := cd
      dsimp only at hm hdel hdict
      subst hm hdel hdict
      have hsl : sl = #[k0, k1, k2, k3, some (.builtin "ValueError.__new__"), k5] := by
        obtain ⟨l⟩ := sl
        simp only at hs
        rw [hs]
      subst hsl
      exact ⟨nm, qn, ns, bs, bm, sn, sub, ab, col, dd, k0, k1, k2, k3, k5, ho, hr⟩
    · cases q
  · cases q
def excB (K : PySem.W.Frag) (D : Addr) : Bool := decide (PySem.W.findIn K (.ref D) "__getattribute__" = some (some (.builtin "BaseException.__getattribute__"))) && decide (PySem.W.findIn K (.ref D) "__getattr__" = some none) && decide (PySem.W.subIn K (.ref D) (.type "BaseException") = some true) && PySem.W.hasDictIn K D &&
  decide (PySem.W.findIn K (.ref D) "__class__" = some (some (.builtin "object.__class__"))) && decide (PySem.W.specialIn K (.builtin "object.__class__") "__get__" = some (some (.builtin "getset_descriptor.__get__"))) && decide (PySem.W.takesIn K (.builtin "object.__class__") = some true) && decide (PySem.W.mroIn K D (.type "object") = some true)
theorem excB_ok {K : PySem.W.Frag} {D : Addr} (h : excB K D = true) : ExcC K D := by
  unfold excB at h
  simp only [Bool.and_eq_true, decide_eq_true_eq] at h
  obtain ⟨⟨⟨⟨⟨⟨⟨h1, h2⟩, h3⟩, h4⟩, h5⟩, h6⟩, h7⟩, h8⟩ := h
  exact ⟨h1, h2, h3, h4, h5, h6, h7, h8⟩
end StX

/-! the head's hook, with the __init__ of error classes -/
namespace StX
open PySem PySem.Spec L2 PyProof.Rows He NdefX
open PySem.W (kxs_mw ks_superObj ks_superIn clsIn mroIn subIn alongIn)
abbrev FnS : Type := Option (Str × Str × Arguments × FuncBody × Scope × Addr × List Str × Addr)
def fnS (K : PySem.W.Frag) (p : Str × Option Str) : FnS := match K.lookup (fAd K p) with
  | some ⟨_, _, .func fd, _⟩ => some (fd.name, fd.qualname, fd.params, fd.body, fd.scope, fd.globals, fd.closure.map (·.1), fd.builtins)
  | _ => none
structure SupD where
  cls : Str
  qual : Str
  params : Arguments
  body : List Stmt
  scope : Scope
  flds : List Str
def SupD.val (d : SupD) : FnS := some ("__init__", d.qual, d.params, .stmts d.body, d.scope, mainGlobals, ["__class__"], builtinsNs)
def codeF (file : Str) (vs : Array Value) : Bool := match vs[2]? with
  | some (Value.str f _) => file == f
  | _ => false
def SupD.ok (K : PySem.W.Frag) (file : Str) (d : SupD) : Bool := oexB K (ga K d.cls) && excB K (ga K d.cls) && PySem.W.keepIn K (.ref (fAd K (d.cls, some "__init__"))) && decide (PySem.W.findIn K (.ref (ga K d.cls)) "__init__" = some (some (.ref (fAd K (d.cls, some "__init__"))))) &&
  decide (PySem.W.typeIn K (.ref (fAd K (d.cls, some "__init__"))) = some (.type "function")) && decide (mroIn K (ga K d.cls) (.ref (ga K d.cls)) = some true) && decide (ks_superIn K (ga K d.cls) (ga K d.cls) "__init__" = some (some (.builtin "ValueError.__init__"))) &&
  decide (subIn K (.ref (ga K d.cls)) (.type "ValueError") = some true) && decide (PySem.W.nsIn K cStatics "thirdparty.any" = some none) && d.flds.all (fun g => decide (PySem.W.findIn K (.ref (ga K d.cls)) g = some none)) &&
  (match K.lookup (fAd K (d.cls, some "__init__")) with
  | some ⟨_, _, .func fd, _⟩ => PySem.W.codeIn K fd.code d.qual && decide (fd.defaults = .none) && (match fd.code with
    | .ref cda => (match K.lookup cda with
      | some ⟨_, _, .fields vs, _⟩ => codeF file vs
      | _ => false)
    | _ => false) && (match fd.closure with
    | [(_, cc)] => (match K.lookup cc with
      | some ⟨_, _, .cell (some (.ref D)), _⟩ => decide (D = ga K d.cls)
      | _ => false)
    | _ => false)
  | _ => false)
theorem SupD.facts {P : Program} {K : PySem.W.Frag} {mg : Str → Option Value} {file : Str} {d : SupD} {ps : List Str} (e : fnS K (d.cls, some "__init__") = d.val) (c : d.ok K file = true) (hfile : P.main.file = file) (hsup : mg "super" = none)
    (h1 : d.scope.names.lookup ("super" : Str) = some .globalImplicit) (h2 : ∃ ar : Arg, (d.params.posonlyargs ++ d.params.args).head? = some ar ∧ ps[0]? = some ar.arg) (h3 : (P.main.scope.names.lookup ("super" : Str)).isSome = false) :
    ∃ (f cda cc : Addr) (oc kV doc pm ct : Value) (od an : Option Addr) (osl : Array (Option Value)),
      K.lookup f = some ⟨oc, od, .func (PySem.W.ksFn "__init__" d.qual d.params d.body d.scope .none kV doc pm an (.ref cda) ct cc), osl⟩ ∧ PySem.W.findIn K (.ref (ga K d.cls)) "__init__" = some (some (.ref f)) ∧
      PySem.W.typeIn K (.ref f) = some (.type "function") ∧ SupC P K mg (ga K d.cls) cda cc d.qual d.params d.scope ps ∧ (∀ g ∈ d.flds, PySem.W.findIn K (.ref (ga K d.cls)) g = some none) ∧ ExcC K (ga K d.cls) := by
  unfold SupD.ok at c
  obtain ⟨c, q⟩ := Bool.and_eq_true_iff.mp c
  simp only [Bool.and_eq_true, decide_eq_true_eq] at c
  obtain ⟨⟨⟨⟨⟨⟨⟨⟨⟨a1, a2⟩, a3⟩, a4⟩, a5⟩, a6⟩, a7⟩, a8⟩, a9⟩, a10⟩ := c
  unfold fnS at e
  cases z : K.lookup (fAd K (d.cls, some "__init__")) with
  | none => rw [z] at q; cases q
  | some o =>
    obtain ⟨oc, od, dt, osl⟩ := o
    rw [z] at q e
    cases dt with
    | func fd =>
      obtain ⟨n1, n2, n3, n4, n5, n6, n7, n8, n9, n10, n11, n12, n13, n14, n15⟩ := fd
      have e2 : (some (n1, n2, n3, n4, n5, n6, n7.map (·.1), n15) : FnS) = d.val := e
      unfold SupD.val at e2
      simp only [Option.some.injEq, Prod.mk.injEq] at e2
      obtain ⟨rfl, rfl, rfl, rfl, rfl, rfl, h7, rfl⟩ := e2
      dsimp only at q
      obtain ⟨q, q4⟩ := Bool.and_eq_true_iff.mp q
      obtain ⟨q, q3⟩ := Bool.and_eq_true_iff.mp q
      obtain ⟨q1, q2⟩ := Bool.and_eq_true_iff.mp q
      have q2 := of_decide_eq_true q2
      subst q2
      match n7, h7, q4 with
      | [(nm, cc)], h7, q4 =>
        have hnm : nm = "__class__" := by injection h7
        subst hnm
        cases n13 with
        | ref cda =>
          refine ⟨_, cda, cc, oc, n9, n10, n11, n14, od, n12, osl, z, a4, a5, ⟨oexB_ok a1, q1, h1, h2, ?_, ?_, hsup, h3, a6, a7, a8, a9⟩, fun g hg => of_decide_eq_true (List.all_eq_true.mp a10 g hg), excB_ok a2⟩
          · dsimp only at q3
            split at q3
            · rename_i vs _ ho
              unfold codeF at q3
              split at q3
              · rename_i f t hv
                exact ⟨_, _, _, _, _, _, ho, hv, by rw [hfile]; exact q3⟩
              · cases q3
            · cases q3
          · dsimp only at q4
            split at q4
            · rename_i D _ ho
              have := of_decide_eq_true q4
              subst this
              exact ⟨_, _, _, ho⟩
            · cases q4
        | _ => cases q3
    | _ => cases q
/-- the hook with these -/
structure SaysS (fa : List Fa) (fn : List DefD) (ts : List Tab) (tf : List Defn) (ex : PySem.W.Frag → Bool) (sd : List SupD) (w : World) (h : Heap) (K : PySem.W.Frag) : Prop where
  x : SaysX fa fn ts tf ex w h K
  s : (sd.map fun d => fnS K (d.cls, some "__init__")) = sd.map SupD.val
abbrev AlS : Type := AlX × List FnS
/-- the head's fragment, with the statics -/
def frS (g : Addr → Option Obj) (n : Nat) : PySem.W.Frag := frT g (asD g n ++ [cStatics])
def obsS (n : Nat) (fa : List Fa) (fn : List DefD) (ts : List Tab) (tf : List Defn) (ex : PySem.W.Frag → Bool) (sd : List SupD) (g : Addr → Option Obj) : AlS := ((obsT fa fn ts (frS g n), ex (frS g n) && tabsB g tf (frS g n)), sd.map fun d => fnS (frS g n) (d.cls, some "__init__"))
def valS (fn : List DefD) (ts : List Tab) (sd : List SupD) (w : World) : AlS := (valX fn ts w, sd.map SupD.val)
theorem saysS_of {n : Nat} {fa : List Fa} {fn : List DefD} {ts : List Tab} {tf : List Defn} {ex : PySem.W.Frag → Bool} {w : World} {h : Heap} (e : (obsT fa fn ts (frS h.get? n), ex (frS h.get? n) && tabsB h.get? tf (frS h.get? n)) = valX fn ts w) : SaysX fa fn ts tf ex w h (frS h.get? n) := by
  have e1 := congrArg (fun z : AlX => z.1) e
  have e2 : (ex (frS h.get? n) && tabsB h.get? tf (frS h.get? n)) = true := congrArg (fun z : AlX => z.2) e
  obtain ⟨h1, h2⟩ := Bool.and_eq_true_iff.mp e2
  have key : ∀ p ∈ tf, PySem.W.codeHdIn (frS h.get? n) (cT (frS h.get? n) p).1 (cT (frS h.get? n) p).2 = true ∧ ∃ o, h.get? (cT (frS h.get? n) p).2 = some o ∧ emptyTab o = true := fun p hp => by
    obtain ⟨h3, h4⟩ := Bool.and_eq_true_iff.mp (List.all_eq_true.mp h2 p hp)
    refine ⟨h3, ?_⟩
    split at h4
    · rename_i o q; exact ⟨o, q, h4⟩
    · cases h4
  exact ⟨e1, h1, fun p hp => (key p hp).1, fun p hp => by obtain ⟨_, o, q, z⟩ := key p hp; exact frT_none q z, fun p hp => by obtain ⟨_, o, q, z⟩ := key p hp; rw [q, emptyTab_eq z]⟩
def hookS (n : Nat) (fa : List Fa) (fn : List DefD) (ts : List Tab) (tf : List Defn) (ex : PySem.W.Frag → Bool) (sd : List SupD) : PySem.W.Hook where
  α := AlS
  obs := fun s => obsS n fa fn ts tf ex sd s.heap.get?
  val := fun w => valS fn ts sd w
  says := fun w h => ∃ K : PySem.W.Frag, K.In h ∧ SaysS fa fn ts tf ex sd w h K
  of := fun _ _ e => ⟨_, frT_in, ⟨saysS_of (congrArg (fun z : AlS => z.1) e), congrArg (fun z : AlS => z.2) e⟩⟩
  keeps := fun _ _ _ ⟨K, hK, c⟩ k => ⟨K, PySem.W.Frag.In.keeps hK k, ⟨⟨c.x.t, c.x.more, c.x.hd, c.x.out, fun p hp => k _ _ (c.x.empty p hp)⟩, c.s⟩⟩
theorem obsS_eq {n : Nat} {fa : List Fa} {fn : List DefD} {ts : List Tab} {tf : List Defn} {ex : PySem.W.Frag → Bool} {sd : List SupD} {g : Addr → Option Obj} {s : Shared} (h : ∀ a, g a = s.heap.get? a) : obsS n fa fn ts tf ex sd g = (hookS n fa fn ts tf ex sd).obs s := by
  have e : g = s.heap.get? := funext h
  rw [e]; rfl
theorem SaysS.def_ {fa : List Fa} {fn : List DefD} {ts : List Tab} {tf : List Defn} {ex : PySem.W.Frag → Bool} {sd : List SupD} {w : World} {h : Heap} {K : PySem.W.Frag} (c : SaysS fa fn ts tf ex sd w h K) (i : Nat) {d : SupD} (hi : sd[i]? = some d := by rfl) : fnS K (d.cls, some "__init__") = d.val := by
  have e := congrArg (fun l => l[i]?) c.s
  simp only [List.getElem?_map, hi, Option.map_some] at e
  exact Option.some.inj e
end StX

/-! operators, calls and making of own objects; errors may leave -/
namespace StX
open PySem PySem.Spec L2 PyProof.Rows
/-- the first argument is no star -/
abbrev Fst (X : Cx) (e : Expr) (es : List Expr) : Prop := starEach (e :: es) X.env = (false, eval e X.env) :: starEach es X.env
/-- none of them is one -/
abbrev Pln (X : Cx) (pos : Pos) (es : List Expr) : Prop := (backTo pos (starEach es X.env)).any (·.1) = false
/-- the node o.m(es) is read as a method's call -/
abbrev MNode (X : Cx) (o : Expr) (m : Str) (apos pos : Pos) (es : List Expr) (pl : Sem Bool) : Prop :=
  eval (.Call (.Attribute o m apos) es [] pos) X.env = (eval o X.env >>= fun ov => standAt apos.atName >>= fun _ => holding [ov] (getMethod ov m pl) >>= fun fx => callWith pos fx.1 fx.2 (backTo pos (starEach es X.env)) (backToKw pos (keywordEach [] X.env)))
section
variable {X : Cx} {CX : CXT} {k : Nat} {f C : Addr} {fd : FuncData} {ps : List Str} {sp : Sp} {pins : List (Addr × Obj)} {σ : L2.St} {H : Hp} {s : Shared} {Q : VK}
/-- the two ways in which a def may end -/
theorem two_ways {E : XK} {G : Value → Shared → Prop} {r : Result} {s' : Shared} (hx : PassesAt CX X σ E) (I : Inv X pins σ H s) (good : ∀ u, CE X.stack X.prog X.w H s Q u s' → G u s') :
    CR CX X.stack X.prog X.w H s Q E r s' → match r with | .ok (.ret u) => G u s' | .ok _ => False | .error e => X.xe e s' := fun h =>
  match r, h with
  | .ok (.ret u), h => good u h
  | .ok .next, h => h
  | .ok .brk, h => h
  | .ok .cont, h => h
  | .error e, h => hx pins H s e s' I h
theorem bound {E : XK} {us : List Value} {vs : List V} {t : Shared} (F : FnOk X.prog X.w X.K X.mg X.base CX k f fd ps sp) (hb : Binds X.K fd ps []) (kin : X.K.In t.heap) (r : Vals vs us) (h : sp vs H Q E) : BindsTo t fd ⟨us, []⟩ (ps.zip us) := by
  have n : (us ++ []).length = ps.length := by rw [List.append_nil, ← r.length, F.len vs H Q E h]
  simpa using hb t us kin n
theorem ins_at {a dx : Addr} {fs : List (Str × V)} (I : Inv X pins σ H s) (h : H a = some (.ins C dx fs)) : ∃ ox od, PySem.W.InstAt s.heap a ox C od ∧ ox.data = .plain :=
  let ⟨_, O, _⟩ := ins_get I.hok h
  let ⟨od, J, _⟩ := O.look
  ⟨_, od, J, rfl⟩
theorem cmpBack_of {v : Value} : EP X pins σ Q v s → PySem.W.CmpBack (EP X pins σ Q) v s := fun h => by
  rcases h with ⟨z, H', I, r, q⟩
  by_cases e : v = .notImplemented
  · subst e
    cases z <;> first | (cases r; done) | (rcases r with ⟨_, r⟩; cases r)
  · have g : EP X pins σ Q v s := ⟨z, H', I, r, q⟩
    unfold PySem.W.CmpBack
    split
    · exact absurd rfl e
    · exact g
/-- a method's def runs over an own object and what follows it -/
theorem own_run {E : L2.St → XK} {a : Addr} {us : List Value} {vs : List V} (F : FnOk X.prog X.w X.K X.mg X.base CX k f fd ps sp) (hr : Room k X.A) (hb : Binds X.K fd ps []) (hx : PassesAt CX X σ (E σ)) (I : Inv X pins σ H s) (r : Vals vs us)
    (q : sp (.ref a :: vs) H Q (E σ)) : wpAny (model X.prog X.w) X.A (call (.ref f) (.ref a :: us)) (EP X pins σ Q) X.xe s :=
  run_fnS (us := .ref a :: us) (vs := .ref a :: vs) F hr hb hx I (.cons rfl r) q
theorem own_runB {E : L2.St → XK} {a : Addr} {us : List Value} {vs : List V} (F : FnOk X.prog X.w X.K X.mg X.base CX k f fd ps sp) (hr : Room k X.A) (hb : Binds X.K fd ps []) (hx : PassesAt CX X σ (E σ)) (I : Inv X pins σ H s) (r : Vals vs us)
    (q : sp (.ref a :: vs) H Q (E σ)) : wpAny (model X.prog X.w) X.A (call (.ref f) (.ref a :: us)) (PySem.W.CmpBack (EP X pins σ Q)) X.xe s :=
  wpAny_mono (own_run F hr hb hx I r q) (fun _ _ => cmpBack_of) fun _ _ => id
end
section
variable {prog : Program} {w : World} {A : Around} {E : Value → Shared → Prop} {s : Shared} {K : PySem.W.Frag} {x y C f : Addr} {ox oy : Obj} {od od' : Option Obj}
open PySem.W
/-- an operator between two objects of one class: only the left one's method is asked -/
theorem own_bin {op : Operator} {Q : Value → Shared → Prop} (X : K.In s.heap) (I : InstAt s.heap x ox C od) (J : InstAt s.heap y oy C od') (sf : selfFirst K C = true)
    (at_ : findIn K (.ref C) (PySem.dunder op.info.2) = some (some (.ref f))) (fn : isFn K (.ref f) = true) :
    wpAny (model prog w) A (call (.ref f) [.ref x, .ref y]) (PySem.W.CmpBack Q) E s → wpAny (model prog w) A (binaryOp op (.ref x) (.ref y)) Q E s := by
  rcases ksp_first sf with ⟨cd, rest, cls, mro⟩
  generalize e : op.info = io at at_
  rcases io with ⟨sym, nm⟩
  intro h
  have ask := ksp_try X I at_ fn h
  have tx := I.type (M := model prog w)
  have ty := J.type (M := model prog w)
  have fl := fills_K (M := model prog w) X cls mro at_
  rcases s with ⟨hp, g, d, t, os⟩
  simp only [binaryOp, e]
  apply wpAny_holding
  apply wpAny_bind
  unfold binaryOp1
  apply wpAny_bind; apply tx.at
  apply wpAny_bind; apply ty.at
  apply wpAny_bind; apply fl.at
  rw [if_pos (beq_self_eq_true (Value.ref C))]
  ksp_lk
  apply wpAny_mono ask _ fun _ _ => id
  rintro _ _ ⟨v, rfl, z⟩
  ksp_lk
  exact z
end
section
variable {X : Cx} {CX : CXT} {k : Nat} {f C : Addr} {fd : FuncData} {ps : List Str} {sp : Sp} {E : L2.St → XK} {x m : Str} {p pos apos : Pos} {e o a b : Expr} {es : List Expr} {te ta tb : TE} {t : TA}
/-- an own object, then arguments; what is raised is told at the slots -/
def tOw (C : Addr) (sp : Sp) (E : L2.St → XK) (ta : TE) (tr : TA) : TE := fun σ H Q => ta σ H fun x H1 => tr σ H1 fun vs H2 => ∃ a dx fs, x = .ref a ∧ H2 a = some (.ins C dx fs) ∧ sp (.ref a :: vs) H2 Q (E σ)
theorem pe_ownNeg (he : PE X e te) (hm : Meth X.K C "__neg__" f) (F : FnOk X.prog X.w X.K X.mg X.base CX k f fd ps sp) (hr : Room k X.A) (hb : Binds X.K fd ps []) (hx : ∀ σ, PassesAt CX X σ (E σ)) : PE X (.UnaryOp .USub e pos) (tOw C sp E te tNil) where
  run := fun pins s σ H Q I h => UnaryOp_ (thn (he.run pins s σ H _ I h) fun v s' q => by
    rcases q with ⟨_, H', J, rv, i, dx, fs, rfl, at_, q⟩
    cases (rv : v = .ref i)
    rcases ins_at J at_ with ⟨_, _, inst, _⟩
    rcases J.fr with ⟨_, fr⟩
    exact PySem.W.ksp_neg fr J.mod.kin inst hm.at_ hm.fn (own_run F hr hb (hx σ) J .nil q))
theorem pe_ownInv (he : PE X e te) (hm : Meth X.K C "__invert__" f) (F : FnOk X.prog X.w X.K X.mg X.base CX k f fd ps sp) (hr : Room k X.A) (hb : Binds X.K fd ps []) (hx : ∀ σ, PassesAt CX X σ (E σ)) : PE X (.UnaryOp .Invert e pos) (tOw C sp E te tNil) where
  run := fun pins s σ H Q I h => UnaryOp_ (thn (he.run pins s σ H _ I h) fun v s' q => by
    rcases q with ⟨_, H', J, rv, i, dx, fs, rfl, at_, q⟩
    cases (rv : v = .ref i)
    rcases ins_at J at_ with ⟨_, _, inst, _⟩
    rcases J.fr with ⟨_, fr⟩
    exact PySem.W.ksp_inv fr J.mod.kin inst hm.at_ hm.fn (own_run F hr hb (hx σ) J .nil q))
/-- x op y, both of the class -/
def tOwB (C : Addr) (sp : Sp) (E : L2.St → XK) (ta tb : TE) : TE := fun σ H Q => ta σ H fun x H1 => tb σ H1 fun y H2 => (∃ a dx fs, x = .ref a ∧ H2 a = some (.ins C dx fs)) ∧ (∃ b dy gs, y = .ref b ∧ H2 b = some (.ins C dy gs)) ∧ sp [x, y] H2 Q (E σ)
theorem pe_ownBin {op : Operator} (ha : PE X a ta) (hb' : PE X b tb) (hc : PySem.W.selfFirst X.K C = true) (hm : Meth X.K C (PySem.dunder op.info.2) f) (F : FnOk X.prog X.w X.K X.mg X.base CX k f fd ps sp) (hr : Room k X.A) (hb : Binds X.K fd ps []) (hx : ∀ σ, PassesAt CX X σ (E σ)) : PE X (.BinOp a op b pos) (tOwB C sp E ta tb) where
  run := fun pins s σ H Q I h => wpAny_BinOp (binT ha hb' I h fun v u s' _ _ H' J rv ru q => by
    rcases q with ⟨⟨i, dx, fs, rfl, at1⟩, ⟨j, dy, gs, rfl, at2⟩, q⟩
    cases (rv : v = .ref i)
    cases (ru : u = .ref j)
    rcases ins_at J at1 with ⟨_, _, inst1, _⟩
    rcases ins_at J at2 with ⟨_, _, inst2, _⟩
    exact own_bin J.kIn inst1 inst2 hc hm.at_ hm.fn (own_runB (us := [.ref j]) (vs := [.ref j]) F hr hb (hx σ) J (.cons rfl .nil) q))
/-- x op i, i an int -/
def tOwI (C : Addr) (sp : Sp) (E : L2.St → XK) (ta tb : TE) : TE := fun σ H Q => ta σ H fun x H1 => tb σ H1 fun y H2 => (∃ a dx fs, x = .ref a ∧ H2 a = some (.ins C dx fs)) ∧ (∃ i, y = .int i) ∧ sp [x, y] H2 Q (E σ)
def OpI (K : PySem.W.Frag) (C : Addr) (op : Operator) : Bool := (match PySem.W.findIn K (.ref C) (dunderR op.info.2) with
  | some none => true
  | some (some (.ref _)) => true
  | _ => false) && (PySem.W.findIn K (.type "int") (PySem.dunder op.info.2)).isSome && (PySem.W.findIn K (.type "int") (dunderR op.info.2)).isSome && decide (PySem.W.subIn K (.type "int") (.ref C) = some false)
theorem opI_of {K : PySem.W.Frag} {op : Operator} (h : OpI K C op = true) : ∃ fo ro rc, PySem.W.findIn K (.ref C) (dunderR op.info.2) = some rc ∧ (rc = none ∨ ∃ g : Addr, rc = some (.ref g)) ∧
    PySem.W.findIn K (.type "int") (PySem.dunder op.info.2) = some fo ∧ PySem.W.findIn K (.type "int") (dunderR op.info.2) = some ro ∧ PySem.W.subIn K (.type "int") (.ref C) = some false := by
  simp only [OpI, Bool.and_eq_true, decide_eq_true_eq] at h
  rcases h with ⟨⟨⟨h, l⟩, r⟩, sub⟩
  rcases Option.isSome_iff_exists.mp l with ⟨fo, l⟩
  rcases Option.isSome_iff_exists.mp r with ⟨ro, r⟩
  split at h
  · exact ⟨fo, ro, none, by assumption, .inl rfl, l, r, sub⟩
  · exact ⟨fo, ro, _, by assumption, .inr ⟨_, rfl⟩, l, r, sub⟩
  · cases h
theorem pe_ownBinI {op : Operator} (ha : PE X a ta) (hb' : PE X b tb) (hc : PySem.W.selfFirst X.K C = true) (hi : OpI X.K C op = true) (hm : Meth X.K C (PySem.dunder op.info.2) f) (F : FnOk X.prog X.w X.K X.mg X.base CX k f fd ps sp) (hr : Room k X.A) (hb : Binds X.K fd ps []) (hx : ∀ σ, PassesAt CX X σ (E σ)) : PE X (.BinOp a op b pos) (tOwI C sp E ta tb) where
  run := fun pins s σ H Q I h => wpAny_BinOp (binT ha hb' I h fun v u s' _ _ H' J rv ru q => by
    rcases q with ⟨⟨i, dx, fs, rfl, at1⟩, ⟨n, rfl⟩, q⟩
    cases (rv : v = .ref i)
    rcases ru with ⟨tk, rfl⟩
    rcases ins_at J at1 with ⟨_, _, inst, _⟩
    rcases J.fr with ⟨_, fr⟩
    rcases opI_of hi with ⟨fo, ro, rc, h1, h2, h3, h4, h5⟩
    exact PySem.W.ksp_binT (T := "int") fr J.mod.kin inst rfl hc hm.at_ hm.fn h1 h2 h3 h4 h5 (own_runB (us := [.int n tk]) (vs := [.int n]) F hr hb (hx σ) J (.cons ⟨tk, rfl⟩ .nil) q))
/-- x == y by an own __eq__ that raises nothing -/
def rOwEq (K : PySem.W.Frag) (C : Addr) (sp : Sp) : R2 := fun x y H Q => (∃ a dx fs, x = .ref a ∧ H a = some (.ins C dx fs)) ∧ ((∃ b dy gs, y = .ref b ∧ H b = some (.ins C dy gs)) ∨ ∃ i, y = .int i ∧ PySem.W.subIn K (.type "int") (.ref C) = some false) ∧ sp [x, y] H Q fun _ _ _ => False
theorem op_ownEq (hu : X.A.units + 64 < cLine) (hm : Meth X.K C "__eq__" f) (F : FnOk X.prog X.w X.K X.mg X.base (L2.CX X.prog X.w) k f fd ps sp) (hr : Room k X.A) (hb : Binds X.K fd ps []) : OpR X (compareOp .Eq) (rOwEq X.K C sp) := by
  rintro pins s σ H _ y v u Q I rv ru ⟨⟨i, dx, fs, rfl, at1⟩, hy, q⟩
  cases (rv : v = .ref i)
  rcases ins_at I at1 with ⟨_, _, inst, _⟩
  rcases I.fr with ⟨_, fr⟩
  have pas : PassesAt (L2.CX X.prog X.w) X σ ((fun _ _ _ _ => False : L2.St → XK) σ) := passAt (W := fun _ _ _ _ => False) takes0 σ
  have run := own_runB (E := fun _ _ _ _ => False) F hr hb pas I (.cons ru .nil) q
  have small : X.A.units < cLine := by omega
  rcases hy with ⟨j, dy, gs, rfl, at2⟩ | ⟨n, rfl, sub⟩
  · cases (ru : u = .ref j)
    rcases ins_at I at2 with ⟨_, _, inst2, _⟩
    exact PySem.W.cmp_K (op := .Eq) small fr I.mod.kin inst inst2.type (by unfold PySem.W.notFirst; simp) hm.at_ hm.fn run
  · rcases ru with ⟨tk, rfl⟩
    exact PySem.W.cmp_K (op := .Eq) small fr I.mod.kin inst (tb := .type "int") (PySem.W.Looks.of_pure rfl) (by unfold PySem.W.notFirst; rw [sub]; simp) hm.at_ hm.fn run
/-- o.m(e, ..) -/
def tMethS (C : Addr) (m : Str) (sp : Sp) (E : L2.St → XK) (ta : TE) (t : TA) : TE := fun σ H Q => ta σ H fun x H1 => ∃ a dx fs, x = .ref a ∧ H1 a = some (.ins C dx fs) ∧ fs.lookup m = none ∧ t σ H1 fun vs H2 => sp (.ref a :: vs) H2 Q (E σ)
/-- .. whatever the arguments are -/
theorem meth_node {pl : Sem Bool} (he : PE X o ta) (c : Cls X.K C) (hm : Meth X.K C m f) (ht : MNode X o m apos pos es pl)
    (go : ∀ pins s σ H Q i, Inv X pins σ H s → t σ H (fun vs H2 => sp (.ref i :: vs) H2 Q (E σ)) → wpAny (model X.prog X.w) X.A (callWith pos (.ref f) [.ref i] (backTo pos (starEach es X.env)) (backToKw pos (keywordEach [] X.env))) (EP X pins σ Q) X.xe s) :
    PE X (.Call (.Attribute o m apos) es [] pos) (tMethS C m sp E ta t) where
  run := fun pins s σ H Q I h => PySem.W.methodCall_KW (pl := pl) (he := ht) (thn (he.run pins s σ H _ I h) fun v s' q => by
    rcases q with ⟨_, H', J, rv, i, dx, fs, rfl, at_, no, q⟩
    cases (rv : v = .ref i)
    exact getmeth_ok J at_ c hm no (go pins s' σ H' Q i J q))
theorem pe_methX {pl : Sem Bool} (he : PE X o ta) (c : Cls X.K C) (hm : Meth X.K C m f) (F : FnOk X.prog X.w X.K X.mg X.base CX k f fd ps sp) (hr : Room k X.A) (hb : Binds X.K fd ps []) (hx : ∀ σ, PassesAt CX X σ (E σ)) (ha : PA X (e :: es) t)
    (hst : Fst X e es := by rfl) (hpl : Pln X pos es := by rfl) (ht : MNode X o m apos pos (e :: es) pl := by rfl) : PE X (.Call (.Attribute o m apos) (e :: es) [] pos) (tMethS C m sp E ta t) :=
  meth_node he c hm ht fun pins s σ H Q i I q => PySem.W.callWith_K (first := [.ref i]) I.mod.kin hm.kp (he := hst) (hplain := hpl)
    (thn (ha.run pos pins s σ H _ I q) fun us s' ⟨vs, H', J, r, q'⟩ => ⟨J.kIn, own_run F hr hb (hx σ) J r q'⟩)
theorem pe_methX0 {pl : Sem Bool} (he : PE X o ta) (c : Cls X.K C) (hm : Meth X.K C m f) (F : FnOk X.prog X.w X.K X.mg X.base CX k f fd ps sp) (hr : Room k X.A) (hb : Binds X.K fd ps []) (hx : ∀ σ, PassesAt CX X σ (E σ)) (ht : MNode X o m apos pos [] pl := by rfl) :
    PE X (.Call (.Attribute o m apos) [] [] pos) (tMethS C m sp E ta tNil) :=
  meth_node he c hm ht fun pins s σ H Q i I q => PySem.W.callWith_K0 (first := [.ref i]) I.kIn hm.kp (own_run F hr hb (hx σ) I .nil q)
/-- o(e, ..): an object with __call__ -/
theorem pe_callX {fe : Expr} {g : Addr} (hf : PE X fe te) (c : CallO X.K C f) (F : FnOk X.prog X.w X.K X.mg X.base CX k f fd ps sp) (hr : Room k X.A) (hb : Binds X.K fd ps []) (hx : ∀ σ, PassesAt CX X σ (E σ)) (ha : PA X (e :: es) t)
    (ht : eval (.Call fe (e :: es) [] pos) X.env = (eval fe X.env >>= fun fv => callWith pos fv [] (backTo pos (starEach (e :: es) X.env)) (backToKw pos (keywordEach [] X.env))) := by rfl) (he : Fst X e es := by rfl) (hpl : Pln X pos es := by rfl) :
    PE X (.Call fe (e :: es) [] pos) (fun σ H Q => te σ H fun y H1 => ∃ a, y = V.ref a ∧ t σ H1 fun vs H2 => (∃ dx fs, H2 a = some (.ins C dx fs)) ∧ sp (V.ref a :: vs) H2 Q (E σ)) where
  run := fun pins s σ H Q I h => by
    apply Call_ _ ht
    apply thn (hf.run pins s σ H _ I h)
    rintro v s1 ⟨_, H1, I1, rv, i, rfl, q⟩
    cases (rv : v = .ref i)
    apply callO_with _ he hpl
    apply thn (ha.run pos pins s1 σ H1 _ I1 q)
    rintro us s2 ⟨vs, H2, J, r, ⟨dx, fs, at_⟩, q⟩
    rcases ins_at J at_ with ⟨ox, od, inst, pl⟩
    have r' : Vals (V.ref i :: vs) (Value.ref i :: us) := .cons rfl r
    exact ⟨⟨C, ox, od, inst, pl⟩, wpAny_call (PySem.W.kco_code J.kIn inst pl c.at_ c.fn c.fi (codeAny_mono (F.run X.A X.stack s2 H2 _ _ _ Q (E σ) hr J.env0 (bound F hb J.kIn r' q) r' q) fun r s' => two_ways (hx σ) J fun u => J.after))⟩
/-- C(e, ..) -/
def tMakeS (C : Addr) (sp : Sp) (E : L2.St → XK) (t : TA) : TE := fun σ H Q => t σ H fun vs H1 => ∀ x dx, H1 x = none → H1 dx = none → dx ≠ x → sp (.ref x :: vs) (upd (upd H1 dx (.own x)) x (.ins C dx [])) (fun v H2 => v = .non ∧ Q (.ref x) H2) (E σ)
theorem run_makeS {pins : List (Addr × Obj)} {σ : L2.St} {H : Hp} {s : Shared} {Q : VK} {us : List Value} {vs : List V} (M : Mk X.K C f) (F : FnOk X.prog X.w X.K X.mg X.base CX k f fd ps sp) (hr : Room (k + 1) X.A) (hb : Binds X.K fd ps [])
    (hx : PassesAt CX X σ (E σ)) (I : Inv X pins σ H s) (r : Vals vs us) (h : tMakeS C sp E (fun _ H' R => R vs H') σ H Q) : wpAny (model X.prog X.w) X.A (call (.ref C) us) (EP X pins σ Q) X.xe s := by
  have J := Inv.made (C := C) I
  have free : ∀ n, s.heap.objs.size ≤ n → H n = none := fun n => I.hok.fresh
  have q := h _ _ (free (s.heap.objs.size + 1) (Nat.le_add_right _ 1)) (free _ (Nat.le_refl _)) (Nat.ne_of_lt (Nat.lt_add_one _))
  have r' : Vals (.ref (s.heap.objs.size + 1) :: vs) (.ref (s.heap.objs.size + 1) :: us) := .cons rfl r
  apply wpAny_call
  apply make_map (f := f) I.kIn M.makes M.init (beq_iff_eq.mp M.fn)
  apply codeAny_mono (F.run _ X.stack _ _ _ _ _ _ (E σ) (hr.make C us []) (J.env0.make C us []) (bound F hb J.kIn r' q) r' q)
  intro z s' c
  match z, c with
  | .error e, c => exact hx _ _ _ e s' J c
  | .ok .next, c => exact c.elim
  | .ok .brk, c => exact c.elim
  | .ok .cont, c => exact c.elim
  | .ok (.ret u), c =>
    rcases J.after c with ⟨_, G, J', ru, rfl, q'⟩
    exact ⟨ru, .ref _, G, J', rfl, q'⟩
theorem pe_makeX (M : Mk X.K C f) (F : FnOk X.prog X.w X.K X.mg X.base CX k f fd ps sp) (hr : Room (k + 1) X.A) (hg : Gl X x) (hm : X.mg x = some (.ref C)) (hb : Binds X.K fd ps []) (hx : ∀ σ, PassesAt CX X σ (E σ))
    (ha : PA X (e :: es) t) (hdb : (x == ("__debug__" : Str)) = false := by decide) (he : Fst X e es := by rfl) (hpl : Pln X pos es := by rfl) : PE X (.Call (.Name x p) (e :: es) [] pos) (tMakeS C sp E t) where
  run := fun pins s σ H Q I h => wpAny_Call_Name_kw (ld_glob I hg hm (hd := hdb) (PySem.W.callWith_K I.mod.kin M.kp (he := he) (hplain := hpl)
    (thn (ha.run pos pins s σ H _ I h) fun us s' ⟨vs, H', J, r, q⟩ => ⟨J.kIn, run_makeS M F hr hb (hx σ) J r q⟩)))
end
end StX

/-! raise X(), X an own exception class without an __init__ -/
namespace StX
open PySem PySem.Spec L2 PyProof.Rows
def bmVE : List Value := [.type "ValueError", .type "Exception", .type "BaseException", .type "object"]
theorem pmk_own0 {X : Cx} {C : Addr} {x : Str} {p pos : Pos} (q : PySem.W.excIn X.K C bmVE "ValueError.__new__" = true) (gC : X.mg x = some (.ref C))
    (kC : PySem.W.keepIn X.K (.ref C) = true) (r : Raises X (.ref C)) (hg : Gl X x) (hdb : (x == ("__debug__" : Str)) = false := by decide) :
    PMk X (.Call (.Name x p) [] [] pos) (fun _ H Q => Q (.ref C) none H) := by
  intro pins s σ H Q I h
  have none_given : ([] : List Value).length ≤ sizeLine := by rw [sizeLine_eq]; exact Nat.zero_le _
  rcases exc_obj I.kIn q with ⟨_, _, _, _, _, _, _, _, _, _, _, _, _, _, _, _, _, cls, base, ini, T⟩
  exact wpAny_Call_Name_kw (ld_glob I hg gC (PySem.W.callWith_K0 I.kIn kC (wpAny_call_exc_subT F.excBase_ValueError T cls base ini (fun h' e m => mk_of I m r h (I.hok.gone m.new)) none_given)) hdb)
/-- what such a class must have -/
structure Rz0 (K : PySem.W.Frag) (x : Str) : Prop where
  q : PySem.W.excIn K (He.ga K x) bmVE "ValueError.__new__" = true
  kC : PySem.W.keepIn K (.ref (He.ga K x)) = true
  sub : PySem.W.subIn K (.ref (He.ga K x)) (.type "BaseException") = some true
  ty : PySem.W.typeIn K (.ref (He.ga K x)) = some (.type "type")
def rz0B (K : PySem.W.Frag) (x : Str) : Bool := PySem.W.excIn K (He.ga K x) bmVE "ValueError.__new__" && PySem.W.keepIn K (.ref (He.ga K x)) && decide (PySem.W.subIn K (.ref (He.ga K x)) (.type "BaseException") = some true) && decide (PySem.W.typeIn K (.ref (He.ga K x)) = some (.type "type"))
theorem rz0B_ok {K : PySem.W.Frag} {x : Str} (h : rz0B K x = true) : Rz0 K x := by
  unfold rz0B at h
  simp only [Bool.and_eq_true, decide_eq_true_eq] at h
  exact ⟨h.1.1.1, h.1.1.2, h.1.2, h.2⟩
theorem ps_rz0 {X : Cx} (K : PySem.W.Frag) (h : X.K = K) {x : Str} {W : WX} {p pos p2 : Pos} (g : Rz0 K x) (gC : X.mg x = some (.ref (He.ga K x))) (hc : X.calm = true) (tk : Takes X W) (hg : Gl X x) (hdb : (x == ("__debug__" : Str)) = false := by decide) :
    PS X (.Raise (some (.Call (.Name x p) [] [] pos)) none p2) (fun _ σ H => W (.ref (He.ga K x)) none σ H) := by
  subst h
  exact ps_raise hc tk (pmk_own0 g.q gC g.kC (raises_own g.sub g.ty) hg hdb)
/-- an own class whose instances are asked by isinstance -/
structure IsoC (K : PySem.W.Frag) (C : Addr) : Prop where
  c : Cls K C
  ha : PySem.W.findIn K (.ref C) "__class__" = some (some (.builtin "object.__class__"))
  hn : PySem.W.specialIn K (.builtin "object.__class__") "__get__" = some (some (.builtin "getset_descriptor.__get__"))
  ht : PySem.W.takesIn K (.builtin "object.__class__") = some true
  hm : PySem.W.mroIn K C (.type "object") = some true
end StX

/-! sorted(xs): ints; pairs of ints -/
namespace Z
open PySem PySem.Spec L2 PyProof.Rows
def rSortedPF (K : PySem.W.Frag) : List V → Hp → VK → Prop := fun vs H Q => ∃ (a : Addr) (xs : List V) (k : V → Int × Int), vs = [V.ref a] ∧ SqL K H a xs ∧ (∀ x ∈ xs, ∃ t, x = V.ref t ∧ SqT K H t [.int (k x).1, .int (k x).2]) ∧
  ∀ ys p, ys.Perm xs → H p = none → Q (.ref p) (upd H p (.lst ys))
section
variable {X : Cx}
/-- a pair that was made in the run -/
theorem pair_of {pins : List (Addr × Obj)} {σ : L2.St} {H : Hp} {s : Shared} {t : Addr} {i j : Int} (I : Inv X pins σ H s) (h : SqT X.K H t [.int i, .int j]) : ∃ o t1 t2 n, s.heap.get? t = some o ∧ o.cls = .type "tuple" ∧ o.data = .seq #[.int i t1, .int j t2] n := by
  rcases I.tuple h with ⟨its, r, ⟨o, z, c, n, d⟩, _⟩
  match its, r with
  | [_, _], .cons ⟨t1, rfl⟩ (.cons ⟨t2, rfl⟩ .nil) => exact ⟨o, t1, t2, n, z, c, d⟩
theorem cr_sortedPF : CallR X (.builtin "sorted") (rSortedPF X.K) := by
  rintro pins s σ H _ us Q I r ⟨a, xs, k, rfl, sq, each, q⟩
  match us, r with
  | [_], .cons (rfl : _ = Value.ref a) .nil =>
    rcases I.list sq with ⟨its, rv, hl, small⟩
    rcases refs_back rv fun x m => (each x m).imp fun _ z => z.1 with ⟨back, refs⟩
    have size : its.length ≤ sizeLine := rv.length ▸ small
    have got : ∀ v ∈ its, ∃ t, v = .ref t ∧ SqT X.K H t [.int (k (backV v)).1, .int (k (backV v)).2] := fun v m => by
      rcases refs v m with ⟨t, rfl⟩
      rcases each (.ref t) (back ▸ List.mem_map_of_mem (f := backV) m) with ⟨_, z, sqt⟩
      cases z
      exact ⟨t, rfl, sqt⟩
    apply SrtO.sorted_pairsO (k := fun u => k (backV u)) hl.isList size
    · intro v m
      rcases got v m with ⟨t, rfl, sqt⟩
      rcases pair_of I sqt with ⟨o, t1, t2, n, z, c, d⟩
      exact ⟨t, o, t1, t2, n, rfl, z, c, d⟩
    · rintro h' d out h1 stb kp fresh ⟨n, at_⟩
      have out_refs : ∀ u ∈ out, ∃ a, u = Value.ref a := fun u m => refs u (stb.perm.mem_iff.mp m)
      have stb' : SrtO.Stb (ltP k) (out.map backV) xs := back ▸ stb.map (ltP_swo k) backV
      have ok : (out.map backV).length ≤ sizeLine := stb'.len ▸ small
      exact ⟨.ref d, upd H d (.lst (out.map backV)), I.laid (t' := s.toks) kp fresh ⟨ok, out, n, vals_back out_refs, at_⟩, rfl, q _ d stb'.perm (I.hok.fresh fresh)⟩
theorem cr_sortedPFK (K : PySem.W.Frag) (h : X.K = K) : CallR X (.builtin "sorted") (rSortedPF K) := h ▸ cr_sortedPF
theorem cr_sortedIK (K : PySem.W.Frag) (h : X.K = K) : CallR X (.builtin "sorted") (rSortedI K) := h ▸ cr_sortedI
end
end Z

/-! enumerate(tuple) -/
namespace Z
open PySem PySem.Spec L2 PyProof.Rows
/-- the two cells of enumerate(t) -/
abbrev tupIt (l : Addr) : Obj := { cls := .type "tuple_iterator", data := .fields #[.ref l, .int 0 0] }
abbrev enumO (it : Addr) : Obj := { cls := .type "enumerate", data := .fields #[.none, .bool false, .ref it, rawInt 0, .none, .none] }
abbrev enumH (h : Heap) (l : Addr) : Heap := (h.push (tupIt l)).push (enumO h.objs.size)
theorem enumH_size (h : Heap) (l : Addr) : (enumH h l).objs.size = h.objs.size + 2 := by simp only [enumH, Heap.size_push]
theorem enumH_keep {h : Heap} {l b : Addr} {o : Obj} (z : h.get? b = some o) : (enumH h l).get? b = some o := by
  unfold enumH
  exact Heap.get?_push_of_some _ (Heap.get?_push_of_some _ z)
theorem enumH_it (h : Heap) (l : Addr) : (enumH h l).IsTupleIter h.objs.size l 0 := by
  refine ⟨tupIt l, ?_, rfl, rfl⟩
  unfold enumH
  exact Heap.get?_push_of_some _ (Heap.get?_push_size h rfl)
theorem enumH_en (h : Heap) (l : Addr) : (enumH h l).get? (h.objs.size + 1) = some (enumO h.objs.size) := by
  have z := Heap.get?_push_size (h.push (tupIt l)) (o := enumO h.objs.size) rfl
  rwa [Heap.size_push] at z
theorem enum_new (l : Addr) (items : Array Value) : Meets (Builtin.«enumerate.__new__» ⟨[.type "enumerate", .ref l], []⟩) fun _ R s => s.heap.IsTuple l items ∧
    R (.ok (.ret (.ref (s.heap.push (tupIt l)).objs.size))) { s with heap := enumH s.heap l } := by
  apply Meets.of_wp
  rintro prog w A R ⟨hp, g, d, tk, os⟩ ⟨ht, post⟩
  have start : ∀ {A' : Around} {E Q : Value → Shared → Prop}, Q (.ref hp.objs.size) ⟨hp.push (tupIt l), g, d, tk, os⟩ → wpAny (model prog w) A' (pyIter (.ref l)) Q E ⟨hp, g, d, tk, os⟩ := (begins_tuple l items).iter prog w _ _ _ _ ht
  have sub := sub_enumerate
  wp_walk using start
  apply wpAny_stack_any
  intro st
  apply wpAny_pure
  split
  · rename_i c _ _ _ _ _
    by_cases hc : (c == Value.type "enumerate") = true
    all_goals simp only [hc]
    all_goals wp_walk using start
    all_goals exact ⟨_, rfl, post⟩
  · wp_walk using start
    exact ⟨_, rfl, post⟩
theorem enum_call {prog : Program} {w : World} {A : Around} {E Q : Value → Shared → Prop} {s : Shared} {l : Addr} {items : Array Value} (ht : s.heap.IsTuple l items) (q : Q (.ref (s.heap.objs.size + 1)) { s with heap := enumH s.heap l }) :
    wpAny (model prog w) A (call (.type "enumerate") [.ref l]) Q E s := by
  apply callType_new F.called_enumerate (by decide) (F.typeCall_enumerate_1 _) (F.newCall_enumerate_1 _) (fun o => F.args_object_init_2 o _) F.entry_enumerate_new (enum_new l items)
  have z : (s.heap.push (tupIt l)).objs.size = s.heap.objs.size + 1 := Heap.size_push ..
  refine ⟨ht, ?_⟩
  rw [z]
  exact ⟨⟨_, enumH_en s.heap l, rfl⟩, q⟩
/-- an iterator that stands behind its tuple's items draws nothing more, wherever it stands -/
theorem endD {prog : Program} {w : World} {A : Around} (it a : Addr) (items : Array Value) (i : Nat) (hh : A.handled = none) (past : items[i]? = none) :
    Draws prog w A it [it, a] i (fun _ _ => False) (fun j h => j = i ∧ h.IsTupleIter it a i ∧ h.IsTuple a items) where
  live := fun _ _ ⟨_, ⟨o, z, _⟩, _⟩ => ⟨o, z⟩
  frame := fun _ _ _ ⟨q, z, t⟩ k => ⟨q, z.at fun o => k it (List.mem_cons_self ..) o, t.at fun o => k a (List.mem_cons_of_mem _ (List.mem_cons_self ..)) o⟩
  item := fun j _ _ _ lt ⟨q, _⟩ => absurd q (Nat.ne_of_lt lt)
  done := fun _ _ _ ⟨_, z, t⟩ => wpAny_nextOf_tuple_end hh z t past
/-- the tuple at a, each item in a new pair -/
def IteT (K : PySem.W.Frag) (a : Addr) : It :=
  ⟨fun i H => ∃ (xs : List V) (x : V), SqT K H a xs ∧ xs[i]? = some x, fun i H v H' => ∃ T x, v = .ref T ∧ H T = none ∧ H' = upd H T (.tup [.int (i : Nat), x]) ∧ ∀ xs, SqT K H a xs → xs[i]? = some x, fun i H => ∃ xs : List V, SqT K H a xs ∧ xs.length ≤ i⟩
theorem turn_enumT {P : Program} {w : World} {K : PySem.W.Frag} {elts : List Expr} {kk : Nat} {tpos : Pos} (a e it : Addr) (hai : a ≠ it) (hea : e ≠ a) :
    Turn P w K (.Tuple elts kk tpos) (IteT K a) [e, it] e (fun i h => (∃ old, IsEnum h e it ((i : Nat) : Int) old) ∧ h.IsTupleIter it a i ∧ e ≠ it) := by
  have two : ∀ {b : Addr}, b ∈ [e, it] → b = e ∨ b = it := fun h => by simpa using h
  refine { mem := List.mem_cons_self .., obj := ?_, keep := ?_, item := ?_, done := ?_, self := ?_ }
  · rintro i h ⟨⟨old, he⟩, ⟨o, ho, _, hd⟩, _⟩ b hb
    rcases two hb with rfl | rfl
    · exact ⟨_, he, nofun⟩
    · refine ⟨o, ho, fun v => ?_⟩
      rw [hd]; exact nofun
  · rintro i h h' ⟨⟨old, he⟩, hi, ne⟩ k
    exact ⟨⟨old, k _ (List.mem_cons_self ..) _ he⟩, hi.at fun o => k it (List.mem_cons_of_mem _ (List.mem_cons_self ..)) o, ne⟩
  · rintro X rfl rfl rfl hc i pins s σ H E I hf ⟨⟨old, he⟩, hi, ne⟩ ⟨xs, x, sq, hx⟩
    rcases I.tuple sq with ⟨its, rv, pl, _⟩
    rcases rv.get hx with ⟨u, hu, ru⟩
    have small : ∀ {b : Addr}, b ∈ [e, it] → b < s.heap.objs.size := fun hb => by
      rcases two hb with rfl | rfl
      · exact Heap.lt_size he
      · rcases hi with ⟨_, q, _⟩; exact Heap.lt_size q
    have le : e < s.heap.objs.size := small (List.mem_cons_self ..)
    have D := Draws.tuple (prog := X.prog) (w := X.w) (A := X.A.in1) (I.ok.hd hc) it a hai its.toArray
    refine wpAny_pyNext_enum_itemD D he ⟨hi, pl⟩ (i := i) (by have := (List.getElem?_eq_some_iff.mp hu).1; simpa using this) ne (by simp [ne, hea]) ?_
    rintro u' h1 tk hu' out ⟨hi1, _⟩ pair sz k1
    obtain rfl : u = u' := by
      have z : its.toArray[i]? = some u := by simpa using hu
      exact Option.some.inj (z.symm.trans hu')
    refine ⟨_, rfl, wpAny_letOwnedTupleGo_enum (s := { s with heap := h1, toks := tk + 1 }) out fun h2 he2 sb => ?_⟩
    have pair2 := (sb.2 _ (Nat.ne_of_gt le)).trans pair
    have laid : ObjOk X.prog X.w (upd H s.heap.objs.size (.tup [.int (i : Nat), x])) h2 s.heap.objs.size (.tup [.int (i : Nat), x]) :=
      ⟨Nat.le_trans (by decide : 2 ≤ 2) (by decide), _, .cons ⟨tk, rfl⟩ (.cons ru .nil), ⟨_, pair2, rfl, _, rfl⟩⟩
    have keep2 : ∀ (b : Addr) (o : Obj), b ∉ [e, it] → s.heap.get? b = some o → h2.get? b = some o := fun b o hb z => by
      have b1 : b ≠ e := fun q => hb (by simp [q])
      have b2 : b ≠ it := fun q => hb (by simp [q])
      rw [sb.2 b b1]; exact k1 b o b1 b2 z
    refine ⟨.ref s.heap.objs.size, _, I.turnedNew (t' := tk + 1) keep2 hf (Nat.le_refl _) laid, rfl, ⟨_, x, rfl, I.hok.fresh (Nat.le_refl _), rfl, fun ys hy => I.tuple_inj hy sq ▸ hx⟩, ⟨⟨u, ?_⟩, hi1.at fun o => (sb.2 it (Ne.symm ne)).trans, ne⟩, fun b hb => ?_⟩
    · rw [Int.natCast_add]; exact he2
    · rw [upd_ne (Nat.ne_of_lt (small hb))]
      exact (hf b hb).1
  · rintro X rfl rfl rfl hc i pins s σ H E I hf ⟨⟨old, he⟩, hi, ne⟩ ⟨xs, sq, past⟩
    rcases I.tuple sq with ⟨its, rv, pl, _⟩
    rcases hf it (List.mem_cons_of_mem _ (List.mem_cons_self ..)) with ⟨f0, f1, _, h3, h4, h5⟩
    have none_there : its.toArray[i]? = none := by
      have := rv.length
      simp only [List.getElem?_toArray]
      exact List.getElem?_eq_none (by omega)
    exact wpAny_pyNext_enum_endD (endD it a its.toArray i (I.ok.hd hc) none_there) he ⟨rfl, hi, pl⟩ fun h' eb => ⟨rfl, I.turned (t' := s.toks) (fun b o hb => eb b o hb) f0 f1 h3 h4 h5⟩
  · rintro A i s Q E ⟨⟨old, he⟩, _⟩
    exact wpAny_pyIter_enum he
def iEnumT (K : PySem.W.Frag) (ta : TA) : TI := fun σ H R => ta σ H fun vs H1 => ∃ a xs, vs = [.ref a] ∧ SqT K H1 a xs ∧ R (IteT K a) H1
theorem pi_enumT {X : Cx} {e : Expr} {ta : TA} {p pos tpos : Pos} {elts : List Expr} {kk : Nat} (hg : Gl X "enumerate") (hm : X.mg "enumerate" = none) (ha : PA X [e] ta) (hs : starEach [e] X.env = [(false, eval e X.env)] := by rfl) : PI X (.Tuple elts kk tpos) (.Call (.Name "enumerate" p) [e] [] pos) (iEnumT X.K ta) where
  run := fun pins s σ H R I h => by
    refine Call_ (ld_blt I hg hm boot_enumerate (PyProof.Rows.callWith_type1 ?_ hs rfl))
    apply thn (ha.run pos pins s σ H _ I h)
    rintro us s1 ⟨_, H1, J, rv, a, xs, rfl, sq, q⟩
    match us, rv with
    | [_], .cons (rfl : _ = Value.ref a) .nil =>
      rcases J.tuple sq with ⟨its, _, pl, _⟩
      have la : a < s1.heap.objs.size := by rcases pl with ⟨_, z, _⟩; exact Heap.lt_size z
      have J' : Inv X pins σ H1 { s1 with heap := enumH s1.heap a } := J.kept (t' := s1.toks) fun b o => enumH_keep
      apply enum_call pl
      apply wpAny_pyIter_enum (enumH_en s1.heap a)
      refine ⟨s1.heap.objs.size + 1, [s1.heap.objs.size + 1, s1.heap.objs.size], _, _, H1, rfl, J', turn_enumT a _ _ (Nat.ne_of_lt la) (Nat.ne_of_gt (Nat.lt_succ_of_lt la)), ⟨⟨.none, enumH_en s1.heap a⟩, enumH_it s1.heap a, Nat.succ_ne_self _⟩, fun b hb => ?_, q⟩
      have up : s1.heap.objs.size ≤ b := by
        have z : b = s1.heap.objs.size + 1 ∨ b = s1.heap.objs.size := by simpa using hb
        rcases z with rfl | rfl
        · exact Nat.le_succ _
        · exact Nat.le_refl _
      exact J.fpOk up (J.hok.fresh up)
theorem pi_enumTK (K : PySem.W.Frag) {X : Cx} (h : X.K = K) {e : Expr} {ta : TA} {p pos tpos : Pos} {elts : List Expr} {kk : Nat} (hg : Gl X "enumerate") (hm : X.mg "enumerate" = none) (ha : PA X [e] ta) (hs : starEach [e] X.env = [(false, eval e X.env)] := by rfl) :
    PI X (.Tuple elts kk tpos) (.Call (.Name "enumerate" p) [e] [] pos) (iEnumT K ta) := h ▸ pi_enumT hg hm ha hs
end Z

/-! own errors with an __init__, their context told -/
namespace L2
open PySem PySem.Spec PyProof.Rows
section
variable {X : Cx} {C : Addr}
/-- the heap behind C.__new__: the arguments' tuple, the exception -/
abbrev bornH (C : Addr) (us : List Value) (hp : Heap) : Heap := (hp.push (PySem.W.kdv_tup us)).push (PySem.HandSPX.excO C hp.objs.size)
abbrev bornL (C : Addr) (H : Hp) (n : Nat) : Hp := upd H (n + 1) (exo (n + 1) C none)
theorem bornH_keep {us : List Value} {hp : Heap} : ∀ b o, hp.get? b = some o → (bornH C us hp).get? b = some o := fun b o z => by
  unfold bornH
  exact Heap.get?_push_of_some _ (Heap.get?_push_of_some _ z)
theorem bornH_exc {us : List Value} {hp : Heap} : (bornH C us hp).get? (hp.objs.size + 1) = some (PySem.HandSPX.excO C hp.objs.size) := by
  unfold bornH
  heap_get
theorem born {pins : List (Addr × Obj)} {σ : St} {H : Hp} {us : List Value} {hp : Heap} {g : Array GenState} {d : Drawn} {t : Nat} {os : OsState} (I : Inv X pins σ H ⟨hp, g, d, t, os⟩) :
    Inv X pins σ (bornL C H hp.objs.size) ⟨bornH C us hp, g, d, t, os⟩ :=
  I.laid (t' := t) bornH_keep (Nat.le_add_right _ 1) (exo_ok bornH_exc)
/-- C(e, ..), C an own error with an __init__: its context is none -/
theorem pmk_oexN {CX : CXT} {x : Str} {e : Expr} {es : List Expr} {ta : TA} {p pos : Pos} {fI : Addr} {k : Nat} {fd : FuncData} {ps : List Str} {sp : Sp} {ds : List Value} {dvs : List V} (T : OexC X.K C)
    (iC : PySem.W.findIn X.K (.ref C) "__init__" = some (some (.ref fI))) (tI : PySem.W.typeIn X.K (.ref fI) = some (.type "function")) (init : FnOk X.prog X.w X.K X.mg X.base CX k fI fd ps sp) (room : Room (k + 1) X.A) (hb : Binds X.K fd ps ds) (hd : Vals dvs ds)
    (hx : Passes CX X (fun _ _ _ => False)) (hg : Gl X x) (hm : X.mg x = some (.ref C)) (ha : PA X (e :: es) ta) (hdb : (x == ("__debug__" : Str)) = false := by decide)
    (he : starEach (e :: es) X.env = (false, eval e X.env) :: starEach es X.env := by rfl) (hpl : (backTo pos (starEach es X.env)).any (·.1) = false := by rfl) : L2N.PMk X (.Call (.Name x p) (e :: es) [] pos) (tMkO C sp dvs ta) := by
  rintro pins s σ H Q I h
  apply wpAny_Call_Name_kw
  refine ld_glob I hg hm ?_ hdb
  refine PySem.W.callWith_K I.mod.kin T.kC ?_ he hpl
  apply thn (ha.run pos pins s σ H _ I h)
  rintro us ⟨hp, g, dr, tk, os⟩ ⟨vs, H1, J, rv, few, q⟩
  refine ⟨J.kIn, ?_⟩
  have B := born (C := C) (us := us) J
  have here := q _ (J.hok.fresh (Nat.le_succ hp.objs.size))
  have rel : Vals (.ref (hp.objs.size + 1) :: (vs ++ dvs)) (.ref (hp.objs.size + 1) :: (us ++ ds)) := .cons rfl (rv.append hd)
  have len : ((.ref (hp.objs.size + 1) :: us) ++ ds).length = ps.length := rel.length.symm.trans (init.len _ _ _ _ here)
  have short : us.length ≤ sizeLine := by rw [← rv.length, sizeLine_eq]; omega
  rcases T.cls with ⟨_, _, _, _, bm, _, _, _, _, _, _, _, _, _, _, cls, isVE⟩
  apply wpAny_call
  refine PySem.HandSPX.call_own F.excBase_ValueError (fun Y => PySem.HandSPX.refsVE_contains Y bm isVE) (J.kIn _ _ cls) (PySem.W.looks_findIn J.kIn iC) (fun self => PySem.W.bind_fn J.kIn self tI) short ?_
  refine codeAny_mono (init.run _ X.stack _ _ _ _ _ _ (fun _ _ _ => False) (room.make C us []) (B.env0.make C us []) (hb _ _ B.kIn len) rel here) ?_
  intro z s' c
  match z, c with
  | .error er, c => exact hx _ _ _ _ er s' B c
  | .ok .next, c => exact c.elim
  | .ok .brk, c => exact c.elim
  | .ok .cont, c => exact c.elim
  | .ok (.ret u), c =>
    rcases s' with ⟨h2, g2, d2, t2, os2⟩
    rcases c with ⟨_, H2, sameOs, bare, un, ok2, ru, rfl, d, fs, isE, isD, wasFree, fin⟩
    rcases mk_end0 (d2 := d2) (t2 := t2) J (Nat.le_succ _) bornH_keep un ok2 sameOs bare isE isD wasFree with ⟨t0, G, J', keepG, outG, at2, gone⟩
    refine ⟨ru, hp.objs.size + 1, _, _, ⟨G, g2, d2, t2, os2⟩, _, .ref C, some d, rfl, J', keepG, outG, at2, ⟨rfl, rfl, ?_⟩, rfl, rfl, gone, rfl, bare, raises_own T.exC T.tyC, fin⟩
    rintro _ ⟨⟩
    rfl
end
end L2

/-! sorted texts, any number; len(set(tuple)); zip -/
namespace Z
open PySem PySem.Spec L2 PyProof.Rows RZ
def rSortedSA (K : PySem.W.Frag) : List V → Hp → VK → Prop := fun vs H Q => ∃ (a : Addr) (xs : List Str), vs = [V.ref a] ∧ SqL K H a (xs.map V.str) ∧
  ∀ (ys : List Str) (p : Addr), ys.Perm xs → sortedS ys = true → H p = none → Q (.ref p) (upd H p (.lst (ys.map V.str)))
section
variable {X : Cx}
theorem cr_sortedSA : CallR X (.builtin "sorted") (rSortedSA X.K) := by
  rintro pins s σ H _ us Q I r ⟨a, xs, rfl, sq, q⟩
  rcases I.list sq with ⟨its, rv, hl, small⟩
  rw [List.length_map] at small
  have n : its.length ≤ sizeLine := by rw [← rv.length, List.length_map]; exact small
  rw [Vals.ref1 r]
  apply PyProof.Rows.sorted_strsAny hl.isList rv.strs n
  intro out ys txt perm asc
  rcases PyProof.Rows.sortedAll_at s.heap its out with ⟨k, laid⟩
  have ok : (ys.map V.str).length ≤ sizeLine := by rw [List.length_map, perm.length_eq]; exact small
  exact ⟨.ref _, upd H (s.heap.objs.size + 1) (.lst _), I.laid (t' := s.toks) (fun _ _ => PyProof.Rows.sortedAll_old) (Nat.le_add_right _ 1) ⟨ok, _, k, vals_of_strs txt, laid⟩, rfl, q ys _ perm asc (I.hok.fresh (Nat.le_add_right _ 1))⟩
theorem cr_sortedSAK (K : PySem.W.Frag) (h : X.K = K) : CallR X (.builtin "sorted") (rSortedSA K) := h ▸ cr_sortedSA
theorem cr_maxK (K : PySem.W.Frag) (h : X.K = K) (hc : X.calm = true) : CallR X (.builtin "max") (rMax K) := h ▸ cr_max hc
theorem cr_minK (K : PySem.W.Frag) (h : X.K = K) (hc : X.calm = true) : CallR X (.builtin "min") (rMin K) := h ▸ cr_min hc
theorem mt_indexK (K : PySem.W.Frag) (h : X.K = K) : MtR X "list.index" (rIndex K) := h ▸ mt_index
theorem pi_zipAK (K : PySem.W.Frag) (h : X.K = K) {e e2 : Expr} {ta : TA} {p pos tpos : Pos} {elts : List Expr} {kk : Nat} (hg : Gl X "zip") (hm : X.mg "zip" = none) (ha : PA X [e, e2] ta)
    (hs : starEach [e, e2] X.env = (false, eval e X.env) :: starEach [e2] X.env := by rfl) (hpl : (backTo pos (starEach [e2] X.env)).any (·.1) = false := by rfl) :
    PI X (.Tuple elts kk tpos) (.Call (.Name "zip" p) [e, e2] [] pos) (iZipA K ta) := by subst h; exact pi_zipA hg hm ha hs hpl
/-- len(set(t)), t a tuple of ints -/
def tLenSetT (K : PySem.W.Frag) (ta : TE) : TE := fun σ H Q => ta σ H fun x H1 => ∃ (l : Addr) (ns : List Int), x = .ref l ∧ SqT K H1 l (ns.map V.int) ∧ ns.length ≤ 1000 ∧ ∀ out : List Int, out.Nodup → (∀ k, k ∈ out ↔ k ∈ ns) → Q (.int (out.length : Nat)) H1
theorem pe_lenSetT (K : PySem.W.Frag) (h : X.K = K) {a : Expr} {ta : TE} {p p2 q pos : Pos} (hg : Gl X "len") (hm : X.mg "len" = none) (hg2 : Gl X "set") (hm2 : X.mg "set" = none) (ha : PE X a ta) (hc : X.calm = true := by rfl)
    (na : starEach [a] X.env = (false, eval a X.env) :: starEach [] X.env := by rfl) : PE X (.Call (.Name "len" p) [.Call (.Name "set" p2) [a] [] q] [] pos) (tLenSetT K ta) := by
  cases h
  constructor
  intro pins s σ H Q I h
  have inner : wpAny (model X.prog X.w) X.A (eval (.Call (.Name "set" p2) [a] [] q) X.env) (fun v s' => wpAny (model X.prog X.w) X.A (call (.builtin "len") [v]) (EP X pins σ Q) X.xe s') X.xe s := by
    refine Call_ (ld_blt I hg2 hm2 PyProof.Rows.boot_set (PyProof.Rows.callWith_type1 (PyProof.Rows.args_cons (thn (ha.run pins s σ H _ I h) ?_) na) na rfl))
    rintro v s1 ⟨_, H1, J, rv0, l, ns, rfl, sq, few, q1⟩
    cases rv0
    rcases J.tuple sq with ⟨its, rv, pt, _⟩
    refine PyProof.Rows.args_nil (call_set_tupI ns (J.ok.hd hc) (show s1.heap.IsTuple l its.toArray from pt) (ints_of_vals rv) (by unfold scanBound; omega) ?_)
    rintro h' tk c ⟨o, es, ep, t, at_, ex, dt, g, nd, same, hb, hf, hn, hr⟩ cn kept
    have J' : Inv X pins σ H1 { s1 with heap := h', toks := tk } := J.kept kept
    have fin := q1 (es.toList.map keyOf) nd fun j => by
      have z := same j
      rw [decide_eq_true_eq] at z
      exact z.symm
    rw [List.length_map, Array.length_toList] at fin
    exact call_len_set at_ ex dt hf (by rw [hn]; unfold scanBound at *; omega) ⟨.int es.size, H1, J'.tok _, ⟨_, rfl⟩, fin⟩
  exact Call_ (ld_blt I hg hm boot_len (PyProof.Rows.callWith_builtin1 (PyProof.Rows.args_cons (thn inner fun _ _ z => PyProof.Rows.args_nil z) rfl) rfl rfl))
end
end Z

/-! sets of any one kind of keys, told by the list of what they hold -/
namespace Z
open PySem PySem.Spec L2 PyProof.Rows
section
variable {P : Program} {w : World} {κ : Type} [DecidableEq κ]
/-- the table of a set that holds ks -/
structure Laid (kd : KeyKind P w κ) (key : Value → κ) (ks : List κ) (es : Array (Int × Value)) (t : SetTable) : Prop where
  ent : ∀ e ∈ es.toList, kd.is (key e.2) e.2 = true ∧ e.1 = kd.hash (key e.2) ∧ e.2.scannable = true
  per : (es.toList.map fun e => key e.2).Perm ks
  nd : ks.Nodup
  few : ks.length < scanBound
  fit : t.fits es.size = true
  ris : Ris t.place.toList
  led : w.params.followText "set-order" = true ∨ t.led = true
variable {kd : KeyKind P w κ} {key : Value → κ} {ks : List κ} {es : Array (Int × Value)} {t : SetTable}
theorem Laid.size (L : Laid kd key ks es t) : es.size = ks.length := by
  rw [← L.per.length_eq, List.length_map, Array.length_toList]
theorem Laid.elems (L : Laid kd key ks es t) : ElemsOf kd es.toList := fun e he => ⟨⟨_, (L.ent e he).1, (L.ent e he).2.1⟩, (L.ent e he).2.2⟩
theorem Laid.mem (L : Laid kd key ks es t) (k : κ) : k ∈ ks ↔ ∃ e ∈ es.toList, kd.is k e.2 = true := by
  rw [← L.per.mem_iff, List.mem_map]
  constructor
  · rintro ⟨e, he, rfl⟩
    exact ⟨e, he, (L.ent e he).1⟩
  · rintro ⟨e, he, q⟩
    exact ⟨e, he, kd.inj _ _ _ (L.ent e he).1 q⟩
theorem Laid.swap {es' : Array (Int × Value)} {t' : SetTable} (L : Laid kd key ks es t) (p : es'.toList.Perm es.toList) (f : t'.fits es'.size = true) (r : Ris t'.place.toList) (l : t'.led = t.led) : Laid kd key ks es' t' :=
  ⟨fun e he => L.ent e (p.mem_iff.mp he), (p.map _).trans L.per, L.nd, L.few, f, r, L.led.imp id fun z => l.trans z⟩
theorem Laid.relay (L : Laid kd key ks es t) (n : Nat) : Laid kd key ks (relayAll t es n).1 (relayAll t es n).2.1 :=
  L.swap (relayAll_perm t es n) (relayAll_fits t es n) (relayAll_ris t es n) (relayAll_led t es n)
theorem Laid.new {k : κ} {x : Value} (L : Laid kd key ks es t) (hk : kd.is k x = true) (hx : key x = k) (sc : x.scannable = true) (hn : k ∉ ks) (room : ks.length + 1 < scanBound) :
    Laid kd key (ks ++ [k]) (layNew t es (kd.hash k) x).1 (layNew t es (kd.hash k) x).2.1 := by
  have p := layNew_perm t es (kd.hash k) x
  rw [Array.toList_push] at p
  refine ⟨fun e he => ?_, ?_, ?_, by rw [List.length_append]; exact room, layNew_fits t es (kd.hash k) x, layNew_ris t es (kd.hash k) x L.ris, L.led.imp id fun z => (layNew_led t es (kd.hash k) x).trans z⟩
  · rcases List.mem_append.mp (p.mem_iff.mp he) with h | h
    · exact L.ent e h
    · rw [List.mem_singleton.mp h]
      exact ⟨by rw [hx]; exact hk, by rw [hx], sc⟩
  · refine (p.map _).trans ?_
    rw [List.map_append]
    exact L.per.append (by rw [List.map_singleton, hx])
  · exact List.nodup_append.mpr ⟨L.nd, by simp, fun a ha b hb e => hn (by rw [← List.mem_singleton.mp hb, ← e]; exact ha)⟩
/-- the set at a -/
def OSet (kd : KeyKind P w κ) (key : Value → κ) (h : Heap) (a : Addr) (ks : List κ) : Prop :=
  ∃ o es ep t, h.get? a = some o ∧ o.ExactSet ∧ o.data = .set es ep t ∧ Laid kd key ks es t
theorem OSet.at {h h' : Heap} {a : Addr} (R : OSet kd key h a ks) (k : ∀ o, h.get? a = some o → h'.get? a = some o) : OSet kd key h' a ks := by
  obtain ⟨o, es, ep, t, ho, r⟩ := R
  exact ⟨o, es, ep, t, k o ho, r⟩
theorem os_get {h : Heap} {a : Addr} {o : Obj} {es' : Array (Int × Value)} {ep : Nat} {t' : SetTable} (ho : h.get? a = some o) (hd : o.data = .set es ep t) :
    (h.update a (Obj.putSet es' t')).get? a = some { o with data := .set es' (ep + 1) t' } :=
  (Heap.get?_update_self (Obj.putSet es' t') ho (by rw [putSet_of es' t' hd]; rfl)).trans (by rw [putSet_of es' t' hd])
variable {A : Around} {E : Value → Shared → Prop} {s : Shared} {a : Addr}
/-- the table is stored, and laid anew if it is too full -/
theorem os_store {o : Obj} {es0 : Array (Int × Value)} {ep : Nat} {t0 : SetTable} {g : Bool → Sem Unit} (hg : ∀ (b : Bool) (s₁ : Shared) (Q' : Unit → Shared → Prop), Q' () s₁ → wpAny (model P w) A (g b) Q' E s₁)
    (ho : s.heap.get? a = some o) (hex : o.ExactSet) (hd : o.data = .set es0 ep t0) (L : Laid kd key ks es t) {wd : Bool} {R : Option Bool → Shared → Prop}
    (hR : ∀ h', Heap.SameBut a s.heap h' → OSet kd key h' a ks → R (some true) { s with heap := h' }) :
    wpAny (model P w) A (do
        storeSet a es t
        if (!wd && t.tooFull) = true then do
            g (relayAll t es (SetTable.grown es.size)).2.2
            storeSet a (relayAll t es (SetTable.grown es.size)).1 (relayAll t es (SetTable.grown es.size)).2.1
            pure (some true)
          else pure (some true)) R E s := by
  have L2 := L.relay (SetTable.grown es.size)
  have o1 := os_get (es' := es) (t' := t) ho hd
  refine wpAny_bind (wpAny_storeSet_of ho hd ?_ (fits_of_scanBound (by rw [L.size]; exact L.few)))
  by_cases c : (!wd && t.tooFull) = true
  · rw [if_pos c]
    refine wpAny_bind (hg _ _ _ (wpAny_bind (wpAny_storeSet_of o1 rfl (wpAny_pure (hR _ ((Heap.SameBut.update _ a _).trans (Heap.SameBut.update _ a _)) ⟨_, _, _, _, os_get o1 rfl, hex, rfl, L2⟩)) (fits_of_scanBound (by rw [L2.size]; exact L.few)))))
  · rw [if_neg c]
    exact wpAny_pure (hR _ (Heap.SameBut.update _ a _) ⟨_, _, _, _, o1, hex, rfl, L⟩)
theorem os_add {k : κ} {x : Value} {Q : Bool → Shared → Prop} (hk : kd.is k x = true) (hx : key x = k) (sc : x.scannable = true) (R : OSet kd key s.heap a ks) (room : ks.length + 1 < scanBound)
    (hQ : ∀ h' r, Heap.SameBut a s.heap h' → OSet kd key h' a (if k ∈ ks then ks else ks ++ [k]) → Q r { s with heap := h' }) : wpAny (model P w) A (setAddHashed a x (kd.hash k)) Q E s := by
  obtain ⟨o, es, ep, t, ho, hex, hd, L⟩ := R
  unfold setAddHashed setAddHashedIn
  refine wpAny_holding (wpAny_bind (wpAny_setState_of ho hd L.fit ?_))
  dsimp only
  rw [byScan_of sc (by rw [L.size]; exact L.few) L.elems, if_pos rfl]
  unfold setAddByScan
  refine wpAny_bind (wpAny_bind (wpAny_rule (wpAny_bind (wpAny_setScan_of hk ho hd L.fit L.elems ?_))))
  have hm := L.mem k
  cases f : es.toList.findIdx? (fun e => kd.is k e.2) with
  | some j =>
    obtain ⟨hj, pj, _⟩ := List.findIdx?_eq_some_iff_getElem.mp f
    have q := hQ s.heap false (Heap.SameBut.refl a s.heap)
    rw [if_pos (hm.mpr ⟨_, List.getElem_mem hj, pj⟩)] at q
    exact wpAny_pure (wpAny_pure (q ⟨o, es, ep, t, ho, hex, hd, L⟩))
  | none =>
    have no : k ∉ ks := fun z => by
      obtain ⟨e, he, q⟩ := hm.mp z
      have c := List.findIdx?_eq_none_iff.mp f e he
      rw [q] at c
      cases c
    have q := fun h' => hQ h' true
    rw [if_neg no] at q
    have N := L.new hk hx sc no room
    dsimp only
    generalize layNew t es (kd.hash k) x = Y at N ⊢
    obtain ⟨es1, t1, wd, gave⟩ := Y
    dsimp only at N ⊢
    have quiet : ∀ (b : Bool) (s₁ : Shared) (Q' : Unit → Shared → Prop), Q' () s₁ → wpAny (model P w) A (match b with | true => rule "set.scan.the-table-gave-way" | false => pure ()) Q' E s₁ :=
      fun b s₁ Q' z => by cases b <;> first | exact wpAny_pure z | exact wpAny_rule z
    refine wpAny_bind (quiet _ _ _ ?_)
    split
    · refine wpAny_bind ?_
      rw [hashByValue_scannable 8 sc]
      refine wpAny_pure ?_
      refine os_store (ks := ks ++ [k]) (kd := kd) (key := key) quiet ho hex hd ?_ fun h' sb r => wpAny_pure (q h' sb r)
      split
      · exact N
      · exact N.swap (.refl _) (SetTable.fits_plain_off N.fit) N.ris rfl
    · refine wpAny_bind (wpAny_pure ?_)
      simp only [↓reduceIte]
      exact os_store quiet ho hex hd N fun h' sb r => wpAny_pure (q h' sb r)
/-- a.add(x) -/
theorem os_call {k : κ} {x : Value} {Q : Value → Shared → Prop} (hk : kd.is k x = true) (hx : key x = k) (sc : x.scannable = true) (R : OSet kd key s.heap a ks) (room : ks.length + 1 < scanBound) (ha : argsOk "set.add" ⟨[.ref a, x], []⟩)
    (hQ : ∀ h', Heap.SameBut a s.heap h' → OSet kd key h' a (if k ∈ ks then ks else ks ++ [k]) → Q .none { s with heap := h', toks := s.toks + 1 }) : wpAny (model P w) A (call (.builtin "set.add") [.ref a, x]) Q E s := by
  have ty : s.TypeIs (.ref a) "set" := by
    obtain ⟨o, es, ep, t, ho, hex, _⟩ := R
    exact ⟨o, ho, hex.1⟩
  refine wpAny_call_entry F.slot_set_add ty F.entry_set_add ?_ ha
  unfold Builtin.«set.add» Builtin.Frozenset.oneOther Builtin.Frozenset.addrOf setAdd
  simp only [List.isEmpty_nil, bind_assoc]
  refine wpAny_bind (wpAny_pure (wpAny_bind (wpAny_pure (wpAny_bind (wpAny_holding (wpAny_bind (kd.pyHash hk ?_)))))))
  refine os_add (s := { s with toks := s.toks + 1 }) hk hx sc R room fun h' r sb q => ?_
  show wpAny _ _ (ret Value.none) _ _ _
  exact wpAny_pure ⟨_, rfl, hQ h' sb q⟩
theorem os_fresh {h : Heap} : OSet kd key (h.push { cls := .type "set", dict := none, data := .set #[] 0 (.fresh 0 0 (!w.params.followText "set-order")) }) h.objs.size [] := by
  refine ⟨_, #[], 0, _, Heap.get?_push_size _ rfl, ⟨rfl, rfl, rfl⟩, rfl, (fun e he => by simp at he), .refl _, List.nodup_nil, (by show 0 < scanBound; decide), rfl, .nil, ?_⟩
  show _ ∨ (!w.params.followText "set-order") = true
  cases w.params.followText "set-order" <;> simp
/-- sorted(v), v anything that is collected -/
theorem sorted_col {κ' : PyProof.Rows.KeyKind} (hO : κ'.OneLt) {v : Value} {Cq : List Value → Prop} {Q : Value → Shared → Prop}
    (hq : ∀ vs, Cq vs → KeysOf κ' (pairsOf vs) ∧ (∀ v₁ v₂ rest, vs = v₁ :: v₂ :: rest → keyKind' (v₁ :: v₂ :: rest).toArray = pure oneType') ∧ vs.length ≤ sizeLine)
    (col : ∀ Qc : List Value → Shared → Prop, (∀ s1 vs, (∀ b o, s.heap.get? b = some o → s1.heap.get? b = some o) → s.heap.objs.size ≤ s1.heap.objs.size → s1.gens = s.gens → s1.os = s.os → Cq vs → Qc vs s1) → wpAny (model P w) A.in1 (collect v) Qc E s)
    (h : ∀ (s' : Shared) (p : Addr) (vs : List Value) (st : SortSt) (c : Nat), Cq vs → (∀ b o, s.heap.get? b = some o → s'.heap.get? b = some o) → s'.gens = s.gens → s'.os = s.os → s.heap.objs.size ≤ p →
      s'.heap.get? p = some (seqObj "list" ((arrOf st).map (·.2)) c) → (arrOf st).Perm (pairsOf vs) → SortedToK κ' (arrOf st) (pairsOf vs).size → Q (.ref p) s') :
    wpAny (model P w) A (call (.builtin "sorted") [v]) Q E s := by
  refine Calls.call_function_entry kind_sorted plain_sorted entry_sorted (args_sorted1 _) ?_
  unfold Builtin.«sorted»
  refine wpAny_bind (m := checkCount "sorted" 1 1 _) (wpAny_pure (wpAny_bind (col _ fun s1 vs k1 z1 g1 o1 cq => ?_)))
  obtain ⟨h0, hk, hl⟩ := hq vs cq
  refine wpAny_bind (wpAny_newList ?_ hl)
  have at1 : (s1.heap.push (seqObj "list" vs.toArray 0)).get? s1.heap.objs.size = some (seqObj "list" vs.toArray 0) := Heap.get?_push_size _ rfl
  refine wpAny_bind (wpAny_holding (wpAny_call_entry slot_list_sort ⟨_, at1, rfl⟩ entry_list_sort (list_sort_treeKAny hO at1 h0 hk hl fun st a1 a2 => ⟨_, rfl, ?_⟩) (args_list_sort _)))
  obtain ⟨c, hc⟩ := sortedHeap_at (vs := vs) (out := (arrOf st).map (·.2)) at1
  refine wpAny_pure ⟨_, rfl, h _ s1.heap.objs.size vs st c cq (fun b o e => ?_) g1 o1 z1 hc a1 a2⟩
  have lt := Heap.lt_size (k1 b o e)
  exact (sortedHeap_old (Nat.ne_of_lt lt) (by rw [size_push']; exact Nat.lt_succ_of_lt lt)).trans (Heap.get?_push_of_some _ (k1 b o e))
/-- sorted(a), a set of texts -/
theorem tx_sorted {zs : List Str} {Q : Value → Shared → Prop} (R : OSet (PySem.strKind P w) strOf s.heap a zs) (hh : A.handled = none)
    (hQ : ∀ (s' : Shared) (p : Addr) (out : Array Value) (c : Nat) (ys : List Str), (∀ b o, s.heap.get? b = some o → s'.heap.get? b = some o) → s'.gens = s.gens → s'.os = s.os → s.heap.objs.size ≤ p →
      s'.heap.get? p = some (seqObj "list" out c) → StrsAre out.toList ys → ys.Perm zs → sortedS ys = true → Q (.ref p) s') :
    wpAny (model P w) A (call (.builtin "sorted") [.ref a]) Q E s := by
  obtain ⟨o, es, ep, t, ho, hex, hd, L⟩ := R
  have few : es.size < scanBound := by rw [L.size]; exact L.few
  have txs : ∀ vs : List Value, vs.Perm (es.toList.map (·.2)) → StrsAre vs (vs.map strOf) := fun vs p => strsAre_map vs fun v hv => by
    obtain ⟨e, he, rfl⟩ := List.mem_map.mp (p.mem_iff.mp hv)
    obtain ⟨k, q⟩ := Value.isStrOf_shape (L.ent e he).1
    first | exact ⟨_, k, q⟩ | exact ⟨k, q⟩ | exact ⟨_, _, q⟩
  refine sorted_col strKind_oneLt (Cq := fun vs => vs.Perm (es.toList.map (·.2))) (fun vs p => ⟨(txs vs p).keysOf, fun v₁ v₂ rest e => keyKind_strs (by rw [← e]; exact txs vs p), by rw [p.length_eq, List.length_map, Array.length_toList]; exact fits_of_scanBound few⟩)
    (fun Qc k => collect_set (A := A.in1) hh ⟨o, ho, hex.1, hd⟩ L.fit few L.ris L.led fun s1 vs k1 z1 g1 o1 p => k s1 vs k1 z1 g1 o1 p)
    fun s' p vs st c pm k1 g1 o1 z1 at' a1 a2 => ?_
  obtain ⟨ys, h1, h2, h3⟩ := sorted_out_str (txs vs pm) a1 a2
  refine hQ s' p _ c ys k1 g1 o1 z1 at' h1 (h2.trans ?_) h3
  have := pm.map strOf
  rw [List.map_map] at this
  exact this.trans L.per
end
end Z

/-! comprehensions with two fors, of any node: one rule for a loop, used twice -/
namespace Z
open PySem PySem.Spec L2 PyProof.Rows
/-- the code of one turn: behind the tests comes `body`, which hands on to what follows -/
def turnOf (t i : Expr) (ifs : List Expr) (it : Value) (env : Env) (body : Sem Fin → Sem Fin) (more : Sem Fin) : Sem Fin := do
  standAt i.pos
  match ← pyNext it with
  | none => pure (.done .next)
  | some v =>
    letOwnedTupleGo t it v
    assign t env v
    let mut ok := true
    for c in ifs do
      if ok then ok ← isTrue c env (eval c env)
    if ok then body more
    else more
/-- what the second clause's source is asked for, and its loop -/
def innerOf (e i1 : Expr) (acc : Value) (env : Env) (more : Sem Fin) : Sem Fin := do
  let x ← eval i1 env
  standAt i1.pos
  let x ← foldedSetIterable i1 env x
  let _ ← runOwn (.compStart e 1 (← holding [x] (pyIter x)) acc env) env
  more
def emitSet (elt : Expr) (acc : Value) (env : Env) : Sem Unit := do
  let v ← eval elt env
  standAt elt.pos
  let _ ← call (.builtin "set.add") [acc, v]
def putSet (elt : Expr) (acc : Value) (env : Env) (more : Sem Fin) : Sem Fin := emitSet elt acc env >>= fun _ => more
theorem turn_out (elt t0 i0 t1 i1 : Expr) (ifs0 ifs1 : List Expr) (scope : Scope) (pos : Pos) (it acc : Value) (env : Env) :
    compTurn (.SetComp elt [⟨t0, i0, ifs0, 0⟩, ⟨t1, i1, ifs1, 0⟩] scope pos) 0 it acc env =
      turnOf t0 i0 ifs0 it env (innerOf (.SetComp elt [⟨t0, i0, ifs0, 0⟩, ⟨t1, i1, ifs1, 0⟩] scope pos) i1 acc env) (again (.compLoop (.SetComp elt [⟨t0, i0, ifs0, 0⟩, ⟨t1, i1, ifs1, 0⟩] scope pos) 0 it acc env)) := by rfl
theorem turn_in (elt t0 i0 t1 i1 : Expr) (ifs0 ifs1 : List Expr) (scope : Scope) (pos : Pos) (it acc : Value) (env : Env) :
    compTurn (.SetComp elt [⟨t0, i0, ifs0, 0⟩, ⟨t1, i1, ifs1, 0⟩] scope pos) 1 it acc env =
      turnOf t1 i1 ifs1 it env (putSet elt acc env) (again (.compLoop (.SetComp elt [⟨t0, i0, ifs0, 0⟩, ⟨t1, i1, ifs1, 0⟩] scope pos) 1 it acc env)) := by rfl
/-- more is known of the slots, none forgotten -/
def Ext (σ σ' : L2.St) : Prop := σ.length = σ'.length ∧ ∀ (j : Nat) v, σ[j]? = some (some v) → σ'[j]? = some (some v)
theorem ext_of {σ σ' : L2.St} {vs : List Nat} (h : wipe σ' vs = wipe σ vs) : Ext (wipe σ vs) σ' := ⟨by rw [← h, wipe_length], fun j v e => by rw [← h] at e; exact (wipe_some e).1⟩
/-- one clause, seen by slots and heap: at turn i the walk stops and Qd holds, or goes on through the target, the tests and Bd to Nx -/
def Clause (Rl : L2.St → Prop) (J : It) (g : TG) (tt : TT) (Bd : L2.St → Hp → (Hp → Prop) → Prop) (σ : L2.St) (Qd : Hp → Prop) (H0 : Hp) : Prop := ∃ W : Nat → Nat → Hp → Prop, (∃ m, W 0 m H0) ∧ ∀ i m H, W i m H →
  (J.stop i H ∧ Qd H) ∨ (J.go i H ∧ ∃ Nx : Hp → Prop, (∀ H', Nx H' → ∃ m', m' < m ∧ W (i + 1) m' H') ∧ ∀ x H', J.yld i H x H' → g x σ H' fun σ2 H2 => Rl σ2 ∧ tt σ2 H2 fun b H3 => if b = true then Bd σ2 H3 Nx else Nx H3)
theorem tkF {α : Type} {M : Model} {A : Around} {t : Sem α} {Q : α → Shared → Prop} {E : Value → Shared → Prop} {s : Shared} {n0 : Nat} (h0 : n0 ≤ s.toks) (h : wpAny M A t Q E s) : wpAny M A t (fun a s' => n0 ≤ s'.toks ∧ Q a s') E s :=
  wpAny_mono (wpAny_toks_of h0 h) (fun _ _ q => q) fun _ _ q => q.2
section
variable {B : Cx}
theorem loop_run {n0 : Nat} {Rl : L2.St → Prop} {e t i : Expr} {ifs : List Expr} {k : Nat} {it : Addr} {acc : Value} {body : Sem Fin → Sem Fin} {fp : List Addr} {tn : Nat → Heap → Prop} {J : It} {g : TG} {tt : TT} {Bd : L2.St → Hp → (Hp → Prop) → Prop} {pins : List (Addr × Obj)} {σ : L2.St} {Qd : Hp → Prop} {H : Hp} {s : Shared} {R : Result → Shared → Prop}
    (hu : B.A.under (.compLoop e k (.ref it) acc B.env) = B.A) (hq : (model B.prog B.w).den (.compLoop e k (.ref it) acc B.env) = (compTurn e k (.ref it) acc B.env).onRaise fun x => do noteFrame x B.env; theTreesLotGoes x) (ht : compTurn e k (.ref it) acc B.env = turnOf t i ifs (.ref it) B.env body (again (.compLoop e k (.ref it) acc B.env))) (T : Turn B.prog B.w B.K t J fp it tn) (hc : B.calm = true) (hx : B.xe = fun _ _ => False) (pg : PG B t g)
    (pt : ∀ (pins : List (Addr × Obj)) (s : Shared) (σ : L2.St) (H : Hp) (Q : Bool → Hp → Prop), n0 ≤ s.toks → Inv B pins σ H s → tt σ H Q → wpAny (model B.prog B.w) B.A (forIn ifs true fun c r => if r = true then do let ok ← isTrue c B.env (eval c B.env); pure (ForInStep.yield ok) else pure (ForInStep.yield r)) (TP B pins σ Q) B.xe s)
    (hR : ∀ σ2, Rl σ2 → Ext σ σ2) (stat : ∀ {pins' : List (Addr × Obj)} {σ' : L2.St} {H' : Hp} {s' : Shared}, Inv B pins σ' H' s' → (∀ b ∈ fp, H' b = none) → ∀ b ∈ fp, FpOk B pins H' b)
    (hb : ∀ (pins' : List (Addr × Obj)) (σ2 : L2.St) (H3 : Hp) (s' : Shared) (Nx : Hp → Prop) (more : Sem Fin) (Qm : Fin → Shared → Prop), n0 ≤ s'.toks → Ext σ σ2 → Inv B pins' σ2 H3 s' → Bd σ2 H3 Nx →
      (∀ s4 σ4 H4, n0 ≤ s4.toks → Inv B pins' σ4 H4 s4 → Ext σ σ4 → Nx H4 → wpAny (model B.prog B.w) B.A more Qm (fun _ _ => False) s4) → wpAny (model B.prog B.w) B.A (body more) Qm (fun _ _ => False) s')
    (h0 : n0 ≤ s.toks) (I : Inv B pins σ H s) (st : tn 0 s.heap) (nf : ∀ b ∈ fp, H b = none) (C : Clause Rl J g tt Bd σ Qd H)
    (fin : ∀ s' H', Inv B pins σ H' s' → Qd H' → R (.ok .next) s') : codeAny (model B.prog B.w) B.A (.compLoop e k (.ref it) acc B.env) R s := by
  obtain ⟨W, ⟨m, w0⟩, turn⟩ := C
  refine codeAny_loop rfl (fun n s' => n0 ≤ s'.toks ∧ ∃ i H', Inv B pins σ H' s' ∧ tn i s'.heap ∧ (∀ b ∈ fp, H' b = none) ∧ W i n H') ?_ m ⟨h0, 0, H, I, st, nf, w0⟩
  rintro n s1 ⟨t1, i, H1, I1, st1, n1, w1⟩
  rw [hu, hq]
  refine wpAny_noted ?_
  rw [ht]
  unfold turnOf
  refine wpAny_bind (wpAny_standAt (wpAny_bind ?_))
  rcases turn i n H1 w1 with ⟨stop, qd⟩ | ⟨go, Nx, hNx, step⟩
  · refine thnF (T.done B rfl rfl rfl hc i pins s1 σ H1 (fun _ _ => False) I1 (stat (pins' := pins) I1 n1) st1 stop) fun r s2 ⟨hr, I2⟩ => ?_
    subst hr
    exact wpAny_pure (fin s2 H1 I2 qd)
  · refine thnF (tkF t1 (T.item B rfl rfl rfl hc i pins s1 σ H1 (fun _ _ => False) I1 (stat (pins' := pins) I1 n1) st1 go)) fun r s2 ⟨t2, u, hr, h2⟩ => ?_
    subst hr
    refine wpAny_bind (thnF (tkF t2 h2) fun _ s3 ⟨t3, x, H3, I3, r3, y3, st3, n3⟩ => ?_)
    have P3 := I3.pinned (stat (pins' := pins) I3 n3) (T.obj _ _ st3)
    have pgr := pg.run _ s3 σ H3 x u _ P3 r3 (step x H3 y3)
    rw [hx] at pgr
    refine wpAny_bind (thnF (tkF t3 pgr) fun _ s4 ⟨t4, σ4, H4, I4, x4, q4⟩ => ?_)
    have x4 := hR _ x4
    have ptr := pt _ s4 σ4 H4 _ t4 I4 q4
    rw [hx] at ptr
    refine wpAny_bind (thnF (tkF t4 ptr) fun b s5 ⟨t5, H5, I5, q5⟩ => ?_)
    have fin5 : ∀ s' σ' H', n0 ≤ s'.toks → Inv B (pins ++ pinsAt fp s3.heap) σ' H' s' → Ext σ σ' → Nx H' → ∃ m, m < n ∧ n0 ≤ s'.toks ∧ ∃ i H', Inv B pins σ H' s' ∧ tn i s'.heap ∧ (∀ b ∈ fp, H' b = none) ∧ W i m H' := fun s' σ' H' t' I' ex nx => by
      obtain ⟨m', lt, w'⟩ := hNx H' nx
      have at3 : ∀ b ∈ fp, ∀ o, s3.heap.get? b = some o → s'.heap.get? b = some o ∧ H' b = none := fun b hb o q =>
        let z := I'.pin (b, o) (List.mem_append_right _ (List.mem_append_right _ (mem_pinsAt hb q)))
        ⟨z.1, z.2.1⟩
      refine ⟨m', lt, t', i + 1, H', I'.unpinned.weak ex.1 ex.2, T.keep _ _ _ st3 fun b hb o q => (at3 b hb o q).1, fun b hb => ?_, w'⟩
      obtain ⟨o, q, _⟩ := T.obj _ _ st3 b hb
      exact (at3 b hb o q).2
    cases b with
    | false =>
      simp only [Bool.false_eq_true, if_false] at q5 ⊢
      exact wpAny_pure ⟨rfl, fin5 s5 σ4 H5 t5 I5 x4 q5⟩
    | true =>
      simp only [if_true] at q5 ⊢
      exact wpAny_mono (hb _ σ4 H5 s5 Nx _ _ t5 x4 I5 q5 fun s6 σ6 H6 t6 I6 x6 nx => wpAny_pure ⟨rfl, fin5 s6 σ6 H6 t6 I6 x6 nx⟩) (fun _ _ z => z) fun _ _ z => z.elim
theorem start_run {e : Expr} {k : Nat} {it acc : Value} {env : Env} {c : Comprehension} {P : Program} {w : World} {A : Around} {R : Result → Shared → Prop} {s : Shared}
    (hu : A.under (.compStart e k it acc env) = A) (hq : (model P w).den (.compStart e k it acc env) = (compStart e k it acc env).onRaise fun x => do noteFrame x env; standAt theWindowsPlace) (hl : (Code.compLoop e k it acc env).quiet = true)
    (hcl : (clausesOf e)[k]? = some c) (ha : c.is_async = 0) (loop : codeAny (model P w) A (.compLoop e k it acc env) R s) (self : ∀ (Q E : Value → Shared → Prop), Q it s → wpAny (model P w) A (pyIter it) Q E s) :
    codeAny (model P w) A (.compStart e k it acc env) R s := by
  refine codeAny_of_tree ?_
  rw [hu, hq]
  refine wpAny_notedAt ?_
  unfold compStart
  rw [hcl]
  simp only [Option.elim, ha]
  show wpAny _ _ (ask >>= _) _ _ s
  refine wpAny_bind (wpAny_askSetting (wpAny_ite ?_))
  split
  · first
      | exact wpAny_bind (wpAny_pure (wpAny_pure ⟨hl, loop⟩))
      | exact wpAny_pure ⟨hl, loop⟩
  · first
      | exact wpAny_bind (wpAny_rule (wpAny_bind (wpAny_standAt (wpAny_bind (self _ _ (wpAny_pure ⟨hl, loop⟩))))))
      | (refine wpAny_bind (wpAny_rule ?_); show wpAny _ _ (standAt c.iter.pos >>= _) _ _ s; exact wpAny_bind (wpAny_standAt (wpAny_bind (self _ _ (wpAny_pure ⟨hl, loop⟩)))))
end
/-! sets of texts, tracked -/
def TxO (P : Program) (w : World) (a : Addr) (zs : List Str) : HO := .ext fun h => OSet (PySem.strKind P w) strOf h a zs
theorem txo_new {P P' : Program} {w : World} {H : Hp} {h : Heap} {a : Addr} {zs : List Str} (R : OSet (PySem.strKind P w) strOf h a zs) : ObjOk P' w H h a (TxO P w a zs) := by
  have ⟨o, _, _, _, ho, _⟩ := R
  exact ⟨R, ⟨o, ho⟩, fun h1 h2 p k => OSet.at p k⟩
section
variable {X : Cx}
theorem txo_get {pins : List (Addr × Obj)} {σ : L2.St} {H : Hp} {s : Shared} {a : Addr} {zs : List Str} (I : Inv X pins σ H s) (ha : H a = some (TxO X.prog X.w a zs)) : OSet (PySem.strKind X.prog X.w) strOf s.heap a zs := (I.hok a _ ha).1
/-- one more -/
def more1 (zs : List Str) (z : Str) : List Str := if z ∈ zs then zs else zs ++ [z]
theorem txo_add {pins : List (Addr × Obj)} {σ : L2.St} {H : Hp} {s : Shared} {E : Value → Shared → Prop} {D : Addr} {zs : List Str} {z : Str} {tk : Tok} {Q : Value → Shared → Prop} (I : Inv X pins σ H s) (hD : H D = some (TxO X.prog X.w D zs)) (room : zs.length + 1 < scanBound)
    (h : ∀ s', Inv X pins σ (upd H D (TxO X.prog X.w D (more1 zs z))) s' → Q .none s') : wpAny (model X.prog X.w) X.A (call (.builtin "set.add") [.ref D, .str z tk]) Q E s := by
  refine os_call (kd := PySem.strKind X.prog X.w) (key := strOf) (k := z) (strKind_is _ _ _ _) rfl rfl (txo_get I hD) room (F.args_set_add_2 _ _) fun h' sb r => ?_
  have he : ∃ u, h'.get? D = some u := by
    have ⟨o, _, _, _, ho, _⟩ := r
    exact ⟨o, ho⟩
  exact h _ (I.write (e := D) (t' := s.toks + 1) (by rw [hD]; trivial) (.inl rfl) (fun b u hb hu => (sb.2 b hb).trans hu) he (txo_new r))
/-- sorted(a), a set of texts -/
def rSortTx (P : Program) (w : World) : List V → Hp → VK → Prop := fun vs H Q => ∃ (a : Addr) (zs : List Str), vs = [V.ref a] ∧ H a = some (TxO P w a zs) ∧
  ∀ (ys : List Str) (p : Addr), ys.Perm zs → sortedS ys = true → zs.Nodup → H p = none → Q (.ref p) (upd H p (.lst (ys.map V.str)))
theorem cr_sortTx (hc : X.calm = true) : CallR X (.builtin "sorted") (rSortTx X.prog X.w) := by
  rintro pins s σ H _ us Q I r ⟨a, zs, rfl, ha, q⟩
  have R := txo_get I ha
  have nd : zs.Nodup := by
    obtain ⟨_, _, _, _, _, _, _, L⟩ := R
    exact L.nd
  have few : zs.length < scanBound := by
    obtain ⟨_, _, _, _, _, _, _, L⟩ := R
    exact L.few
  rw [Vals.ref1 r]
  refine tx_sorted R (I.ok.hd hc) fun s' p out c ys k g o hp at' txt pm so => ?_
  have ok : (ys.map V.str).length ≤ sizeLine := by rw [List.length_map, pm.length_eq]; exact fits_of_scanBound few
  have hn : H p = none := I.hok.fresh hp
  have J : Inv X pins σ (upd H p (.lst (ys.map V.str))) { s with heap := s'.heap, gens := s'.gens, drawn := s'.drawn, toks := s'.toks } :=
    I.call (ch := []) (Un.laid k hp hn) (I.hok.laid k hp ⟨ok, out.toList, c, vals_of_strs txt, at'⟩) (by rw [g]; exact I.bare) (fun _ z => nomatch z)
  have e : s' = { s with heap := s'.heap, gens := s'.gens, drawn := s'.drawn, toks := s'.toks } := by
    cases s'; cases s; cases o; rfl
  rw [e]
  exact ⟨.ref p, _, J, rfl, q ys p pm so nd hn⟩
/-- {elt for tg in iter if .. for tg1 in iter1 if ..}, elt a text -/
def tPut (P : Program) (w : World) (D : Addr) (te : TE) : L2.St → Hp → (Hp → Prop) → Prop := fun σ H Nx => te σ H fun y H1 => ∃ z zs, y = .str z ∧ H1 D = some (TxO P w D zs) ∧ zs.length + 1 < scanBound ∧ Nx (upd H1 D (TxO P w D (more1 zs z)))
def tSc2 (P : Program) (w : World) (wi : TI) (g : TG) (tt : TT) (wi1 : TI) (g1 : TG) (tt1 : TT) (te : TE) (vs vs1 : List Nat) : TE := fun σ H Q => wi σ H fun J H1 => ∀ D, H1 D = none →
  Clause (Ext (wipe σ vs)) J g tt (fun σ2 H3 Nx => wi1 σ2 H3 fun J1 H4 => Clause (Ext (wipe σ2 vs1)) J1 g1 tt1 (tPut P w D te) (wipe σ2 vs1) Nx H4) (wipe σ vs) (fun H => Q (.ref D) H) (upd H1 D (TxO P w D []))
end
end Z

/-! a set comprehension of texts with two fors, and its sorting -/
namespace Z
open PySem PySem.Spec L2 PyProof.Rows
section
variable {X : Cx}
theorem ext_trans {σ σ2 : L2.St} {vs vs1 : List Nat} (hv : ∀ i ∈ vs1, i ∈ vs) (h : Ext (wipe σ vs) σ2) : Ext (wipe σ vs) (wipe σ2 vs1) :=
  ⟨by rw [h.1, wipe_length], fun j v e => by rw [wipe_out fun z => (wipe_some e).2 (hv j z)]; exact h.2 j v e⟩
/-- a block's context, whichever state it starts in -/
abbrev InBlk (X : Cx) (scope : Scope) (p : Cx → Prop) : Prop := ∀ (s : Shared) (H : Hp) (C : Addr) (cl : List (Str × Addr)) (fp : List Addr), p (X.blk s H scope (compEnvC scope cl C X.env) fp)
theorem blk_stat {scope : Scope} {cenv : Env} {s : Shared} {H : Hp} {fp : List Addr} {pins' : List (Addr × Obj)} {σ' : L2.St} {H' : Hp} {s' : Shared} (I : Inv (X.blk s H scope cenv fp) pins' σ' H' s') (hn : ∀ b ∈ fp, H' b = none) :
    ∀ b ∈ fp, FpOk (X.blk s H scope cenv fp) [] H' b := fun b hb =>
  ⟨hn b hb, (I.ok.exf b hb).1, I.ok.exfs b hb, .inl hb, fun x c e => (I.ok.exf b hb).2 x c e, fun p hp => absurd (show p ∈ ([] : List (Addr × Obj)) ++ [] from hp) (by simp)⟩
theorem pe_sc2 {elt tg iter tg1 iter1 : Expr} {ifs ifs1 : List Expr} {scope : Scope} {own : List (Str × Nat)} {vs1 : List Nat} {pos : Pos} {wi wi1 : TI} {g g1 : TG} {tt tt1 : TT} {te : TE} (hc : X.calm = true) (hN : X.N.Nodup) (hi : PI X tg iter wi) (ok : BlkOk X.N X.env.scope scope own) (hv : ∀ i ∈ vs1, i ∈ own.map (·.2))
    (hg : InBlk X scope fun B => PG B tg g) (ht : InBlk X scope fun B => PTs B ifs tt) (hi1 : InBlk X scope fun B => PI B tg1 iter1 wi1) (hg1 : InBlk X scope fun B => PG B tg1 g1) (ht1 : InBlk X scope fun B => PTs B ifs1 tt1) (he : InBlk X scope fun B => PE B elt te)
    (hs : ∀ x, foldedSetIterable iter X.env x = pure x := by intro _; rfl) (hs1 : ∀ env x, foldedSetIterable iter1 env x = pure x := by intro _ _; rfl) :
    PE X (.SetComp elt [⟨tg, iter, ifs, 0⟩, ⟨tg1, iter1, ifs1, 0⟩] scope pos) (tSc2 X.prog X.w wi g tt wi1 g1 tt1 te (own.map (·.2)) vs1) := by
  refine ⟨fun pins s σ H Q I h => ?_⟩
  rw [PpSet.eval_SetComp]
  have hfree : ∀ y ∈ scope.names, y.2 = .free → ∃ c, X.env.cells.lookup y.1 = some c := fun y hy e => I.ok.has _ (ok.free y hy e)
  refine wpAny_comprehension_free (use := none) rfl hs (closure_ok hfree) ok.kind (fun y hy e => by rw [ok.uniq y hy, e])
    (thn (hi.run pins s σ H _ I h) fun xv s1 hx => thn hx fun itv s2 ⟨it, fp, tn, J, H2, e, I2, T, st2, f2, q⟩ => ?_)
  subst e
  refine PpSet.newSet_ok (newEnv_comp ?_)
  have fresh : H2 s2.heap.objs.size = none := I2.hok.fresh (Nat.le_refl _)
  have C0 := q s2.heap.objs.size fresh
  -- the empty set
  have grown : ∀ b o, s2.heap.get? b = some o → (s2.heap.push { cls := .type "set", dict := none, data := .set #[] 0 (.fresh 0 0 (!X.w.params.followText "set-order")) }).get? b = some o := fun b o e => Heap.get?_push_of_some _ e
  have below : ∀ b ∈ fp, b < s2.heap.objs.size := fun b hb => by
    obtain ⟨o, e, _⟩ := T.obj _ _ st2 b hb
    exact Heap.lt_size e
  have I3 : Inv X pins σ (upd H2 s2.heap.objs.size (TxO X.prog X.w s2.heap.objs.size [])) { s2 with heap := s2.heap.push { cls := .type "set", dict := none, data := .set #[] 0 (.fresh 0 0 (!X.w.params.followText "set-order")) } } :=
    I2.laid (t' := s2.toks) grown (Nat.le_refl _) (txo_new os_fresh)
  have f3 : ∀ b ∈ fp, FpOk X pins (upd H2 s2.heap.objs.size (TxO X.prog X.w s2.heap.objs.size [])) b ∧ b < (s2.heap.push { cls := .type "set", dict := none, data := .set #[] 0 (.fresh 0 0 (!X.w.params.followText "set-order")) }).objs.size := fun b hb =>
    ⟨⟨by rw [upd_ne (Nat.ne_of_lt (below b hb))]; exact (f2 b hb).1, (f2 b hb).2⟩, by rw [Heap.size_push]; exact Nat.lt_succ_of_lt (below b hb)⟩
  have st3 : tn 0 (s2.heap.push { cls := .type "set", dict := none, data := .set #[] 0 (.fresh 0 0 (!X.w.params.followText "set-order")) }) := T.keep _ _ _ st2 fun b _ o e => grown b o e
  generalize s2.heap.objs.size = D at C0 I3 f3 ⊢
  generalize hS3 : ({ s2 with heap := s2.heap.push { cls := .type "set", dict := none, data := .set #[] 0 (.fresh 0 0 (!X.w.params.followText "set-order")) } } : Shared) = s3 at I3 ⊢
  have h3 : s2.heap.push { cls := .type "set", dict := none, data := .set #[] 0 (.fresh 0 0 (!X.w.params.followText "set-order")) } = s3.heap := by rw [← hS3]
  rw [h3] at f3 st3
  generalize upd H2 D (TxO X.prog X.w D []) = H3 at C0 I3 f3
  -- the block
  have I4 := block_start I3 ok hN f3
  have pg := hg s3 H3 s3.heap.objs.size (cellsFrom (s3.heap.objs.size + 1) scope.names (cloFrom X.env.cells scope.names [])) fp
  have pt := ht s3 H3 s3.heap.objs.size (cellsFrom (s3.heap.objs.size + 1) scope.names (cloFrom X.env.cells scope.names [])) fp
  have pi1 := hi1 s3 H3 s3.heap.objs.size (cellsFrom (s3.heap.objs.size + 1) scope.names (cloFrom X.env.cells scope.names [])) fp
  have pg1 := hg1 s3 H3 s3.heap.objs.size (cellsFrom (s3.heap.objs.size + 1) scope.names (cloFrom X.env.cells scope.names [])) fp
  have pt1 := ht1 s3 H3 s3.heap.objs.size (cellsFrom (s3.heap.objs.size + 1) scope.names (cloFrom X.env.cells scope.names [])) fp
  have pe := he s3 H3 s3.heap.objs.size (cellsFrom (s3.heap.objs.size + 1) scope.names (cloFrom X.env.cells scope.names [])) fp
  show codeAny _ _ (.compStart (.SetComp elt [⟨tg, iter, ifs, 0⟩, ⟨tg1, iter1, ifs1, 0⟩] scope pos) 0 (.ref it) (.ref D) (compEnvC scope (cellsFrom (s3.heap.objs.size + 1) scope.names (cloFrom X.env.cells scope.names [])) s3.heap.objs.size X.env)) (compPost (model X.prog X.w) X.A X.xe none _ (.ref D) s3.heap.objs.size) { s3 with heap := pushCells (s3.heap.push { cls := .type "dict", data := .dict #[] }) scope.names }
  have st4 : tn 0 (pushCells (s3.heap.push { cls := .type "dict", data := .dict #[] }) scope.names) := T.keep _ _ _ st3 fun b _ o e => pushCells_keeps _ _ _ _ (Heap.get?_push_of_some _ e)
  generalize hce : compEnvC scope (cellsFrom (s3.heap.objs.size + 1) scope.names (cloFrom X.env.cells scope.names [])) s3.heap.objs.size X.env = ce at I4 pg pt pe pi1 pg1 pt1 ⊢
  have cL : ce.locals = s3.heap.objs.size := by subst hce; rfl
  have loop := loop_run (n0 := 0) (B := X.blk s3 H3 scope ce fp) (k := 0) (acc := .ref D) (R := compPost (model X.prog X.w) X.A X.xe none (EP X pins σ Q) (.ref D) s3.heap.objs.size) rfl rfl (turn_out elt tg iter tg1 iter1 ifs ifs1 scope pos (.ref it) (.ref D) ce) T hc rfl pg (fun pins s σ H Q _ => pt.run pins s σ H Q) (fun _ h => h)
    (fun I' hn => blk_stat I' hn) ?_ (Nat.zero_le _) I4 st4 (fun b hb => (f3 b hb).1.1) C0 ?_
  · exact start_run rfl rfl rfl rfl rfl loop fun Qs E hq => T.self X.A 0 _ _ _ st4 hq
  · -- the inner loop
    intro pins' σ2 H4 s5 Nx more Qm _ x2 I5 bd fin5
    unfold innerOf
    refine wpAny_bind (thnF (pi1.run pins' s5 σ2 H4 _ I5 bd) fun xv s6 hx => wpAny_bind (wpAny_standAt (wpAny_bind (wpAny_of_eq (hs1 _ _) (wpAny_bind (wpAny_holding (thnF hx fun itv s7 ⟨it1, fp1, tn1, J1, H7, e, I7, T1, st7, f7, C1⟩ => ?_)))))))
    subst e
    refine wpAny_bind (wpAny_runOwn ?_)
    rw [Around.mark_none]
    refine start_run rfl rfl rfl rfl rfl (loop_run (n0 := 0) (B := X.blk s3 H3 scope ce fp) (k := 1) (acc := .ref D) rfl rfl (turn_in elt tg iter tg1 iter1 ifs ifs1 scope pos (.ref it1) (.ref D) ce) T1 hc rfl pg1 (fun pins s σ H Q _ => pt1.run pins s σ H Q) (fun _ h => h) (fun _ hn b hb => ⟨hn b hb, (f7 b hb).2⟩) ?_ (Nat.zero_le _) (I7.weak (wipe_length _ _) fun j v e => (wipe_some e).1) st7 (fun b hb => (f7 b hb).1) C1 fun s8 H8 I8 nx => fin5 s8 _ H8 (Nat.zero_le _) I8 (ext_trans hv x2) nx)
      fun Qs E hq => T1.self X.A 0 _ _ _ st7 hq
    intro pins1 σ9 H9 s9 Nx1 more1 Qm1 _ x9 I9 put fin9
    unfold putSet emitSet
    refine wpAny_bind (wpAny_bind (thnF (pe.run _ s9 σ9 H9 _ I9 put) fun v s10 ⟨y, H10, I10, r10, z, zs, ey, hD, room, nx⟩ => ?_))
    subst ey
    obtain ⟨tk, rfl⟩ := r10
    refine wpAny_bind (wpAny_standAt (wpAny_bind (txo_add (X := X.blk s3 H3 scope ce fp) I10 hD room fun s11 I11 => wpAny_pure (fin9 s11 σ9 _ (Nat.zero_le _) I11 x9 nx))))
  · -- back in the def
    intro s6 H6 I6 qq
    have I7 : Inv X pins σ H6 s6 := I3.call' (ch := fp) I6.os I6.base I6.hok I6.bare fun b hb => ⟨(f3 b hb).1.2.2.2.1, (f3 b hb).1.2.1, (f3 b hb).1.2.2.2.2.1, (f3 b hb).1.2.2.2.2.2⟩
    have nC : H6 s3.heap.objs.size = none := by
      have z : H6 ce.locals = none := I6.free
      rwa [cL] at z
    obtain ⟨m, hn, _⟩ := I6.loc
    have hn : s6.heap.Ns ce.locals m := hn
    rw [cL] at hn
    obtain ⟨f0, f1, f2', f3', f4, f5⟩ := I3.fpOk (Nat.le_refl _) nC
    exact ⟨m, hn, fun h'' sb => ⟨.ref D, H6, I7.turned (t' := s6.toks) (fun b o hb e => (sb.2 b hb).trans e) f0 f1 f3' f4 f5, rfl, qq⟩⟩
end
end Z

/-! where a token must be out: statements and expressions on the way to a replace -/
namespace Z
open PySem PySem.Spec L2 PyProof.Rows
section
variable {α : Type} {M : Model} {A : Around} {t : Sem α} {Q : α → Shared → Prop} {E : Value → Shared → Prop} {s : Shared}
/-- a token that is out stays out -/
theorem tk1 (h : wpAny M A t Q E s) (h0 : 1 ≤ s.toks) : wpAny M A t (fun a s' => 1 ≤ s'.toks ∧ Q a s') E s :=
  wpAny_mono (wpAny_toks_of h0 h) (fun _ _ q => q) fun _ _ q => q.2
end
section
variable {X : Cx}
theorem pst_forB {tg iter : Expr} {body : List Stmt} {wi : TI} {g : TG} {tb : TS} {pos : Pos} (hp : PassesOwn (model X.prog X.w) X.A X.env X.xe) (hc : X.calm = true) (hi : PI X tg iter wi) (hg : PG X tg g) (hb : PSsT X body tb)
    (hs : ∀ x, foldedSetIterable iter X.env x = pure x := by intro _; rfl) : PST X (.For tg iter body [] pos) (tFor wi g tb) := by
  intro pins s σ H D h0 I h
  refine wpAny_For (thn (tk1 (hi.run pins s σ H _ I h) h0) fun v s1 ⟨h1, q1⟩ => thn (tk1 q1 h1) fun itv s2 ⟨h2, it, fp, tn, J, H2, e, I2, T, st2, f2, W, ⟨m0, w0⟩, turn⟩ => ?_) hs
  subst e
  have free : ∀ {H' : Hp}, (∀ b ∈ fp, H' b = none) → ∀ b ∈ fp, FpOk X pins H' b := fun hn b hb => ⟨hn b hb, (f2 b hb).2⟩
  refine codeAny_forLoop_any (fun n s' => 1 ≤ s'.toks ∧ ∃ i σ' H', Inv X pins σ' H' s' ∧ tn i s'.heap ∧ (∀ b ∈ fp, H' b = none) ∧ W i n σ' H') ?_ m0 ⟨h2, 0, σ, H2, I2, st2, fun b hb => (f2 b hb).1, w0⟩
  rintro n s3 ⟨h3, i, σ3, H3, I3, st3, fr3, w3⟩
  rcases turn i n σ3 H3 w3 with ⟨stop, qn⟩ | ⟨go, N, hN, step⟩
  · refine wpAny_passesOwn hp (thn (T.done X rfl rfl rfl hc i pins s3 σ3 H3 X.xe I3 (free fr3) st3 stop) fun r s4 ⟨hr, I4⟩ => ?_)
    subst hr
    exact wpAny_execs_nil ⟨σ3, H3, I4, qn⟩
  · refine wpAny_passesOwn hp (thn (tk1 (T.item X rfl rfl rfl hc i pins s3 σ3 H3 X.xe I3 (free fr3) st3 go) h3) fun r s4 ⟨h4, u, hr, q4⟩ => ?_)
    subst hr
    refine wpAny_passesOwn hp (thn (tk1 q4 h4) fun _ s5 ⟨h5, x, H5, I5, r5, y5, st5, fr5⟩ => ?_)
    have P5 := I5.pinned (free fr5) (T.obj _ _ st5)
    refine wpAny_passesOwn hp (thn (tk1 (hg.run _ s5 σ3 H5 x u _ P5 r5 (step x H5 y5)) h5) fun _ s6 ⟨h6, σ6, H6, I6, q6⟩ => ?_)
    refine wpAny_passesOwn hp (thn (tk1 (hb _ s6 σ6 H6 _ h6 I6 q6) h6) fun f s7 ⟨h7, q7⟩ => ?_)
    have next : ∀ {σ7 : L2.St} {H7 : Hp}, Inv X (pins ++ pinsAt fp s5.heap) σ7 H7 s7 → N σ7 H7 → ∃ m, m < n ∧ 1 ≤ s7.toks ∧ ∃ i σ' H', Inv X pins σ' H' s7 ∧ tn i s7.heap ∧ (∀ b ∈ fp, H' b = none) ∧ W i m σ' H' := fun {σ7 H7} I7 n7 => by
      obtain ⟨m', lt, w7⟩ := hN σ7 H7 n7
      have at5 : ∀ b ∈ fp, ∀ o, s5.heap.get? b = some o → s7.heap.get? b = some o ∧ H7 b = none := fun b hb o q =>
        let z := I7.pin (b, o) (List.mem_append_right _ (List.mem_append_right _ (mem_pinsAt hb q)))
        ⟨z.1, z.2.1⟩
      refine ⟨m', lt, h7, i + 1, σ7, H7, I7.unpinned, T.keep _ _ _ st5 fun b hb o q => (at5 b hb o q).1, fun b hb => ?_, w7⟩
      obtain ⟨o, q, _⟩ := T.obj _ _ st5 b hb
      exact (at5 b hb o q).2
    cases f with
    | next => exact q7.elim fun σ7 q => q.elim fun H7 ⟨I7, n7⟩ => next I7 n7
    | cont => exact q7.elim fun σ7 q => q.elim fun H7 ⟨I7, n7⟩ => next I7 n7
    | brk => obtain ⟨σ7, H7, I7, q7⟩ := q7; exact ⟨σ7, H7, I7.unpinned, q7⟩
    | ret v => obtain ⟨x7, σ7, H7, I7, r7, q7⟩ := q7; exact ⟨x7, σ7, H7, I7.unpinned, r7, q7⟩
theorem pst_set {i : Nat} {x : Str} {e : Expr} {te : TE} {pos' pos : Pos} (hN : X.N.Nodup) (hi : X.N[i]? = some x) (hx : Loc X.env.scope x) (he : PET X e te) (hs : swapsWith e (some (.Name x pos')) pos.line X.env = pure false := by rfl) (hf : X.fn x = true ∨ X.env.scope.names.lookup x = some .local := by first | exact .inl rfl | exact .inr rfl | assumption) :
    PST X (.Assign [.Name x pos'] e pos) (tAsg te (gName i)) := fun pins s σ H D h0 I h =>
  wpAny_Assign_Name (thn (he pins s σ H _ h0 I h) fun v s1 ⟨y, H1, I1, r1, q1⟩ => store_ok I1 hN hi hx r1 (fun s2 I2 => ⟨_, H1, I2, q1⟩) hf) hs
/-- one value of PE's form, told that a token is out -/
theorem pet_bnd {e : Expr} {te : TE} (h : PET X e te) {pins : List (Addr × Obj)} {s : Shared} {σ : L2.St} {H : Hp} {Q : VK} (h0 : 1 ≤ s.toks) (I : Inv X pins σ H s) (q : te σ H Q) :
    wpAny (model X.prog X.w) X.A (eval e X.env) (fun v s' => 1 ≤ s'.toks ∧ EP X pins σ Q v s') X.xe s := tk1 (h pins s σ H Q h0 I q) h0
theorem pet_dget {o i : Expr} {td ty : TE} {pos : Pos} (hu : X.A.units + 64 < cLine) (ho : PE X o td) (hi : PET X i ty) (hs : NoSl i) : PET X (.Subscript o i pos) (tDGet td ty) := fun pins s σ H Q h0 I h =>
  subD_of PySem.F.slot_dict_getitem.lookup hs (thn (tk1 (ho.run pins s σ H _ I h) h0) fun u s1 ⟨h1, x, H1, I1, rx, q1⟩ => thn (hi pins s1 σ H1 _ h1 I1 q1) fun iv s2 ⟨y, H2, I2, ry, a, v, ex, g, q2⟩ => by
    subst ex
    obtain rfl : u = Value.ref a := rx
    exact ⟨dict_typeIs I2 g, d_getItem (by omega) I2 g ry fun w' s3 I3 rw' => ⟨v, H2, I3, rw', q2⟩⟩)
theorem pet_callTy1 {x : Str} {T : String} {r : List V → Hp → VK → Prop} {e : Expr} {te : TE} {p pos : Pos} (hc : CallR X (.type T) r) (hg : Gl X x) (hm : X.mg x = none) (hv : bootBuiltins x = some (.type T)) (ha : PET X e te) (hn : x ≠ "__name__" := by decide) (hdb : (x == ("__debug__" : Str)) = false := by decide)
    (he : starEach [e] X.env = (false, eval e X.env) :: starEach [] X.env := by rfl) : PET X (.Call (.Name x p) [e] [] pos) (tCB r (tCons te tNil)) := fun pins s σ H Q h0 I h =>
  wpAny_Call_Name_kw (ld_blt I hg hm hv (PyProof.Rows.callWith_type1 (thn (pat_cons ha pat_nil he pos pins s σ H _ h0 I h) fun us s1 ⟨vs, H1, I1, r1, q1⟩ => hc pins s1 σ H1 vs us Q I1 r1 q1) he rfl) hn hdb)
/-- a test, tests, a token being out -/
def PTT (X : Cx) (e : Expr) (t : TT) : Prop :=
  ∀ (pins : List (Addr × Obj)) (s : Shared) (σ : L2.St) (H : Hp) (Q : Bool → Hp → Prop), 1 ≤ s.toks → Inv X pins σ H s → t σ H Q → wpAny (model X.prog X.w) X.A (isTrue e X.env (eval e X.env)) (TP X pins σ Q) X.xe s
theorem ptt_cmpR {a b : Expr} {ta tb : TE} {op : CmpOp} {r : R2} {pos : Pos} (ho : OpR X (compareOp op) r) (ha : PET X a ta) (hb : PE X b tb) (hm : behindInMarks op b = false) : PTT X (.Compare a [op] [b] pos) (tTest (tOp r ta tb)) := fun pins s σ H Q h0 I h =>
  wpAny_isTrue_Compare1 (thn (ha pins s σ H _ h0 I h) fun v s1 ⟨x, H1, I1, r1, q1⟩ => thn (hb.run pins s1 σ H1 _ I1 q1) fun u s2 ⟨y, H2, I2, r2, q2⟩ =>
    thn (ho pins s2 σ H2 x y v u _ I2 r1 r2 q2) fun c s3 ⟨z, H3, I3, r3, k, e, q3⟩ => by
      subst e
      cases r3
      exact wpAny_truthy_bool ⟨H3, I3, q3⟩) hm
def PTsT (X : Cx) (ifs : List Expr) (t : TT) : Prop :=
  ∀ (pins : List (Addr × Obj)) (s : Shared) (σ : L2.St) (H : Hp) (Q : Bool → Hp → Prop), 1 ≤ s.toks → Inv X pins σ H s → t σ H Q →
    wpAny (model X.prog X.w) X.A (forIn ifs true fun c r => if r = true then do let ok ← isTrue c X.env (eval c X.env); pure (ForInStep.yield ok) else pure (ForInStep.yield r)) (TP X pins σ Q) X.xe s
theorem ptst_one {c : Expr} {t : TT} (h : PTT X c t) : PTsT X [c] t := fun pins s σ H Q h0 I hw => wpAny_tests_one (h pins s σ H Q h0 I hw)
/-! a loop behind whose turns a token is out -/
def PSK (X : Cx) (st : List Stmt) (t : TS) : Prop :=
  ∀ (pins : List (Addr × Obj)) (s : Shared) (σ : L2.St) (H : Hp) (D : Ends), Inv X pins σ H s → t D σ H → wpAny (model X.prog X.w) X.A (execs st X.env) (fun f s' => (f = .next → 1 ≤ s'.toks) ∧ SP X pins D f s') X.xe s
def PSt (X : Cx) (st : Stmt) (t : TS) : Prop :=
  ∀ (pins : List (Addr × Obj)) (s : Shared) (σ : L2.St) (H : Hp) (D : Ends), Inv X pins σ H s → t D σ H → wpAny (model X.prog X.w) X.A (exec st X.env) (fun f s' => (f = .next → 1 ≤ s'.toks) ∧ SP X pins D f s') X.xe s
theorem psk_skip {st : Stmt} {rest : List Stmt} {t u : TS} (h1 : PS X st t) (h2 : PSK X rest u) : PSK X (st :: rest) (tSeq t u) := by
  intro pins s σ H D I h
  refine wpAny_execs_cons (thn (h1.run pins s σ H { D with nx := u D } I h) fun f s1 q => ?_)
  cases f with
  | next => obtain ⟨σ', H', I', q⟩ := q; exact h2 pins s1 σ' H' D I' q
  | ret v => exact ⟨fun e => (by cases e), q⟩
  | brk => exact ⟨fun e => (by cases e), q⟩
  | cont => exact ⟨fun e => (by cases e), q⟩
theorem psk_here {st : Stmt} {rest : List Stmt} {t u : TS} (h1 : PSt X st t) (h2 : PSs X rest u) : PSK X (st :: rest) (tSeq t u) := by
  intro pins s σ H D I h
  refine wpAny_execs_cons (thn (h1 pins s σ H { D with nx := u D } I h) fun f s1 ⟨k, q⟩ => ?_)
  cases f with
  | next => obtain ⟨σ', H', I', q⟩ := q; exact thn (tk1 (h2.run pins s1 σ' H' D I' q) (k rfl)) fun f s2 q => ⟨fun _ => q.1, q.2⟩
  | ret v => exact ⟨fun e => (by cases e), q⟩
  | brk => exact ⟨fun e => (by cases e), q⟩
  | cont => exact ⟨fun e => (by cases e), q⟩
/-- x = a + b, whole numbers: the sum has a token -/
theorem pst_addI {i : Nat} {x : Str} {a b : Expr} {ta tb : TE} {pos' pos p : Pos} (hN : X.N.Nodup) (hi : X.N[i]? = some x) (hx : Loc X.env.scope x) (ha : PE X a ta) (hb : PE X b tb) (hs : swapsWith (.BinOp a .Add b p) (some (.Name x pos')) pos.line X.env = pure false := by rfl)
    (hf : X.fn x = true ∨ X.env.scope.names.lookup x = some .local := by first | exact .inl rfl | exact .inr rfl | assumption) : PSt X (.Assign [.Name x pos'] (.BinOp a .Add b p) pos) (tAsg (tOp (rI0 fun i j => .int (i + j)) ta tb) (gName i)) := by
  intro pins s σ H D I h
  refine wpAny_Assign_Name (wpAny_BinOp (thn (ha.run pins s σ H _ I h) fun v s1 ⟨y, H1, I1, r1, q1⟩ => thn (hb.run pins s1 σ H1 _ I1 q1) fun u s2 ⟨z, H2, I2, r2, m, n, e1, e2, q2⟩ => ?_)) hs
  subst e1 e2
  obtain ⟨t1, rfl⟩ := r1
  obtain ⟨t2, rfl⟩ := r2
  refine add_int ?_
  exact thn (tk1 (store_ok (v := V.int (m + n)) (Q := fun _ s2 => SP X pins D .next s2) (I2.tok (s2.toks + 1)) hN hi hx ⟨s2.toks, rfl⟩ (fun s3 I3 => ⟨_, H2, I3, q2⟩) hf) (by show 1 ≤ s2.toks + 1; omega)) fun _ s3 q => ⟨fun _ => q.1, q.2⟩
def tForP (wi : TI) (g : TG) (tb : TS) : TS := fun D σ H => wi σ H fun J H1 => ∃ W : Nat → Nat → L2.St → Hp → Prop, (∃ m, W 0 m σ H1) ∧ ∀ i m σ H, W i m σ H →
  (J.stop i H ∧ 0 < i ∧ D.nx σ H) ∨ (J.go i H ∧ ∃ N : L2.St → Hp → Prop, (∀ σ' H', N σ' H' → ∃ m', m' < m ∧ W (i + 1) m' σ' H') ∧ ∀ x H', J.yld i H x H' → g x σ H' fun σ2 H2 => tb { D with nx := N, ct := fun _ _ => False, bk := fun _ _ => False } σ2 H2)
theorem pst_forK {tg iter : Expr} {body : List Stmt} {wi : TI} {g : TG} {tb : TS} {pos : Pos} (hp : PassesOwn (model X.prog X.w) X.A X.env X.xe) (hc : X.calm = true) (hi : PI X tg iter wi) (hg : PG X tg g) (hb : PSK X body tb)
    (hs : ∀ x, foldedSetIterable iter X.env x = pure x := by intro _; rfl) : PSt X (.For tg iter body [] pos) (tForP wi g tb) := by
  intro pins s σ H D I h
  refine wpAny_For (thn (hi.run pins s σ H _ I h) fun v s1 q1 => thn q1 fun itv s2 ⟨it, fp, tn, J, H2, e, I2, T, st2, f2, W, ⟨m0, w0⟩, turn⟩ => ?_) hs
  subst e
  have free : ∀ {H' : Hp}, (∀ b ∈ fp, H' b = none) → ∀ b ∈ fp, FpOk X pins H' b := fun hn b hb => ⟨hn b hb, (f2 b hb).2⟩
  refine codeAny_forLoop_any (fun n s' => ∃ i σ' H', (0 < i → 1 ≤ s'.toks) ∧ Inv X pins σ' H' s' ∧ tn i s'.heap ∧ (∀ b ∈ fp, H' b = none) ∧ W i n σ' H') ?_ m0 ⟨0, σ, H2, fun z => absurd z (Nat.lt_irrefl 0), I2, st2, fun b hb => (f2 b hb).1, w0⟩
  rintro n s3 ⟨i, σ3, H3, t3, I3, st3, fr3, w3⟩
  rcases turn i n σ3 H3 w3 with ⟨stop, pos, qn⟩ | ⟨go, N, hN, step⟩
  · refine wpAny_passesOwn hp (thn (tk1 (T.done X rfl rfl rfl hc i pins s3 σ3 H3 X.xe I3 (free fr3) st3 stop) (t3 pos)) fun r s4 ⟨h4, hr, I4⟩ => ?_)
    subst hr
    exact wpAny_execs_nil ⟨fun _ => h4, σ3, H3, I4, qn⟩
  · refine wpAny_passesOwn hp (thn (T.item X rfl rfl rfl hc i pins s3 σ3 H3 X.xe I3 (free fr3) st3 go) fun r s4 ⟨u, hr, q4⟩ => ?_)
    subst hr
    refine wpAny_passesOwn hp (thn q4 fun _ s5 ⟨x, H5, I5, r5, y5, st5, fr5⟩ => ?_)
    have P5 := I5.pinned (free fr5) (T.obj _ _ st5)
    refine wpAny_passesOwn hp (thn (hg.run _ s5 σ3 H5 x u _ P5 r5 (step x H5 y5)) fun _ s6 ⟨σ6, H6, I6, q6⟩ => ?_)
    refine wpAny_passesOwn hp (thn (hb _ s6 σ6 H6 _ I6 q6) fun f s7 ⟨h7, q7⟩ => ?_)
    cases f with
    | next =>
      obtain ⟨σ7, H7, I7, n7⟩ := q7
      obtain ⟨m', lt, w7⟩ := hN σ7 H7 n7
      have at5 : ∀ b ∈ fp, ∀ o, s5.heap.get? b = some o → s7.heap.get? b = some o ∧ H7 b = none := fun b hb o q =>
        let z := I7.pin (b, o) (List.mem_append_right _ (List.mem_append_right _ (mem_pinsAt hb q)))
        ⟨z.1, z.2.1⟩
      refine ⟨m', lt, i + 1, σ7, H7, fun _ => h7 rfl, I7.unpinned, T.keep _ _ _ st5 fun b hb o q => (at5 b hb o q).1, fun b hb => ?_, w7⟩
      obtain ⟨o, q, _⟩ := T.obj _ _ st5 b hb
      exact (at5 b hb o q).2
    | cont => obtain ⟨σ7, H7, I7, q7⟩ := q7; exact q7.elim
    | brk => obtain ⟨σ7, H7, I7, q7⟩ := q7; exact q7.elim
    | ret v => obtain ⟨x7, σ7, H7, I7, r7, q7⟩ := q7; exact ⟨fun e => (by cases e), x7, σ7, H7, I7.unpinned, r7, q7⟩
theorem pss_tok {st : Stmt} {rest : List Stmt} {t u : TS} (h1 : PSt X st t) (h2 : PSsT X rest u) : PSs X (st :: rest) (tSeq t u) := by
  refine ⟨fun pins s σ H D I h => ?_⟩
  refine wpAny_execs_cons (thn (h1 pins s σ H { D with nx := u D } I h) fun f s1 ⟨k, q⟩ => ?_)
  cases f with
  | next => obtain ⟨σ', H', I', q⟩ := q; exact h2 pins s1 σ' H' D (k rfl) I' q
  | ret v => exact q
  | brk => exact q
  | cont => exact q
end
end Z

/-! a list comprehension, a token being out -/
namespace Z
open PySem PySem.Spec L2 PyProof.Rows
def emitList (elt : Expr) (acc : Value) (env : Env) : Sem Unit := do let _ ← call (.builtin "list.append") [acc, ← eval elt env]
def putList (elt : Expr) (acc : Value) (env : Env) (more : Sem Fin) : Sem Fin := emitList elt acc env >>= fun _ => more
theorem turn_one (elt t0 i0 : Expr) (ifs0 : List Expr) (scope : Scope) (pos : Pos) (it acc : Value) (env : Env) :
    compTurn (.ListComp elt [⟨t0, i0, ifs0, 0⟩] scope pos) 0 it acc env = turnOf t0 i0 ifs0 it env (putList elt acc env) (again (.compLoop (.ListComp elt [⟨t0, i0, ifs0, 0⟩] scope pos) 0 it acc env)) := by rfl
section
variable {X : Cx}
theorem pet_lcT {elt tg iter : Expr} {ifs : List Expr} {scope : Scope} {own : List (Str × Nat)} {pos : Pos} {wi : TI} {g : TG} {tt : TT} {te : TE} (hc : X.calm = true) (hN : X.N.Nodup) (hi : PI X tg iter wi) (ok : BlkOk X.N X.env.scope scope own)
    (hg : InBlk X scope fun B => PG B tg g) (ht : InBlk X scope fun B => PTsT B ifs tt) (he : InBlk X scope fun B => PE B elt te) (hs : ∀ x, foldedSetIterable iter X.env x = pure x := by intro _; rfl) :
    PET X (.ListComp elt [⟨tg, iter, ifs, 0⟩] scope pos) (tLc wi g tt te (own.map (·.2))) := by
  intro pins s σ H Q h0 I h
  rw [eval_ListComp]
  have hfree : ∀ y ∈ scope.names, y.2 = .free → ∃ c, X.env.cells.lookup y.1 = some c := fun y hy e => I.ok.has _ (ok.free y hy e)
  refine wpAny_comprehension_free (use := none) rfl hs (closure_ok hfree) ok.kind (fun y hy e => by rw [ok.uniq y hy, e])
    (thn (tk1 (hi.run pins s σ H _ I h) h0) fun xv s1 ⟨t1, hx⟩ => thn (tk1 hx t1) fun itv s2 ⟨t2, it, fp, tn, J, H2, e, I2, T, st2, f2, q⟩ => ?_)
  subst e
  refine wpAny_newObj_type (newEnv_comp ?_) (by show 0 ≤ sizeLine; decide)
  have fresh : H2 s2.heap.objs.size = none := I2.hok.fresh (Nat.le_refl _)
  have C0 : Clause (fun σ2 => wipe σ2 (own.map (·.2)) = wipe σ (own.map (·.2))) J g tt (fun σ3 H3 Nx => te σ3 H3 fun y H4 => ∃ acc, H4 s2.heap.objs.size = some (.lst acc) ∧ acc.length < sizeLine ∧ Nx (upd H4 s2.heap.objs.size (.lst (acc ++ [y])))) (wipe σ (own.map (·.2))) (fun H => Q (.ref s2.heap.objs.size) H) (upd H2 s2.heap.objs.size (.lst [])) := q s2.heap.objs.size fresh
  have grown : ∀ b o, s2.heap.get? b = some o → (s2.heap.push { cls := .type "list", data := .seq ([] : List Value).toArray }).get? b = some o := fun b o e => Heap.get?_push_of_some _ e
  have below : ∀ b ∈ fp, b < s2.heap.objs.size := fun b hb => by
    obtain ⟨o, e, _⟩ := T.obj _ _ st2 b hb
    exact Heap.lt_size e
  have I3 : Inv X pins σ (upd H2 s2.heap.objs.size (.lst [])) { s2 with heap := s2.heap.push { cls := .type "list", data := .seq ([] : List Value).toArray } } :=
    I2.laid (t' := s2.toks) grown (Nat.le_refl _) ⟨Nat.zero_le _, [], 0, .nil, Heap.get?_push_size _ rfl⟩
  have f3 : ∀ b ∈ fp, FpOk X pins (upd H2 s2.heap.objs.size (.lst [])) b ∧ b < (s2.heap.push { cls := .type "list", data := .seq ([] : List Value).toArray }).objs.size := fun b hb =>
    ⟨⟨by rw [upd_ne (Nat.ne_of_lt (below b hb))]; exact (f2 b hb).1, (f2 b hb).2⟩, by rw [Heap.size_push]; exact Nat.lt_succ_of_lt (below b hb)⟩
  have st3 : tn 0 (s2.heap.push { cls := .type "list", data := .seq ([] : List Value).toArray }) := T.keep _ _ _ st2 fun b _ o e => grown b o e
  generalize s2.heap.objs.size = D at C0 I3 f3 ⊢
  generalize hS3 : ({ s2 with heap := s2.heap.push { cls := .type "list", data := .seq ([] : List Value).toArray } } : Shared) = s3 at I3 ⊢
  have h3 : s2.heap.push { cls := .type "list", data := .seq ([] : List Value).toArray } = s3.heap := by rw [← hS3]
  have t3 : 1 ≤ s3.toks := by rw [← hS3]; exact t2
  rw [h3] at f3 st3
  generalize upd H2 D (.lst []) = H3 at C0 I3 f3
  have I4 := block_start I3 ok hN f3
  have pg := hg s3 H3 s3.heap.objs.size (cellsFrom (s3.heap.objs.size + 1) scope.names (cloFrom X.env.cells scope.names [])) fp
  have pt := ht s3 H3 s3.heap.objs.size (cellsFrom (s3.heap.objs.size + 1) scope.names (cloFrom X.env.cells scope.names [])) fp
  have pe := he s3 H3 s3.heap.objs.size (cellsFrom (s3.heap.objs.size + 1) scope.names (cloFrom X.env.cells scope.names [])) fp
  show codeAny _ _ (.compStart (.ListComp elt [⟨tg, iter, ifs, 0⟩] scope pos) 0 (.ref it) (.ref D) (compEnvC scope (cellsFrom (s3.heap.objs.size + 1) scope.names (cloFrom X.env.cells scope.names [])) s3.heap.objs.size X.env)) (compPost (model X.prog X.w) X.A X.xe none _ (.ref D) s3.heap.objs.size) { s3 with heap := pushCells (s3.heap.push { cls := .type "dict", data := .dict #[] }) scope.names }
  have st4 : tn 0 (pushCells (s3.heap.push { cls := .type "dict", data := .dict #[] }) scope.names) := T.keep _ _ _ st3 fun b _ o e => pushCells_keeps _ _ _ _ (Heap.get?_push_of_some _ e)
  generalize hce : compEnvC scope (cellsFrom (s3.heap.objs.size + 1) scope.names (cloFrom X.env.cells scope.names [])) s3.heap.objs.size X.env = ce at I4 pg pt pe ⊢
  have cL : ce.locals = s3.heap.objs.size := by subst hce; rfl
  have loop := loop_run (n0 := 1) (s := { s3 with heap := pushCells (s3.heap.push { cls := .type "dict", data := .dict #[] }) scope.names }) (B := X.blk s3 H3 scope ce fp) (k := 0) (acc := .ref D) (R := compPost (model X.prog X.w) X.A X.xe none (EP X pins σ Q) (.ref D) s3.heap.objs.size) rfl rfl (turn_one elt tg iter ifs scope pos (.ref it) (.ref D) ce) T hc rfl pg (fun pins s σ H Q h0 I h => pt pins s σ H Q h0 I h) (fun _ h => ext_of h)
    (fun I' hn => blk_stat I' hn) ?_ t3 I4 st4 (fun b hb => (f3 b hb).1.1) C0 ?_
  · exact start_run rfl rfl rfl rfl rfl loop fun Qs E hq => T.self X.A 0 _ _ _ st4 hq
  · intro pins' σ2 H4 s5 Nx more Qm t5 x2 I5 put fin5
    unfold putList emitList
    refine wpAny_bind (wpAny_bind (thnF (tkF t5 (pe.run _ s5 σ2 H4 _ I5 put)) fun v s6 ⟨t6, y, H6, I6, r6, acc, hD, hz, nx⟩ => ?_))
    refine wpAny_bind (thnF (tkF t6 (app_ok (X := X.blk s3 H3 scope ce fp) (E := fun _ _ => False) (Q := fun _ s7 => Inv (X.blk s3 H3 scope ce fp) pins' σ2 (upd H6 D (.lst (acc ++ [y]))) s7) I6 hD hz r6 fun s7 I7 => I7)) fun _ s7 ⟨t7, I7⟩ => wpAny_pure (fin5 s7 σ2 _ t7 I7 x2 nx))
  · intro s6 H6 I6 qq
    have I7 : Inv X pins σ H6 s6 := I3.call' (ch := fp) I6.os I6.base I6.hok I6.bare fun b hb => ⟨(f3 b hb).1.2.2.2.1, (f3 b hb).1.2.1, (f3 b hb).1.2.2.2.2.1, (f3 b hb).1.2.2.2.2.2⟩
    have nC : H6 s3.heap.objs.size = none := by
      have z : H6 ce.locals = none := I6.free
      rwa [cL] at z
    obtain ⟨m, hn, _⟩ := I6.loc
    have hn : s6.heap.Ns ce.locals m := hn
    rw [cL] at hn
    obtain ⟨f0, f1, f2', f3', f4, f5⟩ := I3.fpOk (Nat.le_refl _) nC
    exact ⟨m, hn, fun h'' sb => ⟨.ref D, H6, I7.turned (t' := s6.toks) (fun b o hb e => (sb.2 b hb).trans e) f0 f1 f3' f4 f5, rfl, qq⟩⟩
end
end Z

/-! dict(d); == of two dicts that hold the same, changed no more or not -/
namespace Z
open PySem PySem.Spec L2 PyProof.Rows
def rDcp : List V → Hp → VK → Prop := fun vs H Q => ∃ (a : Addr) (kvs : List (Key × V)), vs = [V.ref a] ∧ Rd H a (.dK kvs) ∧ ∀ p, H p = none → Q (.ref p) (upd H p (.dK kvs))
def rEqDR : R2 := fun x y H Q => ∃ a b kvs, x = .ref a ∧ y = .ref b ∧ Rd H a (.dK kvs) ∧ Rd H b (.dK kvs) ∧ (kvs.map (·.1)).Nodup ∧ (∀ p ∈ kvs, flatB p.2 = true) ∧ Q (.bl true) H
section
variable {X : Cx}
theorem cr_dcp : CallR X (.type "dict") rDcp := by
  rintro pins s σ H _ us Q I r ⟨a, kvs, rfl, h, q⟩
  rw [Vals.ref1 r]
  exact d_copyOf I h fun p s' hp I' => ⟨.ref p, _, I', rfl, q p hp⟩
theorem op_eqDR (hu : X.A.units + 64 < cLine) : OpR X (compareOp .Eq) rEqDR := by
  rintro pins s σ H _ _ v u Q I rx ry ⟨a, b, kvs, rfl, rfl, ea, eb, nd, fl, q⟩
  obtain rfl : v = Value.ref a := rx
  obtain rfl : u = Value.ref b := ry
  obtain ⟨_, ya, va, ra, da⟩ := (show ObjOk X.prog X.w H s.heap a (.dK kvs) from Rd.ok ea I.hok)
  obtain ⟨_, yb, vb, rb, db⟩ := (show ObjOk X.prog X.w H s.heap b (.dK kvs) from Rd.ok eb I.hok)
  have hl : va.length = vb.length := ra.length.symm.trans rb.length
  exact PySem.W.keq_eq (knd := mixKind X.prog X.w) (r := true) ya yb da db (by omega) (fun _ => hits_all rb ra fun p hp => ⟨val_nodup nd p hp, fl p hp⟩) (fin_bl I q (by simp [hl]))
end
end Z

/-! sorted of a tuple of whole numbers -/
namespace Z
open PySem PySem.Spec L2 PyProof.Rows
section
variable {P : Program} {w : World} {A : Around} {E : Value → Shared → Prop} {s : Shared}
theorem collect_tup {l : Addr} {vs : List Value} {Q : List Value → Shared → Prop} (hl : s.heap.IsTuple l vs.toArray) (hsz : vs.length ≤ sizeLine)
    (h : Q vs { s with heap := (s.heap.push (seqObj "list" #[] 0)).update s.heap.objs.size (Obj.mapSeq (· ++ vs.toArray)) }) : wpAny (model P w) A (collect (.ref l)) Q E s := by
  obtain ⟨o, ho, hc, n, hd⟩ := id hl
  have new : (s.heap.push (seqObj "list" #[] 0)).get? s.heap.objs.size = some (seqObj "list" #[] 0) := Heap.get?_push_size _ rfl
  unfold collect
  refine wpAny_bind (wpAny_runValue (codeAny_builtin entry_proto_collect' ?_))
  show wpAny _ _ (do again (.builtin "list.__iadd__" ⟨[← newList [], .ref l], []⟩)) _ _ s
  refine wpAny_bind (wpAny_newList (wpAny_pure ⟨Code.quiet_builtin _ (by decide +kernel), codeAny_builtin entry_list_iadd' ?_⟩))
  show wpAny _ _ (Builtin.List.listExtendWith (.ref s.heap.objs.size) (.ref l) (.ref s.heap.objs.size)) _ _ { s with heap := s.heap.push (seqObj "list" #[] 0) }
  unfold Builtin.List.listExtendWith
  have at1 : (s.heap.push (seqObj "list" #[] 0)).get? l = some o := Heap.get?_push_of_some _ ho
  refine wpAny_bind (wpAny_typeOf (T := "tuple") ⟨o, at1, hc⟩ ?_)
  rw [if_pos (by rw [show (Value.type "tuple" == Value.type "tuple") = true from rfl]; simp)]
  refine wpAny_bind (listItems_at at1 hd (wpAny_bind (listItems_at (xs := #[]) (n := 0) new rfl ?_)))
  rw [if_neg (by simp)]
  refine wpAny_bind (listUpdate_at (xs := #[]) (n := 0) new rfl (wpAny_pure ?_) (Nat.zero_le _) (by show (#[] ++ vs.toArray).size ≤ sizeLine + 1; simp only [Array.size_append, List.size_toArray, List.length_nil]; omega))
  show wpAny (model P w) A (do
      let o ← load s.heap.objs.size
      match o.data with
      | .seq xs _ => pure xs.toList
      | _ => unsupported "internal:collect") Q E { s with heap := (s.heap.push (seqObj "list" #[] 0)).update s.heap.objs.size (Obj.mapSeq (· ++ vs.toArray)) }
  refine wpAny_bind (wpAny_load (get?_update_seq new _) ?_)
  show wpAny _ _ (pure ((#[] : Array Value) ++ vs.toArray).toList) Q E _
  rw [show ((#[] : Array Value) ++ vs.toArray).toList = vs by simp]
  exact wpAny_pure h
end
section
variable {X : Cx}
def rSortedIT (K : PySem.W.Frag) : List V → Hp → VK → Prop := fun vs H Q => ∃ (a : Addr) (ns : List Int), vs = [V.ref a] ∧ SqT K H a (ns.map V.int) ∧ ∀ (ms : List Int) (p : Addr), ms.Perm ns → ms.Pairwise (· ≤ ·) → H p = none → Q (.ref p) (upd H p (.lst (ms.map V.int)))
theorem cr_sortedIT (K : PySem.W.Frag) (hK : X.K = K) : CallR X (.builtin "sorted") (rSortedIT K) := by
  subst hK
  rintro pins s σ H _ us Q I r ⟨a, ns, rfl, sq, q⟩
  rcases I.tuple sq with ⟨its, rv, pt, small⟩
  rw [List.length_map] at small
  have hI : IntsAre its ns := ints_of_vals rv
  have n : its.length ≤ sizeLine := by rw [← rv.length, List.length_map]; exact small
  rw [Vals.ref1 r]
  refine sorted_col intKind_oneLt (Cq := fun vs => vs = its) (fun vs e => by subst e; exact ⟨hI.keysOfInt, fun v₁ v₂ rest e => keyKind_ints (by rw [← e]; exact hI), n⟩)
    (fun Qc k => collect_tup pt n (k _ its (fun b o e => ?_) ?_ rfl rfl rfl)) fun s' p vs st c ev k g o hp at' a1 a2 => ?_
  · exact (Heap.get?_update_other _ _ (Ne.symm (Nat.ne_of_lt (Heap.lt_size e)))).trans (Heap.get?_push_of_some _ e)
  · show s.heap.objs.size ≤ ((s.heap.push (seqObj "list" #[] 0)).update s.heap.objs.size (Obj.mapSeq (· ++ its.toArray))).objs.size
    rw [Heap.size_update, size_push']
    exact Nat.le_succ _
  subst ev
  obtain ⟨ms, h1, h2, h3⟩ := sorted_out hI a1 (sortedTo_of_int a2)
  have ok : (ms.map V.int).length ≤ sizeLine := by rw [List.length_map, h2.length_eq]; exact small
  have hn : H p = none := I.hok.fresh hp
  have J : Inv X pins σ (upd H p (.lst (ms.map V.int))) { s with heap := s'.heap, gens := s'.gens, drawn := s'.drawn, toks := s'.toks } :=
    I.call (ch := []) (Un.laid k hp hn) (I.hok.laid k hp ⟨ok, _, c, vals_of_ints h1, at'⟩) (by rw [g]; exact I.bare) (fun _ z => nomatch z)
  have e : s' = { s with heap := s'.heap, gens := s'.gens, drawn := s'.drawn, toks := s'.toks } := by
    cases s'; cases s; cases o; rfl
  rw [e]
  exact ⟨.ref p, _, J, rfl, q ms p h2 h3 hn⟩
end
end Z

/-! Z: data instead of heaps. D: data; Rep: a value stands for a datum; Sl: the slots of a def hold data, shared or its own; EW, TW, AW, IW, GW, SW: what an expression, a test, .. is worth, by data alone. -/
namespace Z
open PySem L2

inductive D where
  | non | bl (b : Bool) | int (i : Int) | str (x : Str)
  | lst (ds : List D) | tup (ds : List D)
  | scr (ns : List Int)
  | ty (n : String)
  | tpl (ds : List D)
  | obj (c : Str) (ns : List Str) (ds : List D)
  | hnd (a : Addr)
  | dct (kvs : List (Key × D))
deriving Inhabited

def ofV : V → D
  | .bl b => .bl b
  | .int i => .int i
  | .str x => .str x
  | .ty n => .ty n
  | _ => .non
def toV : D → V
  | .bl b => .bl b
  | .int i => .int i
  | .str x => .str x
  | .ty n => .ty n
  | _ => .non
def flatD : D → Bool
  | .non => true
  | .bl _ => true
  | .int _ => true
  | .str _ => true
  | .ty _ => true
  | _ => false
def plainV : V → Bool
  | .non => true
  | .bl _ => true
  | .int _ => true
  | .str _ => true
  | .ty _ => true
  | _ => false

mutual
inductive Rep (K : PySem.W.Frag) (H : Hp) : V → D → Prop
  | non : Rep K H .non .non
  | bl (b : Bool) : Rep K H (.bl b) (.bl b)
  | int (i : Int) : Rep K H (.int i) (.int i)
  | str (x : Str) : Rep K H (.str x) (.str x)
  | lst {a : Addr} {vs : List V} {ds : List D} (h : H a = some (.lst vs)) (r : RepL K H vs ds) : Rep K H (.ref a) (.lst ds)
  | tup {a : Addr} {vs : List V} {ds : List D} (h : FrT H a vs) (r : RepL K H vs ds) : Rep K H (.ref a) (.tup ds)
  | ty (n : String) : Rep K H (.ty n) (.ty n)
  | scr {a : Addr} {ns : List Int} (h : SqL K H a (ns.map V.int)) : Rep K H (.ref a) (.scr ns)
  | tpl {a : Addr} {vs : List V} {ds : List D} (h : H a = some (.tup vs)) (r : RepL K H vs ds) : Rep K H (.ref a) (.tpl ds)
  | obj {a dx : Addr} {c : Str} {ns : List Str} {vs : List V} {ds : List D} (h : H a = some (.ins (He.ga K c) dx (ns.zip vs))) (l : ns.length = ds.length) (r : RepL K H vs ds) : Rep K H (.ref a) (.obj c ns ds)
  | hnd (a : Addr) : Rep K H (.ref a) (.hnd a)
  | dct {a : Addr} {ob : Obj} {kvs : List (Key × V)} {kds : List (Key × D)} (h : H a = some (.frz ob (.dK kvs))) (r : RepK K H kvs kds) : Rep K H (.ref a) (.dct kds)
inductive RepL (K : PySem.W.Frag) (H : Hp) : List V → List D → Prop
  | nil : RepL K H [] []
  | cons {v : V} {d : D} {vs : List V} {ds : List D} (h : Rep K H v d) (r : RepL K H vs ds) : RepL K H (v :: vs) (d :: ds)
inductive RepK (K : PySem.W.Frag) (H : Hp) : List (Key × V) → List (Key × D) → Prop
  | nil : RepK K H [] []
  | cons {k : Key} {v : V} {d : D} {vs : List (Key × V)} {ds : List (Key × D)} (h : Rep K H v d) (r : RepK K H vs ds) : RepK K H ((k, v) :: vs) ((k, d) :: ds)
end

theorem sameL {K : PySem.W.Frag} {H H' : Hp} {a : Addr} {xs : List V} (e : Same H H') (h : SqL K H a xs) : SqL K H' a xs := e.seq h
theorem monoT {H H' : Hp} {a : Addr} {xs : List V} (e : Same H H') (h : FrT H a xs) : FrT H' a xs := by
  obtain ⟨ob, hd, h⟩ := h
  exact ⟨ob, hd, e _ _ h⟩
theorem sameT {K : PySem.W.Frag} {H H' : Hp} {a : Addr} {xs : List V} (e : Same H H') (h : FrT H a xs) : SqT K H' a xs := (monoT e h).sq
mutual
theorem Rep.mono {K : PySem.W.Frag} {H H' : Hp} (e : Same H H') : ∀ {v : V} {d : D}, Rep K H v d → Rep K H' v d
  | _, _, .non => .non
  | _, _, .bl b => .bl b
  | _, _, .int i => .int i
  | _, _, .str x => .str x
  | _, _, .lst h r => .lst (e _ _ h) (RepL.mono e r)
  | _, _, .tup h r => .tup (monoT e h) (RepL.mono e r)
  | _, _, .scr h => .scr (sameL e h)
  | _, _, .tpl h r => .tpl (e _ _ h) (RepL.mono e r)
  | _, _, .obj h l r => .obj (e _ _ h) l (RepL.mono e r)
  | _, _, .hnd a => .hnd a
  | _, _, .dct h r => .dct (e _ _ h) (RepK.mono e r)
  | _, _, .ty n => .ty n
theorem RepL.mono {K : PySem.W.Frag} {H H' : Hp} (e : Same H H') : ∀ {vs : List V} {ds : List D}, RepL K H vs ds → RepL K H' vs ds
  | _, _, .nil => .nil
  | _, _, .cons h r => .cons (Rep.mono e h) (RepL.mono e r)
theorem RepK.mono {K : PySem.W.Frag} {H H' : Hp} (e : Same H H') : ∀ {vs : List (Key × V)} {ds : List (Key × D)}, RepK K H vs ds → RepK K H' vs ds
  | _, _, .nil => .nil
  | _, _, .cons h r => .cons (Rep.mono e h) (RepK.mono e r)
end
section
variable {K : PySem.W.Frag} {H H' : Hp} {v : V} {d : D} {vs ws : List V} {ds es : List D}
theorem Rep.ofV (h : plainV v = true) : Rep K H v (ofV v) := by
  cases v <;> first | exact .non | exact .bl _ | exact .int _ | exact .str _ | exact .ty _ | (cases h)
theorem Rep.toV (h : flatD d = true) (r : Rep K H v d) : v = toV d := by
  cases r <;> first | rfl | (cases h)
theorem RepL.length (r : RepL K H vs ds) : vs.length = ds.length := by
  induction vs generalizing ds with
  | nil => cases r; rfl
  | cons v vs ih => cases r with | cons h r => simp [ih r]
theorem RepL.get : ∀ {vs : List V} {ds : List D} {i : Nat}, RepL K H vs ds → ds[i]? = some d → ∃ v, vs[i]? = some v ∧ Rep K H v d
  | _, _, _, .nil, e => by simp at e
  | _, _, 0, .cons h r, e => by simp at e; subst e; exact ⟨_, rfl, h⟩
  | _, _, i + 1, .cons h r, e => by
    obtain ⟨v, h1, h2⟩ := RepL.get (i := i) r (by simpa using e)
    exact ⟨v, by simpa using h1, h2⟩
theorem RepL.get' {v : V} : ∀ {vs : List V} {ds : List D} {i : Nat}, RepL K H vs ds → vs[i]? = some v → ∃ d, ds[i]? = some d ∧ Rep K H v d
  | _, _, _, .nil, e => by simp at e
  | _, _, 0, .cons h r, e => by simp at e; subst e; exact ⟨_, rfl, h⟩
  | _, _, i + 1, .cons h r, e => by
    obtain ⟨d, h1, h2⟩ := RepL.get' (i := i) r (by simpa using e)
    exact ⟨d, by simpa using h1, h2⟩
theorem RepL.append : ∀ {vs ws : List V} {ds es : List D}, RepL K H vs ds → RepL K H ws es → RepL K H (vs ++ ws) (ds ++ es)
  | _, _, _, _, .nil, q => q
  | _, _, _, _, .cons h r, q => .cons h (RepL.append r q)
theorem RepL.set (h : Rep K H v d) : ∀ {vs : List V} {ds : List D} (i : Nat), RepL K H vs ds → RepL K H (vs.set i v) (ds.set i d)
  | _, _, _, .nil => .nil
  | _, _, 0, .cons _ r => .cons h r
  | _, _, i + 1, .cons q r => .cons q (RepL.set h i r)
theorem RepL.take : ∀ {vs : List V} {ds : List D} (i : Nat), RepL K H vs ds → RepL K H (vs.take i) (ds.take i)
  | _, _, 0, _ => .nil
  | _, _, i + 1, .nil => .nil
  | _, _, i + 1, .cons q r => .cons q (RepL.take i r)
theorem RepL.drop : ∀ {vs : List V} {ds : List D} (i : Nat), RepL K H vs ds → RepL K H (vs.drop i) (ds.drop i)
  | _, _, 0, r => r
  | _, _, i + 1, .nil => .nil
  | _, _, i + 1, .cons _ r => RepL.drop i r
theorem RepL.reverse : ∀ {vs : List V} {ds : List D}, RepL K H vs ds → RepL K H vs.reverse ds.reverse
  | _, _, .nil => .nil
  | _, _, .cons h r => by
    rw [List.reverse_cons, List.reverse_cons]
    exact (RepL.reverse r).append (.cons h .nil)
theorem RepL.strs : ∀ {vs : List V} {xs : List Str}, RepL K H vs (xs.map D.str) → vs = xs.map V.str
  | _, [], r => by cases r; rfl
  | _, x :: xs, r => by
    cases r with
    | cons h r => cases h; rw [RepL.strs r]; rfl
theorem RepL.ints : ∀ {vs : List V} {xs : List Int}, RepL K H vs (xs.map D.int) → vs = xs.map V.int
  | _, [], r => by cases r; rfl
  | _, x :: xs, r => by
    cases r with
    | cons h r => cases h; rw [RepL.ints r]; rfl
theorem RepL.bls : ∀ {vs : List V} {xs : List Bool}, RepL K H vs (xs.map D.bl) → vs = xs.map V.bl
  | _, [], r => by cases r; rfl
  | _, x :: xs, r => by
    cases r with
    | cons h r => cases h; rw [RepL.bls r]; rfl
theorem RepL.ofStrs : ∀ {xs : List Str}, RepL K H (xs.map V.str) (xs.map D.str)
  | [] => .nil
  | x :: xs => .cons (.str x) RepL.ofStrs
theorem RepL.ofInts : ∀ {xs : List Int}, RepL K H (xs.map V.int) (xs.map D.int)
  | [] => .nil
  | x :: xs => .cons (.int x) RepL.ofInts
end

/-! ### heaps -/
/-- the tables of code objects that the program's defs fill -/
class Tabs where
  T : List Addr
/-- what stood stands, but tables may have grown -/
def SameT (H H' : Hp) : Prop := ∀ a o, H a = some o → H' a = some o ∨ ∃ ps ps', o = .tbl ps ∧ H' a = some (.tbl ps')
theorem SameT.of {H H' : Hp} (h : Same H H') : SameT H H' := fun a o e => .inl (h a o e)
theorem SameT.refl (H : Hp) : SameT H H := fun a o e => .inl e
theorem SameT.trans {H H1 H2 : Hp} (x : SameT H H1) (y : SameT H1 H2) : SameT H H2 := fun a o e => by
  rcases x a o e with h | ⟨ps, ps', rfl, h⟩
  · exact y a o h
  · rcases y a _ h with h2 | ⟨qs, qs', e2, h2⟩
    · exact .inr ⟨ps, ps', rfl, h2⟩
    · exact .inr ⟨ps, qs', rfl, h2⟩
theorem SameT.free {H H' : Hp} {a : Addr} (x : SameT H H') (h : H' a = none) : H a = none := by
  cases e : H a with
  | none => rfl
  | some o =>
    rcases x a o e with z | ⟨_, _, _, z⟩ <;> rw [h] at z <;> cases z
theorem SameT.lst {H H' : Hp} {a : Addr} {vs : List V} (x : SameT H H') (h : H a = some (.lst vs)) : H' a = some (.lst vs) := by
  rcases x a _ h with z | ⟨_, _, e, _⟩
  · exact z
  · cases e
/-- every table stands, and is nobody's datum -/
def TbOk [Tabs] (Hs H : Hp) : Prop := ∀ P ∈ Tabs.T, GxR.TabG H P ∧ Hs P = none
/-- from (Hs, H) to (Hs', H'): Hs is what is shared (data), H all that is tracked; nothing that stood is changed, what was not shared stays so -/
structure Grow [Tabs] (Hs H Hs' H' : Hp) : Prop where
  s : Same Hs Hs'
  e : SameT H H'
  b : Same Hs' H'
  n : ∀ a o, H a = some o → Hs a = none → Hs' a = none
  t : TbOk Hs H → TbOk Hs' H'
theorem TbOk.mono [Tabs] {Hs H Hs' H' : Hp} (h : TbOk Hs H) (e : Same H H') (n : ∀ a o, H a = some o → Hs a = none → Hs' a = none) : TbOk Hs' H' := fun P hP => by
  obtain ⟨⟨ps, h1, h2⟩, h3⟩ := h P hP
  exact ⟨⟨ps, e _ _ h1, h2⟩, n P _ h1 h3⟩
section
variable [Tabs]
theorem Grow.refl {Hs H : Hp} (b : Same Hs H) : Grow Hs H Hs H := ⟨.refl _, .refl _, b, fun _ _ _ h => h, fun h => h⟩
theorem Grow.trans {Hs H Hs1 H1 Hs2 H2 : Hp} (x : Grow Hs H Hs1 H1) (y : Grow Hs1 H1 Hs2 H2) : Grow Hs H Hs2 H2 :=
  ⟨x.s.trans y.s, x.e.trans y.e, y.b, fun a o h n => (x.e a o h).elim (fun z => y.n a o z (x.n a o h n)) fun ⟨_, _, _, z⟩ => y.n a _ z (x.n a o h n), fun h => y.t (x.t h)⟩
theorem sameNew {H : Hp} {p : Addr} {o : HO} (h : H p = none) : Same H (upd H p o) := fun a u e => by
  rw [upd_ne (ne_of_none e h)]; exact e
theorem upd_same_of {Hs H : Hp} {p : Addr} {o : HO} (b : Same Hs H) : Same (upd Hs p o) (upd H p o) := fun a u e => by
  by_cases q : a = p
  · subst q; rw [upd_same] at e ⊢; exact e
  · rw [upd_ne q] at e ⊢; exact b _ _ e
theorem Grow.new {Hs H : Hp} {p : Addr} {o : HO} (b : Same Hs H) (h : H p = none) : Grow Hs H (upd Hs p o) (upd H p o) :=
  ⟨sameNew (b.free h), .of (sameNew h), upd_same_of b, fun a u e n => by rw [upd_ne (ne_of_none e h)]; exact n, fun t => t.mono (sameNew h) fun a u e n => by rw [upd_ne (ne_of_none e h)]; exact n⟩
/-- something new that is not shared (yet) -/
theorem Grow.hid {Hs H : Hp} {p : Addr} {o : HO} (b : Same Hs H) (h : H p = none) : Grow Hs H Hs (upd H p o) :=
  ⟨.refl _, .of (sameNew h), fun a u e => by rw [upd_ne (ne_of_none (b _ _ e) h)]; exact b _ _ e, fun _ _ _ n => n, fun t => t.mono (sameNew h) fun _ _ _ n => n⟩

/-! ### slots -/
/-- an error: its class, its fields -/
structure XD where
  C : Addr
  fs : List (Str × D)
def RepX (K : PySem.W.Frag) (Hs H : Hp) (cls : Value) (d : Option Addr) (x : XD) : Prop :=
  cls = .ref x.C ∧ ((d = none ∧ x.fs = []) ∨ ∃ dd vfs, d = some dd ∧ H dd = some (.xd vfs) ∧ ∀ f v, x.fs.lookup f = some v → ∃ u, vfs.lookup f = some u ∧ Rep K Hs u v)
/-- what a def owns and may change, lists apart: a dict, an object that is being made -/
inductive OwD where
  | dct (kds : List (Key × D))
  /-- a dict that is the caller's: its address is told -/
  | dctA (p : Addr) (kds : List (Key × D))
  | obj (p : Addr) (c : Str) (ns : List Str) (ds : List D)
def OwD.At (K : PySem.W.Frag) (Hs : Hp) (a : Addr) (o : HO) : OwD → Prop
  | .dct kds => ∃ kvs, o = .dK kvs ∧ RepK K Hs kvs kds
  | .dctA p kds => a = p ∧ ∃ kvs, o = .dK kvs ∧ RepK K Hs kvs kds
  | .obj p c ns ds => a = p ∧ ∃ dx vs, o = .ins (He.ga K c) dx (ns.zip vs) ∧ ns.length = ds.length ∧ RepL K Hs vs ds
inductive Slot where
  | sh (d : D)
  | ow (ds : List D)
  | exc (a : Addr) (cls : Value) (d : Option Addr) (x : XD)
  | ob (w : OwD)
def Slot.isO : Slot → Bool
  | .ow _ => true
  | .ob _ => true
  | _ => false
/-- what stands at its address -/
def Slot.At (K : PySem.W.Frag) (Hs : Hp) (a : Addr) (o : HO) : Slot → Prop
  | .ow ds => ∃ vs, o = .lst vs ∧ RepL K Hs vs ds
  | .ob w => w.At K Hs a o
  | _ => False
/-- what may be owned: lists, dicts, objects -/
def OHO : HO → Prop
  | .lst _ => True
  | .dK _ => True
  | .ins _ _ _ => True
  | _ => False
abbrev Gam := List (Option Slot)
def SlotOk (K : PySem.W.Frag) (Hs H : Hp) (v : V) : Slot → Prop
  | .sh d => Rep K Hs v d
  | .ow ds => ∃ a vs, v = .ref a ∧ Hs a = none ∧ H a = some (.lst vs) ∧ RepL K Hs vs ds
  | .exc a cls d x => v = .ref a ∧ RepX K Hs H cls d x
  | .ob w => ∃ a o, v = .ref a ∧ Hs a = none ∧ H a = some o ∧ w.At K Hs a o
/-- (Hs0, H0): the entry -/
structure Sl (K : PySem.W.Frag) (Hs0 H0 Hs H : Hp) (σ : St) (γ : Gam) : Prop where
  gr : Grow Hs0 H0 Hs H
  len : σ.length = γ.length
  ok : ∀ (i : Nat) (s : Slot), γ[i]? = some (some s) → ∃ v, σ[i]? = some (some v) ∧ SlotOk K Hs H v s
  fr : ∀ (i : Nat) (s : Slot) (a : Addr), γ[i]? = some (some s) → s.isO = true → σ[i]? = some (some (.ref a)) → H0 a = none
  ne : ∀ (i j : Nat) (s t : Slot) (a : Addr), γ[i]? = some (some s) → γ[j]? = some (some t) → s.isO = true → t.isO = true → σ[i]? = some (some (.ref a)) → σ[j]? = some (some (.ref a)) → i = j
  tb : TbOk Hs H
section
variable {K : PySem.W.Frag} {Hs0 H0 Hs H Hs' H' : Hp} {σ : St} {γ : Gam} {v : V} {d : D} {s : Slot} {i j : Nat}
theorem Sl.b (S : Sl K Hs0 H0 Hs H σ γ) : Same Hs H := S.gr.b
theorem RepX.grow {cls : Value} {d : Option Addr} {x : XD} (g : Grow Hs H Hs' H') (h : RepX K Hs H cls d x) : RepX K Hs' H' cls d x := by
  obtain ⟨h1, h⟩ := h
  refine ⟨h1, h.imp id fun ⟨dd, vfs, e1, e2, e3⟩ => ⟨dd, vfs, e1, ?_, fun f v z => let ⟨u, a, b⟩ := e3 f v z; ⟨u, a, b.mono g.s⟩⟩⟩
  rcases g.e dd _ e2 with z | ⟨_, _, z, _⟩
  · exact z
  · cases z
theorem OwD.At.mono {a : Addr} {o : HO} {w : OwD} (e : Same Hs Hs') (h : w.At K Hs a o) : w.At K Hs' a o := by
  cases w with
  | dct kds => obtain ⟨kvs, e1, r⟩ := h; exact ⟨kvs, e1, RepK.mono e r⟩
  | dctA p kds => obtain ⟨ep, kvs, e1, r⟩ := h; exact ⟨ep, kvs, e1, RepK.mono e r⟩
  | obj p c ns ds => obtain ⟨ep, dx, vs, e1, l, r⟩ := h; exact ⟨ep, dx, vs, e1, l, RepL.mono e r⟩
theorem Slot.At.mono {a : Addr} {o : HO} {w : Slot} (e : Same Hs Hs') (h : w.At K Hs a o) : w.At K Hs' a o := by
  cases w with
  | ow ds => obtain ⟨vs, e1, r⟩ := h; exact ⟨vs, e1, RepL.mono e r⟩
  | ob w => exact OwD.At.mono (w := w) e h
  | sh d => exact h
  | exc a cls d x => exact h
theorem Slot.At.oho {a : Addr} {o : HO} {w : Slot} (h : w.At K Hs a o) : OHO o := by
  cases w with
  | ow ds => obtain ⟨vs, rfl, r⟩ := h; trivial
  | ob w =>
    cases w with
    | dct kds => obtain ⟨kvs, rfl, r⟩ := h; trivial
    | dctA p kds => obtain ⟨_, kvs, rfl, r⟩ := h; trivial
    | obj p c ns ds => obtain ⟨_, dx, vs, rfl, l, r⟩ := h; trivial
  | sh d => exact h.elim
  | exc a cls d x => exact h.elim
theorem SlotOk.own (ho : s.isO = true) : SlotOk K Hs H v s ↔ ∃ a o, v = .ref a ∧ Hs a = none ∧ H a = some o ∧ s.At K Hs a o := by
  cases s with
  | ow ds => exact ⟨fun ⟨a, vs, h1, h2, h3, h4⟩ => ⟨a, _, h1, h2, h3, vs, rfl, h4⟩, fun ⟨a, o, h1, h2, h3, vs, e, h4⟩ => ⟨a, vs, h1, h2, by rw [h3, e], h4⟩⟩
  | ob w => exact Iff.rfl
  | sh d => cases ho
  | exc a cls d x => cases ho
theorem SameT.oho {a : Addr} {o : HO} (x : SameT H H') (h : H a = some o) (q : OHO o) : H' a = some o := by
  rcases x a _ h with z | ⟨_, _, e, _⟩
  · exact z
  · subst e; exact q.elim
theorem SlotOk.grow (g : Grow Hs H Hs' H') (h : SlotOk K Hs H v s) : SlotOk K Hs' H' v s := by
  cases s with
  | exc a cls d x => exact ⟨h.1, h.2.grow g⟩
  | sh d => exact Rep.mono g.s h
  | ow ds =>
    obtain ⟨a, vs, rfl, h1, h2, h3⟩ := h
    exact ⟨a, vs, rfl, g.n _ _ h2 h1, g.e.lst h2, RepL.mono g.s h3⟩
  | ob w =>
    obtain ⟨a, o, rfl, h1, h2, h3⟩ := h
    exact ⟨a, o, rfl, g.n _ _ h2 h1, g.e.oho h2 (Slot.At.oho (w := .ob w) h3), h3.mono g.s⟩
theorem Sl.grow (S : Sl K Hs0 H0 Hs H σ γ) (g : Grow Hs H Hs' H') : Sl K Hs0 H0 Hs' H' σ γ :=
  ⟨S.gr.trans g, S.len, fun i s h => let ⟨v, a, b⟩ := S.ok i s h; ⟨v, a, b.grow g⟩, S.fr, S.ne, g.t S.tb⟩
theorem get_set {α : Type} {l : List (Option α)} {i j : Nat} {x : Option α} {y : α} (h : (l.set i x)[j]? = some (some y)) : (i = j ∧ x = some y) ∨ (i ≠ j ∧ l[j]? = some (some y)) := by
  by_cases e : i = j
  · subst e
    by_cases hi : i < l.length
    · rw [List.getElem?_set_self hi] at h; exact .inl ⟨rfl, Option.some.inj h⟩
    · rw [List.getElem?_eq_none (by simpa using hi)] at h; cases h
  · rw [List.getElem?_set_ne e] at h; exact .inr ⟨e, h⟩
theorem get_set_ne {α : Type} {l : List α} {i j : Nat} {x : α} (h : i ≠ j) : (l.set i x)[j]? = l[j]? := List.getElem?_set_ne h
theorem lt_of_set {α : Type} {l : List (Option α)} {i : Nat} {x : Option α} {y : α} (h : (l.set i x)[i]? = some (some y)) : i < l.length := by
  rcases Nat.lt_or_ge i l.length with q | q
  · exact q
  · rw [List.getElem?_eq_none (by simpa using q)] at h; cases h
/-- a slot is given a shared datum -/
theorem Sl.set (S : Sl K Hs0 H0 Hs H σ γ) (i : Nat) (r : Rep K Hs v d) : Sl K Hs0 H0 Hs H (σ.set i (some v)) (γ.set i (some (.sh d))) := by
  refine ⟨S.gr, by rw [List.length_set, List.length_set]; exact S.len, fun j s h => ?_, fun j s a h ho h' => ?_, fun j k s t a h1 h2 o1 o2 h3 h4 => ?_, S.tb⟩
  · rcases get_set h with ⟨rfl, e⟩ | ⟨ne, h⟩
    · cases e
      exact ⟨v, by rw [List.getElem?_set_self (by rw [S.len]; exact lt_of_set h)], r⟩
    · rw [get_set_ne ne]; exact S.ok j s h
  · rcases get_set h with ⟨rfl, e⟩ | ⟨ne, h⟩
    · cases e; cases ho
    · rw [get_set_ne ne] at h'; exact S.fr j s a h ho h'
  · rcases get_set h1 with ⟨rfl, e⟩ | ⟨ne, h1⟩
    · cases e; cases o1
    · rcases get_set h2 with ⟨rfl, e⟩ | ⟨ne', h2⟩
      · cases e; cases o2
      · rw [get_set_ne ne] at h3; rw [get_set_ne ne'] at h4; exact S.ne j k s t a h1 h2 o1 o2 h3 h4
/-- a slot is forgotten -/
theorem Sl.drop (S : Sl K Hs0 H0 Hs H σ γ) (i : Nat) (x : Option V) : Sl K Hs0 H0 Hs H (σ.set i x) (γ.set i none) := by
  refine ⟨S.gr, by rw [List.length_set, List.length_set]; exact S.len, fun j s h => ?_, fun j s a h ho h' => ?_, fun j k s t a h1 h2 o1 o2 h3 h4 => ?_, S.tb⟩
  · rcases get_set h with ⟨rfl, e⟩ | ⟨ne, h⟩
    · cases e
    · rw [get_set_ne ne]; exact S.ok j s h
  · rcases get_set h with ⟨rfl, e⟩ | ⟨ne, h⟩
    · cases e
    · rw [get_set_ne ne] at h'; exact S.fr j s a h ho h'
  · rcases get_set h1 with ⟨rfl, e⟩ | ⟨ne, h1⟩
    · cases e
    · rcases get_set h2 with ⟨rfl, e⟩ | ⟨ne', h2⟩
      · cases e
      · rw [get_set_ne ne] at h3; rw [get_set_ne ne'] at h4; exact S.ne j k s t a h1 h2 o1 o2 h3 h4
/-- a slot is given something of its own -/
theorem Sl.ownB {a : Addr} {o : HO} {s : Slot} (S : Sl K Hs0 H0 Hs H σ γ) (i : Nat) (h0 : H0 a = none) (hn : Hs a = none) (ha : H a = some o) (hs : s.isO = true) (r : s.At K Hs a o)
    (nw : ∀ (j : Nat) (t : Slot), γ[j]? = some (some t) → t.isO = true → σ[j]? = some (some (.ref a)) → i = j) : Sl K Hs0 H0 Hs H (σ.set i (some (.ref a))) (γ.set i (some s)) := by
  refine ⟨S.gr, by rw [List.length_set, List.length_set]; exact S.len, fun j t h => ?_, fun j t a' h ho h' => ?_, fun j k t u a' h1 h2 o1 o2 h3 h4 => ?_, S.tb⟩
  · rcases get_set h with ⟨rfl, e⟩ | ⟨ne, h⟩
    · cases e
      exact ⟨.ref a, by rw [List.getElem?_set_self (by rw [S.len]; exact lt_of_set h)], (SlotOk.own hs).mpr ⟨a, o, rfl, hn, ha, r⟩⟩
    · rw [get_set_ne ne]; exact S.ok j t h
  · rcases get_set h with ⟨rfl, e⟩ | ⟨ne, h⟩
    · cases e
      rcases get_set h' with ⟨_, e'⟩ | ⟨ne, _⟩
      · cases e'; exact h0
      · exact absurd rfl ne
    · rw [get_set_ne ne] at h'; exact S.fr j t a' h ho h'
  · rcases get_set h1 with ⟨rfl, e1⟩ | ⟨ne, h1⟩
    · rcases get_set h2 with ⟨rfl, e2⟩ | ⟨ne', h2⟩
      · rfl
      · rw [get_set_ne ne'] at h4
        rcases get_set h3 with ⟨_, e3⟩ | ⟨q, _⟩
        · cases e3; exact nw k u h2 o2 h4
        · exact absurd rfl q
    · rw [get_set_ne ne] at h3
      rcases get_set h2 with ⟨rfl, e2⟩ | ⟨ne', h2⟩
      · rcases get_set h4 with ⟨_, e4⟩ | ⟨q, _⟩
        · cases e4; exact (nw j t h1 o1 h3).symm
        · exact absurd rfl q
      · rw [get_set_ne ne'] at h4; exact S.ne j k t u a' h1 h2 o1 o2 h3 h4
theorem Sl.own {a : Addr} {vs : List V} {ds : List D} (S : Sl K Hs0 H0 Hs H σ γ) (i : Nat) (h0 : H0 a = none) (hn : Hs a = none) (ha : H a = some (.lst vs)) (r : RepL K Hs vs ds)
    (nw : ∀ (j : Nat) (t : Slot), γ[j]? = some (some t) → t.isO = true → σ[j]? = some (some (.ref a)) → i = j) : Sl K Hs0 H0 Hs H (σ.set i (some (.ref a))) (γ.set i (some (.ow ds))) :=
  S.ownB i h0 hn ha rfl ⟨vs, rfl, r⟩ nw
/-- what is its own is changed, and what is shared too if hn' says so -/
theorem Sl.putX {a : Addr} {o o' : HO} {s s' : Slot} {Hs2 : Hp} (S : Sl K Hs0 H0 Hs H σ γ) (i : Nat) (hg : γ[i]? = some (some s)) (ho : s.isO = true) (hs : σ[i]? = some (some (.ref a))) (he : Same Hs Hs2) (hb : Same Hs2 (upd H a o')) (hk : ∀ b, b ≠ a → Hs2 b = Hs b) (nt : ∀ ps, o' ≠ .tbl ps)
    (r : SlotOk K Hs2 (upd H a o') (.ref a) s') (hi : s'.isO = true ∨ ∃ d, s' = .sh d) : Sl K Hs0 H0 Hs2 (upd H a o') σ (γ.set i (some s')) := by
  have h0 := S.fr i s a hg ho hs
  obtain ⟨hn, oH, ha, hA⟩ : Hs a = none ∧ ∃ oH, H a = some oH ∧ s.At K Hs a oH := by
    obtain ⟨v, hv, q⟩ := S.ok i s hg
    rw [hs] at hv; cases hv
    obtain ⟨b, o2, e, q1, q2, q3⟩ := (SlotOk.own ho).mp q
    cases e; exact ⟨q1, o2, q2, q3⟩
  have oH' := hA.oho
  have tb : TbOk Hs2 (upd H a o') := fun P hP => by
    obtain ⟨⟨ps, h1, h2⟩, h3⟩ := S.tb P hP
    have ne : P ≠ a := fun q => by rw [q, ha] at h1; cases h1; exact oH'.elim
    exact ⟨⟨ps, by rw [upd_ne ne]; exact h1, h2⟩, by rw [hk P ne]; exact h3⟩
  have gr : Grow Hs0 H0 Hs2 (upd H a o') := ⟨S.gr.s.trans he, fun b u e => by rw [upd_ne (ne_of_none e h0)]; exact S.gr.e _ _ e, hb, fun b u e n => by rw [hk b (ne_of_none e h0)]; exact S.gr.n b u e n, fun _ => tb⟩
  refine ⟨gr, by rw [List.length_set]; exact S.len, fun j t h => ?_, fun j t a' h ho' h' => ?_, fun j k t u a' h1 h2 o1 o2 h3 h4 => ?_, tb⟩
  · rcases get_set h with ⟨rfl, e⟩ | ⟨ne, h⟩
    · cases e
      exact ⟨.ref a, hs, r⟩
    · obtain ⟨v, hv, q⟩ := S.ok j t h
      refine ⟨v, hv, ?_⟩
      cases t with
      | sh d => exact Rep.mono he q
      | exc b cls d x =>
        refine ⟨q.1, q.2.1, q.2.2.imp id fun ⟨dd, vfs, e1, e2, e3⟩ => ⟨dd, vfs, e1, ?_, fun f v z => let ⟨u, p, q⟩ := e3 f v z; ⟨u, p, q.mono he⟩⟩⟩
        rw [upd_ne (fun q => by rw [q, ha] at e2; cases e2; exact oH'.elim)]; exact e2
      | ow fs =>
        obtain ⟨b, o2, rfl, k1, k2, k3⟩ := (SlotOk.own (s := .ow fs) rfl).mp q
        have nb : b ≠ a := fun q => by
          subst q
          exact ne (S.ne i j s _ b hg h ho rfl hs hv)
        exact (SlotOk.own (s := .ow fs) rfl).mpr ⟨b, o2, rfl, by rw [hk b nb]; exact k1, by rw [upd_ne nb]; exact k2, k3.mono he⟩
      | ob w =>
        obtain ⟨b, o2, rfl, k1, k2, k3⟩ := (SlotOk.own (s := .ob w) rfl).mp q
        have nb : b ≠ a := fun q => by
          subst q
          exact ne (S.ne i j s _ b hg h ho rfl hs hv)
        exact (SlotOk.own (s := .ob w) rfl).mpr ⟨b, o2, rfl, by rw [hk b nb]; exact k1, by rw [upd_ne nb]; exact k2, k3.mono he⟩
  · rcases get_set h with ⟨rfl, e⟩ | ⟨ne, h⟩
    · exact S.fr i s a' hg ho h'
    · exact S.fr j t a' h ho' h'
  · have w : ∀ (j' : Nat) (t' : Slot), (γ.set i (some s'))[j']? = some (some t') → t'.isO = true → ∃ t2, γ[j']? = some (some t2) ∧ t2.isO = true := fun j' t' q q2 => by
      rcases get_set q with ⟨rfl, _⟩ | ⟨_, q⟩
      · exact ⟨_, hg, ho⟩
      · exact ⟨_, q, q2⟩
    obtain ⟨f1, w1, v1⟩ := w j t h1 o1
    obtain ⟨f2, w2, v2⟩ := w k u h2 o2
    exact S.ne j k f1 f2 a' w1 w2 v1 v2 h3 h4
theorem Sl.nos {s : Slot} {a : Addr} (S : Sl K Hs0 H0 Hs H σ γ) (hg : γ[i]? = some (some s)) (ho : s.isO = true) (hs : σ[i]? = some (some (.ref a))) : Hs a = none ∧ ∃ o, H a = some o ∧ s.At K Hs a o := by
  obtain ⟨v, hv, q⟩ := S.ok i s hg
  rw [hs] at hv; cases hv
  obtain ⟨b, o2, e, q1, q2, q3⟩ := (SlotOk.own ho).mp q
  cases e; exact ⟨q1, o2, q2, q3⟩
/-- it stays its own -/
theorem Sl.putB {a : Addr} {o' : HO} {s s' : Slot} (S : Sl K Hs0 H0 Hs H σ γ) (i : Nat) (hg : γ[i]? = some (some s)) (ho : s.isO = true) (hs : σ[i]? = some (some (.ref a))) (ho' : s'.isO = true) (r : s'.At K Hs a o') : Sl K Hs0 H0 Hs (upd H a o') σ (γ.set i (some s')) := by
  obtain ⟨hn, _⟩ := S.nos hg ho hs
  have nt : ∀ ps, o' ≠ .tbl ps := fun ps e => by have := r.oho; rw [e] at this; exact this
  exact S.putX (o := o') i hg ho hs (.refl _) (fun b u e => by rw [upd_ne (fun q => by rw [q, hn] at e; cases e)]; exact S.gr.b _ _ e) (fun _ _ => rfl) nt ((SlotOk.own ho').mpr ⟨a, o', rfl, hn, upd_same, r⟩) (.inl ho')
/-- it becomes a datum -/
theorem Sl.frzB {a : Addr} {o' : HO} {s : Slot} {d : D} (S : Sl K Hs0 H0 Hs H σ γ) (i : Nat) (hg : γ[i]? = some (some s)) (ho : s.isO = true) (hs : σ[i]? = some (some (.ref a))) (nt : ∀ ps, o' ≠ .tbl ps) (r : Rep K (upd Hs a o') (.ref a) d) : Same Hs (upd Hs a o') ∧ Sl K Hs0 H0 (upd Hs a o') (upd H a o') σ (γ.set i (some (.sh d))) := by
  obtain ⟨hn, _⟩ := S.nos hg ho hs
  exact ⟨sameNew hn, S.putX (o := o') i hg ho hs (sameNew hn) (upd_same_of S.b) (fun b hb => upd_ne hb) nt r (.inr ⟨d, rfl⟩)⟩
theorem upd_self {H : Hp} {a : Addr} {o : HO} (h : H a = some o) : upd H a o = H := by
  funext b
  by_cases e : b = a
  · subst e; rw [upd_same, h]
  · rw [upd_ne e]
/-- its own list is changed -/
theorem Sl.put {a : Addr} {vs : List V} {ds es : List D} (S : Sl K Hs0 H0 Hs H σ γ) (i : Nat) (hg : γ[i]? = some (some (.ow ds))) (hs : σ[i]? = some (some (.ref a))) (hn : Hs a = none) (r : RepL K Hs vs es) : Sl K Hs0 H0 Hs (upd H a (.lst vs)) σ (γ.set i (some (.ow es))) :=
  S.putB i hg rfl hs rfl ⟨vs, rfl, r⟩
/-- its own list becomes a datum -/
theorem Sl.freeze {ds : List D} (S : Sl K Hs0 H0 Hs H σ γ) (i : Nat) (hg : γ[i]? = some (some (.ow ds))) : ∃ Hs', Same Hs Hs' ∧ Sl K Hs0 H0 Hs' H σ (γ.set i (some (.sh (.lst ds)))) := by
  obtain ⟨v, hv, a, vs, rfl, h1, h2, h3⟩ := S.ok i _ hg
  obtain ⟨e, T⟩ := S.frzB (o' := .lst vs) i hg rfl hv (fun _ z => by cases z) (.lst upd_same (RepL.mono (sameNew h1) h3))
  rw [upd_self h2] at T
  exact ⟨_, e, T⟩
/-- its own object becomes a datum -/
theorem Sl.freezeO {p : Addr} {c : Str} {ns : List Str} {ds : List D} (S : Sl K Hs0 H0 Hs H σ γ) (i : Nat) (hg : γ[i]? = some (some (.ob (.obj p c ns ds)))) : ∃ Hs', Same Hs Hs' ∧ Sl K Hs0 H0 Hs' H σ (γ.set i (some (.sh (.obj c ns ds)))) := by
  obtain ⟨v, hv, a, o, rfl, h1, h2, _, dx, vs, rfl, l, h3⟩ := S.ok i _ hg
  obtain ⟨e, T⟩ := S.frzB (o' := .ins (He.ga K c) dx (ns.zip vs)) i hg rfl hv (fun _ z => by cases z) (.obj upd_same l (RepL.mono (sameNew h1) h3))
  rw [upd_self h2] at T
  exact ⟨_, e, T⟩
end
end
end Z

namespace Z
open PySem L2
variable [Tabs]

/-! ### judgements over data -/
def EW (K : PySem.W.Frag) (te : TE) (γ : Gam) (Φ : D → Prop) : Prop := ∀ (Hs0 H0 Hs H : Hp) (σ : St) (Q : VK), Sl K Hs0 H0 Hs H σ γ →
  (∀ Hs' H' v d, Grow Hs H Hs' H' → Rep K Hs' v d → Φ d → Q v H') → te σ H Q
/-- a new list, nobody else's -/
def EN (K : PySem.W.Frag) (te : TE) (γ : Gam) (Φ : List D → Prop) : Prop := ∀ (Hs0 H0 Hs H : Hp) (σ : St) (Q : VK), Sl K Hs0 H0 Hs H σ γ →
  (∀ Hs' H' a vs ds, Grow Hs H Hs' H' → H a = none → Hs' a = none → H' a = some (.lst vs) → RepL K Hs' vs ds → Φ ds → Q (.ref a) H') → te σ H Q
def TW (K : PySem.W.Frag) (tt : TT) (γ : Gam) (Φ : Bool → Prop) : Prop := ∀ (Hs0 H0 Hs H : Hp) (σ : St) (Q : Bool → Hp → Prop), Sl K Hs0 H0 Hs H σ γ →
  (∀ Hs' H' b, Grow Hs H Hs' H' → Φ b → Q b H') → tt σ H Q
def AW (K : PySem.W.Frag) (ta : TA) (γ : Gam) (Φ : List D → Prop) : Prop := ∀ (Hs0 H0 Hs H : Hp) (σ : St) (Q : List V → Hp → Prop), Sl K Hs0 H0 Hs H σ γ →
  (∀ Hs' H' vs ds, Grow Hs H Hs' H' → RepL K Hs' vs ds → Φ ds → Q vs H') → ta σ H Q
def OW (K : PySem.W.Frag) (to : TO) (γ : Gam) (Φ : Option Int → Prop) : Prop := ∀ (Hs0 H0 Hs H : Hp) (σ : St) (Q : Option Int → Hp → Prop), Sl K Hs0 H0 Hs H σ γ →
  (∀ Hs' H' o, Grow Hs H Hs' H' → Φ o → Q o H') → to σ H Q
/-- an operation on values -/
def RW2 (K : PySem.W.Frag) (r : R2) (x y : D) (Φ : D → Prop) : Prop := ∀ (Hs H : Hp) (v u : V) (Q : VK), Same Hs H → Rep K Hs v x → Rep K Hs u y →
  (∀ Hs' H' w d, Grow Hs H Hs' H' → Rep K Hs' w d → Φ d → Q w H') → r v u H Q
def RWL (K : PySem.W.Frag) (r : List V → Hp → VK → Prop) (xs : List D) (Φ : D → Prop) : Prop := ∀ (Hs H : Hp) (vs : List V) (Q : VK), Same Hs H → RepL K Hs vs xs →
  (∀ Hs' H' w d, Grow Hs H Hs' H' → Rep K Hs' w d → Φ d → Q w H') → r vs H Q
def RWM (K : PySem.W.Frag) (r : V → List V → Hp → VK → Prop) (x : D) (xs : List D) (Φ : D → Prop) : Prop := ∀ (Hs H : Hp) (v : V) (vs : List V) (Q : VK), Same Hs H → Rep K Hs v x → RepL K Hs vs xs →
  (∀ Hs' H' w d, Grow Hs H Hs' H' → Rep K Hs' w d → Φ d → Q w H') → r v vs H Q
/-- .. that makes a new list -/
def RN2 (K : PySem.W.Frag) (r : R2) (x y : D) (Φ : List D → Prop) : Prop := ∀ (Hs H : Hp) (v u : V) (Q : VK), Same Hs H → Rep K Hs v x → Rep K Hs u y →
  (∀ Hs' H' a vs ds, Grow Hs H Hs' H' → H a = none → Hs' a = none → H' a = some (.lst vs) → RepL K Hs' vs ds → Φ ds → Q (.ref a) H') → r v u H Q
def RNL (K : PySem.W.Frag) (r : List V → Hp → VK → Prop) (xs : List D) (Φ : List D → Prop) : Prop := ∀ (Hs H : Hp) (vs : List V) (Q : VK), Same Hs H → RepL K Hs vs xs →
  (∀ Hs' H' a vs ds, Grow Hs H Hs' H' → H a = none → Hs' a = none → H' a = some (.lst vs) → RepL K Hs' vs ds → Φ ds → Q (.ref a) H') → r vs H Q
def RNM (K : PySem.W.Frag) (r : V → List V → Hp → VK → Prop) (x : D) (xs : List D) (Φ : List D → Prop) : Prop := ∀ (Hs H : Hp) (v : V) (vs : List V) (Q : VK), Same Hs H → Rep K Hs v x → RepL K Hs vs xs →
  (∀ Hs' H' a vs ds, Grow Hs H Hs' H' → H a = none → Hs' a = none → H' a = some (.lst vs) → RepL K Hs' vs ds → Φ ds → Q (.ref a) H') → r v vs H Q

section
variable {K : PySem.W.Frag} {γ : Gam} {Φ Ψ : D → Prop} {ta tb te : TE} {t u : TT} {r : R2} {x y d : D} {v : V} {i j : Nat}

theorem EW.mono (h : EW K te γ Φ) (k : ∀ d, Φ d → Ψ d) : EW K te γ Ψ := fun Hs0 H0 Hs H σ Q S q => h Hs0 H0 Hs H σ Q S fun Hs' H' v d g r p => q Hs' H' v d g r (k d p)
theorem TW.mono {Φ Ψ : Bool → Prop} (h : TW K t γ Φ) (k : ∀ d, Φ d → Ψ d) : TW K t γ Ψ := fun Hs0 H0 Hs H σ Q S q => h Hs0 H0 Hs H σ Q S fun Hs' H' b g p => q Hs' H' b g (k b p)
theorem EN.mono {Φ Ψ : List D → Prop} (h : EN K te γ Φ) (k : ∀ d, Φ d → Ψ d) : EN K te γ Ψ := fun Hs0 H0 Hs H σ Q S q => h Hs0 H0 Hs H σ Q S fun Hs' H' a vs ds g h1 h2 h3 h4 p => q Hs' H' a vs ds g h1 h2 h3 h4 (k _ p)
theorem en_grow {Hs H Hs' H' : Hp} {a : Addr} {vs : List V} {ds : List D} (g : Grow Hs H Hs' H') (h1 : H a = none) (h2 : Hs' a = none) (h3 : H' a = some (.lst vs)) (h4 : RepL K Hs' vs ds) :
    Grow Hs H (upd Hs' a (.lst vs)) H' ∧ Rep K (upd Hs' a (.lst vs)) (.ref a) (.lst ds) := by
  refine ⟨⟨g.s.trans (sameNew h2), g.e, fun b o q => ?_, fun b o q n => ?_, fun t P hP => ?_⟩, .lst upd_same (RepL.mono (sameNew h2) h4)⟩
  · by_cases hb : b = a
    · subst hb; rw [upd_same] at q; cases q; exact h3
    · rw [upd_ne hb] at q; exact g.b _ _ q
  · rw [upd_ne (ne_of_none q h1)]; exact g.n b o q n
  · obtain ⟨⟨ps, q1, q2⟩, q3⟩ := g.t t P hP
    exact ⟨⟨ps, q1, q2⟩, by rw [upd_ne (fun q => by rw [q, h3] at q1; cases q1)]; exact q3⟩
/-- a new list as a datum -/
theorem ew_new (h : EN K te γ fun ds => Φ (.lst ds)) : EW K te γ Φ := fun Hs0 H0 Hs H σ Q S q => h Hs0 H0 Hs H σ Q S fun Hs' H' a vs ds g h1 h2 h3 h4 p =>
  let ⟨g', r'⟩ := en_grow g h1 h2 h3 h4
  q _ _ _ _ g' r' p
theorem rw2_new {r : R2} (h : RN2 K r x y fun ds => Φ (.lst ds)) : RW2 K r x y Φ := fun Hs H v u Q b r1 r2 q => h Hs H v u Q b r1 r2 fun Hs' H' a vs ds g h1 h2 h3 h4 p =>
  let ⟨g', r'⟩ := en_grow g h1 h2 h3 h4
  q _ _ _ _ g' r' p
theorem rwl_new {r : List V → Hp → VK → Prop} {xs : List D} (h : RNL K r xs fun ds => Φ (.lst ds)) : RWL K r xs Φ := fun Hs H vs Q b r1 q => h Hs H vs Q b r1 fun Hs' H' a vs ds g h1 h2 h3 h4 p =>
  let ⟨g', r'⟩ := en_grow g h1 h2 h3 h4
  q _ _ _ _ g' r' p
theorem rwm_new {r : V → List V → Hp → VK → Prop} {xs : List D} (h : RNM K r x xs fun ds => Φ (.lst ds)) : RWM K r x xs Φ := fun Hs H v vs Q b r1 r2 q => h Hs H v vs Q b r1 r2 fun Hs' H' a vs ds g h1 h2 h3 h4 p =>
  let ⟨g', r'⟩ := en_grow g h1 h2 h3 h4
  q _ _ _ _ g' r' p

/-! ### names, constants -/
theorem ew_var (h : γ[i]? = some (some (.sh d))) (k : Φ d) : EW K (tVar i) γ Φ := fun _ _ Hs H σ Q S q => by
  obtain ⟨v, hv, r⟩ := S.ok i _ h
  exact ⟨v, hv, q _ _ _ _ (.refl S.b) r k⟩
theorem ew_c (h : plainV v = true) (k : Φ (ofV v)) : EW K (tC v) γ Φ := fun _ _ Hs H σ Q S q => q _ _ _ _ (.refl S.b) (.ofV h) k
/-- a module's constant that stands in the written part -/
theorem ew_k (h : ∀ H, Rep K H v d) (k : Φ d) : EW K (tC v) γ Φ := fun _ _ Hs H σ Q S q => q _ _ _ _ (.refl S.b) (h _) k

/-! ### operators -/
theorem ew_op (h : EW K ta γ fun x => EW K tb γ fun y => RW2 K r x y Φ) : EW K (tOp r ta tb) γ Φ := fun Hs0 H0 Hs H σ Q S q =>
  h Hs0 H0 Hs H σ _ S fun Hs1 H1 v x g1 r1 h1 => h1 Hs0 H0 Hs1 H1 σ _ (S.grow g1) fun Hs2 H2 u y g2 r2 h2 => h2 Hs2 H2 v u Q g2.b (r1.mono g2.s) r2 fun Hs3 H3 w d g3 r3 p => q _ _ _ _ ((g1.trans g2).trans g3) r3 p
theorem en_op {Φ : List D → Prop} (h : EW K ta γ fun x => EW K tb γ fun y => RN2 K r x y Φ) : EN K (tOp r ta tb) γ Φ := fun Hs0 H0 Hs H σ Q S q =>
  h Hs0 H0 Hs H σ _ S fun Hs1 H1 v x g1 r1 h1 => h1 Hs0 H0 Hs1 H1 σ _ (S.grow g1) fun Hs2 H2 u y g2 r2 h2 => h2 Hs2 H2 v u Q g2.b (r1.mono g2.s) r2 fun Hs3 H3 a vs ds g3 n1 n2 n3 n4 p =>
    q _ _ a vs ds ((g1.trans g2).trans g3) (SameT.free (g1.trans g2).e n1) n2 n3 n4 p
theorem rw_I0 {g : Int → Int → V} {i j : Int} (h : plainV (g i j) = true) (k : Φ (ofV (g i j))) : RW2 K (rI0 g) (.int i) (.int j) Φ := fun Hs H v u Q b r1 r2 q => by
  cases r1; cases r2
  exact ⟨i, j, rfl, rfl, q _ _ _ _ (.refl b) (.ofV h) k⟩
theorem rw_I {C : Int → Int → Prop} {g : Int → Int → V} {i j : Int} (c : C i j) (h : plainV (g i j) = true) (k : Φ (ofV (g i j))) : RW2 K (rI C g) (.int i) (.int j) Φ := fun Hs H v u Q b r1 r2 q => by
  cases r1; cases r2
  exact ⟨i, j, rfl, rfl, c, q _ _ _ _ (.refl b) (.ofV h) k⟩
def sizeS : Nat := 1000000
theorem sz_ok {n : Nat} (h : n ≤ sizeS) : n ≤ sizeLine := Nat.le_trans h (by decide)
theorem sz_lt {n : Nat} (h : n ≤ sizeS) : n < sizeLine := Nat.lt_of_le_of_lt h (by decide)
def rAddStr : R2 := fun x y H Q => ∃ i j, x = .str i ∧ y = .str j ∧ i.length + j.length ≤ sizeLine ∧ Q (.str (i ++ j)) H
theorem op_addStr {X : Cx} : OpR X (binaryOp .Add) rAddStr := op_add_str
theorem rw_addStr {i j : Str} (h : i.length + j.length ≤ sizeS) (k : Φ (.str (i ++ j))) : RW2 K rAddStr (.str i) (.str j) Φ := fun Hs H v u Q b r1 r2 q => by
  cases r1; cases r2
  exact ⟨i, j, rfl, rfl, sz_ok h, q _ _ _ _ (.refl b) (.str _) k⟩
/-- == of flat data -/
def eqD : D → D → Bool
  | .non, .non => true
  | .bl a, .bl b => a == b
  | .int a, .int b => a == b
  | .str a, .str b => a == b
  | _, _ => false
theorem rw_eqS {i j : Str} (k : Φ (.bl (decide (i = j)))) : RW2 K rEq (.str i) (.str j) Φ := fun Hs H v u Q b r1 r2 q => by
  cases r1; cases r2
  refine ⟨rfl, q _ _ _ _ (.refl b) (.bl _) ?_⟩
  have e : decide (V.str i = V.str j) = decide (i = j) := by
    by_cases h : i = j
    · subst h; simp
    · rw [decide_eq_false h, decide_eq_false fun z => h (V.str.inj z)]
  rw [e]; exact k
theorem rw_neS {i j : Str} (k : Φ (.bl (!decide (i = j)))) : RW2 K rNe (.str i) (.str j) Φ := fun Hs H v u Q b r1 r2 q => by
  cases r1; cases r2
  refine ⟨rfl, q _ _ _ _ (.refl b) (.bl _) ?_⟩
  have e : decide (V.str i = V.str j) = decide (i = j) := by
    by_cases h : i = j
    · subst h; simp
    · rw [decide_eq_false h, decide_eq_false fun z => h (V.str.inj z)]
  rw [e]; exact k
theorem rw_eqI {i j : Int} (k : Φ (.bl (decide (i = j)))) : RW2 K rEq (.int i) (.int j) Φ := fun Hs H v u Q b r1 r2 q => by
  cases r1; cases r2
  refine ⟨rfl, q _ _ _ _ (.refl b) (.bl _) ?_⟩
  have e : decide (V.int i = V.int j) = decide (i = j) := by
    by_cases h : i = j
    · subst h; simp
    · rw [decide_eq_false h, decide_eq_false fun z => h (V.int.inj z)]
  rw [e]; exact k
theorem rw_neI {i j : Int} (k : Φ (.bl (!decide (i = j)))) : RW2 K rNe (.int i) (.int j) Φ := fun Hs H v u Q b r1 r2 q => by
  cases r1; cases r2
  refine ⟨rfl, q _ _ _ _ (.refl b) (.bl _) ?_⟩
  have e : decide (V.int i = V.int j) = decide (i = j) := by
    by_cases h : i = j
    · subst h; simp
    · rw [decide_eq_false h, decide_eq_false fun z => h (V.int.inj z)]
  rw [e]; exact k
theorem rw_eqB {i j : Bool} (k : Φ (.bl (decide (i = j)))) : RW2 K rEq (.bl i) (.bl j) Φ := fun Hs H v u Q b r1 r2 q => by
  cases r1; cases r2
  refine ⟨rfl, q _ _ _ _ (.refl b) (.bl _) ?_⟩
  have e : decide (V.bl i = V.bl j) = decide (i = j) := by cases i <;> cases j <;> rfl
  rw [e]; exact k
/-- orders of texts -/
def ltS (a b : Str) : Bool := decide (a.cps.toList < b.cps.toList)
def rLtS : R2 := fun x y H Q => ∃ i j, x = .str i ∧ y = .str j ∧ Q (.bl (ltS i j)) H
def rLeS : R2 := fun x y H Q => ∃ i j, x = .str i ∧ y = .str j ∧ Q (.bl (!ltS j i)) H
def rGtS : R2 := fun x y H Q => ∃ i j, x = .str i ∧ y = .str j ∧ Q (.bl (ltS j i)) H
def rGeS : R2 := fun x y H Q => ∃ i j, x = .str i ∧ y = .str j ∧ Q (.bl (!ltS i j)) H
theorem op_ltS {X : Cx} : OpR X (compareOp .Lt) rLtS := op_lt_str
theorem op_leS {X : Cx} : OpR X (compareOp .LtE) rLeS := op_le_str
theorem op_gtS {X : Cx} : OpR X (compareOp .Gt) rGtS := op_gt_str
theorem op_geS {X : Cx} : OpR X (compareOp .GtE) rGeS := op_ge_str
theorem rw_ltS {i j : Str} (k : Φ (.bl (ltS i j))) : RW2 K rLtS (.str i) (.str j) Φ := fun Hs H v u Q b r1 r2 q => by
  cases r1; cases r2; exact ⟨i, j, rfl, rfl, q _ _ _ _ (.refl b) (.bl _) k⟩
theorem rw_leS {i j : Str} (k : Φ (.bl (!ltS j i))) : RW2 K rLeS (.str i) (.str j) Φ := fun Hs H v u Q b r1 r2 q => by
  cases r1; cases r2; exact ⟨i, j, rfl, rfl, q _ _ _ _ (.refl b) (.bl _) k⟩
theorem rw_gtS {i j : Str} (k : Φ (.bl (ltS j i))) : RW2 K rGtS (.str i) (.str j) Φ := fun Hs H v u Q b r1 r2 q => by
  cases r1; cases r2; exact ⟨i, j, rfl, rfl, q _ _ _ _ (.refl b) (.bl _) k⟩
theorem rw_geS {i j : Str} (k : Φ (.bl (!ltS i j))) : RW2 K rGeS (.str i) (.str j) Φ := fun Hs H v u Q b r1 r2 q => by
  cases r1; cases r2; exact ⟨i, j, rfl, rfl, q _ _ _ _ (.refl b) (.bl _) k⟩
/-- a text in a text -/
def inS (a b : Str) : Bool := !(Builtin.Str.occurrences b a 0 b.length 1).isEmpty
def rInSt : R2 := fun x y H Q => ∃ i j, x = .str i ∧ y = .str j ∧ Q (.bl (inS i j)) H
def rNiSt : R2 := fun x y H Q => ∃ i j, x = .str i ∧ y = .str j ∧ Q (.bl (!inS i j)) H
theorem op_inSt {X : Cx} : OpR X (compareOp .In) rInSt := op_in_str
theorem op_niSt {X : Cx} : OpR X (compareOp .NotIn) rNiSt := op_notIn_str
theorem rw_inS {i j : Str} (k : Φ (.bl (inS i j))) : RW2 K rInSt (.str i) (.str j) Φ := fun Hs H v u Q b r1 r2 q => by
  cases r1; cases r2; exact ⟨i, j, rfl, rfl, q _ _ _ _ (.refl b) (.bl _) k⟩
theorem rw_niS {i j : Str} (k : Φ (.bl (!inS i j))) : RW2 K rNiSt (.str i) (.str j) Φ := fun Hs H v u Q b r1 r2 q => by
  cases r1; cases r2; exact ⟨i, j, rfl, rfl, q _ _ _ _ (.refl b) (.bl _) k⟩
/-- in a list or tuple of texts -/
theorem str_flat : ∀ xs : List Str, (xs.map V.str).all flatV = true
  | [] => rfl
  | x :: xs => by rw [List.map_cons, List.all_cons, str_flat xs]; rfl
theorem inV_str (x : Str) : ∀ xs : List Str, inV (.str x) (xs.map V.str) = decide (x ∈ xs)
  | [] => rfl
  | y :: xs => by
    have ih := inV_str x xs
    unfold inV at ih ⊢
    rw [List.map_cons, List.any_cons, ih]
    have e : eqV (.str y) (.str x) = decide (x = y) := by
      show (y == x) = decide (x = y)
      by_cases h : x = y
      · subst h; simp
      · rw [decide_eq_false h]; exact beq_eq_false_iff_ne.mpr (Ne.symm h)
    rw [e]
    by_cases h1 : x = y
    · simp [h1]
    · simp [h1]
theorem rw_inL {x : Str} {xs : List Str} (k : Φ (.bl (decide (x ∈ xs)))) : RW2 K (rIn K false) (.str x) (.lst (xs.map .str)) Φ := fun Hs H v u Q b r1 r2 q => by
  cases r1
  cases r2 with
  | lst h r =>
    have e := r.strs; subst e
    refine ⟨_, _, rfl, .inl (.of (b _ _ h)), rfl, str_flat xs, q _ _ _ _ (.refl b) (.bl _) ?_⟩
    rw [inV_str]; exact k
theorem rw_inT {x : Str} {xs : List Str} (k : Φ (.bl (decide (x ∈ xs)))) : RW2 K (rIn K false) (.str x) (.tup (xs.map .str)) Φ := fun Hs H v u Q b r1 r2 q => by
  cases r1
  cases r2 with
  | tup h r =>
    have e := r.strs; subst e
    refine ⟨_, _, rfl, .inr (sameT b h), rfl, str_flat xs, q _ _ _ _ (.refl b) (.bl _) ?_⟩
    rw [inV_str]; exact k
theorem rw_niL {x : Str} {xs : List Str} (k : Φ (.bl (!decide (x ∈ xs)))) : RW2 K (rIn K true) (.str x) (.lst (xs.map .str)) Φ := fun Hs H v u Q b r1 r2 q => by
  cases r1
  cases r2 with
  | lst h r =>
    have e := r.strs; subst e
    refine ⟨_, _, rfl, .inl (.of (b _ _ h)), rfl, str_flat xs, q _ _ _ _ (.refl b) (.bl _) ?_⟩
    rw [inV_str]; exact k
theorem rw_niT {x : Str} {xs : List Str} (k : Φ (.bl (!decide (x ∈ xs)))) : RW2 K (rIn K true) (.str x) (.tup (xs.map .str)) Φ := fun Hs H v u Q b r1 r2 q => by
  cases r1
  cases r2 with
  | tup h r =>
    have e := r.strs; subst e
    refine ⟨_, _, rfl, .inr (sameT b h), rfl, str_flat xs, q _ _ _ _ (.refl b) (.bl _) ?_⟩
    rw [inV_str]; exact k
/-- items -/
theorem rep_at {H : Hp} {vs : List V} {ds : List D} {i : Int} (r : RepL K H vs ds) (h : atI ds i = some d) : ∃ v, atI vs i = some v ∧ Rep K H v d := by
  unfold atI at h ⊢
  rw [r.length]
  cases e : ixN ds.length i with
  | none => rw [e] at h; cases h
  | some j =>
    rw [e] at h
    obtain ⟨v, h1, h2⟩ := r.get (show ds[j]? = some d from h)
    exact ⟨v, h1, h2⟩
theorem rw_ixL {ds : List D} {i : Int} (h : atI ds i = some d) (k : Φ d) : RW2 K (rIxL K) (.lst ds) (.int i) Φ := fun Hs H v u Q b r1 r2 q => by
  cases r2
  cases r1 with
  | lst h' r =>
    obtain ⟨v, h1, h2⟩ := rep_at r h
    exact ⟨_, _, i, v, rfl, rfl, .of (b _ _ h'), h1, q _ _ _ _ (.refl b) h2 k⟩
theorem rw_ixT {ds : List D} {i : Int} (h : atI ds i = some d) (k : Φ d) : RW2 K (rIxT K) (.tup ds) (.int i) Φ := fun Hs H v u Q b r1 r2 q => by
  cases r2
  cases r1 with
  | tup h' r =>
    obtain ⟨v, h1, h2⟩ := rep_at r h
    exact ⟨_, _, i, v, rfl, rfl, sameT b h', h1, q _ _ _ _ (.refl b) h2 k⟩
theorem rw_ixC {ns : List Int} {i n : Int} (h : atI ns i = some n) (k : Φ (.int n)) : RW2 K (rIxL K) (.scr ns) (.int i) Φ := fun Hs H v u Q b r1 r2 q => by
  cases r2
  cases r1 with
  | scr h' =>
    refine ⟨_, _, i, .int n, rfl, rfl, sameL b h', ?_, q _ _ _ _ (.refl b) (.int _) k⟩
    unfold atI at h ⊢
    rw [List.length_map]
    cases e : ixN ns.length i with
    | none => rw [e] at h; cases h
    | some j =>
      rw [e] at h
      show (ns.map V.int)[j]? = some (.int n)
      rw [List.getElem?_map, show ns[j]? = some n from h]; rfl
theorem rw_ixS {z : Str} {i : Int} {c : Nat} (l : z.length ≤ sizeS) (h : atI z.cps.toList i = some c) (k : Φ (.str ⟨#[c]⟩)) : RW2 K rIxS (.str z) (.int i) Φ := fun Hs H v u Q b r1 r2 q => by
  cases r1; cases r2
  exact ⟨z, i, c, rfl, rfl, sz_ok l, h, q _ _ _ _ (.refl b) (.str _) k⟩
/-- a list and another -/
theorem rn_cat {ds es : List D} (l : ds.length + es.length ≤ sizeS) {Φ : List D → Prop} (k : Φ (ds ++ es)) : RN2 K rCat (.lst ds) (.lst es) Φ := fun Hs H v u Q b r1 r2 q => by
  cases r1 with
  | lst h1 r1 =>
    cases r2 with
    | lst h2 r2 =>
      refine ⟨_, _, _, _, rfl, rfl, b _ _ h1, b _ _ h2, by rw [r1.length, r2.length]; exact sz_ok l, fun p hp => ?_⟩
      exact q Hs _ p _ _ (.hid b hp) hp (b.free hp) upd_same (r1.append r2) k
end
end Z

namespace Z
open PySem L2
variable [Tabs]
section
variable {K : PySem.W.Frag} {γ : Gam} {Φ Ψ : D → Prop} {ta tb tc te : TE} {t u : TT} {r r' : R2} {x y d : D} {v : V} {i j : Nat}

/-! ### tests, and, or, not -/
theorem tw_test {Φ : Bool → Prop} (h : EW K te γ fun d => ∃ b, d = .bl b ∧ Φ b) : TW K (tTest te) γ Φ := fun Hs0 H0 Hs H σ Q S q =>
  h Hs0 H0 Hs H σ _ S fun Hs' H' v d g r ⟨b, e, p⟩ => by
    subst e; cases r
    exact ⟨b, rfl, q _ _ b g p⟩
theorem tw_B {Φ : Bool → Prop} (h : EW K te γ fun d => ∃ b, d = .bl b ∧ Φ b) : TW K (tB te) γ Φ := fun Hs0 H0 Hs H σ Q S q =>
  h Hs0 H0 Hs H σ _ S fun Hs' H' v d g r ⟨b, e, p⟩ => by
    subst e; cases r
    exact ⟨b, rfl, q _ _ b g p⟩
theorem tw_and {Φ : Bool → Prop} (h : TW K t γ fun b => (b = true → TW K u γ Φ) ∧ (b = false → Φ false)) : TW K (tAnd t u) γ Φ := fun Hs0 H0 Hs H σ Q S q =>
  h Hs0 H0 Hs H σ _ S fun Hs' H' b g ⟨p1, p2⟩ => by
    cases b with
    | true => exact p1 rfl Hs0 H0 Hs' H' σ Q (S.grow g) fun Hs2 H2 b2 g2 p => q _ _ b2 (g.trans g2) p
    | false => exact q _ _ false g (p2 rfl)
theorem tw_or {Φ : Bool → Prop} (h : TW K t γ fun b => (b = true → Φ true) ∧ (b = false → TW K u γ Φ)) : TW K (tOr t u) γ Φ := fun Hs0 H0 Hs H σ Q S q =>
  h Hs0 H0 Hs H σ _ S fun Hs' H' b g ⟨p1, p2⟩ => by
    cases b with
    | false => exact p2 rfl Hs0 H0 Hs' H' σ Q (S.grow g) fun Hs2 H2 b2 g2 p => q _ _ b2 (g.trans g2) p
    | true => exact q _ _ true g (p1 rfl)
theorem tw_not {Φ : Bool → Prop} (h : TW K t γ fun b => Φ (!b)) : TW K (tNot t) γ Φ := fun Hs0 H0 Hs H σ Q S q =>
  h Hs0 H0 Hs H σ _ S fun Hs' H' b g p => q _ _ _ g p
theorem tw_yes {Φ : Bool → Prop} (h : Φ true) : TW K tYes γ Φ := fun Hs0 H0 Hs H σ Q S q => q _ _ true (.refl S.b) h
theorem ew_andV (h : EW K ta γ fun d => ∃ b, d = .bl b ∧ ((b = true → EW K tb γ Φ) ∧ (b = false → Φ (.bl false)))) : EW K (tAndV ta tb) γ Φ := fun Hs0 H0 Hs H σ Q S q =>
  h Hs0 H0 Hs H σ _ S fun Hs' H' v d g r ⟨b, e, p1, p2⟩ => by
    subst e; cases r
    refine ⟨b, rfl, ?_⟩
    cases b with
    | true => exact p1 rfl Hs0 H0 Hs' H' σ Q (S.grow g) fun Hs2 H2 v2 d2 g2 r2 p => q _ _ v2 d2 (g.trans g2) r2 p
    | false => exact q _ _ _ _ g (.bl _) (p2 rfl)
theorem ew_orV (h : EW K ta γ fun d => ∃ b, d = .bl b ∧ ((b = true → Φ (.bl true)) ∧ (b = false → EW K tb γ Φ))) : EW K (tOrV ta tb) γ Φ := fun Hs0 H0 Hs H σ Q S q =>
  h Hs0 H0 Hs H σ _ S fun Hs' H' v d g r ⟨b, e, p1, p2⟩ => by
    subst e; cases r
    refine ⟨b, rfl, ?_⟩
    cases b with
    | false => exact p2 rfl Hs0 H0 Hs' H' σ Q (S.grow g) fun Hs2 H2 v2 d2 g2 r2 p => q _ _ v2 d2 (g.trans g2) r2 p
    | true => exact q _ _ _ _ g (.bl _) (p1 rfl)
theorem ew_notV (h : EW K ta γ fun d => ∃ b, d = .bl b ∧ Φ (.bl (!b))) : EW K (tNotV ta) γ Φ := fun Hs0 H0 Hs H σ Q S q =>
  h Hs0 H0 Hs H σ _ S fun Hs' H' v d g r ⟨b, e, p⟩ => by
    subst e; cases r
    exact ⟨b, rfl, q _ _ _ _ g (.bl _) p⟩
theorem ew_if (h : TW K t γ fun b => (b = true → EW K ta γ Φ) ∧ (b = false → EW K tb γ Φ)) : EW K (tIf t ta tb) γ Φ := fun Hs0 H0 Hs H σ Q S q =>
  h Hs0 H0 Hs H σ _ S fun Hs' H' b g ⟨p1, p2⟩ => by
    cases b with
    | true => exact p1 rfl Hs0 H0 Hs' H' σ Q (S.grow g) fun Hs2 H2 v2 d2 g2 r2 p => q _ _ v2 d2 (g.trans g2) r2 p
    | false => exact p2 rfl Hs0 H0 Hs' H' σ Q (S.grow g) fun Hs2 H2 v2 d2 g2 r2 p => q _ _ v2 d2 (g.trans g2) r2 p
theorem ew_chain (h : EW K ta γ fun x => EW K tb γ fun y => RW2 K r x y fun z => ∃ b, z = .bl b ∧ ((b = true → EW K tc γ fun w => RW2 K r' y w Φ) ∧ (b = false → Φ (.bl false)))) : EW K (tChain r r' ta tb tc) γ Φ := fun Hs0 H0 Hs H σ Q S q =>
  h Hs0 H0 Hs H σ _ S fun Hs1 H1 v x g1 r1 h1 => h1 Hs0 H0 Hs1 H1 σ _ (S.grow g1) fun Hs2 H2 u y g2 r2 h2 => h2 Hs2 H2 v u _ g2.b (r1.mono g2.s) r2 fun Hs3 H3 w d g3 r3 ⟨b, e, p1, p2⟩ => by
    subst e; cases r3
    refine ⟨b, rfl, ?_⟩
    cases b with
    | true => exact p1 rfl Hs0 H0 Hs3 H3 σ _ (S.grow ((g1.trans g2).trans g3)) fun Hs4 H4 w4 d4 g4 r4 h4 => h4 Hs4 H4 u w4 Q g4.b ((r2.mono g3.s).mono g4.s) r4 fun Hs5 H5 w5 d5 g5 r5 p => q _ _ _ _ ((((g1.trans g2).trans g3).trans g4).trans g5) r5 p
    | false => exact q _ _ _ _ ((g1.trans g2).trans g3) (.bl _) (p2 rfl)
/-- truth of a text, an int, a list -/
def tTru (K : PySem.W.Frag) (ta : TE) : TT := fun σ H Q => ta σ H fun x H' => ∃ k, TruV K x H' k ∧ Q k H'

/-! ### arguments, calls -/
theorem aw_nil {Φ : List D → Prop} (h : Φ []) : AW K tNil γ Φ := fun Hs0 H0 Hs H σ Q S q => q _ _ [] [] (.refl S.b) .nil h
theorem aw_cons {Φ : List D → Prop} {tr : TA} (h : EW K te γ fun d => AW K tr γ fun ds => Φ (d :: ds)) : AW K (tCons te tr) γ Φ := fun Hs0 H0 Hs H σ Q S q =>
  h Hs0 H0 Hs H σ _ S fun Hs1 H1 v d g1 r1 h1 => h1 Hs0 H0 Hs1 H1 σ _ (S.grow g1) fun Hs2 H2 vs ds g2 r2 p => q _ _ _ _ (g1.trans g2) (.cons (r1.mono g2.s) r2) p
theorem ew_cb {tr : TA} {r : List V → Hp → VK → Prop} (h : AW K tr γ fun ds => RWL K r ds Φ) : EW K (tCB r tr) γ Φ := fun Hs0 H0 Hs H σ Q S q =>
  h Hs0 H0 Hs H σ _ S fun Hs1 H1 vs ds g1 r1 h1 => h1 Hs1 H1 vs Q g1.b r1 fun Hs2 H2 w d g2 r2 p => q _ _ _ _ (g1.trans g2) r2 p
theorem en_cb {Φ : List D → Prop} {tr : TA} {r : List V → Hp → VK → Prop} (h : AW K tr γ fun ds => RNL K r ds Φ) : EN K (tCB r tr) γ Φ := fun Hs0 H0 Hs H σ Q S q =>
  h Hs0 H0 Hs H σ _ S fun Hs1 H1 vs ds g1 r1 h1 => h1 Hs1 H1 vs Q g1.b r1 fun Hs2 H2 a ws es g2 n1 n2 n3 n4 p => q _ _ a ws es (g1.trans g2) (SameT.free g1.e n1) n2 n3 n4 p
/-- a method of a text -/
theorem ew_m0 {r : V → List V → Hp → VK → Prop} (h : EW K ta γ fun x => ∃ z, x = .str z ∧ RWM K r x [] Φ) : EW K (tM0 r ta) γ Φ := fun Hs0 H0 Hs H σ Q S q =>
  h Hs0 H0 Hs H σ _ S fun Hs1 H1 v x g1 r1 ⟨z, e, h1⟩ => by
    subst e
    have rz := r1
    cases r1
    exact ⟨⟨z, rfl⟩, h1 Hs1 H1 _ [] Q g1.b rz .nil fun Hs2 H2 w d g2 r2 p => q _ _ _ _ (g1.trans g2) r2 p⟩
theorem ew_m1 {r : V → List V → Hp → VK → Prop} (h : EW K ta γ fun x => ∃ z, x = .str z ∧ EW K tb γ fun y => RWM K r x [y] Φ) : EW K (tM1 r ta tb) γ Φ := fun Hs0 H0 Hs H σ Q S q =>
  h Hs0 H0 Hs H σ _ S fun Hs1 H1 v x g1 r1 ⟨z, e, h1⟩ => by
    subst e
    have rz := r1
    cases r1
    exact ⟨⟨z, rfl⟩, h1 Hs0 H0 Hs1 H1 σ _ (S.grow g1) fun Hs2 H2 w y g2 r2 h2 => h2 Hs2 H2 _ [w] Q g2.b (rz.mono g2.s) (.cons r2 .nil) fun Hs3 H3 w d g3 r3 p => q _ _ _ _ ((g1.trans g2).trans g3) r3 p⟩
theorem en_m1 {Φ : List D → Prop} {r : V → List V → Hp → VK → Prop} (h : EW K ta γ fun x => ∃ z, x = .str z ∧ EW K tb γ fun y => RNM K r x [y] Φ) : EN K (tM1 r ta tb) γ Φ := fun Hs0 H0 Hs H σ Q S q =>
  h Hs0 H0 Hs H σ _ S fun Hs1 H1 v x g1 r1 ⟨z, e, h1⟩ => by
    subst e
    have rz := r1
    cases r1
    exact ⟨⟨z, rfl⟩, h1 Hs0 H0 Hs1 H1 σ _ (S.grow g1) fun Hs2 H2 w y g2 r2 h2 => h2 Hs2 H2 _ [w] Q g2.b (rz.mono g2.s) (.cons r2 .nil) fun Hs3 H3 a ws es g3 n1 n2 n3 n4 p => q _ _ a ws es ((g1.trans g2).trans g3) (SameT.free (g1.trans g2).e n1) n2 n3 n4 p⟩

/-! ### built-ins -/
theorem rwl_abs {i : Int} (k : Φ (.int (if i < 0 then -i else i))) : RWL K (fun xs H Q => ∃ i, xs = [.int i] ∧ Q (.int (if i < 0 then -i else i)) H) [.int i] Φ := fun Hs H vs Q b r q => by
  cases r with
  | cons h r => cases h; cases r; exact ⟨i, rfl, q _ _ _ _ (.refl b) (.int _) k⟩
theorem rwl_int {i : Int} (k : Φ (.int i)) : RWL K (fun xs H Q => (∃ i, xs = [.int i] ∧ Q (.int i) H) ∨ ∃ k, xs = [.bl k] ∧ Q (.int (if k then 1 else 0)) H) [.int i] Φ := fun Hs H vs Q b r q => by
  cases r with
  | cons h r => cases h; cases r; exact .inl ⟨i, rfl, q _ _ _ _ (.refl b) (.int _) k⟩
theorem rwl_max2 {i j : Int} (k : Φ (.int (if j > i then j else i))) : RWL K (fun xs H Q => ∃ i j, xs = [.int i, .int j] ∧ Q (.int (if j > i then j else i)) H) [.int i, .int j] Φ := fun Hs H vs Q b r q => by
  cases r with
  | cons h r => cases h; cases r with | cons h r => cases h; cases r; exact ⟨i, j, rfl, q _ _ _ _ (.refl b) (.int _) k⟩
theorem rwl_min2 {i j : Int} (k : Φ (.int (if j < i then j else i))) : RWL K (fun xs H Q => ∃ i j, xs = [.int i, .int j] ∧ Q (.int (if j < i then j else i)) H) [.int i, .int j] Φ := fun Hs H vs Q b r q => by
  cases r with
  | cons h r => cases h; cases r with | cons h r => cases h; cases r; exact ⟨i, j, rfl, q _ _ _ _ (.refl b) (.int _) k⟩
def rLen (K : PySem.W.Frag) : List V → Hp → VK → Prop := fun xs H Q => ∃ x n, xs = [x] ∧ LenV K x H n ∧ Q (.int n) H
theorem call_lenZ {X : Cx} : CallR X (.builtin "len") (rLen X.K) := call_len
theorem rwl_lenL {ds : List D} (k : Φ (.int ds.length)) : RWL K (rLen K) [.lst ds] Φ := fun Hs H vs Q b r q => by
  cases r with
  | cons h r =>
    cases r
    cases h with
    | lst h r => exact ⟨_, ds.length, rfl, .inl ⟨_, .of (b _ _ h), r.length.symm ▸ rfl⟩, q _ _ _ _ (.refl b) (.int _) k⟩
theorem rwl_lenT {ds : List D} (k : Φ (.int ds.length)) : RWL K (rLen K) [.tup ds] Φ := fun Hs H vs Q b r q => by
  cases r with
  | cons h r =>
    cases r
    cases h with
    | tup h r => exact ⟨_, ds.length, rfl, .inr ⟨_, sameT b h, r.length.symm ▸ rfl⟩, q _ _ _ _ (.refl b) (.int _) k⟩
theorem rwl_lenC {ns : List Int} (k : Φ (.int ns.length)) : RWL K (rLen K) [.scr ns] Φ := fun Hs H vs Q b r q => by
  cases r with
  | cons h r =>
    cases r
    cases h with
    | scr h => exact ⟨_, ns.length, rfl, .inl ⟨_, sameL b h, by simp⟩, q _ _ _ _ (.refl b) (.int _) k⟩
theorem rwl_lenS {z : Str} (l : z.length ≤ sizeS) (k : Φ (.int z.length)) : RWL K (rLen K) [.str z] Φ := fun Hs H vs Q b r q => by
  cases r with
  | cons h r =>
    cases r
    cases h
    exact ⟨_, z.length, rfl, ⟨sz_ok l, rfl⟩, q _ _ _ _ (.refl b) (.int _) k⟩
theorem rwl_strI {i : Int} (l : i.natAbs < 2 ^ 64) (k : Φ (.str (toString i))) : RWL K (fun xs H Q => ∃ i, xs = [.int i] ∧ i.natAbs.log2 < 1920 ∧ Q (.str (toString i)) H) [.int i] Φ := fun Hs H vs Q b r q => by
  cases r with
  | cons h r =>
    cases h; cases r
    refine ⟨i, rfl, ?_, q _ _ _ _ (.refl b) (.str _) k⟩
    by_cases h0 : i.natAbs = 0
    · rw [h0]; decide
    · exact Nat.lt_trans ((Nat.log2_lt h0).mpr l) (by decide)
def rListOf (K : PySem.W.Frag) : List V → Hp → VK → Prop := fun xs H Q => ∃ p ys, xs = [.ref p] ∧ (SqL K H p ys ∨ SqT K H p ys) ∧ ∀ l, H l = none → Q (.ref l) (upd H l (.lst ys))
theorem call_listZ {X : Cx} : CallR X (.type "list") (rListOf X.K) := call_list_of
theorem rnl_listL {ds : List D} {Φ : List D → Prop} (k : Φ ds) : RNL K (rListOf K) [.lst ds] Φ := fun Hs H vs Q b r q => by
  cases r with
  | cons h r =>
    cases r
    cases h with
    | lst h r => exact ⟨_, _, rfl, .inl (.of (b _ _ h)), fun p hp => q Hs _ p _ ds (.hid b hp) hp (b.free hp) upd_same r k⟩
theorem rnl_listT {ds : List D} {Φ : List D → Prop} (k : Φ ds) : RNL K (rListOf K) [.tup ds] Φ := fun Hs H vs Q b r q => by
  cases r with
  | cons h r =>
    cases r
    cases h with
    | tup h r => exact ⟨_, _, rfl, .inr (sameT b h), fun p hp => q Hs _ p _ ds (.hid b hp) hp (b.free hp) upd_same r k⟩
abbrev rTupOf := @rTupF
theorem call_tupZ {X : Cx} : CallR X (.type "tuple") (rTupOf X.K) := call_tupF
theorem rwl_tupL {ds : List D} (k : Φ (.tup ds)) : RWL K (rTupOf K) [.lst ds] Φ := fun Hs H vs Q b r q => by
  cases r with
  | cons h r =>
    cases r
    cases h with
    | lst h r => exact ⟨_, _, rfl, .inl ⟨.of (b _ _ h), fun p ob hd hp => q _ _ _ _ (.new b hp) (.tup ⟨ob, hd, upd_same⟩ (RepL.mono (sameNew (b.free hp)) r)) k⟩⟩
theorem rwl_tupT {ds : List D} (k : Φ (.tup ds)) : RWL K (rTupOf K) [.tup ds] Φ := fun Hs H vs Q b r q => by
  cases r with
  | cons h r =>
    cases r
    cases h with
    | tup h r => exact ⟨_, _, rfl, .inr ⟨sameT b h, q _ _ _ _ (.refl b) (.tup h r) k⟩⟩
theorem rwl_all {bs : List Bool} (k : Φ (.bl (bs.all id))) : RWL K (rAll K) [.lst (bs.map .bl)] Φ := fun Hs H vs Q b r q => by
  cases r with
  | cons h r =>
    cases r
    cases h with
    | lst h r =>
      have e := r.bls; subst e
      exact ⟨_, bs, rfl, .of (b _ _ h), q _ _ _ _ (.refl b) (.bl _) k⟩
theorem rwl_any {bs : List Bool} (k : Φ (.bl (bs.any id))) : RWL K (rAny K) [.lst (bs.map .bl)] Φ := fun Hs H vs Q b r q => by
  cases r with
  | cons h r =>
    cases r
    cases h with
    | lst h r =>
      have e := r.bls; subst e
      exact ⟨_, bs, rfl, .of (b _ _ h), q _ _ _ _ (.refl b) (.bl _) k⟩
theorem rwl_sumI {ns : List Int} (k : Φ (.int ns.sum)) : RWL K (rSum K) [.lst (ns.map .int)] Φ := fun Hs H vs Q b r q => by
  cases r with
  | cons h r =>
    cases r
    cases h with
    | lst h r =>
      have e := r.ints; subst e
      exact ⟨_, ns, rfl, .of (b _ _ h), q _ _ _ _ (.refl b) (.int _) k⟩

/-! ### methods of texts -/
def rEnds : V → List V → Hp → VK → Prop := fun x xs H Q => ∃ a b, x = .str a ∧ xs = [.str b] ∧ Q (.bl (Txt.endswith a b)) H
theorem mt_endsZ {X : Cx} : MtR X "str.endswith" rEnds := mt_endswith
theorem rwm_ends {a b : Str} (k : Φ (.bl (Txt.endswith a b))) : RWM K rEnds (.str a) [.str b] Φ := fun Hs H v vs Q bb r1 r2 q => by
  cases r1
  cases r2 with
  | cons h r => cases h; cases r; exact ⟨a, b, rfl, rfl, q _ _ _ _ (.refl bb) (.bl _) k⟩
def rStarts : V → List V → Hp → VK → Prop := fun x xs H Q => ∃ a b, x = .str a ∧ xs = [.str b] ∧ Q (.bl (Txt.startswith a b)) H
theorem mt_startsZ {X : Cx} : MtR X "str.startswith" rStarts := mt_startswith
theorem rwm_starts {a b : Str} (k : Φ (.bl (Txt.startswith a b))) : RWM K rStarts (.str a) [.str b] Φ := fun Hs H v vs Q bb r1 r2 q => by
  cases r1
  cases r2 with
  | cons h r => cases h; cases r; exact ⟨a, b, rfl, rfl, q _ _ _ _ (.refl bb) (.bl _) k⟩
def rJoin (K : PySem.W.Frag) : V → List V → Hp → VK → Prop := fun x xs H Q => ∃ a p, ∃ ys : List Str, x = .str a ∧ xs = [.ref p] ∧ (SqL K H p (ys.map V.str) ∨ SqT K H p (ys.map V.str)) ∧ (ys.map Str.length).sum + ys.length * a.length ≤ 16777216 ∧ Q (.str (Txt.join a ys)) H
def rSplit : V → List V → Hp → VK → Prop := fun x xs H Q => ∃ a b, x = .str a ∧ xs = [.str b] ∧ (b.length == 0) = false ∧ a.length + 2 ≤ sizeLine ∧ rNewStrs (Txt.split a b) H Q
theorem mt_splitZ {X : Cx} : MtR X "str.split" rSplit := mt_split
theorem rnm_split {a b : Str} {Φ : List D → Prop} (hb : (b.length == 0) = false) (l : a.length + 2 ≤ sizeS) (k : Φ ((Txt.split a b).map .str)) : RNM K rSplit (.str a) [.str b] Φ := fun Hs H v vs Q bb r1 r2 q => by
  cases r1
  cases r2 with
  | cons h r => cases h; cases r; exact ⟨a, b, rfl, rfl, hb, sz_ok l, fun p hp => q Hs _ p _ _ (.hid bb hp) hp (bb.free hp) upd_same .ofStrs k⟩

/-! ### slices -/
theorem ow_none {Φ : Option Int → Prop} (k : Φ none) : OW K tNoPart γ Φ := fun Hs0 H0 Hs H σ Q S q => q _ _ _ (.refl S.b) k
theorem ow_some {Φ : Option Int → Prop} (h : EW K te γ fun d => ∃ i, d = .int i ∧ Φ (some i)) : OW K (tPart te) γ Φ := fun Hs0 H0 Hs H σ Q S q =>
  h Hs0 H0 Hs H σ _ S fun Hs' H' v d g r ⟨i, e, p⟩ => by
    subst e; cases r
    exact ⟨i, rfl, q _ _ _ g p⟩
def SlW (K : PySem.W.Frag) (r : V → Option Int → Option Int → Hp → VK → Prop) (x : D) (l u : Option Int) (Φ : D → Prop) : Prop := ∀ (Hs H : Hp) (v : V) (Q : VK), Same Hs H → Rep K Hs v x →
  (∀ Hs' H' w d, Grow Hs H Hs' H' → Rep K Hs' w d → Φ d → Q w H') → r v l u H Q
def SlN (K : PySem.W.Frag) (r : V → Option Int → Option Int → Hp → VK → Prop) (x : D) (l u : Option Int) (Φ : List D → Prop) : Prop := ∀ (Hs H : Hp) (v : V) (Q : VK), Same Hs H → Rep K Hs v x →
  (∀ Hs' H' a vs ds, Grow Hs H Hs' H' → H a = none → Hs' a = none → H' a = some (.lst vs) → RepL K Hs' vs ds → Φ ds → Q (.ref a) H') → r v l u H Q
theorem ew_sl {r : V → Option Int → Option Int → Hp → VK → Prop} {tl th : TO} (h : EW K ta γ fun x => OW K tl γ fun l => OW K th γ fun u => SlW K r x l u Φ) : EW K (tSl r ta tl th) γ Φ := fun Hs0 H0 Hs H σ Q S q =>
  h Hs0 H0 Hs H σ _ S fun Hs1 H1 v x g1 r1 h1 => h1 Hs0 H0 Hs1 H1 σ _ (S.grow g1) fun Hs2 H2 l g2 h2 => h2 Hs0 H0 Hs2 H2 σ _ ((S.grow g1).grow g2) fun Hs3 H3 u g3 h3 =>
    h3 Hs3 H3 v Q g3.b ((r1.mono g2.s).mono g3.s) fun Hs4 H4 w d g4 r4 p => q _ _ _ _ (((g1.trans g2).trans g3).trans g4) r4 p
theorem en_sl {Φ : List D → Prop} {r : V → Option Int → Option Int → Hp → VK → Prop} {tl th : TO} (h : EW K ta γ fun x => OW K tl γ fun l => OW K th γ fun u => SlN K r x l u Φ) : EN K (tSl r ta tl th) γ Φ := fun Hs0 H0 Hs H σ Q S q =>
  h Hs0 H0 Hs H σ _ S fun Hs1 H1 v x g1 r1 h1 => h1 Hs0 H0 Hs1 H1 σ _ (S.grow g1) fun Hs2 H2 l g2 h2 => h2 Hs0 H0 Hs2 H2 σ _ ((S.grow g1).grow g2) fun Hs3 H3 u g3 h3 =>
    h3 Hs3 H3 v Q g3.b ((r1.mono g2.s).mono g3.s) fun Hs4 H4 a ws es g4 n1 n2 n3 n4 p => q _ _ a ws es (((g1.trans g2).trans g3).trans g4) (SameT.free ((g1.trans g2).trans g3).e n1) n2 n3 n4 p
theorem sl_S {z : Str} {l u : Option Int} (h : z.length ≤ sizeS) (k : Φ (.str (cutS z l u))) : SlW K rSlS (.str z) l u Φ := fun Hs H v Q b r q => by
  cases r
  exact ⟨z, rfl, sz_ok h, q _ _ _ _ (.refl b) (.str _) k⟩
def cutD (xs : List D) (lo hi : Option Int) : List D := (xs.drop (HT.sIx xs.length 0 lo)).take (HT.sIx xs.length xs.length hi - HT.sIx xs.length 0 lo)
theorem sln_L {ds : List D} {l u : Option Int} {Φ : List D → Prop} (k : Φ (cutD ds l u)) : SlN K (rSlL K) (.lst ds) l u Φ := fun Hs H v Q b r q => by
  cases r with
  | lst h r =>
    refine ⟨_, _, rfl, .of (b _ _ h), fun p hp => q Hs _ p _ _ (.hid b hp) hp (b.free hp) upd_same ?_ k⟩
    unfold cutV cutD
    rw [r.length]
    exact (r.drop _).take _

/-! ### displays -/
theorem ew_tup {tr : TA} (h : AW K tr γ fun ds => ds.length ≤ sizeS ∧ Φ (.tup ds)) : EW K (tTupF tr) γ Φ := fun Hs0 H0 Hs H σ Q S q =>
  h Hs0 H0 Hs H σ _ S fun Hs1 H1 vs ds g1 r1 ⟨l, p⟩ => ⟨by rw [r1.length]; exact sz_ok l, fun a ob hd ha => q _ _ _ _ (g1.trans (.new g1.b ha)) (.tup ⟨ob, hd, upd_same⟩ (RepL.mono (sameNew (g1.b.free ha)) r1)) p⟩
theorem en_lst {Φ : List D → Prop} {tr : TA} (h : AW K tr γ fun ds => ds.length ≤ sizeS ∧ Φ ds) : EN K (tLst tr) γ Φ := fun Hs0 H0 Hs H σ Q S q =>
  h Hs0 H0 Hs H σ _ S fun Hs1 H1 vs ds g1 r1 ⟨l, p⟩ => ⟨by rw [r1.length]; exact sz_ok l, fun a ha => q _ _ a _ _ (g1.trans (.hid g1.b ha)) (g1.e.free ha) (g1.b.free ha) upd_same r1 p⟩
end
end Z

namespace Z
open PySem PySem.Spec L2
variable [Tabs]

/-! ### what is walked -/
/-- from the shared part Hs on, the iterator gives the data ds -/
structure Yields (K : PySem.W.Frag) (Hs : Hp) (J : It) (ds : List D) : Prop where
  go : ∀ i Hs' H', Same Hs Hs' → Same Hs' H' → i < ds.length → J.go i H'
  yld : ∀ i Hs' H' d x H'', Same Hs Hs' → Same Hs' H' → ds[i]? = some d → J.yld i H' x H'' → ∃ Hs'', Grow Hs' H' Hs'' H'' ∧ Rep K Hs'' x d
  stop : ∀ Hs' H', Same Hs Hs' → Same Hs' H' → J.stop ds.length H'
def IW (K : PySem.W.Frag) (wi : TI) (γ : Gam) (Φ : List D → Prop) : Prop := ∀ (Hs0 H0 Hs H : Hp) (σ : St) (R : It → Hp → Prop), Sl K Hs0 H0 Hs H σ γ →
  (∀ Hs' H' J ds, Grow Hs H Hs' H' → Yields K Hs' J ds → Φ ds → R J H') → wi σ H R
/-- a target: the slots that it sets -/
def GW (K : PySem.W.Frag) (g : TG) (js : List Nat) (d : D) (γ : Gam) (Ψ : Gam → Prop) : Prop := ∀ (Hs0 H0 Hs H : Hp) (σ : St) (v : V) (R : St → Hp → Prop), Sl K Hs0 H0 Hs H σ γ → Rep K Hs v d →
  (∀ σ' γ', Sl K Hs0 H0 Hs H σ' γ' → (∀ vs : List Nat, (∀ j ∈ js, j ∈ vs) → wipe σ' vs = wipe σ vs) → Ψ γ' → R σ' H) → g v σ H R
def GWs (K : PySem.W.Frag) (g : TGs) (js : List Nat) (ds : List D) (γ : Gam) (Ψ : Gam → Prop) : Prop := ∀ (Hs0 H0 Hs H : Hp) (σ : St) (vs : List V) (R : St → Hp → Prop), Sl K Hs0 H0 Hs H σ γ → RepL K Hs vs ds →
  (∀ σ' γ', Sl K Hs0 H0 Hs H σ' γ' → (∀ vs : List Nat, (∀ j ∈ js, j ∈ vs) → wipe σ' vs = wipe σ vs) → Ψ γ' → R σ' H) → g vs σ H R
theorem wipe_set {σ : St} {j : Nat} {x : Option V} : ∀ {vs : List Nat}, j ∈ vs → wipe (σ.set j x) vs = wipe σ vs
  | [], h => by cases h
  | v :: vs, h => by
    show (wipe (σ.set j x) vs).set v none = (wipe σ vs).set v none
    by_cases hv : j ∈ vs
    · rw [wipe_set hv]
    · have e : j = v := by
        rcases List.mem_cons.mp h with q | q
        · exact q
        · exact absurd q hv
      subst e
      have : ∀ ws : List Nat, j ∉ ws → wipe (σ.set j x) ws = (wipe σ ws).set j x := by
        intro ws
        induction ws with
        | nil => intro _; rfl
        | cons w ws ih =>
          intro hw
          show (wipe (σ.set j x) ws).set w none = ((wipe σ ws).set w none).set j x
          rw [ih fun z => hw (List.mem_cons_of_mem _ z), List.set_comm]
          intro z; exact hw (z ▸ List.mem_cons_self)
      rw [this vs hv, List.set_set]
theorem wipe_wipe {σ : St} : ∀ {vs : List Nat}, wipe (wipe σ vs) vs = wipe σ vs := by
  intro vs
  have key : ∀ ws : List Nat, ∀ us : List Nat, (∀ w ∈ ws, w ∈ us) → ∀ τ : St, wipe (wipe τ ws) us = wipe τ us := by
    intro ws
    induction ws with
    | nil => intro us _ τ; rfl
    | cons w ws ih =>
      intro us h τ
      show wipe ((wipe τ ws).set w none) us = wipe τ us
      rw [wipe_set (h w List.mem_cons_self)]
      exact ih us (fun x hx => h x (List.mem_cons_of_mem _ hx)) τ
  exact key vs vs (fun _ h => h) σ
def wipeG (γ : Gam) : List Nat → Gam
  | [] => γ
  | v :: vs => (wipeG γ vs).set v none
theorem Sl.wipe {K : PySem.W.Frag} {Hs0 H0 Hs H : Hp} {σ : St} {γ : Gam} (S : Sl K Hs0 H0 Hs H σ γ) : ∀ vs : List Nat, Sl K Hs0 H0 Hs H (wipe σ vs) (wipeG γ vs)
  | [] => S
  | v :: vs => (S.wipe vs).drop v none
section
variable {K : PySem.W.Frag} {γ : Gam} {ta tb te : TE} {d : D} {i j : Nat} {Ψ : Gam → Prop}
theorem gw_name (h : Ψ (γ.set i (some (.sh d)))) : GW K (gName i) [i] d γ Ψ := fun Hs0 H0 Hs H σ v R S r q =>
  q _ _ (S.set i r) (fun vs hv => wipe_set (hv i List.mem_cons_self)) h
theorem gws_nil (h : Ψ γ) : GWs K gNil [] [] γ Ψ := fun Hs0 H0 Hs H σ vs R S r q => by
  cases r
  exact ⟨rfl, q _ _ S (fun _ _ => rfl) h⟩
theorem gws_cons {g : TG} {gs : TGs} {js ks : List Nat} {ds : List D} (h : GW K g js d γ fun γ1 => GWs K gs ks ds γ1 Ψ) : GWs K (gCons g gs) (js ++ ks) (d :: ds) γ Ψ := fun Hs0 H0 Hs H σ vs R S r q => by
  cases r with
  | cons r1 r2 =>
    refine ⟨_, _, rfl, h Hs0 H0 Hs H σ _ _ S r1 fun σ1 γ1 S1 w1 h1 => h1 Hs0 H0 Hs H σ1 _ _ S1 r2 fun σ2 γ2 S2 w2 h2 => q σ2 γ2 S2 (fun vs hv => ?_) h2⟩
    rw [w2 vs fun j hj => hv j (List.mem_append_right _ hj), w1 vs fun j hj => hv j (List.mem_append_left _ hj)]
theorem gw_tup {gs : TGs} {js : List Nat} {ds : List D} {n : Nat} (hn : ds.length = n) (h : GWs K gs js ds γ Ψ) : GW K (gTup K n gs) js (.tup ds) γ Ψ := fun Hs0 H0 Hs H σ v R S r q => by
  cases r with
  | tup h1 r1 => exact ⟨_, _, rfl, sameT S.b h1, by rw [r1.length]; exact hn, h Hs0 H0 Hs H σ _ R S r1 q⟩

theorem iw_list {Φ : List D → Prop} (h : EW K te γ fun d => ∃ ds, d = .lst ds ∧ Φ ds) : IW K (iList K te) γ Φ := fun Hs0 H0 Hs H σ R S q =>
  h Hs0 H0 Hs H σ _ S fun Hs1 H1 v x g1 r1 ⟨ds, e, p⟩ => by
    subst e
    cases r1 with
    | lst h1 r1 =>
      rename_i a vs
      refine ⟨a, rfl, ⟨vs, .of (g1.b _ _ h1)⟩, q Hs1 H1 _ ds g1 ⟨fun i Hs' H' e1 e2 hi => ?_, fun i Hs' H' d x H'' e1 e2 hd hy => ?_, fun Hs' H' e1 e2 => ?_⟩ p⟩
      · have hv : i < vs.length := by rw [r1.length]; exact hi
        exact ⟨vs, vs[i], .of (e2 _ _ (e1 _ _ h1)), by simp [hv]⟩
      · obtain ⟨rfl, hy⟩ := hy
        have hx := hy vs (.of (e2 _ _ (e1 _ _ h1)))
        obtain ⟨d', hd', rd⟩ := r1.get' hx
        rw [hd] at hd'; cases hd'
        exact ⟨Hs', .refl e2, rd.mono e1⟩
      · exact ⟨vs, .of (e2 _ _ (e1 _ _ h1)), by rw [r1.length]; exact Nat.le_refl _⟩
theorem iw_tup {Φ : List D → Prop} (h : EW K te γ fun d => ∃ ds, d = .tup ds ∧ Φ ds) : IW K (iTup K te) γ Φ := fun Hs0 H0 Hs H σ R S q =>
  h Hs0 H0 Hs H σ _ S fun Hs1 H1 v x g1 r1 ⟨ds, e, p⟩ => by
    subst e
    cases r1 with
    | tup h1 r1 =>
      rename_i a vs
      refine ⟨a, rfl, ⟨vs, sameT g1.b h1⟩, q Hs1 H1 _ ds g1 ⟨fun i Hs' H' e1 e2 hi => ?_, fun i Hs' H' d x H'' e1 e2 hd hy => ?_, fun Hs' H' e1 e2 => ?_⟩ p⟩
      · have hv : i < vs.length := by rw [r1.length]; exact hi
        exact ⟨vs, vs[i], sameT e2 (monoT e1 h1), by simp [hv]⟩
      · obtain ⟨rfl, hy⟩ := hy
        have hx := hy vs (sameT e2 (monoT e1 h1))
        obtain ⟨d', hd', rd⟩ := r1.get' hx
        rw [hd] at hd'; cases hd'
        exact ⟨Hs', .refl e2, rd.mono e1⟩
      · exact ⟨vs, sameT e2 (monoT e1 h1), by rw [r1.length]; exact Nat.le_refl _⟩
/-- lo, lo + 1, .. -/
def rng (lo : Int) (n : Nat) : List D := (List.range n).map fun (k : Nat) => D.int (lo + (k : Int))
theorem rng_len (lo : Int) (n : Nat) : (rng lo n).length = n := by unfold rng; rw [List.length_map, List.length_range]
theorem rng_get {lo : Int} {n i : Nat} {d : D} (h : (rng lo n)[i]? = some d) : i < n ∧ d = .int (lo + (i : Int)) := by
  unfold rng at h
  rw [List.getElem?_map] at h
  by_cases hi : i < n
  · rw [List.getElem?_range hi] at h
    exact ⟨hi, (Option.some.inj h).symm⟩
  · rw [List.getElem?_eq_none (by simpa using hi)] at h; cases h
theorem rng_yields {Hs : Hp} {lo : Int} {n : Nat} : Yields K Hs (Itr lo n) (rng lo n) :=
  ⟨fun i _ _ _ _ hi => by rw [rng_len] at hi; exact hi, fun i Hs' H' d x H'' _ e2 hd hy => by
    obtain ⟨rfl, rfl⟩ := hy
    obtain ⟨_, rfl⟩ := rng_get hd
    exact ⟨Hs', .refl e2, .int _⟩, fun _ _ _ _ => by rw [rng_len]; exact Nat.le_refl _⟩
theorem iw_range1 {Φ : List D → Prop} {tr : TA} (h : AW K tr γ fun ds => ∃ n : Int, ds = [.int n] ∧ n < 2 ^ 40 ∧ -(2 ^ 40) < n ∧ Φ (rng 0 n.toNat)) : IW K (iRng1 tr) γ Φ := fun Hs0 H0 Hs H σ R S q =>
  h Hs0 H0 Hs H σ _ S fun Hs1 H1 vs ds g1 r1 ⟨n, e, l, l2, p⟩ => by
    subst e
    cases r1 with
    | cons r1 r2 => cases r1; cases r2; exact ⟨n, rfl, by omega, by omega, q Hs1 H1 _ _ g1 rng_yields p⟩
theorem iw_range2 {Φ : List D → Prop} {tr : TA} (h : AW K tr γ fun ds => ∃ m n : Int, ds = [.int m, .int n] ∧ (m < 2 ^ 40 ∧ -(2 ^ 40) < m ∧ n < 2 ^ 40 ∧ -(2 ^ 40) < n) ∧ Φ (rng m (n - m).toNat)) : IW K (iRng2 tr) γ Φ := fun Hs0 H0 Hs H σ R S q =>
  h Hs0 H0 Hs H σ _ S fun Hs1 H1 vs ds g1 r1 ⟨m, n, e, ⟨l, l2, l3, l4⟩, p⟩ => by
    subst e
    cases r1 with
    | cons r1 r2 => cases r1; cases r2 with | cons r1 r2 => cases r1; cases r2; exact ⟨m, n, rfl, ⟨by omega, by omega, by omega, by omega⟩, q Hs1 H1 _ _ g1 rng_yields p⟩

/-! ### comprehensions -/
theorem en_lc {wi : TI} {g : TG} {js : List Nat} {tt : TT} {vs : List Nat} {Φ : List D → Prop} (hj : ∀ j ∈ js, j ∈ vs)
    (h : IW K wi γ fun ds => ∃ Iv : Nat → List D → Prop, Iv 0 [] ∧ (∀ i d acc, ds[i]? = some d → Iv i acc → acc.length < sizeS ∧ GW K g js d (wipeG γ vs) fun γ2 => TW K tt γ2 fun b => (b = true → EW K te γ2 fun y => Iv (i + 1) (acc ++ [y])) ∧ (b = false → Iv (i + 1) acc)) ∧
      ∀ acc, Iv ds.length acc → Φ acc) : EN K (tLc wi g tt te vs) γ Φ := fun Hs0 H0 Hs H σ Q S q =>
  h Hs0 H0 Hs H σ _ S fun Hs1 H1 J ds g1 Y ⟨Iv, i0, step, fin⟩ Dl hD => by
    have S1 := S.grow g1
    have HsD : Hs1 Dl = none := g1.b.free hD
    -- the state within: shared Hs', all H' (with the list at Dl, hidden)
    refine ⟨fun i m Hx => m = ds.length - i ∧ i ≤ ds.length ∧ ∃ Hs' ws acc, Grow Hs1 H1 Hs' Hx ∧ Hs' Dl = none ∧ Hx Dl = some (.lst ws) ∧ RepL K Hs' ws acc ∧ Iv i acc,
      ⟨ds.length, by simp, Nat.zero_le _, Hs1, [], [], .hid g1.b hD, HsD, upd_same, .nil, i0⟩, ?_⟩
    rintro i m Hx ⟨rfl, hi, Hs', ws, acc, gx, nD, hDl, rw', iv⟩
    by_cases hlt : i < ds.length
    · refine .inr ⟨Y.go i Hs' Hx gx.s gx.b hlt, fun H' => ∃ Hs'' ws acc, Grow Hs1 H1 Hs'' H' ∧ Hs'' Dl = none ∧ H' Dl = some (.lst ws) ∧ RepL K Hs'' ws acc ∧ Iv (i + 1) acc, fun H' ⟨a, b, c, d⟩ => ⟨ds.length - (i + 1), by omega, rfl, hlt, a, b, c, d⟩, fun x H'' hy => ?_⟩
      have hd : ds[i]? = some ds[i] := by simp [hlt]
      obtain ⟨Hs2, g2, rx⟩ := Y.yld i Hs' Hx ds[i] x H'' gx.s gx.b hd hy
      obtain ⟨sz, st⟩ := step i ds[i] acc hd iv
      have n2 : Hs2 Dl = none := g2.n _ _ hDl nD
      -- within the element the list at Dl is one of the hidden ones
      have S2 : Sl K Hs0 H0 Hs2 H'' (wipe σ vs) (wipeG γ vs) := ((S1.grow gx).grow g2).wipe vs
      refine st Hs0 H0 Hs2 H'' (wipe σ vs) x _ S2 rx fun σ2 γ2 S3 w3 h3 => ⟨by rw [w3 vs hj, wipe_wipe], ?_⟩
      refine h3 Hs0 H0 Hs2 H'' σ2 _ S3 fun Hs3 H3 b g3 ⟨p1, p2⟩ => ?_
      have n3 : Hs3 Dl = none := g3.n _ _ (g2.e.lst hDl) n2
      have d3 : H3 Dl = some (.lst ws) := g3.e.lst (g2.e.lst hDl)
      have g13 : Grow Hs1 H1 Hs3 H3 := (gx.trans g2).trans g3
      cases b with
      | true =>
        rw [if_pos rfl]
        refine p1 rfl Hs0 H0 Hs3 H3 σ2 _ (S3.grow g3) fun Hs4 H4 y dy g4 r4 p4 => ?_
        have n4 : Hs4 Dl = none := g4.n _ _ d3 n3
        refine ⟨ws, g4.e.lst d3, by rw [rw'.length]; exact Nat.lt_trans sz (by decide), Hs4, ws ++ [y], acc ++ [dy], ?_, n4, upd_same, (RepL.mono ((g2.trans g3).trans g4).s rw').append (.cons r4 .nil), p4⟩
        have g14 := g13.trans g4
        exact ⟨g14.s, fun b o e => by rw [upd_ne (ne_of_none e hD)]; exact g14.e _ _ e, fun b o e => by rw [upd_ne (ne_of_none e n4)]; exact g14.b _ _ e, g14.n, fun t P hP => by
          obtain ⟨⟨ps, q1, q2⟩, q3⟩ := g14.t t P hP
          have dl := g4.e.lst d3
          exact ⟨⟨ps, by rw [upd_ne (fun q => by rw [q, dl] at q1; cases q1)]; exact q1, q2⟩, q3⟩⟩
      | false =>
        rw [if_neg Bool.false_ne_true]
        exact ⟨Hs3, ws, acc, g13, n3, d3, RepL.mono (g2.trans g3).s rw', p2 rfl⟩
    · have e : i = ds.length := by omega
      subst e
      refine .inl ⟨Y.stop Hs' Hx gx.s gx.b, q Hs' Hx Dl ws acc (g1.trans gx) (SameT.free g1.e hD) nD hDl rw' (fin acc iv)⟩
end

/-! ### statements -/
structure Out where
  nx : Gam → Prop
  rt : D → Prop
  bk : Gam → Prop := fun _ => False
  ct : Gam → Prop := fun _ => False
def SW (K : PySem.W.Frag) (ts : TS) (γ : Gam) (Φ : Out) : Prop := ∀ (Hs0 H0 Hs H : Hp) (σ : St) (E : Ends), Sl K Hs0 H0 Hs H σ γ →
  (∀ Hs' H' σ' γ', Same Hs Hs' → Sl K Hs0 H0 Hs' H' σ' γ' → Φ.nx γ' → E.nx σ' H') →
  (∀ Hs' H' v d, Grow Hs0 H0 Hs' H' → Rep K Hs' v d → Φ.rt d → E.rt v H') →
  (∀ Hs' H' σ' γ', Same Hs Hs' → Sl K Hs0 H0 Hs' H' σ' γ' → Φ.bk γ' → E.bk σ' H') →
  (∀ Hs' H' σ' γ', Same Hs Hs' → Sl K Hs0 H0 Hs' H' σ' γ' → Φ.ct γ' → E.ct σ' H') → ts E σ H
section
variable {K : PySem.W.Frag} {γ : Gam} {ta tb te : TE} {t u : TT} {d : D} {i j : Nat} {Φ : Out} {ts tz tu : TS}
theorem sw_next (h : Φ.nx γ) : SW K tNext γ Φ := fun Hs0 H0 Hs H σ E S kn _ _ _ => kn Hs H σ γ (.refl _) S h
theorem sw_brk (h : Φ.bk γ) : SW K tBreak γ Φ := fun Hs0 H0 Hs H σ E S _ _ kb _ => kb Hs H σ γ (.refl _) S h
theorem sw_cont (h : Φ.ct γ) : SW K tCont γ Φ := fun Hs0 H0 Hs H σ E S _ _ _ kc => kc Hs H σ γ (.refl _) S h
theorem sw_seq (h : SW K ts γ { Φ with nx := fun γ1 => SW K tz γ1 Φ }) : SW K (tSeq ts tz) γ Φ := fun Hs0 H0 Hs H σ E S kn kr kb kc =>
  h Hs0 H0 Hs H σ _ S (fun Hs1 H1 σ1 γ1 e1 S1 h1 => h1 Hs0 H0 Hs1 H1 σ1 E S1 (fun Hs' H' σ' γ' e => kn Hs' H' σ' γ' (e1.trans e)) kr (fun Hs' H' σ' γ' e => kb Hs' H' σ' γ' (e1.trans e)) fun Hs' H' σ' γ' e => kc Hs' H' σ' γ' (e1.trans e)) kr kb kc
theorem sw_asg (h : EW K te γ fun d => Φ.nx (γ.set i (some (.sh d)))) : SW K (tAsg te (gName i)) γ Φ := fun Hs0 H0 Hs H σ E S kn kr _ _ =>
  h Hs0 H0 Hs H σ _ S fun Hs' H' v d g r p => kn Hs' H' _ _ g.s ((S.grow g).set i r) p
/-- a new list of its own -/
theorem sw_asgN (h : EN K te γ fun ds => Φ.nx (γ.set i (some (.ow ds)))) : SW K (tAsg te (gName i)) γ Φ := fun Hs0 H0 Hs H σ E S kn kr _ _ =>
  h Hs0 H0 Hs H σ _ S fun Hs' H' a vs ds g n1 n2 n3 n4 p => kn Hs' H' _ _ g.s ((S.grow g).own i (SameT.free S.gr.e n1) n2 n3 n4 fun j es h1 ho h2 => by
    obtain ⟨_, o, k2, _⟩ := S.nos h1 ho h2
    rw [n1] at k2; cases k2) p
theorem sw_asgG {g : TG} {js : List Nat} (h : EW K te γ fun d => GW K g js d γ Φ.nx) : SW K (tAsg te g) γ Φ := fun Hs0 H0 Hs H σ E S kn kr _ _ =>
  h Hs0 H0 Hs H σ _ S fun Hs' H' v d gr r p => p Hs0 H0 Hs' H' σ v _ (S.grow gr) r fun σ' γ' S' _ q => kn Hs' H' σ' γ' gr.s S' q
theorem sw_par (h : AW K ta' γ fun ds => ∃ x y, ds = [x, y] ∧ Φ.nx ((γ.set i (some (.sh x))).set j (some (.sh y)))) : SW K (tPar i j ta') γ Φ := fun Hs0 H0 Hs H σ E S kn kr _ _ =>
  h Hs0 H0 Hs H σ _ S fun Hs' H' vs ds g r ⟨x, y, e, p⟩ => by
    subst e
    cases r with
    | cons r1 r => cases r with | cons r2 r => cases r; exact ⟨_, _, rfl, kn Hs' H' _ _ g.s (((S.grow g).set i r1).set j r2) p⟩
theorem sw_augI {f : Int → Int → Int} {a : Int} (hx : γ[i]? = some (some (.sh (.int a)))) (h : EW K te γ fun d => ∃ b, d = .int b ∧ Φ.nx (γ.set i (some (.sh (.int (f a b)))))) : SW K (tAug i te (ipI f)) γ Φ := fun Hs0 H0 Hs H σ E S kn kr _ _ => by
  obtain ⟨v, hv, r⟩ := S.ok i _ hx
  cases r
  refine ⟨.int a, hv, h Hs0 H0 Hs H σ _ S fun Hs' H' v d g r ⟨b, e, p⟩ => ?_⟩
  subst e
  cases r
  exact ⟨a, b, rfl, rfl, kn Hs' H' _ _ g.s ((S.grow g).set i (.int _)) p⟩
theorem sw_if (h : TW K t γ fun b => (b = true → SW K ts γ Φ) ∧ (b = false → SW K tz γ Φ)) : SW K (tIfS t ts tz) γ Φ := fun Hs0 H0 Hs H σ E S kn kr kb kc =>
  h Hs0 H0 Hs H σ _ S fun Hs1 H1 b g ⟨p1, p2⟩ => by
    cases b with
    | true => exact p1 rfl Hs0 H0 Hs1 H1 σ E (S.grow g) (fun Hs' H' σ' γ' e => kn Hs' H' σ' γ' (g.s.trans e)) kr (fun Hs' H' σ' γ' e => kb Hs' H' σ' γ' (g.s.trans e)) fun Hs' H' σ' γ' e => kc Hs' H' σ' γ' (g.s.trans e)
    | false => exact p2 rfl Hs0 H0 Hs1 H1 σ E (S.grow g) (fun Hs' H' σ' γ' e => kn Hs' H' σ' γ' (g.s.trans e)) kr (fun Hs' H' σ' γ' e => kb Hs' H' σ' γ' (g.s.trans e)) fun Hs' H' σ' γ' e => kc Hs' H' σ' γ' (g.s.trans e)
theorem sw_ret (h : EW K te γ Φ.rt) : SW K (tRet te) γ Φ := fun Hs0 H0 Hs H σ E S kn kr _ _ =>
  h Hs0 H0 Hs H σ _ S fun Hs' H' v d g r p => kr Hs' H' v d (S.gr.trans g) r p
theorem sw_retN (h : Φ.rt .non) : SW K tRetN γ Φ := fun Hs0 H0 Hs H σ E S kn kr _ _ => kr Hs H .non .non S.gr .non h
theorem sw_drop (h : EW K te γ fun _ => Φ.nx γ) : SW K (tDrop te) γ Φ := fun Hs0 H0 Hs H σ E S kn kr _ _ =>
  h Hs0 H0 Hs H σ _ S fun Hs' H' v d g r p => kn Hs' H' σ γ g.s (S.grow g) p
/-- its own list becomes a datum -/
theorem sw_frz (i : Nat) {ds : List D} (hg : γ[i]? = some (some (.ow ds))) (h : SW K ts (γ.set i (some (.sh (.lst ds)))) Φ) : SW K ts γ Φ := fun Hs0 H0 Hs H σ E S kn kr kb kc => by
  obtain ⟨Hs1, e1, S1⟩ := S.freeze i hg
  exact h Hs0 H0 Hs1 H σ E S1 (fun Hs' H' σ' γ' e => kn Hs' H' σ' γ' (e1.trans e)) kr (fun Hs' H' σ' γ' e => kb Hs' H' σ' γ' (e1.trans e)) fun Hs' H' σ' γ' e => kc Hs' H' σ' γ' (e1.trans e)
theorem SW.mono {Φ Ψ : Out} (h : SW K ts γ Φ) (k1 : ∀ x, Φ.nx x → Ψ.nx x) (k2 : ∀ x, Φ.rt x → Ψ.rt x) (k3 : ∀ x, Φ.bk x → Ψ.bk x) (k4 : ∀ x, Φ.ct x → Ψ.ct x) : SW K ts γ Ψ := fun Hs0 H0 Hs H σ E S kn kr kb kc =>
  h Hs0 H0 Hs H σ E S (fun a b c d e f g => kn a b c d e f (k1 _ g)) (fun a b c d e f g => kr a b c d e f (k2 _ g)) (fun a b c d e f g => kb a b c d e f (k3 _ g)) (fun a b c d e f g => kc a b c d e f (k4 _ g))

/-! ### its own list -/
theorem own_at {Hs0 H0 Hs H : Hp} {σ : St} {ds : List D} (S : Sl K Hs0 H0 Hs H σ γ) (hg : γ[i]? = some (some (.ow ds))) : ∃ a vs, σ[i]? = some (some (.ref a)) ∧ Hs a = none ∧ H a = some (.lst vs) ∧ RepL K Hs vs ds := by
  obtain ⟨v, hv, a, vs, rfl, h1, h2, h3⟩ := S.ok i _ hg
  exact ⟨a, vs, hv, h1, h2, h3⟩
theorem sw_app {ds : List D} (hg : γ[i]? = some (some (.ow ds))) (l : ds.length < sizeS) (h : EW K te γ fun d => Φ.nx (γ.set i (some (.ow (ds ++ [d]))))) : SW K (tDrop (tBM K "list" rAppend (tVar i) (tCons te tNil))) γ Φ := fun Hs0 H0 Hs H σ E S kn kr _ _ => by
  obtain ⟨a, vs, hv, h1, h2, h3⟩ := own_at S hg
  refine ⟨.ref a, hv, .inl ⟨rfl, _, .of h2⟩, h Hs0 H0 Hs H σ _ S fun Hs' H' v d g r p => ?_⟩
  have S' := S.grow g
  refine ⟨a, vs, v, rfl, rfl, g.e.lst h2, by rw [h3.length]; exact Nat.lt_trans l (by decide), ?_⟩
  exact kn Hs' _ σ _ g.s (S'.put i hg hv (g.n _ _ h2 h1) ((RepL.mono g.s h3).append (.cons r .nil))) p
theorem sw_setI {ds : List D} {n : Nat} (hg : γ[i]? = some (some (.ow ds))) (h : EW K te γ fun d => EW K tb γ fun y => ∃ k : Int, y = .int k ∧ ∃ n, ixN ds.length k = some n ∧ Φ.nx (γ.set i (some (.ow (ds.set n d))))) : SW K (tAsg te (gSub (tVar i) tb rSetL)) γ Φ := fun Hs0 H0 Hs H σ E S kn kr _ _ => by
  obtain ⟨a, vs, hv, h1, h2, h3⟩ := own_at S hg
  refine h Hs0 H0 Hs H σ _ S fun Hs1 H1 v d g1 r1 h' => ⟨.ref a, hv, h' Hs0 H0 Hs1 H1 σ _ (S.grow g1) fun Hs2 H2 w y g2 r2 ⟨k, e, n, hn, p⟩ => ?_⟩
  subst e
  cases r2
  have g := g1.trans g2
  refine ⟨a, vs, k, n, rfl, rfl, g.e.lst h2, by rw [h3.length]; exact hn, ?_⟩
  exact kn Hs2 _ σ _ g.s ((S.grow g).put i hg hv (g.n _ _ h2 h1) (RepL.set (r1.mono g2.s) n (RepL.mono g.s h3))) p
theorem ew_lenO {ds : List D} {Φ : D → Prop} (hg : γ[i]? = some (some (.ow ds))) (k : Φ (.int ds.length)) : EW K (tCB (rLen K) (tCons (tVar i) tNil)) γ Φ := fun Hs0 H0 Hs H σ Q S q => by
  obtain ⟨a, vs, hv, h1, h2, h3⟩ := own_at S hg
  exact ⟨.ref a, hv, _, ds.length, rfl, .inl ⟨_, .of h2, h3.length.symm ▸ rfl⟩, q _ _ _ _ (.refl S.b) (.int _) k⟩
theorem ew_ixO {ds : List D} {Φ : D → Prop} (hg : γ[i]? = some (some (.ow ds))) (h : EW K tb γ fun y => ∃ k : Int, y = .int k ∧ ∃ d, atI ds k = some d ∧ Φ d) : EW K (tOp (rIxL K) (tVar i) tb) γ Φ := fun Hs0 H0 Hs H σ Q S q => by
  obtain ⟨a, vs, hv, h1, h2, h3⟩ := own_at S hg
  refine ⟨.ref a, hv, h Hs0 H0 Hs H σ _ S fun Hs1 H1 w y g1 r1 ⟨k, e, d, hd, p⟩ => ?_⟩
  subst e
  cases r1
  obtain ⟨v, k1, k2⟩ := rep_at (RepL.mono g1.s h3) hd
  exact ⟨a, vs, k, v, rfl, rfl, .of (g1.e.lst h2), k1, q _ _ _ _ g1 k2 p⟩
theorem ew_niO {xs : List Str} {Φ : D → Prop} (hg : γ[i]? = some (some (.ow (xs.map .str)))) (h : EW K ta γ fun y => ∃ z, y = .str z ∧ Φ (.bl (!decide (z ∈ xs)))) : EW K (tOp (rIn K true) ta (tVar i)) γ Φ := fun Hs0 H0 Hs H σ Q S q => by
  obtain ⟨a, vs, hv, h1, h2, h3⟩ := own_at S hg
  refine h Hs0 H0 Hs H σ _ S fun Hs1 H1 w y g1 r1 ⟨z, e, p⟩ => ⟨.ref a, hv, ?_⟩
  subst e
  cases r1
  have e := (RepL.mono g1.s h3).strs
  subst e
  refine ⟨a, _, rfl, .inl (.of (g1.e.lst h2)), rfl, str_flat xs, q _ _ _ _ g1 (.bl _) ?_⟩
  rw [inV_str]; exact p
theorem ew_inO {xs : List Str} {Φ : D → Prop} (hg : γ[i]? = some (some (.ow (xs.map .str)))) (h : EW K ta γ fun y => ∃ z, y = .str z ∧ Φ (.bl (decide (z ∈ xs)))) : EW K (tOp (rIn K false) ta (tVar i)) γ Φ := fun Hs0 H0 Hs H σ Q S q => by
  obtain ⟨a, vs, hv, h1, h2, h3⟩ := own_at S hg
  refine h Hs0 H0 Hs H σ _ S fun Hs1 H1 w y g1 r1 ⟨z, e, p⟩ => ⟨.ref a, hv, ?_⟩
  subst e
  cases r1
  have e := (RepL.mono g1.s h3).strs
  subst e
  refine ⟨a, _, rfl, .inl (.of (g1.e.lst h2)), rfl, str_flat xs, q _ _ _ _ g1 (.bl _) ?_⟩
  rw [inV_str]; exact p

/-! ### loops -/
theorem sw_for {wi : TI} {g : TG} {js : List Nat} (h : IW K wi γ fun ds => ∃ I : Nat → Gam → Prop, I 0 γ ∧
    (∀ i d γ', ds[i]? = some d → I i γ' → GW K g js d γ' fun γ2 => SW K tu γ2 { nx := I (i + 1), rt := Φ.rt, bk := Φ.nx, ct := I (i + 1) }) ∧ ∀ γ', I ds.length γ' → Φ.nx γ') : SW K (tFor wi g tu) γ Φ := fun Hs0 H0 Hs H σ E S kn kr kb kc =>
  h Hs0 H0 Hs H σ _ S fun Hs1 H1 J ds g1 Y ⟨I, i0, step, fin⟩ => by
    refine ⟨fun i m σ' H' => m = ds.length - i ∧ i ≤ ds.length ∧ ∃ Hs' γ', Same Hs1 Hs' ∧ Sl K Hs0 H0 Hs' H' σ' γ' ∧ I i γ', ⟨ds.length, by simp, Nat.zero_le _, Hs1, γ, .refl _, S.grow g1, i0⟩, ?_⟩
    rintro i m σ' H' ⟨rfl, hi, Hs', γ', e', S', iv⟩
    by_cases hlt : i < ds.length
    · refine .inr ⟨Y.go i Hs' H' e' S'.b hlt, fun σ2 H2 => ∃ Hs2 γ2, Same Hs1 Hs2 ∧ Sl K Hs0 H0 Hs2 H2 σ2 γ2 ∧ I (i + 1) γ2, fun σ2 H2 ⟨a, b, c⟩ => ⟨ds.length - (i + 1), by omega, rfl, hlt, a, b, c⟩, fun x H'' hy => ?_⟩
      have hd : ds[i]? = some ds[i] := by simp [hlt]
      obtain ⟨Hs2, g2, rx⟩ := Y.yld i Hs' H' ds[i] x H'' e' S'.b hd hy
      have e2 := e'.trans g2.s
      refine step i ds[i] γ' hd iv Hs0 H0 Hs2 H'' σ' x _ (S'.grow g2) rx fun σ3 γ3 S3 _ h3 => ?_
      refine h3 Hs0 H0 Hs2 H'' σ3 _ S3 (fun Hs4 H4 σ4 γ4 e4 S4 q => ⟨Hs4, γ4, e2.trans e4, S4, q⟩) kr (fun Hs4 H4 σ4 γ4 e4 S4 q => kn Hs4 H4 σ4 γ4 ((g1.s.trans e2).trans e4) S4 q) (fun Hs4 H4 σ4 γ4 e4 S4 q => ⟨Hs4, γ4, e2.trans e4, S4, q⟩)
    · have e : i = ds.length := by omega
      subst e
      exact .inl ⟨Y.stop Hs' H' e' S'.b, kn Hs' H' σ' γ' (g1.s.trans e') S' (fin γ' iv)⟩
theorem sw_while (I : Nat → Gam → Prop) (m0 : Nat) (h0 : I m0 γ) (hs : ∀ m γ', I m γ' → TW K t γ' fun b => (b = true → SW K tu γ' { nx := fun γ2 => ∃ m', m' < m ∧ I m' γ2, rt := Φ.rt, bk := Φ.nx, ct := fun γ2 => ∃ m', m' < m ∧ I m' γ2 }) ∧ (b = false → Φ.nx γ')) :
    SW K (tWhile t tu) γ Φ := fun Hs0 H0 Hs H σ E S kn kr kb kc => by
  refine ⟨fun m σ' H' => ∃ Hs' γ', Same Hs Hs' ∧ Sl K Hs0 H0 Hs' H' σ' γ' ∧ I m γ', ⟨m0, Hs, γ, .refl _, S, h0⟩, ?_⟩
  rintro m σ' H' ⟨Hs', γ', e', S', iv⟩
  refine hs m γ' iv Hs0 H0 Hs' H' σ' _ S' fun Hs2 H2 b g2 ⟨p1, p2⟩ => ?_
  cases b with
  | true =>
    rw [if_pos rfl]
    refine ⟨fun σ3 H3 => ∃ m', m' < m ∧ ∃ Hs3 γ3, Same Hs Hs3 ∧ Sl K Hs0 H0 Hs3 H3 σ3 γ3 ∧ I m' γ3, fun σ3 H3 ⟨m', a, b⟩ => ⟨m', a, b⟩, ?_⟩
    refine p1 rfl Hs0 H0 Hs2 H2 σ' _ (S'.grow g2) (fun Hs4 H4 σ4 γ4 e4 S4 ⟨m', l, q⟩ => ⟨m', l, Hs4, γ4, (e'.trans g2.s).trans e4, S4, q⟩) kr (fun Hs4 H4 σ4 γ4 e4 S4 q => kn Hs4 H4 σ4 γ4 ((e'.trans g2.s).trans e4) S4 q) (fun Hs4 H4 σ4 γ4 e4 S4 ⟨m', l, q⟩ => ⟨m', l, Hs4, γ4, (e'.trans g2.s).trans e4, S4, q⟩)
  | false =>
    rw [if_neg Bool.false_ne_true]
    exact kn Hs2 H2 σ' γ' (e'.trans g2.s) (S'.grow g2) (p2 rfl)
end

/-! ### defs -/
/-- a def by its data: n arguments with pre, its answer with post -/
def spD (K : PySem.W.Frag) (n : Nat) (pre : List D → Prop) (post : List D → D → Prop) : Sp := fun vs H Q _ => ∃ Hs ds, TbOk Hs H ∧ Same Hs H ∧ RepL K Hs vs ds ∧ ds.length = n ∧ pre ds ∧
  ∀ Hs' H' v d, Grow Hs H Hs' H' → Rep K Hs' v d → post ds d → Q v H'
def CallOk (n : Nat) (pre : List D → Prop) (post : List D → D → Prop) (Φ : D → Prop) (ds : List D) : Prop := ds.length = n ∧ pre ds ∧ ∀ d, post ds d → Φ d
theorem call_ok {n : Nat} {pre : List D → Prop} {post : List D → D → Prop} {Φ : D → Prop} {ds : List D} (l : ds.length = n) (h : pre ds) (k : ∀ d, post ds d → Φ d) : CallOk n pre post Φ ds := ⟨l, h, k⟩
theorem ew_call {K : PySem.W.Frag} {γ : Gam} {Φ : D → Prop} {n : Nat} {pre : List D → Prop} {post : List D → D → Prop} {E : XK} {tr : TA} (h : AW K tr γ fun ds => CallOk n pre post Φ ds) : EW K (tCall (spD K n pre post) [] E tr) γ Φ := fun Hs0 H0 Hs H σ Q S q =>
  h Hs0 H0 Hs H σ _ S fun Hs1 H1 vs ds g1 r1 ⟨l, p, k⟩ => ⟨Hs1, ds, g1.t S.tb, g1.b, by rw [List.append_nil]; exact r1, l, p, fun Hs2 H2 v d g2 r2 ps => q _ _ _ _ (g1.trans g2) r2 (k d ps)⟩
def gam0 (n : Nat) (ds : List D) : Gam := ds.map (fun d => some (.sh d)) ++ List.replicate (n - ds.length) none
theorem sl_start {K : PySem.W.Frag} {Hs H : Hp} {N : List Str} {vs : List V} {ds : List D} (tb : TbOk Hs H) (b : Same Hs H) (r : RepL K Hs vs ds) : Sl K Hs H Hs H (L2.start N vs) (gam0 N.length ds) := by
  have lk : ∀ (i : Nat) (s : Slot), (gam0 N.length ds)[i]? = some (some s) → ∃ d, s = .sh d ∧ ds[i]? = some d := fun i s h => by
    unfold gam0 at h
    by_cases hi : i < ds.length
    · rw [List.getElem?_append_left (by simpa using hi), List.getElem?_map] at h
      cases e : ds[i]? with
      | none => rw [e] at h; cases h
      | some d => rw [e] at h; cases h; exact ⟨d, rfl, rfl⟩
    · rw [List.getElem?_append_right (by simpa using hi), List.getElem?_replicate] at h
      split at h <;> cases h
  refine ⟨.refl b, ?_, fun i s h => ?_, fun i es a h ho _ => ?_, fun i j es fs a h _ ho _ _ _ => ?_, tb⟩
  · unfold L2.start gam0
    rw [List.length_append, List.length_append, List.length_map, List.length_map, List.length_replicate, List.length_replicate, r.length]
  · obtain ⟨d, rfl, hd⟩ := lk i s h
    obtain ⟨v, hv, rv⟩ := r.get hd
    refine ⟨v, ?_, rv⟩
    unfold L2.start
    have hi : i < vs.length := (List.getElem?_eq_some_iff.mp hv).1
    rw [List.getElem?_append_left (by simpa using hi), List.getElem?_map, hv]; rfl
  · obtain ⟨d, e, _⟩ := lk i _ h; subst e; cases ho
  · obtain ⟨d, e, _⟩ := lk i _ h; subst e; cases ho
section
variable {P : Program} {w : World} {K : PySem.W.Frag} {mg : Str → Option Value} {base : Heap}
/-- THE RULE: a def by its body over data -/
theorem def_ok {x qual : Str} {st : Stmt} {f : Addr} {fd : FuncData} {N ps : List Str} {k : Nat} {pre : List D → Prop} {post : List D → D → Prop} (F : Fun K x qual st f fd) (S : FnScope N ps (defScope st))
    (hbody : ∀ (cdv : Value) (A : Around) (outer : List Env) (s : Shared) (H : Hp) (E : XK), Room k (A.deeper (PyProof.Rows.envOfC qual (defScope st) s.heap.objs.size f cdv)) → ∀ ds, ds.length = ps.length → pre ds →
      ∃ t, PSs (cxOf CX0 P w K mg base N qual (defScope st) f cdv A outer s H E).nox (defBody st) t ∧ SW K t (gam0 N.length ds) { nx := fun _ => post ds .non, rt := post ds }) : FnOk P w K mg base CX0 (k + 1) f fd ps (spD K ps.length pre post) := by
  refine F.ok S (fun vs H Q E h => ?_) (fun cdv A outer s H vs Q E hr h => ?_)
  · obtain ⟨Hs, ds, _, _, r, l, _⟩ := h
    rw [r.length]; exact l
  · obtain ⟨Hs, ds, tb, b, r, l, p, q⟩ := h
    obtain ⟨t, ht, hw⟩ := hbody cdv A outer s H E hr ds l p
    exact ⟨t, ht, hw Hs H Hs H _ _ (sl_start tb b r) (fun Hs' H' σ' γ' e S' p => q Hs' H' _ _ S'.gr .non p) (fun Hs' H' v d g r p => q Hs' H' v d g r p) (fun _ _ _ _ _ _ z => z.elim) (fun _ _ _ _ _ _ z => z.elim)⟩
end
end Z

namespace Z
open PySem PySem.Spec L2
variable [Tabs]
section
variable {K : PySem.W.Frag} {γ : Gam} {Φ Ψ : D → Prop} {ta tb tc te : TE} {d x y : D} {i j : Nat}

/-! ### ints -/
theorem rw_add {i j : Int} (k : Φ (.int (i + j))) : RW2 K (rI0 fun i j => .int (i + j)) (.int i) (.int j) Φ := rw_I0 rfl k
theorem rw_sub {i j : Int} (k : Φ (.int (i - j))) : RW2 K (rI0 fun i j => .int (i - j)) (.int i) (.int j) Φ := rw_I0 rfl k
theorem rw_mul {i j : Int} (c : CMul i j) (k : Φ (.int (i * j))) : RW2 K (rI CMul fun i j => .int (i * j)) (.int i) (.int j) Φ := rw_I c rfl k
theorem rw_fdiv {i j : Int} (c : CDiv i j) (k : Φ (.int (i / j))) : RW2 K (rI CDiv fun i j => .int (i / j)) (.int i) (.int j) Φ := rw_I c rfl k
theorem rw_mod {i j : Int} (c : 0 < j) (k : Φ (.int (i % j))) : RW2 K (rI (fun _ j => 0 < j) fun i j => .int (i % j)) (.int i) (.int j) Φ := rw_I c rfl k
theorem rw_pow {i j : Int} (c : CPow i j) (k : Φ (.int (i ^ j.toNat))) : RW2 K (rI CPow fun i j => .int (i ^ j.toNat)) (.int i) (.int j) Φ := rw_I c rfl k
theorem rw_lt {i j : Int} (k : Φ (.bl (decide (i < j)))) : RW2 K (rI0 fun i j => .bl (decide (i < j))) (.int i) (.int j) Φ := rw_I0 rfl k
theorem rw_le {i j : Int} (k : Φ (.bl (decide (i ≤ j)))) : RW2 K (rI0 fun i j => .bl (decide (i ≤ j))) (.int i) (.int j) Φ := rw_I0 rfl k
theorem rw_gt {i j : Int} (k : Φ (.bl (decide (j < i)))) : RW2 K (rI0 fun i j => .bl (decide (j < i))) (.int i) (.int j) Φ := rw_I0 rfl k
theorem rw_ge {i j : Int} (k : Φ (.bl (decide (j ≤ i)))) : RW2 K (rI0 fun i j => .bl (decide (j ≤ i))) (.int i) (.int j) Φ := rw_I0 rfl k
theorem ew_neg {g : Int → V} (h : EW K ta γ fun d => ∃ i, d = .int i ∧ plainV (g i) = true ∧ Φ (ofV (g i))) : EW K (tUn (rU g) ta) γ Φ := fun Hs0 H0 Hs H σ Q S q =>
  h Hs0 H0 Hs H σ _ S fun Hs' H' v d gr r ⟨i, e, pl, p⟩ => by
    subst e; cases r
    exact ⟨i, rfl, q _ _ _ _ gr (.ofV pl) p⟩
theorem ew_isN (h : EW K ta γ fun d => ∃ b, ((d = .non ↔ b = true)) ∧ Φ (.bl b)) : EW K (tIsN ta) γ Φ := fun Hs0 H0 Hs H σ Q S q =>
  h Hs0 H0 Hs H σ _ S fun Hs' H' v d g r ⟨b, e, p⟩ => by
    have eb : decide (v = V.non) = b := by
      cases b with
      | true => rw [e.mpr rfl] at r; cases r; rfl
      | false =>
        refine decide_eq_false fun z => ?_
        subst z
        cases r
        exact absurd (e.mp rfl) (by decide)
    show Q (.bl (decide (v = .non))) H'
    rw [eb]
    exact q _ _ _ _ g (.bl _) p
theorem ew_notN (h : EW K ta γ fun d => ∃ b, ((d = .non ↔ b = true)) ∧ Φ (.bl (!b))) : EW K (tNotN ta) γ Φ := fun Hs0 H0 Hs H σ Q S q =>
  h Hs0 H0 Hs H σ _ S fun Hs' H' v d g r ⟨b, e, p⟩ => by
    have eb : decide (v = V.non) = b := by
      cases b with
      | true => rw [e.mpr rfl] at r; cases r; rfl
      | false =>
        refine decide_eq_false fun z => ?_
        subst z
        cases r
        exact absurd (e.mp rfl) (by decide)
    show Q (.bl (!decide (v = .non))) H'
    rw [eb]
    exact q _ _ _ _ g (.bl _) p

/-- an item of a list or a tuple -/
theorem rw_ixQL {ds : List D} {i : Int} (h : atI ds i = some d) (k : Φ d) : RW2 K (rIx K) (.lst ds) (.int i) Φ := fun Hs H v u Q b r1 r2 q => .inl (rw_ixL h k Hs H v u Q b r1 r2 q)
theorem rw_ixQT {ds : List D} {i : Int} (h : atI ds i = some d) (k : Φ d) : RW2 K (rIx K) (.tup ds) (.int i) Φ := fun Hs H v u Q b r1 r2 q => .inr (.inl (rw_ixT h k Hs H v u Q b r1 r2 q))
/-! ### kinds -/
def tyD : D → String
  | .non => "NoneType"
  | .bl _ => "bool"
  | .int _ => "int"
  | .str _ => "str"
  | .lst _ => "list"
  | .tup _ => "tuple"
  | .scr _ => "list"
  | .tpl _ => "tuple"
  | .ty _ => "type"
  | .obj _ _ _ => "object"
  | .hnd _ => "object"
  | .dct _ => "dict"
def goodTy : D → Bool
  | .scr _ => false
  | .ty _ => false
  | .obj _ _ _ => false
  | .hnd _ => false
  | _ => true
theorem tyX_of {Hs H : Hp} {v : V} (b : Same Hs H) (r : Rep K Hs v x) (g : goodTy x = true) : TyX K H v (.type (tyD x)) := by
  cases r with
  | non => exact .base .non
  | bl b => exact .base (.bl b)
  | int i => exact .base (.int i)
  | str x => exact .base (.str x)
  | lst h r => exact .base (.lst (b _ _ h))
  | tup h r =>
    rcases sameT b h with (h | ⟨o, h⟩) | ⟨o, its, n, h1, h2, _⟩
    · exact .base (.tup h)
    · exact .fTuple h
    · exact .kTuple h1 h2
  | ty n => cases g
  | scr h => cases g
  | tpl h r => exact .base (.tup (b _ _ h))
  | obj h l r => cases g
  | hnd a => cases g
  | dct h r => exact .fDict (b _ _ h)
theorem rwl_isi {n : String} {b : Bool} (g : goodTy x = true) (hk : kitB (tyD x) n = some b) (hc : ClsV (.ty n) (.type n)) (k : Φ (.bl b)) : RWL K (rIsi K) [x, .ty n] Φ := fun Hs H vs Q bb r q => by
  cases r with
  | cons h r =>
    cases r with
    | cons h2 r =>
      cases h2; cases r
      exact ⟨_, .ty n, .type (tyD x), .type n, b, rfl, hc, tyX_of bb h g, kit_ty hk, q _ _ _ _ (.refl bb) (.bl _) k⟩

/-! ### texts -/
def rJoinZ (K : PySem.W.Frag) : V → List V → Hp → VK → Prop := fun x xs H Q => ∃ a p, ∃ ys : List Str, x = .str a ∧ xs = [.ref p] ∧ (SqL K H p (ys.map V.str) ∨ SqT K H p (ys.map V.str)) ∧ (ys.map (·.length)).sum + ys.length * a.length ≤ 16777216 ∧ Q (.str (Txt.join a ys)) H
theorem mt_joinZ {X : Cx} : MtR X "str.join" (rJoinZ X.K) := mt_join
theorem rwm_joinL {a : Str} {ys : List Str} (l : (ys.map (·.length)).sum + ys.length * a.length ≤ sizeS) (k : Φ (.str (Txt.join a ys))) : RWM K (rJoinZ K) (.str a) [.lst (ys.map .str)] Φ := fun Hs H v vs Q bb r1 r2 q => by
  cases r1
  cases r2 with
  | cons h r =>
    cases r
    cases h with
    | lst h r =>
      have e := r.strs; subst e
      exact ⟨a, _, ys, rfl, rfl, .inl (.of (bb _ _ h)), Nat.le_trans l (by decide), q _ _ _ _ (.refl bb) (.str _) k⟩
theorem rwm_joinT {a : Str} {ys : List Str} (l : (ys.map (·.length)).sum + ys.length * a.length ≤ sizeS) (k : Φ (.str (Txt.join a ys))) : RWM K (rJoinZ K) (.str a) [.tup (ys.map .str)] Φ := fun Hs H v vs Q bb r1 r2 q => by
  cases r1
  cases r2 with
  | cons h r =>
    cases r
    cases h with
    | tup h r =>
      have e := r.strs; subst e
      exact ⟨a, _, ys, rfl, rfl, .inr (sameT bb h), Nat.le_trans l (by decide), q _ _ _ _ (.refl bb) (.str _) k⟩
def tJoined (ts : List TE) : TE := fun σ H Q => tJs ts Str.empty σ H fun out H1 => Q (.str out) H1
theorem pe_joinedZ {X : Cx} {v1 v2 : Expr} {rest : List Expr} {ts : List TE} {pos : Pos} (h : PJ X (v1 :: v2 :: rest) ts) : PE X (.JoinedStr (v1 :: v2 :: rest) pos) (tJoined ts) := pe_joined h
def JW (K : PySem.W.Frag) (ts : List TE) (acc : Str) (γ : Gam) (Φ : Str → Prop) : Prop := ∀ (Hs0 H0 Hs H : Hp) (σ : L2.St) (Q : Str → Hp → Prop), Sl K Hs0 H0 Hs H σ γ → (∀ Hs' H' z, Grow Hs H Hs' H' → Φ z → Q z H') → tJs ts acc σ H Q
theorem jw_nil {acc : Str} {Φ : Str → Prop} (h : Φ acc) : JW K [] acc γ Φ := fun Hs0 H0 Hs H σ Q S q => q _ _ _ (.refl S.b) h
theorem jw_cons {ts : List TE} {acc : Str} {Φ : Str → Prop} (h : EW K te γ fun d => ∃ y, d = .str y ∧ (acc ++ y).length ≤ sizeS ∧ JW K ts (acc ++ y) γ Φ) : JW K (te :: ts) acc γ Φ := fun Hs0 H0 Hs H σ Q S q =>
  h Hs0 H0 Hs H σ _ S fun Hs' H' v d g r ⟨y, e, l, p⟩ => by
    subst e; cases r
    exact ⟨y, rfl, sz_ok l, p Hs0 H0 Hs' H' σ Q (S.grow g) fun Hs2 H2 z g2 p2 => q _ _ _ (g.trans g2) p2⟩
theorem ew_joined {ts : List TE} (h : JW K ts Str.empty γ fun z => Φ (.str z)) : EW K (tJoined ts) γ Φ := fun Hs0 H0 Hs H σ Q S q =>
  h Hs0 H0 Hs H σ _ S fun Hs' H' z g p => q _ _ _ _ g (.str _) p
theorem ew_fmtS (h : EW K te γ fun d => ∃ z, d = .str z ∧ z.length ≤ sizeS ∧ Φ (.str z)) : EW K (tFmt te) γ Φ := fun Hs0 H0 Hs H σ Q S q =>
  h Hs0 H0 Hs H σ _ S fun Hs' H' v d g r ⟨z, e, l, p⟩ => by
    subst e; cases r
    exact .inl ⟨z, rfl, sz_ok l, q _ _ _ _ g (.str _) p⟩
theorem ew_fmtI (h : EW K te γ fun d => ∃ i : Int, d = .int i ∧ i.natAbs < 2 ^ 64 ∧ Φ (.str (toString i))) : EW K (tFmt te) γ Φ := fun Hs0 H0 Hs H σ Q S q =>
  h Hs0 H0 Hs H σ _ S fun Hs' H' v d g r ⟨i, e, l, p⟩ => by
    subst e; cases r
    refine .inr ⟨i, rfl, ?_, q _ _ _ _ g (.str _) p⟩
    by_cases h0 : i.natAbs = 0
    · rw [h0]; decide
    · exact Nat.lt_trans ((Nat.log2_lt h0).mpr l) (by decide)
/-- a text, sign by sign -/
def signs (z : Str) : List D := z.cps.toList.map fun c => .str ⟨#[c]⟩
theorem iw_str {Φ : List D → Prop} (h : EW K te γ fun d => ∃ z, d = .str z ∧ Φ (signs z)) : IW K (iStr te) γ Φ := fun Hs0 H0 Hs H σ R S q =>
  h Hs0 H0 Hs H σ _ S fun Hs1 H1 v x g1 r1 ⟨z, e, p⟩ => by
    subst e; cases r1
    have ln : (signs z).length = z.cps.toList.length := by unfold signs; rw [List.length_map]
    refine ⟨z, rfl, q Hs1 H1 _ _ g1 ⟨fun i Hs' H' e1 e2 hi => ?_, fun i Hs' H' d x H'' e1 e2 hd hy => ?_, fun Hs' H' e1 e2 => ?_⟩ p⟩
    · rw [ln] at hi
      first
        | exact hi
        | exact (by simpa using hi)
        | exact ⟨_, List.getElem?_eq_getElem hi⟩
    · unfold signs at hd
      rw [List.getElem?_map] at hd
      cases e : z.cps.toList[i]? with
      | none => rw [e] at hd; cases hd
      | some c =>
        rw [e] at hd
        have hd' : D.str ⟨#[c]⟩ = d := Option.some.inj hd
        subst hd'
        obtain ⟨rfl, hx⟩ := hy
        first
          | (obtain ⟨c', hc, rfl⟩ := hx; rw [Array.getElem?_toList] at e; rw [e] at hc; cases hc; exact ⟨Hs', .refl e2, .str _⟩)
    · rw [ln]
      first
        | exact Nat.le_refl _
        | simp
theorem en_revL {Φ : List D → Prop} (h : EW K ta γ fun x => ∃ ds, x = .lst ds ∧ Φ ds.reverse) : EN K (tRevL K ta) γ Φ := fun Hs0 H0 Hs H σ Q S q =>
  h Hs0 H0 Hs H σ _ S fun Hs1 H1 v x g1 r1 ⟨ds, e, p⟩ => by
    subst e
    cases r1 with
    | lst h1 r1 =>
      exact ⟨_, _, rfl, .of (g1.b _ _ h1), fun a ha => q Hs1 _ a _ _ (g1.trans (.hid g1.b ha)) (g1.e.free ha) (g1.b.free ha) upd_same r1.reverse p⟩
end

/-! ### defs by name -/
section
variable {P : Program} {w : World} {K : PySem.W.Frag} {mg : Str → Option Value} {base : Heap}
structure Df (P : Program) (w : World) (K : PySem.W.Frag) (mg : Str → Option Value) (base : Heap) (x : Str) (k : Nat) (ps : List Str) (n : Nat) (pre : List D → Prop) (post : List D → D → Prop) : Prop where
  ex : ∃ f fd, mg x = some (.ref f) ∧ PySem.W.keepIn K (.ref f) = true ∧ Binds K fd ps [] ∧ FnOk P w K mg base CX0 k f fd ps (spD K n pre post) ∧ ∃ oc od osl, K.lookup f = some ⟨oc, od, .func fd, osl⟩
theorem pe_df {X : Cx} {x : Str} {k j : Nat} {ps : List Str} {n : Nat} {pre : List D → Prop} {post : List D → D → Prop} {p pos : Pos} {e : Expr} {es : List Expr} {t : TA} (g : Df X.prog X.w X.K X.mg X.base x j ps n pre post) (hr : Room k X.A) (hj : j ≤ k) (hg : Gl X x)
    (ha : PA X (e :: es) t) (hdb : (x == ("__debug__" : Str)) = false := by decide) (he : starEach (e :: es) X.env = (false, eval e X.env) :: starEach es X.env := by rfl) (hpl : (backTo pos (starEach es X.env)).any (·.1) = false := by rfl) :
    PE X (.Call (.Name x p) (e :: es) [] pos) (tCall (spD X.K n pre post) [] E0 t) := by
  obtain ⟨f, fd, h1, h2, h3, h4, _⟩ := g.ex
  exact pe_call h4 (hr.mono hj) hg h1 h2 h3 .nil pass0 ha hdb he hpl
/-- THE RULE for a def by its facts -/
theorem df_mk {x : Str} {params : Arguments} {body : List Stmt} {scope : Scope} {f : Addr} {fd : FuncData} {N ps : List Str} {k : Nat} {pre : List D → Prop} {post : List D → D → Prop} (F : FunD K x x params body scope [] [] f fd) (hm : mg x = some (.ref f)) (S : FnScope N ps scope)
    (hb : ∀ (kV doc pm : Value) (an : Option Addr) (cdv ct : Value) (us : List Value), us.length = ps.length → bindArgs (PySem.W.fnOf x x params body scope .none kV doc pm an cdv ct) ⟨us, []⟩ = pure (ps.zip us))
    (hbody : ∀ (cdv : Value) (A : Around) (outer : List Env) (s : Shared) (H : Hp) (E : XK), Room k (A.deeper (PyProof.Rows.envOfC x scope s.heap.objs.size f cdv)) → ∀ ds, ds.length = ps.length → pre ds →
      ∃ t, PSs (cxOf CX0 P w K mg base N x scope f cdv A outer s H E).nox body t ∧ SW K t (gam0 N.length ds) { nx := fun _ => post ds .non, rt := post ds }) : Df P w K mg base x (k + 1) ps ps.length pre post := by
  obtain ⟨oc, od, dV, kV, doc, pm, an, cdv, ct, osl, e1, lk, _⟩ := id F.ex
  refine ⟨f, fd, hm, F.kp, F.bindsN hb, F.ok S (fun vs H Q E h => ?_) (fun cdv A outer s H vs Q E hr h => ?_), oc, od, osl, lk⟩
  · obtain ⟨Hs, ds, _, _, r, l, _⟩ := h
    rw [r.length]; exact l
  · obtain ⟨Hs, ds, tb, b, r, l, p, q⟩ := h
    obtain ⟨t, ht, hw⟩ := hbody cdv A outer s H E hr ds l p
    exact ⟨t, ht.nox, hw Hs H Hs H _ _ (sl_start tb b r) (fun Hs' H' σ' γ' e S' p => q Hs' H' _ _ S'.gr .non p) (fun Hs' H' v d g r p => q Hs' H' v d g r p) (fun _ _ _ _ _ _ z => z.elim) (fun _ _ _ _ _ _ z => z.elim)⟩
theorem df_void {x : Str} {params : Arguments} {body : List Stmt} {scope : Scope} {f : Addr} {fd : FuncData} {ps : List Str} {n : Nat} {pre : List D → Prop} {post : List D → D → Prop} (F : FunD K x x params body scope [] [] f fd) (hm : mg x = some (.ref f))
    (hb : ∀ (kV doc pm : Value) (an : Option Addr) (cdv ct : Value) (us : List Value), us.length = ps.length → bindArgs (PySem.W.fnOf x x params body scope .none kV doc pm an cdv ct) ⟨us, []⟩ = pure (ps.zip us)) (hp : ∀ ds, ¬ pre ds) : Df P w K mg base x 0 ps n pre post := by
  obtain ⟨oc, od, dV, kV, doc, pm, an, cdv, ct, osl, e1, lk, _⟩ := id F.ex
  exact ⟨f, fd, hm, F.kp, F.bindsN hb, ⟨fun vs H Q E ⟨_, ds, _, _, _, _, p, _⟩ => (hp ds p).elim, fun _ _ _ _ _ _ _ _ _ _ _ _ _ ⟨_, ds, _, _, _, _, p, _⟩ => (hp ds p).elim⟩, oc, od, osl, lk⟩
theorem Df.imp {x : Str} {k : Nat} {ps : List Str} {n : Nat} {pre pre' : List D → Prop} {post post' : List D → D → Prop} (g : Df P w K mg base x k ps n pre post) (h1 : ∀ ds, ds.length = n → pre' ds → pre ds) (h2 : ∀ ds d, pre' ds → post ds d → post' ds d) : Df P w K mg base x k ps n pre' post' := by
  obtain ⟨f, fd, a, b, c, F, lk⟩ := g.ex
  refine ⟨f, fd, a, b, c, F.imp fun vs H Q E ⟨Hs, ds, tb, bb, r, l, p, q⟩ => ⟨Hs, ds, tb, bb, r, l, h1 ds l p, fun Hs' H' v d g r ps => q Hs' H' v d g r (h2 ds d p ps)⟩, lk⟩
/-- a module's constant -/
theorem pe_gs {X : Cx} {x z : Str} {pos : Pos} (hm : ∃ t, X.mg x = some (.str z t)) (hg : Gl X x) (hd : (x == ("__debug__" : Str)) = false := by decide) : PE X (.Name x pos) (tC (.str z)) := by
  obtain ⟨t, h⟩ := hm
  exact pe_glob hg h ⟨_, rfl⟩ hd
theorem pe_gi {X : Cx} {x : Str} {z : Int} {pos : Pos} (hm : ∃ t, X.mg x = some (.int z t)) (hg : Gl X x) (hd : (x == ("__debug__" : Str)) = false := by decide) : PE X (.Name x pos) (tC (.int z)) := by
  obtain ⟨t, h⟩ := hm
  exact pe_glob hg h ⟨_, rfl⟩ hd
/-- all but the tables -/
noncomputable def noTb (H : Hp) : Hp := fun b => open Classical in if b ∈ Tabs.T then none else H b
theorem noTb_in {H : Hp} {b : Addr} (h : b ∈ Tabs.T) : noTb H b = none := if_pos h
theorem noTb_out {H : Hp} {b : Addr} (h : b ∉ Tabs.T) : noTb H b = H b := if_neg h
theorem noTb_ok {H : Hp} (tb : ∀ P ∈ Tabs.T, GxR.TabG H P) : TbOk (noTb H) H := fun P hP => ⟨tb P hP, noTb_in hP⟩
theorem noTb_same (H : Hp) : Same (noTb H) H := fun a o e => by
  by_cases h : a ∈ Tabs.T
  · rw [noTb_in h] at e; cases e
  · rw [noTb_out h] at e; exact e
theorem noTb_sq {H : Hp} {a : Addr} {xs : List V} (tb : ∀ P ∈ Tabs.T, GxR.TabG H P) (h : SqL K H a xs) : SqL K (noTb H) a xs := by
  have no : ∀ o, H a = some o → (∀ ps, o ≠ .tbl ps) → noTb H a = some o := fun o e n => by
    rw [noTb_out (fun z => by obtain ⟨ps, q, _⟩ := tb a z; rw [e] at q; cases q; exact n ps rfl)]
    exact e
  rcases h with (h | ⟨o, h⟩) | h
  · exact .inl (.inl (no _ h fun ps z => by cases z))
  · exact .inl (.inr ⟨o, no _ h fun ps z => by cases z⟩)
  · exact .inr h
/-- the law's def, by its data -/
def spLawZ (K : PySem.W.Frag) : Sp := fun vs H Q _ => ∃ (a : Addr) (ns : List Int), vs = [.ref a] ∧ (∀ P ∈ Tabs.T, GxR.TabG H P) ∧ SqL K H a (ns.map V.int) ∧ ns.length ≤ 63 ∧ ∀ H', Q (.bl true) H'
theorem law_ofF {x qual : Str} {params : Arguments} {body : List Stmt} {scope : Scope} {dvs : List V} {kws : List (Str × V)} {k : Nat} {ps : List Str} {pre : List D → Prop} {post : List D → D → Prop} {f : Addr} {fd : FuncData} (F : FunD K x qual params body scope dvs kws f fd) (hm : mg x = some (.ref f))
    (g : Df P w K mg base x k ps 1 pre post) (hp : ∀ ns : List Int, ns.length ≤ 63 → pre [.scr ns]) (hq : ∀ ns d, post [.scr ns] d → d = .bl true) : FnOk P w K mg base CX0 k f fd ps (spLawZ K) := by
  obtain ⟨f', fd', a, b, c, F', oc, od, osl, lk⟩ := g.ex
  have e := a.symm.trans hm
  cases e
  obtain ⟨oc2, od2, dV, kV, doc, pm, an, cdv, ct, osl2, e1, lk2, _⟩ := id F.ex
  have e2 := lk.symm.trans lk2
  have e3 : fd' = fd := by cases e2; rfl
  subst e3
  refine F'.imp fun vs H Q E ⟨a, ns, e, tb, h, l, q⟩ => ⟨noTb H, [.scr ns], noTb_ok tb, noTb_same H, ?_, rfl, hp ns l, fun Hs' H' v d g r ps => ?_⟩
  · subst e; exact .cons (.scr (noTb_sq tb h)) .nil
  · have e := hq ns d ps
    subst e
    cases r
    exact q H'
end
end Z

namespace Z
open PySem PySem.Spec L2
variable [Tabs]
section
variable {K : PySem.W.Frag} {γ : Gam} {Φ Ψ : D → Prop} {ta tb tc te : TE} {d x y : D} {i j : Nat} {Φo : Out}
/-! ### its own list: pop(k), insert(k, e) -/
theorem RepL.eraseIdx {K : PySem.W.Frag} {H : Hp} : ∀ {vs : List V} {ds : List D} (i : Nat), RepL K H vs ds → RepL K H (vs.eraseIdx i) (ds.eraseIdx i)
  | _, _, _, .nil => .nil
  | _, _, 0, .cons _ r => r
  | _, _, i + 1, .cons q r => .cons q (RepL.eraseIdx i r)
def rPopZ : V → List V → Hp → VK → Prop := fun x vs H Q => ∃ l xs i k y, x = .ref l ∧ vs = [.int i] ∧ H l = some (.lst xs) ∧ -(2 ^ 63) ≤ i ∧ i < 2 ^ 63 ∧ seqIndex? i xs.length = some k ∧ xs[k]? = some y ∧ Q y (upd H l (.lst (xs.eraseIdx k)))
theorem mt_popZ {X : Cx} : MtR X "list.pop" rPopZ := mt_popAt
theorem sw_popAt {ds : List D} (hg : γ[i]? = some (some (.ow ds))) (h : EW K te γ fun d => ∃ k : Nat, d = .int (k : Int) ∧ k < ds.length ∧ ds.length ≤ sizeS ∧ Φo.nx (γ.set i (some (.ow (ds.eraseIdx k))))) :
    SW K (tDrop (tBM K "list" rPopZ (tVar i) (tCons te tNil))) γ Φo := fun Hs0 H0 Hs H σ E S kn kr _ _ => by
  obtain ⟨a, vs, hv, h1, h2, h3⟩ := own_at S hg
  refine ⟨.ref a, hv, .inl ⟨rfl, _, .of h2⟩, h Hs0 H0 Hs H σ _ S fun Hs' H' v d g r ⟨k, e, hk, hl, p⟩ => ?_⟩
  subst e
  cases r
  have hk2 : k < vs.length := by rw [h3.length]; exact hk
  have hl2 : ds.length ≤ 1000000 := hl
  have hs : seqIndex? (k : Int) vs.length = some k := (ixN_seq (by unfold ixN; rw [if_pos (by omega), if_pos (by omega)]; simp)).1
  refine ⟨a, vs, k, k, vs[k], rfl, rfl, g.e.lst h2, by omega, by omega, hs, by simp [hk2], ?_⟩
  exact kn Hs' _ σ _ g.s ((S.grow g).put i hg hv (g.n _ _ h2 h1) (RepL.eraseIdx k (RepL.mono g.s h3))) p
def rInsZ : V → List V → Hp → VK → Prop := fun x vs H Q => ∃ (l : Addr) (xs : List V) (i : Int) (y : V), x = .ref l ∧ vs = [.int i, y] ∧ H l = some (.lst xs) ∧ xs.length < sizeLine ∧ 0 ≤ i ∧ i < 2 ^ 63 ∧
    Q .non (upd H l (.lst (xs.take i.toNat ++ [y] ++ xs.drop i.toNat)))
theorem mt_insZ {X : Cx} : MtR X "list.insert" rInsZ := mt_insert
theorem sw_insert {ds : List D} (hg : γ[i]? = some (some (.ow ds))) (hl : ds.length < sizeS) (h : EW K tb γ fun y => ∃ k : Nat, y = .int (k : Int) ∧ k ≤ ds.length ∧ EW K te γ fun d => Φo.nx (γ.set i (some (.ow (ds.take k ++ [d] ++ ds.drop k))))) :
    SW K (tDrop (tBM K "list" rInsZ (tVar i) (tCons tb (tCons te tNil)))) γ Φo := fun Hs0 H0 Hs H σ E S kn kr _ _ => by
  obtain ⟨a, vs, hv, h1, h2, h3⟩ := own_at S hg
  have hl2 : ds.length < 1000000 := hl
  refine ⟨.ref a, hv, .inl ⟨rfl, _, .of h2⟩, h Hs0 H0 Hs H σ _ S fun Hs1 H1 v d g1 r1 ⟨k, e, hk, h'⟩ => ?_⟩
  subst e
  cases r1
  refine h' Hs0 H0 Hs1 H1 σ _ (S.grow g1) fun Hs2 H2 u d g2 r2 p => ?_
  have g := g1.trans g2
  refine ⟨a, vs, k, u, rfl, rfl, g.e.lst h2, by rw [h3.length]; exact Nat.lt_trans hl (by decide), by omega, by omega, ?_⟩
  rw [Int.toNat_natCast]
  have r3 := RepL.mono g.s h3
  exact kn Hs2 _ σ _ g.s ((S.grow g).put i hg hv (g.n _ _ h2 h1) (((r3.take k).append (.cons r2 .nil)).append (r3.drop k))) p
/-- tuples of any length -/
theorem rw_catA {ds es : List D} (l : ds.length + es.length ≤ sizeS) (k : Φ (.tup (ds ++ es))) : RW2 K (rCatF K) (.tup ds) (.tup es) Φ := fun Hs H v u Q b r1 r2 q => by
  cases r1 with
  | tup h1 r1 =>
    cases r2 with
    | tup h2 r2 =>
      refine ⟨_, _, _, _, rfl, rfl, sameT b h1, sameT b h2, by rw [r1.length, r2.length]; exact sz_ok l, ?_⟩
      first
        | (refine ⟨fun e => ?_, fun e => ?_, fun e e' p ob hd hp => ?_⟩
           · subst e; cases r1; exact q _ _ _ _ (.refl b) (.tup h2 r2) k
           · subst e; cases r2; rw [List.append_nil] at k; exact q _ _ _ _ (.refl b) (.tup h1 r1) k
           · exact q _ _ _ _ (.new b hp) (.tup ⟨ob, hd, upd_same⟩ (RepL.mono (sameNew (b.free hp)) (r1.append r2))) k)
        | (refine ⟨fun e => ?_, fun e e' => ?_, fun e e' p ob hd hp => ?_⟩
           · subst e; cases r1; exact q _ _ _ _ (.refl b) (.tup h2 r2) k
           · subst e'; cases r2; rw [List.append_nil] at k; exact q _ _ _ _ (.refl b) (.tup h1 r1) k
           · exact q _ _ _ _ (.new b hp) (.tup ⟨ob, hd, upd_same⟩ (RepL.mono (sameNew (b.free hp)) (r1.append r2))) k)
theorem slw_new {r : V → Option Int → Option Int → Hp → VK → Prop} {l u : Option Int} (h : SlN K r x l u fun ds => Φ (.lst ds)) : SlW K r x l u Φ := fun Hs H v Q b r1 q => h Hs H v Q b r1 fun Hs' H' a vs ds g h1 h2 h3 h4 p =>
  let ⟨g', r'⟩ := en_grow g h1 h2 h3 h4
  q _ _ _ _ g' r' p
theorem sl_TA {ds : List D} {l u : Option Int} (k : Φ (.tup (cutD ds l u))) : SlW K (rSlF K) (.tup ds) l u Φ := fun Hs H v Q b r q => by
  cases r with
  | tup h r =>
    refine ⟨_, _, rfl, sameT b h, fun e => ?_, fun _ p ob hd hp => ?_⟩
    · have e2 : cutD ds l u = ds := by
        unfold cutD
        rw [r.length] at e
        rw [e.1, e.2, List.drop_zero, Nat.sub_zero, List.take_length]
      rw [e2] at k
      exact q _ _ _ _ (.refl b) (.tup h r) k
    · refine q _ _ _ _ (.new b hp) (.tup ⟨ob, hd, upd_same⟩ (RepL.mono (sameNew (b.free hp)) ?_)) k
      unfold cutV cutD
      rw [r.length]
      exact (r.drop _).take _
/-! ### where it does not matter which -/
theorem at_ex {α : Type} {xs : List α} {i : Int} (h0 : 0 ≤ i) (h1 : i < xs.length) : ∃ x, x ∈ xs ∧ atI xs i = some x := by
  obtain ⟨n, rfl⟩ := Int.eq_ofNat_of_zero_le h0
  have hn : n < xs.length := by omega
  exact ⟨xs[n], List.getElem_mem hn, atI_nat (List.getElem?_eq_getElem hn)⟩
theorem rw_ixSe {z : Str} {i : Int} (l : z.length ≤ sizeS) (h0 : 0 ≤ i) (h1 : i < z.length) (k : ∀ c, c ∈ z.cps.toList → Φ (.str ⟨#[c]⟩)) : RW2 K rIxS (.str z) (.int i) Φ := by
  obtain ⟨c, hc, h⟩ := at_ex (xs := z.cps.toList) h0 (by simpa [Str.length] using h1)
  exact rw_ixS l h (k c hc)
/-- a sign of a text of known length -/
theorem rw_ixSk {z : Str} {i : Int} (L : Nat) (hL : z.length = L) (l : L ≤ 1000000) (h0 : 0 ≤ i) (h1 : i < (L : Int)) (k : ∀ c, Φ (.str ⟨#[c]⟩)) : RW2 K rIxS (.str z) (.int i) Φ := rw_ixSe (by rw [hL]; exact l) h0 (by rw [hL]; exact h1) fun c _ => k c
theorem rw_ixLe {ds : List D} {i : Int} (h0 : 0 ≤ i) (h1 : i < ds.length) (k : ∀ d, d ∈ ds → Φ d) : RW2 K (rIxL K) (.lst ds) (.int i) Φ := by
  obtain ⟨d, hd, h⟩ := at_ex h0 h1
  exact rw_ixL h (k d hd)
theorem rw_ixTe {ds : List D} {i : Int} (h0 : 0 ≤ i) (h1 : i < ds.length) (k : ∀ d, d ∈ ds → Φ d) : RW2 K (rIxT K) (.tup ds) (.int i) Φ := by
  obtain ⟨d, hd, h⟩ := at_ex h0 h1
  exact rw_ixT h (k d hd)
/-- a list of draws: ints from 0 to 999 -/
def Drw (ns : List Int) : Prop := ∀ n ∈ ns, 0 ≤ n ∧ n < 1000
theorem rw_ixI {ns : List Int} {i : Int} (h0 : 0 ≤ i) (h1 : i < ns.length) (hd : Drw ns) (k : ∀ n, 0 ≤ n → n < 1000 → Φ (.int n)) : RW2 K (rIxL K) (.lst (ns.map .int)) (.int i) Φ :=
  rw_ixLe h0 (by rw [List.length_map]; exact h1) fun d hm => by
    obtain ⟨n, hn, rfl⟩ := List.mem_map.mp hm
    exact k n (hd n hn).1 (hd n hn).2
theorem cut_map {α : Type} (f : α → D) (ns : List α) (lo hi : Option Int) : cutD (ns.map f) lo hi = (((ns.drop (HT.sIx ns.length 0 lo)).take (HT.sIx ns.length ns.length hi - HT.sIx ns.length 0 lo))).map f := by
  unfold cutD
  rw [List.length_map, List.map_take, List.map_drop]
theorem sln_I {ns : List Int} {l u : Option Int} {Φ : List D → Prop} (hd : Drw ns) (k : ∀ ms : List Int, Drw ms → ms.length ≤ ns.length → Φ (ms.map .int)) : SlN K (rSlL K) (.lst (ns.map .int)) l u Φ := by
  refine sln_L ?_
  rw [cut_map]
  refine k _ (fun n hn => hd n (List.mem_of_mem_drop (List.mem_of_mem_take hn))) ?_
  rw [List.length_take, List.length_drop]; omega
/-- [e for draw in draws] where e gives short texts -/
theorem en_lcS {wi : TI} {vs : List Nat} {Φ : List D → Prop} (L : Nat) (hj : j ∈ vs) (h : IW K wi γ fun ds => ds.length < sizeS ∧ (∀ d ∈ ds, EW K te ((wipeG γ vs).set j (some (.sh d))) fun y => ∃ z, y = .str z ∧ z.length ≤ L) ∧
      ∀ ys : List Str, ys.length = ds.length → (∀ y ∈ ys, y.length ≤ L) → Φ (ys.map .str)) : EN K (tLc wi (gName j) tYes te vs) γ Φ := by
  refine en_lc (js := [j]) (fun k hk => by rw [List.mem_singleton.mp hk]; exact hj) fun Hs0 H0 Hs H σ R S q => h Hs0 H0 Hs H σ R S fun Hs' H' J ds g Y ⟨hl, he, hf⟩ => q Hs' H' J ds g Y ?_
  refine ⟨fun i acc => i ≤ ds.length ∧ ∃ ys : List Str, acc = ys.map .str ∧ ys.length = i ∧ ∀ y ∈ ys, y.length ≤ L, ⟨Nat.zero_le _, [], rfl, rfl, fun _ h => by cases h⟩, fun i d acc hd hi => ?_, fun acc hi => ?_⟩
  · obtain ⟨_, ys, rfl, h2, h3⟩ := hi
    have hi2 : i < ds.length := (List.getElem?_eq_some_iff.mp hd).1
    refine ⟨by rw [List.length_map, h2]; omega, gw_name (tw_yes ⟨fun _ => ?_, fun z => by cases z⟩)⟩
    refine (he d (List.mem_of_getElem? hd)).mono fun y ⟨z, e, hz⟩ => ⟨hi2, ys ++ [z], by rw [List.map_append, e]; rfl, by rw [List.length_append, h2]; rfl, fun y hy => ?_⟩
    rcases List.mem_append.mp hy with q | q
    · exact h3 y q
    · rw [List.mem_singleton.mp q]; exact hz
  · obtain ⟨_, ys, rfl, h2, h3⟩ := hi
    exact hf ys h2 h3
end
end Z

namespace Z
open PySem PySem.Spec L2
variable [Tabs]
/-- a statement, then the rest, with a word between them -/
theorem sw_cut {K : PySem.W.Frag} {γ : Gam} {ts tz : TS} {Φ : Out} (M : Gam → Prop) (h : SW K ts γ { Φ with nx := M }) (k : ∀ γ', M γ' → SW K tz γ' Φ) : SW K (tSeq ts tz) γ Φ := sw_seq (h.mono k (fun _ z => z) (fun _ z => z) fun _ z => z)
/-- a slot's datum, known by what is true of it -/
theorem sw_gen {K : PySem.W.Frag} {γ : Gam} {ts : TS} {Φ : Out} {d : D} (i : Nat) (P : D → Prop) (hg : γ[i]? = some (some (.sh d))) (hp : P d) (h : ∀ d', P d' → SW K ts (γ.set i (some (.sh d'))) Φ) : SW K ts γ Φ := by
  have q := h d hp
  have e : γ.set i (some (.sh d)) = γ := by
    apply List.ext_getElem?
    intro j
    by_cases hj : i = j
    · subst hj
      have hi : i < γ.length := (List.getElem?_eq_some_iff.mp hg).1
      rw [List.getElem?_set_self hi, hg]
    · rw [List.getElem?_set_ne hj]
  rw [e] at q
  exact q
section
variable (K : PySem.W.Frag) {X : Cx}
theorem ix_listK (h : X.K = K) : IxR X (rIxL K) := h ▸ ix_list
theorem ix_tupK (h : X.K = K) : IxR X (rIxT K) := h ▸ ix_tup
theorem ix_seqK (h : X.K = K) : IxR X (rIx K) := h ▸ ix_seq
theorem op_inK (h : X.K = K) : OpR X (compareOp .In) (rIn K false) := h ▸ op_in_seq
theorem op_niK (h : X.K = K) : OpR X (compareOp .NotIn) (rIn K true) := h ▸ op_notIn_seq
theorem op_catK (h : X.K = K) : OpR X (binaryOp .Add) (rCatF K) := h ▸ op_catF
theorem call_lenK (h : X.K = K) : CallR X (.builtin "len") (rLen K) := h ▸ call_lenZ
theorem call_tupK (h : X.K = K) : CallR X (.type "tuple") (rTupOf K) := h ▸ call_tupZ
theorem call_listK (h : X.K = K) : CallR X (.type "list") (rListOf K) := h ▸ call_listZ
theorem cr_allK (hc : X.calm = true) (h : X.K = K) : CallR X (.builtin "all") (rAll K) := h ▸ cr_all hc
theorem cr_anyK (hc : X.calm = true) (h : X.K = K) : CallR X (.builtin "any") (rAny K) := h ▸ cr_any hc
theorem cr_sumK (hc : X.calm = true) (h : X.K = K) : CallR X (.builtin "sum") (rSum K) := h ▸ cr_sum hc
theorem call_isiK (h : X.K = K) : CallR X (.builtin "isinstance") (rIsi K) := h ▸ call_isi
theorem sl_listK (h : X.K = K) : SlR X (rSlL K) := h ▸ sl_list
theorem sl_tupK (h : X.K = K) : SlR X (rSlF K) := h ▸ sl_tupF
theorem mt_joinK (h : X.K = K) : MtR X "str.join" (rJoinZ K) := h ▸ mt_joinZ
theorem pi_listK (h : X.K = K) {tg l : Expr} {tl : TE} (hl : PE X l tl) : PI X tg l (iList K tl) := h ▸ pi_list hl
theorem pi_tupK (h : X.K = K) {tg l : Expr} {tl : TE} (hl : PE X l tl) : PI X tg l (iTup K tl) := h ▸ pi_tup hl
theorem pe_revLK (h : X.K = K) {e : Expr} {te : TE} {k : Nat} {p1 p2 p3 pos : Pos} (he : PE X e te) : PE X (.Subscript e (.Slice none none (some (.UnaryOp .USub (.Constant (.int 1) k p1) p2)) p3) pos) (tRevL K te) := h ▸ pe_revL he
theorem pg_tupK (h : X.K = K) {es : List Expr} {k : Nat} {t : TGs} {n : Nat} {pos : Pos} (hc : X.calm = true) (hh : PGs X es t)
    (hn : (assignEach es X.env).length = n := by rfl) (hst : (assignEach es X.env).findIdx? (·.1) = none := by rfl) : PG X (.Tuple es k pos) (gTup K n t) := h ▸ pg_tup hc hh hn hst
theorem pe_dfK (h : X.K = K) {x : Str} {k j : Nat} {ps : List Str} {n : Nat} {pre : List D → Prop} {post : List D → D → Prop} {p pos : Pos} {e : Expr} {es : List Expr} {t : TA} (g : Df X.prog X.w K X.mg X.base x j ps n pre post) (hr : Room k X.A) (hj : j ≤ k) (hg : Gl X x)
    (ha : PA X (e :: es) t) (hdb : (x == ("__debug__" : Str)) = false := by decide) (he : starEach (e :: es) X.env = (false, eval e X.env) :: starEach es X.env := by rfl) (hpl : (backTo pos (starEach es X.env)).any (·.1) = false := by rfl) :
    PE X (.Call (.Name x p) (e :: es) [] pos) (tCall (spD K n pre post) [] E0 t) := by
  subst h
  exact pe_df g hr hj hg ha hdb he hpl
theorem pe_bmK (h : X.K = K) {T id : String} {name : Str} {r : V → List V → Hp → VK → Prop} {o e : Expr} {es : List Expr} {to : TE} {t : TA} {apos cpos : Pos} (pa : PlainAttrs T) (slot : PySem.Slot T name id) (hty : typeOf (.builtin id) = pure (.type "method_descriptor")) (hm : MtR X id r) (ho : PE X o to) (ha : PA X (e :: es) t)
    (hbase : attributeBase o name X.env (eval o X.env) = eval o X.env := by rfl)
    (hfew : ((backTo cpos (starEach (e :: es) X.env)).all (fun x => !x.1) && (backToKw cpos (keywordEach [] X.env)).all (fun x => x.1.isSome)
      && decide ((e :: es).length + ([] : List Keyword).length + (if ([] : List Keyword).isEmpty then 0 else 1) < 30)) = true := by rfl)
    (hline : (apos.endLine == cpos.line) = true := by rfl) (hs : starEach (e :: es) X.env = (false, eval e X.env) :: starEach es X.env := by rfl) (hplain : (backTo cpos (starEach es X.env)).any (·.1) = false := by rfl) :
    PE X (.Call (.Attribute o name apos) (e :: es) [] cpos) (tBM K T r to t) := by
  subst h
  exact pe_bm pa slot hty hm ho ha hbase hfew hline hs hplain
end
end Z

namespace Z
open PySem PySem.Spec L2
variable [Tabs]
/-- a table has grown -/
theorem Grow.tab {Hs H H2 : Hp} {P : Addr} (tb : TbOk Hs H) (b : Same Hs H) (hP : P ∈ Tabs.T) (t : GxR.Tabbed P H H2) : Grow Hs H Hs H2 := by
  obtain ⟨⟨ps, h1, h2⟩, h3⟩ := tb P hP
  obtain ⟨⟨qs, q1, q2⟩, q3⟩ := t
  refine ⟨.refl _, fun a o e => ?_, fun a o e => ?_, fun _ _ _ n => n, fun tb R hR => ?_⟩
  · by_cases ha : a = P
    · subst ha
      rw [h1] at e; cases e
      exact .inr ⟨ps, qs, rfl, q1⟩
    · exact .inl (by rw [q3 a ha]; exact e)
  · have ha : a ≠ P := fun z => by rw [z, h3] at e; cases e
    rw [q3 a ha]; exact b a o e
  · by_cases ha : R = P
    · subst ha
      exact ⟨⟨qs, q1, q2⟩, h3⟩
    · obtain ⟨⟨rs, r1, r2⟩, r3⟩ := tb R hR
      exact ⟨⟨rs, by rw [q3 R ha]; exact r1, r2⟩, r3⟩
section
variable {K : PySem.W.Frag} {γ : Gam} {te : TE}
/-- t[::-1] -/
theorem ew_revT {Φ : D → Prop} (h : EW K te γ fun x => ∃ ds, x = .tup ds ∧ Φ (.tup ds.reverse)) : EW K (tRevF K te) γ Φ := fun Hs0 H0 Hs H σ Q S q =>
  h Hs0 H0 Hs H σ _ S fun Hs1 H1 v x g1 r1 ⟨ds, e, p⟩ => by
    subst e
    cases r1 with
    | tup h1 r1 => exact ⟨_, _, rfl, sameT g1.b h1, fun a ob hd ha => q _ _ _ _ (g1.trans (.new g1.b ha)) (.tup ⟨ob, hd, upd_same⟩ (RepL.mono (sameNew (g1.b.free ha)) r1.reverse)) p⟩
/-- tuple(e for target in walked if test) -/
theorem ew_gx {wi : TI} {g : TG} {js : List Nat} {tt : TT} {vs : List Nat} {P : Addr} {Φ : D → Prop} (hP : P ∈ Tabs.T) (hj : ∀ j ∈ js, j ∈ vs)
    (h : IW K wi γ fun ds => ∃ Iv : Nat → List D → Prop, Iv 0 [] ∧ (∀ i d acc, ds[i]? = some d → Iv i acc → acc.length < sizeS ∧ GW K g js d (wipeG γ vs) fun γ2 => TW K tt γ2 fun b => (b = true → EW K te γ2 fun y => Iv (i + 1) (acc ++ [y])) ∧ (b = false → Iv (i + 1) acc)) ∧
      ∀ acc, Iv ds.length acc → Φ (.tup acc)) : EW K (tTupGF (tGx P wi g tt te vs)) γ Φ := fun Hs0 H0 Hs H σ Q S q =>
  h Hs0 H0 Hs H σ _ S fun Hs1 H1 J ds g1 Y ⟨Iv, i0, step, fin⟩ => ⟨(g1.t S.tb P hP).1, fun H2 tb2 => by
    have S1 := S.grow g1
    have g12 : Grow Hs1 H1 Hs1 H2 := .tab S1.tb g1.b hP tb2
    refine ⟨fun i m ys Hx => m = ds.length - i ∧ i ≤ ds.length ∧ ∃ Hs' acc, Grow Hs1 H2 Hs' Hx ∧ RepL K Hs' ys acc ∧ Iv i acc, ⟨ds.length, by simp, Nat.zero_le _, Hs1, [], .refl g12.b, .nil, i0⟩, ?_⟩
    rintro i m ys Hx ⟨rfl, hi, Hs', acc, gx, rw', iv⟩
    by_cases hlt : i < ds.length
    · refine .inr ⟨Y.go i Hs' Hx gx.s gx.b hlt, fun ys' H' => ∃ Hs'' acc', Grow Hs1 H2 Hs'' H' ∧ RepL K Hs'' ys' acc' ∧ Iv (i + 1) acc', fun ys' H' ⟨a, b, c, d⟩ => ⟨ds.length - (i + 1), by omega, rfl, hlt, a, b, c, d⟩, fun x H'' hy => ?_⟩
      have hd : ds[i]? = some ds[i] := by simp [hlt]
      obtain ⟨Hs2, g2, rx⟩ := Y.yld i Hs' Hx ds[i] x H'' gx.s gx.b hd hy
      obtain ⟨sz, st⟩ := step i ds[i] acc hd iv
      have S2 : Sl K Hs0 H0 Hs2 H'' (wipe σ vs) (wipeG γ vs) := (((S1.grow g12).grow gx).grow g2).wipe vs
      refine st Hs0 H0 Hs2 H'' (wipe σ vs) x _ S2 rx fun σ2 γ2 S3 w3 h3 => ⟨by rw [w3 vs hj, wipe_wipe], ?_⟩
      refine h3 Hs0 H0 Hs2 H'' σ2 _ S3 fun Hs3 H3 b g3 ⟨p1, p2⟩ => ?_
      cases b with
      | true =>
        rw [if_pos rfl]
        refine p1 rfl Hs0 H0 Hs3 H3 σ2 _ (S3.grow g3) fun Hs4 H4 y dy g4 r4 p4 => ?_
        exact ⟨by rw [rw'.length]; exact Nat.lt_trans sz (by decide), Hs4, acc ++ [dy], ((gx.trans g2).trans g3).trans g4, (RepL.mono ((g2.trans g3).trans g4).s rw').append (.cons r4 .nil), p4⟩
      | false =>
        rw [if_neg Bool.false_ne_true]
        exact ⟨Hs3, acc, (gx.trans g2).trans g3, RepL.mono (g2.trans g3).s rw', p2 rfl⟩
    · have e : i = ds.length := by omega
      subst e
      refine .inl ⟨Y.stop Hs' Hx gx.s gx.b, fun p ob hd hp => ?_⟩
      exact q _ _ _ _ (((g1.trans g12).trans gx).trans (.new gx.b hp)) (.tup ⟨ob, hd, upd_same⟩ (RepL.mono (sameNew (gx.b.free hp)) rw')) (fin acc iv)⟩
end
section
variable {K : PySem.W.Frag} {γ : Gam} {te : TE} {i : Nat} {Φ : Out}
/-- xs.extend(t) -/
theorem sw_extT {ds : List D} (hg : γ[i]? = some (some (.ow ds))) (h : EW K te γ fun d => ∃ es, d = .tup es ∧ ds.length + es.length ≤ sizeS ∧ Φ.nx (γ.set i (some (.ow (ds ++ es))))) : SW K (tDrop (tBM K "list" (rExtT K) (tVar i) (tCons te tNil))) γ Φ := fun Hs0 H0 Hs H σ E S kn kr _ _ => by
  obtain ⟨a, vs, hv, h1, h2, h3⟩ := own_at S hg
  refine ⟨.ref a, hv, .inl ⟨rfl, _, .of h2⟩, h Hs0 H0 Hs H σ _ S fun Hs' H' v d g r ⟨es, e, l, p⟩ => ?_⟩
  subst e
  cases r with
  | tup hh rr => exact ⟨a, _, vs, _, rfl, rfl, g.e.lst h2, sameT g.b hh, by rw [h3.length, rr.length]; exact sz_ok l, kn Hs' _ σ _ g.s ((S.grow g).put i hg hv (g.n _ _ h2 h1) ((RepL.mono g.s h3).append rr)) p⟩
end
section
variable {P : Program} {w : World} {K : PySem.W.Frag} {mg : Str → Option Value} {base : Heap}
/-- THE RULE for a def whose code object is known -/
theorem df_mkT {x : Str} {params : Arguments} {body : List Stmt} {scope : Scope} {fd : FuncData} {N ps : List Str} {k : Nat} {pre : List D → Prop} {post : List D → D → Prop} (F : FunD K x x params body scope [] [] (He.fAd K (x, none)) fd) (hm : mg x = some (.ref (He.fAd K (x, none)))) (S : FnScope N ps scope)
    (hb : ∀ (kV doc pm : Value) (an : Option Addr) (cdv ct : Value) (us : List Value), us.length = ps.length → bindArgs (PySem.W.fnOf x x params body scope .none kV doc pm an cdv ct) ⟨us, []⟩ = pure (ps.zip us))
    (hbody : ∀ (A : Around) (outer : List Env) (s : Shared) (H : Hp) (E : XK), Room k (A.deeper (PyProof.Rows.envOfC x scope s.heap.objs.size (He.fAd K (x, none)) (.ref (He.codeOf K (x, none))))) → ∀ ds, ds.length = ps.length → pre ds →
      ∃ t, PSs (cxOf CX0 P w K mg base N x scope (He.fAd K (x, none)) (.ref (He.codeOf K (x, none))) A outer s H E).nox body t ∧ SW K t (gam0 N.length ds) { nx := fun _ => post ds .non, rt := post ds }) : Df P w K mg base x (k + 1) ps ps.length pre post := by
  have bN := F.bindsN hb
  have kp := F.kp
  obtain ⟨oc, od, dV, kV, doc, pm, an, cdv, ct, osl, rfl, lk, hcd, _, _⟩ := F.ex
  obtain ⟨c, rfl⟩ := He.codeIn_ref hcd
  have e : He.codeOf K (x, none) = c := He.codeOf_eq lk rfl
  subst e
  refine ⟨_, _, hm, kp, bN, fn_of lk hcd S (fun vs H Q E h => ?_) (fun A outer s H vs Q E hr h => ?_), oc, od, osl, lk⟩
  · obtain ⟨Hs, ds, _, _, r, l, _⟩ := h
    rw [r.length]; exact l
  · obtain ⟨Hs, ds, tb, b, r, l, p, q⟩ := h
    obtain ⟨t, ht, hw⟩ := hbody A outer s H E hr ds l p
    exact ⟨t, ht.nox, hw Hs H Hs H _ _ (sl_start tb b r) (fun Hs' H' σ' γ' e S' p => q Hs' H' _ _ S'.gr .non p) (fun Hs' H' v d g r p => q Hs' H' v d g r p) (fun _ _ _ _ _ _ z => z.elim) (fun _ _ _ _ _ _ z => z.elim)⟩
abbrev TBof (K : PySem.W.Frag) (mg : Str → Option Value) (base : Heap) (x : Str) : Prop := GxR.TabB base mg (He.codeOf K (x, none)) (He.tabOf K (He.codeOf K (x, none)))
abbrev Tof (K : PySem.W.Frag) (x : Str) : Addr := He.tabOf K (He.codeOf K (x, none))
end
end Z

namespace Z
open PySem PySem.Spec L2 StX
variable [Tabs]
/-- a def with a star parameter, by its data: all that it is called with -/
def spS (K : PySem.W.Frag) (pre : List D → Prop) (post : List D → D → Prop) : Sp := fun vs H Q _ => ∃ Hs ds, TbOk Hs H ∧ Same Hs H ∧ RepL K Hs vs ds ∧ pre ds ∧
  ∀ Hs' H' v d, Grow Hs H Hs' H' → Rep K Hs' v d → post ds d → Q v H'
structure DfS (P : Program) (w : World) (K : PySem.W.Frag) (mg : Str → Option Value) (base : Heap) (x : Str) (k : Nat) (pre : List D → Prop) (post : List D → D → Prop) : Prop where
  ex : ∃ f, mg x = some (.ref f) ∧ PySem.W.keepIn K (.ref f) = true ∧ FnR P w K mg base CX0 k f (spS K pre post)
section
variable {P : Program} {w : World} {K : PySem.W.Frag} {mg : Str → Option Value} {base : Heap}
theorem RepL.split {H : Hp} : ∀ {vs : List V} {as bs : List D}, RepL K H vs (as ++ bs) → ∃ us ws, vs = us ++ ws ∧ RepL K H us as ∧ RepL K H ws bs
  | vs, [], bs, r => ⟨[], vs, rfl, .nil, r⟩
  | _, a :: as, bs, r => by
    cases r with
    | cons h r =>
      obtain ⟨us, ws, e, r1, r2⟩ := RepL.split r
      exact ⟨_ :: us, ws, by rw [e]; rfl, .cons h r1, r2⟩
/-- THE RULE for a def with a star parameter -/
theorem df_star {x pv : Str} {params : Arguments} {body : List Stmt} {scope : Scope} {f : Addr} {fd : FuncData} {N ps : List Str} {k : Nat} {pre : List D → Prop} {post : List D → D → Prop} (F : FunD K x x params body scope [] [] f fd) (hm : mg x = some (.ref f)) (S : FnScope N (ps ++ [pv]) scope)
    (hb : ∀ (kV doc pm : Value) (an : Option Addr) (cdv ct : Value) (us rest : List Value), us.length = ps.length → bindArgs (PySem.W.fnOf x x params body scope .none kV doc pm an cdv ct) ⟨us ++ rest, []⟩ = (newTuple rest >>= fun t => pure (ps.zip us ++ [(pv, t)])))
    (hpre : ∀ ds, pre ds → ∃ as rest, ds = as ++ rest ∧ as.length = ps.length ∧ rest.length ≤ sizeS)
    (hbody : ∀ (cdv : Value) (A : Around) (outer : List Env) (s : Shared) (H : Hp) (E : XK), Room k (A.deeper (PyProof.Rows.envOfC x scope s.heap.objs.size f cdv)) → ∀ as rest, as.length = ps.length → pre (as ++ rest) →
      ∃ t, PSs (cxOf CX0 P w K mg base N x scope f cdv A outer s H E).nox body t ∧ SW K t (gam0 N.length (as ++ [.tup rest])) { nx := fun _ => post (as ++ rest) .non, rt := post (as ++ rest) }) : DfS P w K mg base x (k + 1) pre post := by
  have kp := F.kp
  obtain ⟨oc, od, dV, kV, doc, pm, an, cdv, ct, osl, rfl, lk, hcd, hdv, _⟩ := F.ex
  have e0 : dV = .none := by
    first
      | exact hdv
      | (cases hdv; rfl)
      | (unfold DflV at hdv; simpa using hdv)
  subst e0
  refine ⟨f, hm, kp, (fn_starF (ps := ps) (pv := pv) (k := k) (sp := fun vs H Q _ => ∃ Hs as rest, TbOk Hs H ∧ Same Hs H ∧ RepL K Hs vs (as ++ [.tup rest]) ∧ as.length = ps.length ∧ pre (as ++ rest) ∧ ∀ Hs' H' v d, Grow Hs H Hs' H' → Rep K Hs' v d → post (as ++ rest) d → Q v H') lk hcd S (hb _ _ _ _ _ _) (fun A outer s H vs Q E hr h => ?_)).imp fun vs H Q E ⟨Hs, ds, tb, b, r, p, q⟩ => ?_⟩
  · obtain ⟨Hs, as, rest, tb, b, r, l, p, q⟩ := h
    obtain ⟨t, ht, hw⟩ := hbody cdv A outer s H E hr as rest l p
    exact ⟨t, ht.nox, hw Hs H Hs H _ _ (sl_start tb b r) (fun Hs' H' σ' γ' e S' p => q Hs' H' _ _ S'.gr .non p) (fun Hs' H' v d g r p => q Hs' H' v d g r p) (fun _ _ _ _ _ _ z => z.elim) (fun _ _ _ _ _ _ z => z.elim)⟩
  · obtain ⟨as, rest, rfl, l, lr⟩ := hpre ds p
    obtain ⟨us, ws, rfl, r1, r2⟩ := RepL.split r
    refine ⟨us, ws, rfl, by rw [r1.length]; exact l, by rw [r2.length]; exact sz_ok lr, fun a ob hd ha => ?_⟩
    have g : Grow Hs H (upd Hs a (.frz ob (.tup ws))) (upd H a (.frz ob (.tup ws))) := .new b ha
    exact ⟨upd Hs a (.frz ob (.tup ws)), as, rest, g.t tb, g.b, (RepL.mono g.s r1).append (.cons (.tup ⟨ob, hd, upd_same⟩ (RepL.mono g.s r2)) .nil), l, p, fun Hs' H' v d g2 r ps => q Hs' H' v d (g.trans g2) r ps⟩
end
section
variable {X : Cx}
def tCallR (sp : Sp) (t : TA) : TE := fun σ H Q => t σ H fun vs H1 => sp vs H1 Q E0
theorem pe_dfS (K : PySem.W.Frag) (h : X.K = K) {x : Str} {k j : Nat} {pre : List D → Prop} {post : List D → D → Prop} {p pos : Pos} {e : Expr} {es : List Expr} {t : TA} (g : DfS X.prog X.w K X.mg X.base x j pre post) (hr : Room k X.A) (hj : j ≤ k) (hg : Gl X x)
    (ha : PA X (e :: es) t) (hdb : (x == ("__debug__" : Str)) = false := by decide) (he : starEach (e :: es) X.env = (false, eval e X.env) :: starEach es X.env := by rfl) (hpl : (backTo pos (starEach es X.env)).any (·.1) = false := by rfl) :
    PE X (.Call (.Name x p) (e :: es) [] pos) (tCallR (spS K pre post) t) := by
  subst h
  obtain ⟨f, hm, hk, F⟩ := g.ex
  refine ⟨fun pins s σ H Q I hh => wpAny_Call_Name_kw (ld_glob I hg hm ?_ hdb)⟩
  refine PySem.W.callWith_K (h₀ := X.base) I.ok.mod.kin hk (thn (ha.run pos pins s σ H _ I hh) fun us s1 ⟨vs, H1, I1, r, q⟩ => ⟨I1.kIn, ?_⟩) he hpl
  exact wpAny_call (run_fnR (F.mono hj) hr pass0 I1 r q)
/-- f(*t), f(a, *t) -/
theorem pe_dfS1 (K : PySem.W.Frag) (h : X.K = K) {x : Str} {k j : Nat} {pre : List D → Prop} {post : List D → D → Prop} {p pos : Pos} {e : Expr} {es : List Expr} {t : TA} (g : DfS X.prog X.w K X.mg X.base x j pre post) (hr : Room k X.A) (hj : j ≤ k) (hg : Gl X x)
    (ha : PA X (e :: es) t) (hdb : (x == ("__debug__" : Str)) = false := by decide) (he : starEach (e :: es) X.env = (false, eval e X.env) :: starEach es X.env := by rfl) (hst : (backTo pos (starEach es X.env)).any (·.1) = true := by rfl) :
    PE X (.Call (.Name x p) (e :: es) [] pos) (tCallR (spS K pre post) t) := by
  subst h
  obtain ⟨f, hm, hk, F⟩ := g.ex
  exact pe_callS2 (F.mono hj) hr hk hg hm pass0 ha hdb he hst
end
section
variable {K : PySem.W.Frag} {γ : Gam} {Φ : D → Prop}
theorem ew_callS {pre : List D → Prop} {post : List D → D → Prop} {tr : TA} (h : AW K tr γ fun ds => pre ds ∧ ∀ d, post ds d → Φ d) : EW K (tCallR (spS K pre post) tr) γ Φ := fun Hs0 H0 Hs H σ Q S q =>
  h Hs0 H0 Hs H σ _ S fun Hs1 H1 vs ds g1 r1 ⟨p, k⟩ => ⟨Hs1, ds, g1.t S.tb, g1.b, r1, p, fun Hs2 H2 v d g2 r2 ps => q _ _ _ _ (g1.trans g2) r2 (k d ps)⟩
/-- *t among the arguments -/
theorem aw_star {te : TE} {t : TA} {Ψ : List D → Prop} (h : EW K te γ fun d => ∃ ds, (d = .tup ds ∨ d = .lst ds) ∧ AW K t γ fun es => Ψ (ds ++ es)) : AW K (tStar K te t) γ Ψ := fun Hs0 H0 Hs H σ Q S q =>
  h Hs0 H0 Hs H σ _ S fun Hs1 H1 v x g1 r1 ⟨ds, e, p⟩ => by
    rcases e with e | e <;> subst e <;> cases r1
    · rename_i a vs h1 r1
      exact ⟨_, _, rfl, .inl (sameT g1.b h1), p Hs0 H0 Hs1 H1 σ _ (S.grow g1) fun Hs2 H2 ws es g2 r2 p2 => q _ _ _ _ (g1.trans g2) ((RepL.mono g2.s r1).append r2) p2⟩
    · rename_i a vs h1 r1
      exact ⟨_, _, rfl, .inr (.of (g1.b _ _ h1)), p Hs0 H0 Hs1 H1 σ _ (S.grow g1) fun Hs2 H2 ws es g2 r2 p2 => q _ _ _ _ (g1.trans g2) ((RepL.mono g2.s r1).append r2) p2⟩
end
end Z
namespace Z
open PySem PySem.Spec L2 StX
variable [Tabs]
/-- sum of a list of numbers -/
theorem rwl_sum {K : PySem.W.Frag} {Φ : D → Prop} {ns : List Int} (k : Φ (.int ns.sum)) : RWL K (rSum K) [.lst (ns.map .int)] Φ := fun Hs H vs Q b r q => by
  cases r with
  | cons h r =>
    cases r
    cases h with
    | lst h r =>
      have e := r.ints; subst e
      exact ⟨_, ns, rfl, .of (b _ _ h), q _ _ _ _ (.refl b) (.int _) k⟩
/-- t.count(text) of a tuple of texts -/
theorem ew_tcnt {K : PySem.W.Frag} {to : TE} {t : TA} {γ : Gam} {Φ : D → Prop} (h : EW K to γ fun x => ∃ zs : List Str, x = .tup (zs.map .str) ∧ AW K t γ fun ds => ∃ z, ds = [.str z] ∧ Φ (.int (zs.count z : Nat))) : EW K (tTcnt to t) γ Φ := fun Hs0 H0 Hs H σ Q S q =>
  h Hs0 H0 Hs H σ _ S fun Hs1 H1 v x g1 r1 ⟨zs, e, p⟩ => by
    subst e
    cases r1 with
    | tup h1 rr =>
      have ev := RepL.strs rr
      subst ev
      refine ⟨_, zs, rfl, monoT g1.b h1, p Hs0 H0 Hs1 H1 σ _ (S.grow g1) fun Hs2 H2 ws es g2 r2 ⟨z, ez, k⟩ => ?_⟩
      subst ez
      cases r2 with
      | cons rz rn =>
        cases rn
        cases rz
        exact ⟨z, rfl, monoT g2.b (monoT g2.s h1), q _ _ _ _ (g1.trans g2) (.int _) k⟩
end Z

namespace Z
open PySem PySem.Spec L2 StX
variable [Tabs]
section
variable {K : PySem.W.Frag} {γ : Gam} {ta te : TE} {Φ : D → Prop} {Ψ : Gam → Prop}
/-- text * int -/
theorem rw_repS {z : Str} {k : Int} (h1 : -(2 ^ 63) ≤ k) (h2 : k < 2 ^ 63) (l : z.length * k.toNat ≤ sizeS) (q : Φ (.str (repS z k.toNat))) : RW2 K rRepS (.str z) (.int k) Φ := fun Hs H v u Q b r1 r2 p => by
  cases r1; cases r2
  exact ⟨z, k, rfl, rfl, h1, h2, sz_ok l, p _ _ _ _ (.refl b) (.str _) q⟩
/-- text[::-1] -/
theorem ew_revS (h : EW K te γ fun d => ∃ z, d = .str z ∧ z.length ≤ sizeS ∧ Φ (.str (revS z))) : EW K (tRevS te) γ Φ := fun Hs0 H0 Hs H σ Q S q =>
  h Hs0 H0 Hs H σ _ S fun Hs' H' v d g r ⟨z, e, l, p⟩ => by
    subst e; cases r
    exact ⟨z, rfl, sz_ok l, q _ _ _ _ g (.str _) p⟩
/-- min of texts -/
theorem rwl_minS {zs : List Str} (h0 : zs ≠ []) (k : ∀ m, m ∈ zs → (∀ y ∈ zs, ¬ y.cps.toList < m.cps.toList) → Φ (.str m)) : RWL K (rMinS K) [.lst (zs.map .str)] Φ := fun Hs H vs Q b r q => by
  cases r with
  | cons h r =>
    cases r
    cases h with
    | lst h r =>
      have e := r.strs; subst e
      exact ⟨_, zs, rfl, .of (b _ _ h), h0, fun m hm hy => q _ _ _ _ (.refl b) (.str _) (k m hm hy)⟩
/-- enumerate of a list -/
def enumD (ds : List D) : List D := ds.mapIdx fun i d => .tpl [.int (i : Int), d]
theorem enumD_len (ds : List D) : (enumD ds).length = ds.length := by unfold enumD; rw [List.length_mapIdx]
theorem enumD_get {ds : List D} {i : Nat} {d : D} (h : (enumD ds)[i]? = some d) : ∃ x, ds[i]? = some x ∧ d = .tpl [.int (i : Int), x] := by
  unfold enumD at h
  rw [List.getElem?_mapIdx] at h
  obtain ⟨x, h1, h2⟩ := Option.map_eq_some_iff.mp h
  exact ⟨x, h1, h2.symm⟩
theorem iw_enum {t : TA} {Φ : List D → Prop} (h : AW K t γ fun ds => ∃ xs, ds = [.lst xs] ∧ Φ (enumD xs)) : IW K (iEnum K t) γ Φ := fun Hs0 H0 Hs H σ R S q =>
  h Hs0 H0 Hs H σ _ S fun Hs1 H1 vs ds g1 r1 ⟨xs, e, p⟩ => by
    subst e
    cases r1 with
    | cons h1 r2 =>
      cases r2
      cases h1 with
      | lst h1 r1 =>
        rename_i a vs
        refine ⟨a, vs, rfl, .of (g1.b _ _ h1), q Hs1 H1 _ _ g1 ⟨fun i Hs' H' e1 e2 hi => ?_, fun i Hs' H' d x H'' e1 e2 hd hy => ?_, fun Hs' H' e1 e2 => ?_⟩ p⟩
        · have hv : i < vs.length := by rw [r1.length, ← enumD_len]; exact hi
          exact ⟨vs, vs[i], .of (e2 _ _ (e1 _ _ h1)), by simp [hv]⟩
        · obtain ⟨T, y, rfl, hT, rfl, hy⟩ := hy
          have hx := hy vs (.of (e2 _ _ (e1 _ _ h1)))
          obtain ⟨d', hd', rd⟩ := r1.get' hx
          obtain ⟨d2, hd2, rfl⟩ := enumD_get hd
          rw [hd'] at hd2; cases hd2
          have n2 := e2.free hT
          exact ⟨_, .new e2 hT, .tpl upd_same (.cons (.int _) (.cons (rd.mono (e1.trans (sameNew n2))) .nil))⟩
        · exact ⟨vs, .of (e2 _ _ (e1 _ _ h1)), by rw [r1.length, enumD_len]; exact Nat.le_refl _⟩
theorem gw_tpl {gs : TGs} {js : List Nat} {ds : List D} {n : Nat} (hn : ds.length = n) (h : GWs K gs js ds γ Ψ) : GW K (gTup K n gs) js (.tpl ds) γ Ψ := fun Hs0 H0 Hs H σ v R S r q => by
  cases r with
  | tpl h1 r1 => exact ⟨_, _, rfl, .inl (.inl (S.b _ _ h1)), by rw [r1.length]; exact hn, h Hs0 H0 Hs H σ _ R S r1 q⟩
end
section
variable {X : Cx}
theorem cr_minSK (K : PySem.W.Frag) (h : X.K = K) (hc : X.calm = true) : CallR X (.builtin "min") (rMinS K) := by subst h; exact cr_minS hc
theorem pi_enumK (K : PySem.W.Frag) (h : X.K = K) {e : Expr} {ta : TA} {p pos tpos : Pos} {elts : List Expr} {kk : Nat} (hg : Gl X "enumerate") (hm : X.mg "enumerate" = none) (ha : PA X [e] ta) (hs : starEach [e] X.env = [(false, eval e X.env)] := by rfl) :
    PI X (.Tuple elts kk tpos) (.Call (.Name "enumerate" p) [e] [] pos) (iEnum K ta) := by subst h; exact pi_enum hg hm ha hs
end
end Z
namespace Z
open PySem PySem.Spec L2 StX
variable [Tabs]
theorem rw_neB {K : PySem.W.Frag} {Φ : D → Prop} {i j : Bool} (k : Φ (.bl (!decide (i = j)))) : RW2 K rNe (.bl i) (.bl j) Φ := fun Hs H v u Q b r1 r2 q => by
  cases r1; cases r2
  refine ⟨rfl, q _ _ _ _ (.refl b) (.bl _) ?_⟩
  have e : decide (V.bl i = V.bl j) = decide (i = j) := by cases i <;> cases j <;> rfl
  rw [e]; exact k
end Z
namespace Z
open PySem PySem.Spec L2 StX
variable [Tabs]
/-- in two steps -/
theorem sw_seqP {K : PySem.W.Frag} {γ : Gam} {ts tz : TS} {Φ : Out} (P : Gam → Prop) (h : SW K ts γ { Φ with nx := P }) (k : ∀ γ1, P γ1 → SW K tz γ1 Φ) : SW K (tSeq ts tz) γ Φ :=
  sw_seq (h.mono (fun x hx => k x hx) (fun _ h => h) (fun _ h => h) fun _ h => h)
theorem repS_len (z : Str) (n : Nat) : (repS z n).length = z.length * n := by
  unfold repS
  show ((List.replicate n z.cps.toList).flatten).toArray.size = _
  rw [List.size_toArray, List.length_flatten, List.map_replicate, List.sum_replicate_nat, Nat.mul_comm]
  rfl
theorem repS_tl (z : Str) (n : Nat) : TL.tl (repS z n) = (List.replicate n (TL.tl z)).flatten := rfl
end Z
namespace Z
open PySem PySem.Spec L2 StX
variable [Tabs]
theorem sw_ifA2 {K : PySem.W.Frag} {γ : Gam} {t : TT} {ts tz : TS} {Φ : Out} (h : TW K t γ fun _ => True) (h1 : SW K ts γ Φ) (h2 : SW K tz γ Φ) : SW K (tIfS t ts tz) γ Φ := sw_if (h.mono fun _ _ => ⟨fun _ => h1, fun _ => h2⟩)
end Z

/-! errors over data -/
namespace Z
open PySem PySem.Spec L2 StX
variable [Tabs]
/-! ### judgements at a fixed entry: where an error may leave -/
def EX (K : PySem.W.Frag) (Hs0 H0 Hb : Hp) (te : TE) (γ : Gam) (Φ : D → Prop) : Prop := ∀ (Hs H : Hp) (σ : L2.St) (Q : VK), Same Hb Hs → Sl K Hs0 H0 Hs H σ γ →
  (∀ Hs' H' v d, Grow Hs H Hs' H' → Rep K Hs' v d → Φ d → Q v H') → te σ H Q
def AX (K : PySem.W.Frag) (Hs0 H0 Hb : Hp) (ta : TA) (γ : Gam) (Φ : List D → Prop) : Prop := ∀ (Hs H : Hp) (σ : L2.St) (Q : List V → Hp → Prop), Same Hb Hs → Sl K Hs0 H0 Hs H σ γ →
  (∀ Hs' H' vs ds, Grow Hs H Hs' H' → RepL K Hs' vs ds → Φ ds → Q vs H') → ta σ H Q
def SX (K : PySem.W.Frag) (Hs0 H0 Hb : Hp) (ts : TS) (γ : Gam) (Φ : Out) : Prop := ∀ (Hs H : Hp) (σ : L2.St) (E : Ends), Same Hb Hs → Sl K Hs0 H0 Hs H σ γ →
  (∀ Hs' H' σ' γ', Same Hs Hs' → Sl K Hs0 H0 Hs' H' σ' γ' → Φ.nx γ' → E.nx σ' H') →
  (∀ Hs' H' v d, Grow Hs0 H0 Hs' H' → Rep K Hs' v d → Φ.rt d → E.rt v H') →
  (∀ Hs' H' σ' γ', Same Hs Hs' → Sl K Hs0 H0 Hs' H' σ' γ' → Φ.bk γ' → E.bk σ' H') →
  (∀ Hs' H' σ' γ', Same Hs Hs' → Sl K Hs0 H0 Hs' H' σ' γ' → Φ.ct γ' → E.ct σ' H') → ts E σ H
/-- W holds of each error with Ψ -/
def Wok (K : PySem.W.Frag) (Hs0 H0 Hb : Hp) (W : WX) (Ψ : XD → Gam → Prop) : Prop := ∀ (Hs H : Hp) (σ : L2.St) (γ : Gam) (cls : Value) (d : Option Addr) (x : XD), Same Hb Hs → Sl K Hs0 H0 Hs H σ γ → RepX K Hs H cls d x → Ψ x γ → W cls d σ H
section
variable {K : PySem.W.Frag} {Hs0 H0 Hb : Hp} {γ : Gam} {te ta tb : TE} {tr : TA} {t : TT} {ts tz tu : TS} {Φ : D → Prop} {Ω : Out} {W : WX} {Ψ : XD → Gam → Prop} {i : Nat}
theorem ex_of (h : EW K te γ Φ) : EX K Hs0 H0 Hb te γ Φ := fun Hs H σ Q _ => h Hs0 H0 Hs H σ Q
theorem ax_of {Φ : List D → Prop} (h : AW K tr γ Φ) : AX K Hs0 H0 Hb tr γ Φ := fun Hs H σ Q _ => h Hs0 H0 Hs H σ Q
theorem sx_of (h : SW K ts γ Ω) : SX K Hs0 H0 Hb ts γ Ω := fun Hs H σ E _ => h Hs0 H0 Hs H σ E
theorem EX.mono {Ψ : D → Prop} (h : EX K Hs0 H0 Hb te γ Φ) (k : ∀ d, Φ d → Ψ d) : EX K Hs0 H0 Hb te γ Ψ := fun Hs H σ Q hb S q => h Hs H σ Q hb S fun Hs' H' v d g r p => q Hs' H' v d g r (k d p)
theorem AX.mono {Φ Ψ : List D → Prop} (h : AX K Hs0 H0 Hb tr γ Φ) (k : ∀ d, Φ d → Ψ d) : AX K Hs0 H0 Hb tr γ Ψ := fun Hs H σ Q hb S q => h Hs H σ Q hb S fun Hs' H' v d g r p => q Hs' H' v d g r (k d p)
theorem ax_nil {Φ : List D → Prop} (h : Φ []) : AX K Hs0 H0 Hb tNil γ Φ := ax_of (aw_nil h)
theorem ax_cons {Φ : List D → Prop} (h : EX K Hs0 H0 Hb te γ fun d => AX K Hs0 H0 Hb tr γ fun ds => Φ (d :: ds)) : AX K Hs0 H0 Hb (tCons te tr) γ Φ := fun Hs H σ Q hb S q =>
  h Hs H σ _ hb S fun Hs1 H1 v d g1 r1 h1 => h1 Hs1 H1 σ _ (hb.trans g1.s) (S.grow g1) fun Hs2 H2 vs ds g2 r2 p => q _ _ _ _ (g1.trans g2) (.cons (r1.mono g2.s) r2) p
theorem ex_tup (h : AX K Hs0 H0 Hb tr γ fun ds => ds.length ≤ sizeS ∧ Φ (.tup ds)) : EX K Hs0 H0 Hb (tTupF tr) γ Φ := fun Hs H σ Q hb S q =>
  h Hs H σ _ hb S fun Hs1 H1 vs ds g1 r1 ⟨l, p⟩ => ⟨by rw [r1.length]; exact sz_ok l, fun a ob hd ha => q _ _ _ _ (g1.trans (.new g1.b ha)) (.tup ⟨ob, hd, upd_same⟩ (RepL.mono (sameNew (g1.b.free ha)) r1)) p⟩
theorem ex_op {r : R2} (h : EX K Hs0 H0 Hb ta γ fun x => EX K Hs0 H0 Hb tb γ fun y => RW2 K r x y Φ) : EX K Hs0 H0 Hb (tOp r ta tb) γ Φ := fun Hs H σ Q hb S q =>
  h Hs H σ _ hb S fun Hs1 H1 v x g1 r1 h1 => h1 Hs1 H1 σ _ (hb.trans g1.s) (S.grow g1) fun Hs2 H2 u y g2 r2 h2 => h2 Hs2 H2 v u Q g2.b (r1.mono g2.s) r2 fun Hs3 H3 w d g3 r3 p => q _ _ _ _ ((g1.trans g2).trans g3) r3 p
theorem ex_cb {r : List V → Hp → VK → Prop} (h : AX K Hs0 H0 Hb tr γ fun ds => RWL K r ds Φ) : EX K Hs0 H0 Hb (tCB r tr) γ Φ := fun Hs H σ Q hb S q =>
  h Hs H σ _ hb S fun Hs1 H1 vs ds g1 r1 h1 => h1 Hs1 H1 vs Q g1.b r1 fun Hs2 H2 w d g2 r2 p => q _ _ _ _ (g1.trans g2) r2 p
theorem ex_callN {n : Nat} {pre : List D → Prop} {post : List D → D → Prop} {E : XK} (h : AX K Hs0 H0 Hb tr γ fun ds => CallOk n pre post Φ ds) : EX K Hs0 H0 Hb (tCall (spD K n pre post) [] E tr) γ Φ := fun Hs H σ Q hb S q =>
  h Hs H σ _ hb S fun Hs1 H1 vs ds g1 r1 ⟨l, p, k⟩ => ⟨Hs1, ds, g1.t S.tb, g1.b, by rw [List.append_nil]; exact r1, l, p, fun Hs2 H2 v d g2 r2 ps => q _ _ _ _ (g1.trans g2) r2 (k d ps)⟩
/-- a def by its data that may let an error out -/
def spX (K : PySem.W.Frag) (n : Nat) (pre : List D → Prop) (post : List D → D → Prop) (xpost : List D → XD → Prop) : Sp := fun vs H Q E => ∃ Hs ds, TbOk Hs H ∧ Same Hs H ∧ RepL K Hs vs ds ∧ ds.length = n ∧ pre ds ∧
  (∀ Hs' H' v d, Grow Hs H Hs' H' → Rep K Hs' v d → post ds d → Q v H') ∧ ∀ Hs' H' cls d x, Grow Hs H Hs' H' → RepX K Hs' H' cls d x → xpost ds x → E cls d H'
def CallX (n : Nat) (pre : List D → Prop) (post : List D → D → Prop) (xpost : List D → XD → Prop) (Φ : D → Prop) (Θ : XD → Prop) (ds : List D) : Prop := ds.length = n ∧ pre ds ∧ (∀ d, post ds d → Φ d) ∧ ∀ x, xpost ds x → Θ x
theorem call_x {n : Nat} {pre : List D → Prop} {post : List D → D → Prop} {xpost : List D → XD → Prop} {Θ : XD → Prop} {ds : List D} (l : ds.length = n) (h : pre ds) (k : ∀ d, post ds d → Φ d) (kx : ∀ x, xpost ds x → Θ x) : CallX n pre post xpost Φ Θ ds := ⟨l, h, k, kx⟩
theorem ex_call {n : Nat} {pre : List D → Prop} {post : List D → D → Prop} {xpost : List D → XD → Prop} (hW : Wok K Hs0 H0 Hb W Ψ) (h : AX K Hs0 H0 Hb tr γ fun ds => CallX n pre post xpost Φ (fun x => Ψ x γ) ds) : EX K Hs0 H0 Hb (tCallS (spX K n pre post xpost) (WE W) tr) γ Φ := fun Hs H σ Q hb S q =>
  h Hs H σ _ hb S fun Hs1 H1 vs ds g1 r1 ⟨l, p, k, kx⟩ => ⟨Hs1, ds, g1.t S.tb, g1.b, r1, l, p, fun Hs2 H2 v d g2 r2 ps => q _ _ _ _ (g1.trans g2) r2 (k d ps), fun Hs2 H2 cls d x g2 r2 ps => hW Hs2 H2 σ γ cls d x (hb.trans (g1.trans g2).s) (S.grow (g1.trans g2)) r2 (kx x ps)⟩
/-! ### statements -/
theorem SX.mono {Φ Ω : Out} (h : SX K Hs0 H0 Hb ts γ Φ) (k1 : ∀ x, Φ.nx x → Ω.nx x) (k2 : ∀ x, Φ.rt x → Ω.rt x) (k3 : ∀ x, Φ.bk x → Ω.bk x) (k4 : ∀ x, Φ.ct x → Ω.ct x) : SX K Hs0 H0 Hb ts γ Ω := fun Hs H σ E hb S kn kr kb kc =>
  h Hs H σ E hb S (fun a b c d e f g => kn a b c d e f (k1 _ g)) (fun a b c d e f g => kr a b c d e f (k2 _ g)) (fun a b c d e f g => kb a b c d e f (k3 _ g)) (fun a b c d e f g => kc a b c d e f (k4 _ g))
theorem sx_seq (h : SX K Hs0 H0 Hb ts γ { Ω with nx := fun γ1 => SX K Hs0 H0 Hb tz γ1 Ω }) : SX K Hs0 H0 Hb (tSeq ts tz) γ Ω := fun Hs H σ E hb S kn kr kb kc =>
  h Hs H σ _ hb S (fun Hs1 H1 σ1 γ1 e1 S1 h1 => h1 Hs1 H1 σ1 E (hb.trans e1) S1 (fun Hs' H' σ' γ' e => kn Hs' H' σ' γ' (e1.trans e)) kr (fun Hs' H' σ' γ' e => kb Hs' H' σ' γ' (e1.trans e)) fun Hs' H' σ' γ' e => kc Hs' H' σ' γ' (e1.trans e)) kr kb kc
/-- a statement that lets nothing out, then the rest -/
theorem sx_seqW (h : SW K ts γ { Ω with nx := fun γ1 => SX K Hs0 H0 Hb tz γ1 Ω }) : SX K Hs0 H0 Hb (tSeq ts tz) γ Ω := sx_seq (sx_of h)
theorem sx_seqP (P : Gam → Prop) (h : SX K Hs0 H0 Hb ts γ { Ω with nx := P }) (k : ∀ γ1, P γ1 → SX K Hs0 H0 Hb tz γ1 Ω) : SX K Hs0 H0 Hb (tSeq ts tz) γ Ω :=
  sx_seq (h.mono (fun x hx => k x hx) (fun _ h => h) (fun _ h => h) fun _ h => h)
theorem sx_if (h : TW K t γ fun b => (b = true → SX K Hs0 H0 Hb ts γ Ω) ∧ (b = false → SX K Hs0 H0 Hb tz γ Ω)) : SX K Hs0 H0 Hb (tIfS t ts tz) γ Ω := fun Hs H σ E hb S kn kr kb kc =>
  h Hs0 H0 Hs H σ _ S fun Hs1 H1 b g ⟨p1, p2⟩ => by
    cases b with
    | true => exact p1 rfl Hs1 H1 σ E (hb.trans g.s) (S.grow g) (fun Hs' H' σ' γ' e => kn Hs' H' σ' γ' (g.s.trans e)) kr (fun Hs' H' σ' γ' e => kb Hs' H' σ' γ' (g.s.trans e)) fun Hs' H' σ' γ' e => kc Hs' H' σ' γ' (g.s.trans e)
    | false => exact p2 rfl Hs1 H1 σ E (hb.trans g.s) (S.grow g) (fun Hs' H' σ' γ' e => kn Hs' H' σ' γ' (g.s.trans e)) kr (fun Hs' H' σ' γ' e => kb Hs' H' σ' γ' (g.s.trans e)) fun Hs' H' σ' γ' e => kc Hs' H' σ' γ' (g.s.trans e)
theorem sx_next (h : Ω.nx γ) : SX K Hs0 H0 Hb tNext γ Ω := sx_of (sw_next h)
theorem sx_ret (h : EX K Hs0 H0 Hb te γ Ω.rt) : SX K Hs0 H0 Hb (tRet te) γ Ω := fun Hs H σ E hb S kn kr _ _ =>
  h Hs H σ _ hb S fun Hs' H' v d g r p => kr Hs' H' v d (S.gr.trans g) r p
theorem sx_drop (h : EX K Hs0 H0 Hb te γ fun _ => Ω.nx γ) : SX K Hs0 H0 Hb (tDrop te) γ Ω := fun Hs H σ E hb S kn kr _ _ =>
  h Hs H σ _ hb S fun Hs' H' v d g r p => kn Hs' H' σ γ g.s (S.grow g) p
theorem sx_asg (h : EX K Hs0 H0 Hb te γ fun d => Ω.nx (γ.set i (some (.sh d)))) : SX K Hs0 H0 Hb (tAsg te (gName i)) γ Ω := fun Hs H σ E hb S kn kr _ _ =>
  h Hs H σ _ hb S fun Hs' H' v d g r p => kn Hs' H' _ _ g.s ((S.grow g).set i r) p
theorem sx_frz (i : Nat) {ds : List D} (hg : γ[i]? = some (some (.ow ds))) (h : SX K Hs0 H0 Hb ts (γ.set i (some (.sh (.lst ds)))) Ω) : SX K Hs0 H0 Hb ts γ Ω := fun Hs H σ E hb S kn kr kb kc => by
  obtain ⟨Hs1, e1, S1⟩ := S.freeze i hg
  exact h Hs1 H σ E (hb.trans e1) S1 (fun Hs' H' σ' γ' e => kn Hs' H' σ' γ' (e1.trans e)) kr (fun Hs' H' σ' γ' e => kb Hs' H' σ' γ' (e1.trans e)) fun Hs' H' σ' γ' e => kc Hs' H' σ' γ' (e1.trans e)
theorem sx_for {wi : TI} {g : TG} {js : List Nat} (h : IW K wi γ fun ds => ∃ I : Nat → Gam → Prop, I 0 γ ∧
    (∀ i d γ', ds[i]? = some d → I i γ' → GW K g js d γ' fun γ2 => SX K Hs0 H0 Hb tu γ2 { nx := I (i + 1), rt := Ω.rt, bk := Ω.nx, ct := I (i + 1) }) ∧ ∀ γ', I ds.length γ' → Ω.nx γ') : SX K Hs0 H0 Hb (tFor wi g tu) γ Ω := fun Hs H σ E hb S kn kr kb kc =>
  h Hs0 H0 Hs H σ _ S fun Hs1 H1 J ds g1 Y ⟨I, i0, step, fin⟩ => by
    refine ⟨fun i m σ' H' => m = ds.length - i ∧ i ≤ ds.length ∧ ∃ Hs' γ', Same Hs1 Hs' ∧ Sl K Hs0 H0 Hs' H' σ' γ' ∧ I i γ', ⟨ds.length, by simp, Nat.zero_le _, Hs1, γ, .refl _, S.grow g1, i0⟩, ?_⟩
    rintro i m σ' H' ⟨rfl, hi, Hs', γ', e', S', iv⟩
    by_cases hlt : i < ds.length
    · refine .inr ⟨Y.go i Hs' H' e' S'.b hlt, fun σ2 H2 => ∃ Hs2 γ2, Same Hs1 Hs2 ∧ Sl K Hs0 H0 Hs2 H2 σ2 γ2 ∧ I (i + 1) γ2, fun σ2 H2 ⟨a, b, c⟩ => ⟨ds.length - (i + 1), by omega, rfl, hlt, a, b, c⟩, fun x H'' hy => ?_⟩
      have hd : ds[i]? = some ds[i] := by simp [hlt]
      obtain ⟨Hs2, g2, rx⟩ := Y.yld i Hs' H' ds[i] x H'' e' S'.b hd hy
      have e2 := e'.trans g2.s
      refine step i ds[i] γ' hd iv Hs0 H0 Hs2 H'' σ' x _ (S'.grow g2) rx fun σ3 γ3 S3 _ h3 => ?_
      refine h3 Hs2 H'' σ3 _ ((hb.trans g1.s).trans e2) S3 (fun Hs4 H4 σ4 γ4 e4 S4 q => ⟨Hs4, γ4, e2.trans e4, S4, q⟩) kr (fun Hs4 H4 σ4 γ4 e4 S4 q => kn Hs4 H4 σ4 γ4 ((g1.s.trans e2).trans e4) S4 q) (fun Hs4 H4 σ4 γ4 e4 S4 q => ⟨Hs4, γ4, e2.trans e4, S4, q⟩)
    · have e : i = ds.length := by omega
      subst e
      exact .inl ⟨Y.stop Hs' H' e' S'.b, kn Hs' H' σ' γ' (g1.s.trans e') S' (fin γ' iv)⟩
/-! ### raise -/
/-- the __init__ of an error class with these fields -/
def spI (K : PySem.W.Frag) (C : Addr) (fs : List Str) (pre : List D → Prop) : Sp := fun vs H Q _ => ∃ a ws Hs ds, vs = .ref a :: ws ∧ H a = some (exo a C none) ∧ Hs a = none ∧ TbOk Hs H ∧ Same Hs H ∧ RepL K Hs ws ds ∧ ds.length = fs.length ∧ pre ds ∧
  ∀ dx, H dx = none → dx ≠ a → Q .non (upd (upd H dx (exd dx (fs.zip ws).reverse)) a (exo a C (some dx)))
theorem lookup_zip_rev {β : Type} : ∀ {fs : List Str} {ws : List β} {f : Str}, fs.Nodup → ((fs.zip ws).reverse).lookup f = (fs.zip ws).lookup f := by
  intro fs
  induction fs with
  | nil => intro ws f _; rfl
  | cons a fs ih =>
    intro ws f nd
    cases ws with
    | nil => rfl
    | cons b ws =>
      have hn : a ∉ fs := (List.nodup_cons.mp nd).1
      rw [List.zip_cons_cons, List.reverse_cons, List.lookup_append, ih (List.nodup_cons.mp nd).2]
      by_cases h : f = a
      · subst h
        have hn2 : (fs.zip ws).lookup f = none := by
          cases z : (fs.zip ws).lookup f with
          | none => rfl
          | some v => exact absurd (List.of_mem_zip (PySem.mem_of_lookup z)).1 hn
        rw [hn2]; simp [List.lookup]
      · have e : (f == a) = false := by simpa using h
        cases z : (fs.zip ws).lookup f with
        | some v => simp [List.lookup, e, z]
        | none => simp [List.lookup, e, z]
theorem lookup_zip_rep {H : Hp} : ∀ {fs : List Str} {ws : List V} {ds : List D} {f : Str} {d : D}, RepL K H ws ds → (fs.zip ds).lookup f = some d → ∃ u, (fs.zip ws).lookup f = some u ∧ Rep K H u d
  | [], _, _, _, _, _, h => by simp [List.lookup] at h
  | _ :: _, _, _, _, _, .nil, h => by simp [List.lookup] at h
  | a :: fs, _, _, f, d, .cons h r, e => by
    rw [List.zip_cons_cons, List.lookup_cons] at e ⊢
    by_cases q : f = a
    · subst q
      simp at e
      subst e
      exact ⟨_, by simp, h⟩
    · have e' : (f == a) = false := by simpa using q
      rw [e'] at e ⊢
      exact lookup_zip_rep r e
theorem sx_raise {C : Addr} {fs : List Str} {pre : List D → Prop} (nd : fs.Nodup) (hW : Wok K Hs0 H0 Hb W Ψ) (h : AX K Hs0 H0 Hb tr γ fun ds => ds.length ≤ 1000 ∧ ds.length = fs.length ∧ pre ds ∧ Ψ ⟨C, fs.zip ds⟩ γ) :
    SX K Hs0 H0 Hb (fun _ σ H => tMkO C (spI K C fs pre) [] tr σ H fun cls d H' => W cls d σ H') γ Ω := fun Hs H σ E hb S _ _ _ _ =>
  h Hs H σ _ hb S fun Hs1 H1 vs ds g1 r1 ⟨l, hl, hp, hx⟩ => ⟨by rw [r1.length]; exact l, fun a ha => by
    have hn := g1.b.free ha
    refine ⟨a, vs, Hs1, ds, by rw [List.append_nil], upd_same, hn, fun P hP => ?_, fun b o e => by rw [upd_ne (ne_of_none e hn)]; exact g1.b _ _ e, r1, hl, hp, fun dx hdx hne => ?_⟩
    · obtain ⟨⟨ps, q1, q2⟩, q3⟩ := g1.t S.tb P hP
      exact ⟨⟨ps, by rw [upd_ne (ne_of_none q1 ha)]; exact q1, q2⟩, q3⟩
    · have hdx1 : H1 dx = none := by rw [upd_ne hne] at hdx; exact hdx
      refine ⟨rfl, dx, (fs.zip vs).reverse, upd_same, by rw [upd_ne hne, upd_same], hdx1, ?_⟩
      have eH : upd (del (upd (upd (upd H1 a (exo a C none)) dx (exd dx (fs.zip vs).reverse)) a (exo a C (some dx))) a) dx (.xd (fs.zip vs).reverse) = upd H1 dx (.xd (fs.zip vs).reverse) := by
        funext b
        by_cases hb : b = dx
        · subst hb; rw [upd_same, upd_same]
        · rw [upd_ne hb, upd_ne hb]
          by_cases hba : b = a
          · subst hba; rw [del_same, ha]
          · rw [del_ne hba, upd_ne hba, upd_ne hb, upd_ne hba]
      rw [eH]
      have g2 : Grow Hs1 H1 Hs1 (upd H1 dx (.xd (fs.zip vs).reverse)) := .hid g1.b hdx1
      refine hW Hs1 _ σ γ _ _ ⟨C, fs.zip ds⟩ (hb.trans g1.s) (S.grow (g1.trans g2)) ⟨rfl, .inr ⟨dx, _, rfl, upd_same, fun f v z => ?_⟩⟩ hx
      rw [lookup_zip_rev nd]
      exact lookup_zip_rep r1 z⟩
theorem sx_raise0 {C : Addr} (hW : Wok K Hs0 H0 Hb W Ψ) (h : Ψ ⟨C, []⟩ γ) : SX K Hs0 H0 Hb (fun _ σ H => W (.ref C) none σ H) γ Ω := fun Hs H σ E hb S _ _ _ _ =>
  hW Hs H σ γ _ _ ⟨C, []⟩ hb S ⟨rfl, .inl ⟨rfl, rfl⟩⟩ h
/-! ### try -/
theorem wok_mono {Ψ' : XD → Gam → Prop} (h : Wok K Hs0 H0 Hb W Ψ) (k : ∀ x γ, Ψ' x γ → Ψ x γ) : Wok K Hs0 H0 Hb W Ψ' := fun Hs H σ γ cls d x hb S r p => h Hs H σ γ cls d x hb S r (k x γ p)
theorem Sl.exc {Hs H : Hp} {σ : L2.St} {a : Addr} {cls : Value} {d : Option Addr} {x : XD} (S : Sl K Hs0 H0 Hs H σ γ) (i : Nat) (r : RepX K Hs H cls d x) : Sl K Hs0 H0 Hs H (σ.set i (some (.ref a))) (γ.set i (some (.exc a cls d x))) := by
  refine ⟨S.gr, by rw [List.length_set, List.length_set]; exact S.len, fun j s h => ?_, fun j s a h ho h' => ?_, fun j k s t a h1 h2 o1 o2 h3 h4 => ?_, S.tb⟩
  · rcases get_set h with ⟨rfl, e⟩ | ⟨ne, h⟩
    · cases e
      exact ⟨.ref a, by rw [List.getElem?_set_self (by rw [S.len]; exact lt_of_set h)], rfl, r⟩
    · rw [get_set_ne ne]; exact S.ok j s h
  · rcases get_set h with ⟨rfl, e⟩ | ⟨ne, h⟩
    · cases e; cases ho
    · rw [get_set_ne ne] at h'; exact S.fr j s a h ho h'
  · rcases get_set h1 with ⟨rfl, e⟩ | ⟨ne, h1⟩
    · cases e; cases o1
    · rcases get_set h2 with ⟨rfl, e⟩ | ⟨ne', h2⟩
      · cases e; cases o2
      · rw [get_set_ne ne] at h3; rw [get_set_ne ne'] at h4; exact S.ne j k s t a h1 h2 o1 o2 h3 h4
/-- what an error of the body meets: except c as (slot i) -/
def HandAs (K : PySem.W.Frag) (Hs0 H0 Hb : Hp) (c : Value) (i : Nat) (ts : Addr → Value → Option Addr → TS) (Ψ : XD → Gam → Prop) (Ω : Out) (x : XD) (γ : Gam) : Prop := ∃ b, PySem.W.exmOne K (.ref x.C) c = some b ∧
  (b = true → ∀ a d, SX K Hs0 H0 Hb (ts a (.ref x.C) d) (γ.set i (some (.exc a (.ref x.C) d x))) { nx := fun γ' => Ω.nx (γ'.set i none), rt := Ω.rt, bk := fun γ' => Ω.bk (γ'.set i none), ct := fun γ' => Ω.ct (γ'.set i none) }) ∧ (b = false → Ψ x γ)
def tTryAs (K : PySem.W.Frag) (c : Value) (i : Nat) (tb : WX → TS) (ts : Addr → Value → Option Addr → TS) (W : WX) : TS := fun D σ H => tb (wAs K c i ts W D) D σ H
def tTryOnly (K : PySem.W.Frag) (c : Value) (tb : WX → TS) (ts : Addr → Value → Option Addr → TS) (W : WX) : TS := fun D σ H => tb (wOnly K c ts W D) D σ H
theorem sx_tryAs {c : Value} {tb : WX → TS} {ts : Addr → Value → Option Addr → TS} (hW : Wok K Hs0 H0 Hb W Ψ) (h : ∀ W' Hb', Same Hb Hb' → Wok K Hs0 H0 Hb' W' (fun x γ' => HandAs K Hs0 H0 Hb c i ts Ψ Ω x γ') → SX K Hs0 H0 Hb' (tb W') γ Ω) :
    SX K Hs0 H0 Hb (tTryAs K c i tb ts W) γ Ω := fun Hs H σ E hb S kn kr kb kc => by
  refine h (wAs K c i ts W E) Hs hb (fun Hs1 H1 σ1 γ1 cls d x hb1 S1 r1 hh => ?_) Hs H σ E (.refl _) S kn kr kb kc
  obtain ⟨b, h1, h2, h3⟩ := hh
  obtain rfl := r1.1
  refine ⟨b, h1, fun hbt a ha => ?_, fun hbf => hW Hs1 H1 σ1 γ1 _ d x (hb.trans hb1) S1 r1 (h3 hbf)⟩
  refine h2 hbt a d Hs1 H1 _ _ (hb.trans hb1) (S1.exc i r1) (fun Hs2 H2 σ2 γ2 e2 S2 q => kn Hs2 H2 _ _ (hb1.trans e2) (S2.drop i none) q) kr (fun Hs2 H2 σ2 γ2 e2 S2 q => kb Hs2 H2 _ _ (hb1.trans e2) (S2.drop i none) q) (fun Hs2 H2 σ2 γ2 e2 S2 q => kc Hs2 H2 _ _ (hb1.trans e2) (S2.drop i none) q)
/-- except c (no name) -/
def HandOnly (K : PySem.W.Frag) (Hs0 H0 Hb : Hp) (c : Value) (ts : Addr → Value → Option Addr → TS) (Ψ : XD → Gam → Prop) (Ω : Out) (x : XD) (γ : Gam) : Prop := ∃ b, PySem.W.exmOne K (.ref x.C) c = some b ∧
  (b = true → ∀ a d, SX K Hs0 H0 Hb (ts a (.ref x.C) d) γ Ω) ∧ (b = false → Ψ x γ)
theorem sx_tryOnly {c : Value} {tb : WX → TS} {ts : Addr → Value → Option Addr → TS} (hW : Wok K Hs0 H0 Hb W Ψ) (h : ∀ W' Hb', Same Hb Hb' → Wok K Hs0 H0 Hb' W' (fun x γ' => HandOnly K Hs0 H0 Hb c ts Ψ Ω x γ') → SX K Hs0 H0 Hb' (tb W') γ Ω) :
    SX K Hs0 H0 Hb (tTryOnly K c tb ts W) γ Ω := fun Hs H σ E hb S kn kr kb kc => by
  refine h (wOnly K c ts W E) Hs hb (fun Hs1 H1 σ1 γ1 cls d x hb1 S1 r1 hh => ?_) Hs H σ E (.refl _) S kn kr kb kc
  obtain ⟨b, h1, h2, h3⟩ := hh
  obtain rfl := r1.1
  refine ⟨b, h1, fun hbt a ha => ?_, fun hbf => hW Hs1 H1 σ1 γ1 _ d x (hb.trans hb1) S1 r1 (h3 hbf)⟩
  exact h2 hbt a d Hs1 H1 _ _ (hb.trans hb1) S1 (fun Hs2 H2 σ2 γ2 e2 S2 q => kn Hs2 H2 _ _ (hb1.trans e2) S2 q) kr (fun Hs2 H2 σ2 γ2 e2 S2 q => kb Hs2 H2 _ _ (hb1.trans e2) S2 q) (fun Hs2 H2 σ2 γ2 e2 S2 q => kc Hs2 H2 _ _ (hb1.trans e2) S2 q)
/-- isinstance(e, c) of the caught error -/
def tIsE (K : PySem.W.Frag) (a : Addr) (cls : Value) (d : Option Addr) (tr : TA) : TE := fun σ H Q => ∃ C, cls = .ref C ∧ ExcC K C ∧ tCB (rIsEd K C a d) tr σ H Q
theorem ew_isE {a C : Addr} {d : Option Addr} {x : XD} {c : V} {cv : Value} {b : Bool} {j : Nat} (hg : γ[j]? = some (some (.exc a (.ref C) d x))) (T : ExcC K C) (hc : ∀ u, L2.RelV c u → u = cv) (hk : PySem.W.kitOne K (.ref C) cv = some b) (k : Φ (.bl b)) :
    EW K (tIsE K a (.ref C) d (tCons (tVar j) (tCons (tC c) tNil))) γ Φ := fun Hs0 H0 Hs H σ Q S q => by
  obtain ⟨v, hv, rfl, r⟩ := S.ok j _ hg
  refine ⟨C, rfl, T, .ref a, hv, ?_⟩
  refine ⟨c, cv, b, rfl, hc, hk, ?_, q _ _ _ _ (.refl S.b) (.bl b) k⟩
  rcases r.2 with ⟨h, _⟩ | ⟨dd, vfs, h1, h2, _⟩
  · exact .inl h
  · exact .inr ⟨dd, vfs, h1, h2⟩
/-- e.f -/
theorem ew_xf {a C : Addr} {d : Option Addr} {x : XD} {f : Str} {v : D} {j : Nat} (hg : γ[j]? = some (some (.exc a (.ref C) d x))) (hf : x.fs.lookup f = some v) (k : Φ v) : EW K (tXf a (.ref C) d C f (tVar j)) γ Φ := fun Hs0 H0 Hs H σ Q S q => by
  obtain ⟨w, hv, rfl, r⟩ := S.ok j _ hg
  refine ⟨.ref a, hv, rfl, rfl, ?_⟩
  rcases r.2 with ⟨_, h⟩ | ⟨dd, vfs, h1, h2, h3⟩
  · rw [h] at hf; simp [List.lookup] at hf
  · obtain ⟨u, hu, ru⟩ := h3 f v hf
    exact ⟨dd, vfs, u, h1, h2, hu, q _ _ _ _ (.refl S.b) ru k⟩
end
section
variable {X : Cx}
theorem ps_try_asK (K : PySem.W.Frag) (h : X.K = K) {x n : Str} {c : Value} {i : Nat} {body suite : List Stmt} {b₀ : Stmt} {np pos pos' : Pos} {tb : WX → TS} {ts : Addr → Value → Option Addr → TS} {Wout : WX} (hs : X.stack = X.env :: X.outer) (hf : X.env.frame = some X.env.locals) (hN : X.N.Nodup) (hi : X.N[i]? = some n) (hln : X.env.kindOf n = some .local) (hc : Names X x c) (tk : Takes X Wout)
    (hb : ∀ (W : WX) (pn : List (Addr × Obj)) (xe : Value → Shared → Prop), Takes (X.tr pn xe) W → PassesOwn (model X.prog X.w) X.A X.env xe → PSs (X.tr pn xe) body (tb W))
    (hsu : ∀ (a : Addr) (oe : Obj) (cls : Value) (d : Option Addr) (pn : List (Addr × Obj)), Zc cls d oe → (∃ vs, oe.data = .fields vs) → PSs (X.suite a ((a, oe) :: pn)) (b₀ :: suite) (ts a cls d)) :
    PS X (.Try body [.ExceptHandler (some (.Name x np)) (some n) (b₀ :: suite) pos'] [] [] pos) (tTryAs K c i tb ts Wout) := by
  subst h
  exact ps_try_as hs hf hN hi hln hc tk hb hsu
theorem ps_try_onlyK (K : PySem.W.Frag) (h : X.K = K) {x : Str} {c : Value} {body suite : List Stmt} {b₀ : Stmt} {np pos pos' : Pos} {tb : WX → TS} {ts : Addr → Value → Option Addr → TS} {Wout : WX} (hs : X.stack = X.env :: X.outer) (hf : X.env.frame = some X.env.locals) (hc : Names X x c) (tk : Takes X Wout)
    (hb : ∀ (W : WX) (pn : List (Addr × Obj)) (xe : Value → Shared → Prop), Takes (X.tr pn xe) W → PassesOwn (model X.prog X.w) X.A X.env xe → PSs (X.tr pn xe) body (tb W))
    (hsu : ∀ (a : Addr) (oe : Obj) (cls : Value) (d : Option Addr) (pn : List (Addr × Obj)), Zc cls d oe → (∃ vs, oe.data = .fields vs) → PSs (X.suite a ((a, oe) :: pn)) (b₀ :: suite) (ts a cls d)) :
    PS X (.Try body [.ExceptHandler (some (.Name x np)) none (b₀ :: suite) pos'] [] [] pos) (tTryOnly K c tb ts Wout) := by
  subst h
  exact ps_try_only hs hf hc tk hb hsu
theorem pe_isE {a : Addr} {cls : Value} {d : Option Addr} {oe : Obj} {pn : List (Addr × Obj)} (K : PySem.W.Frag) (h : X.K = K) (hz : Zc cls d oe) (hf : ∃ vs, oe.data = .fields vs) {e : Expr} {es : List Expr} {tr : TA} {p pos : Pos} (hg : Gl X "isinstance") (hm : X.mg "isinstance" = none)
    (hb : bootBuiltins "isinstance" = some (.builtin "isinstance")) (ha : PA (X.suite a ((a, oe) :: pn)) (e :: es) tr) (he : starEach (e :: es) X.env = (false, eval e X.env) :: starEach es X.env := by rfl) (hpl : (backTo pos (starEach es X.env)).any (·.1) = false := by rfl) :
    PE (X.suite a ((a, oe) :: pn)) (.Call (.Name "isinstance" p) (e :: es) [] pos) (tIsE K a cls d tr) := by
  subst h
  refine ⟨fun pins s σ H Q I ⟨C, ec, T, hh⟩ => ?_⟩
  subst ec
  exact (pe_callB (X := X.suite a ((a, oe) :: pn)) (call_isEd T hz hf) hg hm hb ha (by decide) (by decide) he hpl).run pins s σ H Q I hh
end
end Z

/-! defs that raise; the __init__ of an error class -/
namespace Z
open PySem PySem.Spec L2 StX NdefX
variable [Tabs]
section
variable {P : Program} {w : World} {K : PySem.W.Frag} {mg : Str → Option Value} {base : Heap}
structure DfX (P : Program) (w : World) (K : PySem.W.Frag) (mg : Str → Option Value) (base : Heap) (x : Str) (k : Nat) (ps : List Str) (n : Nat) (pre : List D → Prop) (post : List D → D → Prop) (xpost : List D → XD → Prop) : Prop where
  ex : ∃ f fd, mg x = some (.ref f) ∧ PySem.W.keepIn K (.ref f) = true ∧ Binds K fd ps [] ∧ FnOk P w K mg base (L2.CX P w) k f fd ps (spX K n pre post xpost)
abbrev WD (E : XK) : WX := fun cls d _ H => E cls d H
theorem df_mkX {x : Str} {params : Arguments} {body : List Stmt} {scope : Scope} {f : Addr} {fd : FuncData} {N ps : List Str} {k : Nat} {pre : List D → Prop} {post : List D → D → Prop} {xpost : List D → XD → Prop} (F : FunD K x x params body scope [] [] f fd) (hm : mg x = some (.ref f)) (S : FnScope N ps scope)
    (hb : ∀ (kV doc pm : Value) (an : Option Addr) (cdv ct : Value) (us : List Value), us.length = ps.length → bindArgs (PySem.W.fnOf x x params body scope .none kV doc pm an cdv ct) ⟨us, []⟩ = pure (ps.zip us))
    (hbody : ∀ (cdv : Value) (A : Around) (outer : List Env) (s : Shared) (H : Hp) (E : XK), Room k (A.deeper (PyProof.Rows.envOfC x scope s.heap.objs.size f cdv)) → ∀ ds, ds.length = ps.length → pre ds →
      ∃ t, PSs (cxOf (L2.CX P w) P w K mg base N x scope f cdv A outer s H E) body t ∧ ∀ Hs0 H0, Wok K Hs0 H0 Hs0 (WD E) (fun x _ => xpost ds x) → SX K Hs0 H0 Hs0 t (gam0 N.length ds) { nx := fun _ => post ds .non, rt := post ds }) : DfX P w K mg base x (k + 1) ps ps.length pre post xpost := by
  refine ⟨f, fd, hm, F.kp, F.bindsN hb, F.ok S (fun vs H Q E h => ?_) (fun cdv A outer s H vs Q E hr h => ?_)⟩
  · obtain ⟨Hs, ds, _, _, r, l, _⟩ := h
    rw [r.length]; exact l
  · obtain ⟨Hs, ds, tb, b, r, l, p, q, qx⟩ := h
    obtain ⟨t, ht, hw⟩ := hbody cdv A outer s H E hr ds l p
    exact ⟨t, ht, hw Hs H (fun Hs' H' σ' γ' cls d x _ S' r' px => qx Hs' H' cls d x S'.gr r' px) Hs H _ _ (.refl _) (sl_start tb b r) (fun Hs' H' σ' γ' e S' p => q Hs' H' _ _ S'.gr .non p) (fun Hs' H' v d g r p => q Hs' H' v d g r p) (fun _ _ _ _ _ _ z => z.elim) (fun _ _ _ _ _ _ z => z.elim)⟩
theorem DfX.imp {x : Str} {k : Nat} {ps : List Str} {n : Nat} {pre pre' : List D → Prop} {post post' : List D → D → Prop} {xp xp' : List D → XD → Prop} (g : DfX P w K mg base x k ps n pre post xp) (h1 : ∀ ds, ds.length = n → pre' ds → pre ds) (h2 : ∀ ds d, pre' ds → post ds d → post' ds d) (h3 : ∀ ds e, pre' ds → xp ds e → xp' ds e) : DfX P w K mg base x k ps n pre' post' xp' := by
  obtain ⟨f, fd, a, b, c, F⟩ := g.ex
  refine ⟨f, fd, a, b, c, F.imp fun vs H Q E ⟨Hs, ds, tb, bb, r, l, p, q, qx⟩ => ⟨Hs, ds, tb, bb, r, l, h1 ds l p, fun Hs' H' v d g r ps => q Hs' H' v d g r (h2 ds d p ps), fun Hs' H' cls d e g r ps => qx Hs' H' cls d e g r (h3 ds e p ps)⟩⟩
end
section
variable {X : Cx}
theorem pe_dfX (K : PySem.W.Frag) (h : X.K = K) {x : Str} {k j : Nat} {ps : List Str} {n : Nat} {pre : List D → Prop} {post : List D → D → Prop} {xpost : List D → XD → Prop} {W : WX} {p pos : Pos} {e : Expr} {es : List Expr} {t : TA} (g : DfX X.prog X.w X.K X.mg X.base x j ps n pre post xpost) (hr : Room k X.A) (hj : j ≤ k) (hg : Gl X x) (tk : Takes X W)
    (ha : PA X (e :: es) t) (hdb : (x == ("__debug__" : Str)) = false := by decide) (he : starEach (e :: es) X.env = (false, eval e X.env) :: starEach es X.env := by rfl) (hpl : (backTo pos (starEach es X.env)).any (·.1) = false := by rfl) :
    PE X (.Call (.Name x p) (e :: es) [] pos) (tCallS (spX K n pre post xpost) (WE W) t) := by
  subst h
  obtain ⟨f, fd, h1, h2, h3, h4⟩ := g.ex
  exact pe_callS h4 (hr.mono hj) hg h1 h2 h3 (fun σ => passAt tk σ) ha hdb he hpl
end
/-! ### messages -/
inductive Parts (σ : L2.St) : List TE → Nat → Prop
  | nil : Parts σ [] 0
  | cons {te : TE} {ts : List TE} {m n : Nat} (h : ∀ (H : Hp) (Q : VK), (∀ y : Str, y.length ≤ m → Q (.str y) H) → te σ H Q) (r : Parts σ ts n) : Parts σ (te :: ts) (m + n)
theorem parts_run {σ : L2.St} {ts : List TE} {n : Nat} (h : Parts σ ts n) : ∀ (acc : Str) (H : Hp) (Q : Str → Hp → Prop), acc.length + n ≤ sizeLine → (∀ out, Q out H) → tJs ts acc σ H Q := by
  induction h with
  | nil => intro acc H Q _ q; exact q _
  | cons h r ih =>
    intro acc H Q l q
    refine h H _ fun y hy => ⟨y, rfl, ?_, ih _ H Q ?_ q⟩
    · rw [TL.len_tl, TL.tl_append, List.length_append, ← TL.len_tl, ← TL.len_tl]; omega
    · rw [TL.len_tl, TL.tl_append, List.length_append, ← TL.len_tl, ← TL.len_tl]; omega
section
variable {σ : L2.St} {i : Nat}
theorem part_c (z : Str) : ∀ (H : Hp) (Q : VK), (∀ y : Str, y.length ≤ z.length → Q (.str y) H) → tC (.str z) σ H Q := fun H Q q => q z (Nat.le_refl _)
theorem part_i {k : Int} (h : σ[i]? = some (some (.int k))) (l : k.natAbs < 2 ^ 64) : ∀ (H : Hp) (Q : VK), (∀ y : Str, y.length ≤ 21 → Q (.str y) H) → tFmt (tVar i) σ H Q := fun H Q q => by
  refine ⟨.int k, h, .inr ⟨k, rfl, ?_, q _ ?_⟩⟩
  · by_cases h0 : k.natAbs = 0
    · rw [h0]; decide
    · exact Nat.lt_trans ((Nat.log2_lt h0).mpr l) (by decide)
  · have e := int_text_length_le10 (a := k) (k := 20) (by decide) (Nat.lt_trans l (by decide))
    show (Str.ofString (toString k)).length ≤ 21
    rw [ofString_length]; exact e
theorem part_s {z : Str} {m : Nat} (h : σ[i]? = some (some (.str z))) (l : z.length ≤ m) (lm : m ≤ sizeLine) : ∀ (H : Hp) (Q : VK), (∀ y : Str, y.length ≤ m → Q (.str y) H) → tFmt (tVar i) σ H Q := fun H Q q =>
  ⟨.str z, h, .inl ⟨z, rfl, Nat.le_trans l lm, q z l⟩⟩
theorem part_r {z : Str} {m : Nat} (h : σ[i]? = some (some (.str z))) (hx : ∀ c ∈ z.cps.toList, c < 16 ^ 8) (l : 10 * z.length + 2 ≤ m) (lm : m ≤ sizeLine) : ∀ (H : Hp) (Q : VK), (∀ y : Str, y.length ≤ m → Q (.str y) H) → tFmtR (tVar i) σ H Q := fun H Q q => by
  have e := PySem.StrLaws.reprText_len z hx
  exact ⟨.str z, h, .inl ⟨z, rfl, by omega, q _ (by omega)⟩⟩
theorem msg_run {ts : List TE} {n : Nat} (h : Parts σ ts n) (l : n ≤ sizeLine) (H : Hp) (Q : VK) (q : ∀ v, Q v H) : tJoined ts σ H Q := parts_run h Str.empty H _ (by rw [show Str.empty.length = 0 from rfl]; omega) fun out => q _
end
/-! ### stores -/
section
variable {K : PySem.W.Frag} {C a : Addr} {H : Hp} {σ : L2.St} {D : Ends}
theorem ost_1 {f : Str} {y : V} (T : OexC K C) (ha : H a = some (exo a C none)) (h0 : σ[0]? = some (some (.ref a))) (h1 : σ[1]? = some (some y)) (hf : PySem.W.findIn K (.ref C) f = some none)
    (q : ∀ dx, H dx = none → dx ≠ a → D.nx σ (upd (upd H dx (exd dx [(f, y)])) a (exo a C (some dx)))) : tOst K f (tVar 0) (tVar 1) D σ H :=
  ⟨y, h1, .ref a, h0, a, C, rfl, T, hf, .inl ⟨ha, q⟩⟩
theorem ost_2 {f g : Str} {y z : V} (T : OexC K C) (ha : H a = some (exo a C none)) (h0 : σ[0]? = some (some (.ref a))) (h1 : σ[1]? = some (some y)) (h2 : σ[2]? = some (some z)) (hf : PySem.W.findIn K (.ref C) f = some none) (hg : PySem.W.findIn K (.ref C) g = some none)
    (q : ∀ dx, H dx = none → dx ≠ a → D.nx σ (upd (upd H dx (exd dx [(g, z), (f, y)])) a (exo a C (some dx)))) : tSeq (tOst K f (tVar 0) (tVar 1)) (tOst K g (tVar 0) (tVar 2)) D σ H := by
  refine ost_1 T ha h0 h1 hf fun dx hd hne => ?_
  refine ⟨z, h2, .ref a, h0, a, C, rfl, T, hg, .inr ⟨dx, [(f, y)], upd_same, by rw [upd_ne hne, upd_same], by rw [List.length_singleton]; decide, ?_⟩⟩
  have e : upd (upd (upd H dx (exd dx [(f, y)])) a (exo a C (some dx))) dx (exd dx [(g, z), (f, y)]) = upd (upd H dx (exd dx [(g, z), (f, y)])) a (exo a C (some dx)) := by
    funext b
    by_cases hb : b = dx
    · subst hb; rw [upd_same, upd_ne hne, upd_same]
    · rw [upd_ne hb]
      by_cases hba : b = a
      · subst hba; rw [upd_same, upd_same]
      · rw [upd_ne hba, upd_ne hba, upd_ne hb, upd_ne hb]
  rw [e]
  exact q dx hd hne
end
/-- an error class that can be raised: its __init__ keeps spI -/
structure RzC (P : Program) (w : World) (K : PySem.W.Frag) (mg : Str → Option Value) (base : Heap) (x : Str) (k : Nat) (fs : List Str) (pre : List D → Prop) : Prop where
  ex : ∃ (f : Addr) (fd : FuncData), mg x = some (.ref (He.ga K x)) ∧ OexC K (He.ga K x) ∧ PySem.W.findIn K (.ref (He.ga K x)) "__init__" = some (some (.ref f)) ∧ PySem.W.typeIn K (.ref f) = some (.type "function") ∧ ExcC K (He.ga K x) ∧ (∀ g ∈ fs, PySem.W.findIn K (.ref (He.ga K x)) g = some none) ∧
    ∃ ps : List Str, Binds K fd ps [] ∧ FnOk P w K mg base CX0 k f fd ps (spI K (He.ga K x) fs pre)
section
variable {X : Cx}
theorem ps_rz (K : PySem.W.Frag) (h : X.K = K) {x : Str} {k j : Nat} {fs : List Str} {pre : List D → Prop} {W : WX} {p pos p2 : Pos} {e : Expr} {es : List Expr} {ta : TA} (g : RzC X.prog X.w X.K X.mg X.base x j fs pre) (hc : X.calm = true) (tk : Takes X W) (hr : Room k X.A) (hj : j + 1 ≤ k) (hg : Gl X x) (ha : PA X (e :: es) ta)
    (hdb : (x == ("__debug__" : Str)) = false := by decide) (he : starEach (e :: es) X.env = (false, eval e X.env) :: starEach es X.env := by rfl) (hpl : (backTo pos (starEach es X.env)).any (·.1) = false := by rfl) :
    PS X (.Raise (some (.Call (.Name x p) (e :: es) [] pos)) none p2) (fun _ σ H => tMkO (He.ga K x) (spI K (He.ga K x) fs pre) [] ta σ H fun cls d H' => W cls d σ H') := by
  subst h
  obtain ⟨f, fd, h1, h2, h3, h4, _, _, ps, h5, h6⟩ := g.ex
  exact ps_raise hc tk (pmk_oex h2 h3 h4 h6 (hr.mono hj) h5 .nil pass0 hg h1 ha hdb he hpl)
end
theorem xfC_of {K : PySem.W.Frag} {C : Addr} (T : ExcC K C) : XfC K C := ⟨T.hg, T.hk, T.hs, T.hd⟩
theorem sw_ofX {K : PySem.W.Frag} {ts : TS} {γ : Gam} {Φ : Out} (h : ∀ Hs0 H0, SX K Hs0 H0 Hs0 ts γ Φ) : SW K ts γ Φ := fun Hs0 H0 Hs H σ E S => h Hs0 H0 Hs H σ E S.gr.s S
theorem wok_no {K : PySem.W.Frag} {Hs0 H0 Hb : Hp} {W : WX} : Wok K Hs0 H0 Hb W (fun _ _ => False) := fun _ _ _ _ _ _ _ _ _ _ z => z.elim
end Z
namespace StX
open PySem
def clsBody (s : Stmt) : List Stmt := match s with
  | .ClassDef _ _ _ b _ _ _ _ _ _ _ => b
  | _ => []
end StX
namespace Z
open PySem PySem.Spec L2 StX NdefX
variable [Tabs]
section
variable {P : Program} {w : World} {K : PySem.W.Frag} {mg : Str → Option Value} {base : Heap} {x : Str} {k : Nat} {fs : List Str} {pre : List D → Prop}
theorem RzC.exc (r : RzC P w K mg base x k fs pre) : ExcC K (He.ga K x) := let ⟨_, _, _, _, _, _, h, _⟩ := r.ex; h
theorem RzC.no (r : RzC P w K mg base x k fs pre) (f : Str) (hf : f ∈ fs) : PySem.W.findIn K (.ref (He.ga K x)) f = some none := let ⟨_, _, _, _, _, _, _, h, _⟩ := r.ex; h f hf
end
end Z

/-! == of data -/
namespace Z
open PySem PySem.Spec L2 StX
variable [Tabs]
mutual
def pyD : D → PyData
  | .bl b => .bool b
  | .int i => .int i
  | .str x => .str x
  | .lst ds => .list (pyL ds)
  | .tup ds => .tuple (pyL ds)
  | _ => .none
def pyL : List D → List PyData
  | [] => []
  | d :: ds => pyD d :: pyL ds
end
def eqOk : Nat → D → Prop
  | _, .non => True
  | _, .bl _ => True
  | _, .int _ => True
  | _, .str x => PyData.strOk x = true
  | n + 1, .lst ds => ∀ d ∈ ds, eqOk n d
  | n + 1, .tup ds => ∀ d ∈ ds, eqOk n d
  | _, _ => False
theorem eqNo {d : D} {n : Nat} (h : ∀ n, eqOk n d → False) (e : eqOk n d) : False := h n e
def EqD (x y : D) : Bool := PyData.eqv (pyD x) (pyD y)
mutual
theorem dp_of {K : PySem.W.Frag} {Hs H : Hp} (b : Same Hs H) : ∀ {n : Nat} {v : V} {d : D}, Rep K Hs v d → eqOk n d → Dp K H v (pyD d)
  | _, _, _, .non, _ => .non
  | _, _, _, .bl b, _ => .bl b
  | _, _, _, .int i, _ => .int i
  | _, _, _, .str x, _ => .str x
  | n + 1, _, _, .lst h r, e => .lst (.of (b _ _ h)) (dpL_of b r e)
  | n + 1, _, _, .tup h r, e => .tup (sameT b h) (dpL_of b r e)
  | 0, _, _, .lst h r, e => e.elim
  | 0, _, _, .tup h r, e => e.elim
  | _, _, _, .ty _, e => (eqNo (by intro n; cases n <;> exact id) e).elim
  | _, _, _, .scr _, e => (eqNo (by intro n; cases n <;> exact id) e).elim
  | _, _, _, .tpl _ _, e => (eqNo (by intro n; cases n <;> exact id) e).elim
  | _, _, _, .obj _ _ _, e => (eqNo (by intro n; cases n <;> exact id) e).elim
  | _, _, _, .hnd _, e => (eqNo (by intro n; cases n <;> exact id) e).elim
  | _, _, _, .dct _ _, e => (eqNo (by intro n; cases n <;> exact id) e).elim
theorem dpL_of {K : PySem.W.Frag} {Hs H : Hp} (b : Same Hs H) : ∀ {n : Nat} {vs : List V} {ds : List D}, RepL K Hs vs ds → (∀ d ∈ ds, eqOk n d) → DpAll K H vs (pyL ds)
  | _, _, _, .nil, _ => .nil
  | _, _, _, .cons h r, e => .cons (dp_of b h (e _ List.mem_cons_self)) (dpL_of b r fun d hd => e d (List.mem_cons_of_mem _ hd))
end
mutual
theorem lay_of : ∀ (d : D) (n : Nat), eqOk n d → (pyD d).canLay0 = true ∧ (pyD d).depth ≤ n
  | .non, n, _ => ⟨by simp [pyD, PyData.canLay0], by simp [pyD, PyData.depth]⟩
  | .bl b, n, _ => ⟨by simp [pyD, PyData.canLay0], by simp [pyD, PyData.depth]⟩
  | .int i, n, _ => ⟨by simp [pyD, PyData.canLay0], by simp [pyD, PyData.depth]⟩
  | .str x, n, h => by
    have h : PyData.strOk x = true := by cases n <;> exact h
    exact ⟨by simp only [pyD, PyData.canLay0]; exact h, by simp [pyD, PyData.depth]⟩
  | .lst ds, 0, h => h.elim
  | .tup ds, 0, h => h.elim
  | .lst ds, n + 1, h => by
    obtain ⟨a, b⟩ := layL_of ds n h
    exact ⟨by simp only [pyD, PyData.canLay0]; exact a, by simp only [pyD, PyData.depth]; omega⟩
  | .tup ds, n + 1, h => by
    obtain ⟨a, b⟩ := layL_of ds n h
    exact ⟨by simp only [pyD, PyData.canLay0]; exact a, by simp only [pyD, PyData.depth]; omega⟩
  | .scr _, n, h => by cases n <;> exact h.elim
  | .ty _, n, h => by cases n <;> exact h.elim
  | .tpl _, n, h => by cases n <;> exact h.elim
  | .obj _ _ _, n, h => by cases n <;> exact h.elim
  | .hnd _, n, h => by cases n <;> exact h.elim
  | .dct _, n, h => by cases n <;> exact h.elim
theorem layL_of : ∀ (ds : List D) (n : Nat), (∀ d ∈ ds, eqOk n d) → PyData.canLayAll0 (pyL ds) = true ∧ PyData.depthAll (pyL ds) ≤ n
  | [], n, _ => ⟨by simp [pyL, PyData.canLayAll0], by simp [pyL, PyData.depthAll]⟩
  | d :: ds, n, h => by
    obtain ⟨a, b⟩ := lay_of d n (h d List.mem_cons_self)
    obtain ⟨a2, b2⟩ := layL_of ds n fun x hx => h x (List.mem_cons_of_mem _ hx)
    exact ⟨by simp only [pyL, PyData.canLayAll0, a, a2]; rfl, by simp only [pyL, PyData.depthAll]; omega⟩
end
theorem shaped_of {n : Nat} {d : D} (hn : n ≤ 64) (h : eqOk n d) : SeqAt.shaped (pyD d) = true := by
  obtain ⟨a, b⟩ := lay_of d n h
  unfold SeqAt.shaped
  rw [a, decide_eq_true (by omega)]; rfl
theorem EqD_refl {n : Nat} {d : D} (h : eqOk n d) : EqD d d = true := by
  unfold EqD
  exact PySem.SeqAt.eqv_refl _ (lay_of d n h).1
section
variable {K : PySem.W.Frag} {Φ : D → Prop} {x y : D} {n m : Nat}
theorem rw_eqDD (hx : eqOk n x) (hy : eqOk m y) (k : Φ (.bl (EqD x y))) (hn : n ≤ 64 := by decide) (hm : m ≤ 64 := by decide) : RW2 K (rEqD K) x y Φ := fun Hs H v u Q b r1 r2 q =>
  ⟨_, _, dp_of b r1 hx, dp_of b r2 hy, shaped_of hn hx, shaped_of hm hy, q _ _ _ _ (.refl b) (.bl _) k⟩
theorem rw_neDD (hx : eqOk n x) (hy : eqOk m y) (k : Φ (.bl (!EqD x y))) (hn : n ≤ 64 := by decide) (hm : m ≤ 64 := by decide) : RW2 K (rNeD K) x y Φ := fun Hs H v u Q b r1 r2 q =>
  ⟨_, _, dp_of b r1 hx, dp_of b r2 hy, shaped_of hn hx, shaped_of hm hy, q _ _ _ _ (.refl b) (.bl _) k⟩
end
theorem eqL_strs : ∀ (xs ys : List Str), PyData.eqvAll (pyL (xs.map D.str)) (pyL (ys.map D.str)) = decide (xs = ys)
  | [], [] => by simp [pyL, PyData.eqvAll]
  | [], y :: ys => by simp [pyL, PyData.eqvAll]
  | x :: xs, [] => by simp [pyL, PyData.eqvAll]
  | x :: xs, y :: ys => by
    have ih := eqL_strs xs ys
    simp only [List.map_cons, pyL, PyData.eqvAll, ih, pyD, PyData.eqv]
    by_cases h : x = y
    · subst h; simp
    · simp [h]
theorem eqL_ints : ∀ (xs ys : List Int), PyData.eqvAll (pyL (xs.map D.int)) (pyL (ys.map D.int)) = decide (xs = ys)
  | [], [] => by simp [pyL, PyData.eqvAll]
  | [], y :: ys => by simp [pyL, PyData.eqvAll]
  | x :: xs, [] => by simp [pyL, PyData.eqvAll]
  | x :: xs, y :: ys => by
    have ih := eqL_ints xs ys
    simp only [List.map_cons, pyL, PyData.eqvAll, ih, pyD, PyData.eqv]
    by_cases h : x = y
    · subst h; simp
    · simp [h]
theorem eqOk_strs {n : Nat} {xs : List Str} (h : ∀ x ∈ xs, PyData.strOk x = true) : ∀ d ∈ xs.map D.str, eqOk n d := fun d hd => by
  obtain ⟨x, hx, rfl⟩ := List.mem_map.mp hd
  cases n <;> exact h x hx
theorem eqOk_ints {n : Nat} {xs : List Int} : ∀ d ∈ xs.map D.int, eqOk n d := fun d hd => by
  obtain ⟨x, hx, rfl⟩ := List.mem_map.mp hd
  cases n <;> trivial
section
variable {X : Cx}
theorem op_eqDK (K : PySem.W.Frag) (h : X.K = K) (hu : X.A.units + 64 < cLine) : OpR X (compareOp .Eq) (rEqD K) := h ▸ op_eqD hu
theorem op_neDK (K : PySem.W.Frag) (h : X.K = K) (hu : X.A.units + 64 < cLine) : OpR X (compareOp .NotEq) (rNeD K) := h ▸ op_neD hu
end
end Z
namespace Z
open PySem PySem.Spec L2 StX
variable [Tabs]
theorem pt_truthK {X : Cx} (K : PySem.W.Frag) (h : X.K = K) {a : Expr} {ta : TE} (ha : PE X a ta) (he : ∀ whole, isTrue a X.env whole = (do let v ← whole; standAt a.pos; holding [v] (truthy v))) : PT X a (tTru K ta) := by subst h; exact pt_truth ha he
section
variable {K : PySem.W.Frag} {γ : Gam} {te : TE} {Φ : Bool → Prop}
theorem emp_of {H : Hp} {vs : List V} {ds : List D} (r : RepL K H vs ds) : vs.isEmpty = ds.isEmpty := by cases r <;> rfl
theorem tw_truS (h : EW K te γ fun d => ∃ ds, (d = .tup ds ∨ d = .lst ds) ∧ Φ (!ds.isEmpty)) : TW K (tTru K te) γ Φ := fun Hs0 H0 Hs H σ Q S q =>
  h Hs0 H0 Hs H σ _ S fun Hs' H' v d g r ⟨ds, e, p⟩ => by
    rcases e with rfl | rfl
    · cases r with
      | tup h r =>
        rename_i a vs
        have e := emp_of r
        exact ⟨_, .inr (.inl ⟨_, sameT g.b h, rfl⟩), q _ _ _ g (e ▸ p)⟩
    · cases r with
      | lst h r =>
        rename_i a vs
        have e := emp_of r
        exact ⟨_, .inl ⟨_, .of (g.b _ _ h), rfl⟩, q _ _ _ g (e ▸ p)⟩
end
end Z

/-! objects of own classes, as data: their fields, their methods -/
namespace Z
open PySem PySem.Spec L2 StX
variable [Tabs]
section
variable {K : PySem.W.Frag} {γ : Gam} {te ta : TE} {tr : TA} {Φ : D → Prop} {i : Nat}
theorem zip_at {H : Hp} {f : Str} {y : D} : ∀ {ns : List Str} {vs : List V} {ds : List D}, RepL K H vs ds → (ns.zip ds).lookup f = some y → ∃ v, (ns.zip vs).lookup f = some v ∧ Rep K H v y
  | [], _, _, _, h => by cases h
  | n :: ns, _, _, .nil, h => by cases h
  | n :: ns, v :: vs, d :: ds, .cons a r, h => by
    rw [List.zip_cons_cons, List.lookup_cons] at h ⊢
    cases e : f == n with
    | true => rw [e] at h; cases h; exact ⟨v, rfl, a⟩
    | false => rw [e] at h; exact zip_at r h
theorem zip_no {f : Str} : ∀ {ns : List Str} {vs : List V}, f ∉ ns → (ns.zip vs).lookup f = none
  | [], _, _ => rfl
  | n :: ns, [], _ => rfl
  | n :: ns, v :: vs, h => by
    rw [List.zip_cons_cons, List.lookup_cons]
    have : (f == n) = false := by
      rw [← Bool.not_eq_true]
      intro e
      exact h (by rw [eq_of_beq e]; exact List.mem_cons_self)
    rw [this]
    exact zip_no fun z => h (List.mem_cons_of_mem _ z)
/-- o.f -/
theorem ew_fld {f : Str} (h : EW K ta γ fun d => ∃ c ns ds y, d = .obj c ns ds ∧ Cls K (He.ga K c) ∧ NoAttr K (He.ga K c) f ∧ (ns.zip ds).lookup f = some y ∧ Φ y) : EW K (tFld K ta f) γ Φ := fun Hs0 H0 Hs H σ Q S q =>
  h Hs0 H0 Hs H σ _ S fun Hs1 H1 v x g1 r1 ⟨cn, ns, ds, y, e, c, na, l, p⟩ => by
    subst e
    cases r1 with
    | obj h1 _ r =>
      obtain ⟨u, l2, r2⟩ := zip_at r l
      exact ⟨_, _, _, _, u, rfl, g1.b _ _ h1, c, na, l2, q _ _ _ _ g1 r2 p⟩
theorem pe_fldK {X : Cx} {e : Expr} {f : Str} {pos : Pos} {ta : TE} (K : PySem.W.Frag) (hK : X.K = K) (h : PE X e ta) (hb : attributeBase e f X.env (eval e X.env) = eval e X.env) : PE X (.Attribute e f pos) (tFld K ta f) := by
  subst hK; exact pe_fld h hb
/-- a method by its data; the first of ds is the object -/
structure MtD (P : Program) (w : World) (K : PySem.W.Frag) (mg : Str → Option Value) (base : Heap) (C : Str) (m : Str) (k : Nat) (ps : List Str) (n : Nat) (pre : List D → Prop) (post : List D → D → Prop) : Prop where
  ex : ∃ f fd, Meth K (He.ga K C) m f ∧ Binds K fd ps [] ∧ FnOk P w K mg base CX0 k f fd ps (spD K n pre post)
theorem pe_mD {X : Cx} {C : Str} {m : Str} {k j : Nat} {ps : List Str} {n : Nat} {pre : List D → Prop} {post : List D → D → Prop} {pos apos : Pos} {o e : Expr} {es : List Expr} {ta : TE} {t : TA} {pl : Sem Bool} (K : PySem.W.Frag) (hK : X.K = K) (ho : PE X o ta) (c : Cls K (He.ga K C)) (g : MtD X.prog X.w K X.mg X.base C m j ps n pre post) (hr : Room k X.A) (hj : j ≤ k)
    (ha : PA X (e :: es) t) (he : starEach (e :: es) X.env = (false, eval e X.env) :: starEach es X.env := by rfl) (hpl : (backTo pos (starEach es X.env)).any (·.1) = false := by rfl)
    (hev : eval (.Call (.Attribute o m apos) (e :: es) [] pos) X.env = (do
      let ov ← eval o X.env
      standAt apos.atName
      let (f, first) ← holding [ov] (getMethod ov m pl)
      callWith pos f first (backTo pos (starEach (e :: es) X.env)) (backToKw pos (keywordEach [] X.env))) := by rfl) :
    PE X (.Call (.Attribute o m apos) (e :: es) [] pos) (tMeth (He.ga K C) m (spD K n pre post) [] E0 ta t) := by
  subst hK
  obtain ⟨f, fd, h1, h2, h3⟩ := g.ex
  exact pe_meth (pl := pl) ho c h1 h3 (hr.mono hj) h2 .nil pass0 ha he hpl hev
theorem pe_mD0 {X : Cx} {C : Str} {m : Str} {k j : Nat} {ps : List Str} {n : Nat} {pre : List D → Prop} {post : List D → D → Prop} {pos apos : Pos} {o : Expr} {ta : TE} {pl : Sem Bool} (K : PySem.W.Frag) (hK : X.K = K) (ho : PE X o ta) (c : Cls K (He.ga K C)) (g : MtD X.prog X.w K X.mg X.base C m j ps n pre post) (hr : Room k X.A) (hj : j ≤ k)
    (hev : eval (.Call (.Attribute o m apos) [] [] pos) X.env = (do
      let ov ← eval o X.env
      standAt apos.atName
      let (f, first) ← holding [ov] (getMethod ov m pl)
      callWith pos f first (backTo pos (starEach [] X.env)) (backToKw pos (keywordEach [] X.env))) := by rfl) :
    PE X (.Call (.Attribute o m apos) [] [] pos) (tMeth (He.ga K C) m (spD K n pre post) [] E0 ta tNil) := by
  subst hK
  obtain ⟨f, fd, h1, h2, h3⟩ := g.ex
  exact pe_meth0 (pl := pl) ho c h1 h3 (hr.mono hj) h2 .nil pass0 hev
/-- o.m(..) -/
theorem ew_mD {C : Str} {m : Str} {n : Nat} {pre : List D → Prop} {post : List D → D → Prop} {E : XK} (h : EW K ta γ fun d => ∃ ns fs, d = .obj C ns fs ∧ m ∉ ns ∧ AW K tr γ fun ds => CallOk n pre post Φ (.obj C ns fs :: ds)) : EW K (tMeth (He.ga K C) m (spD K n pre post) [] E ta tr) γ Φ := fun Hs0 H0 Hs H σ Q S q =>
  h Hs0 H0 Hs H σ _ S fun Hs1 H1 v x g1 r1 ⟨ns, fs, e, hm, p⟩ => by
    subst e
    have r := r1
    cases r1 with
    | obj h1 l rr =>
      exact ⟨_, _, _, rfl, g1.b _ _ h1, zip_no hm, p Hs0 H0 Hs1 H1 σ _ (S.grow g1) fun Hs2 H2 vs ds g2 r2 ⟨l2, pp, k⟩ =>
        ⟨Hs2, _, g2.t (g1.t S.tb), g2.b, by rw [List.append_nil]; exact .cons (r.mono g2.s) r2, l2, pp, fun Hs3 H3 u d g3 r3 ps => q _ _ _ _ ((g1.trans g2).trans g3) r3 (k d ps)⟩⟩
/-- THE RULE for a method -/
theorem mt_mk {P : Program} {w : World} {mg : Str → Option Value} {base : Heap} {C : Str} {m qual : Str} {params : Arguments} {body : List Stmt} {scope : Scope} {f : Addr} {fd : FuncData} {N ps : List Str} {k : Nat} {pre : List D → Prop} {post : List D → D → Prop} (F : FunD K m qual params body scope [] [] f fd) (hm : Meth K (He.ga K C) m f) (S : FnScope N ps scope)
    (hb : ∀ (kV doc pm : Value) (an : Option Addr) (cdv ct : Value) (us : List Value), us.length = ps.length → bindArgs (PySem.W.fnOf m qual params body scope .none kV doc pm an cdv ct) ⟨us, []⟩ = pure (ps.zip us))
    (hbody : ∀ (cdv : Value) (A : Around) (outer : List Env) (s : Shared) (H : Hp) (E : XK), Room k (A.deeper (PyProof.Rows.envOfC qual scope s.heap.objs.size f cdv)) → ∀ ds, ds.length = ps.length → pre ds →
      ∃ t, PSs (cxOf CX0 P w K mg base N qual scope f cdv A outer s H E).nox body t ∧ SW K t (gam0 N.length ds) { nx := fun _ => post ds .non, rt := post ds }) : MtD P w K mg base C m (k + 1) ps ps.length pre post := by
  refine ⟨f, fd, hm, F.bindsN hb, F.ok S (fun vs H Q E h => ?_) (fun cdv A outer s H vs Q E hr h => ?_)⟩
  · obtain ⟨Hs, ds, _, _, r, l, _⟩ := h
    rw [r.length]; exact l
  · obtain ⟨Hs, ds, tb, b, r, l, p, q⟩ := h
    obtain ⟨t, ht, hw⟩ := hbody cdv A outer s H E hr ds l p
    exact ⟨t, ht.nox, hw Hs H Hs H _ _ (sl_start tb b r) (fun Hs' H' σ' γ' e S' p => q Hs' H' _ _ S'.gr .non p) (fun Hs' H' v d g r p => q Hs' H' v d g r p) (fun _ _ _ _ _ _ z => z.elim) (fun _ _ _ _ _ _ z => z.elim)⟩
end
end Z

/-! objects that a def owns and changes: they stand in the entry heap, as a part h that may be exchanged -/
namespace Z
open PySem PySem.Spec L2 StX
variable [Tabs]
def jn (H0 h : Hp) : Hp := fun a => match h a with
  | some o => some o
  | none => H0 a
theorem jn_in {H0 h : Hp} {a : Addr} {o : HO} (e : h a = some o) : jn H0 h a = some o := by unfold jn; rw [e]
theorem jn_out {H0 h : Hp} {a : Addr} (e : h a = none) : jn H0 h a = H0 a := by unfold jn; rw [e]
def cut (Hs h : Hp) : Hp := fun a => match h a with
  | some _ => none
  | none => Hs a
theorem cut_in {Hs h : Hp} {a : Addr} {o : HO} (e : h a = some o) : cut Hs h a = none := by unfold cut; rw [e]
theorem cut_out {Hs h : Hp} {a : Addr} (e : h a = none) : cut Hs h a = Hs a := by unfold cut; rw [e]
theorem cut_some {Hs h : Hp} {a : Addr} {o : HO} (e : cut Hs h a = some o) : h a = none ∧ Hs a = some o := by
  cases z : h a with
  | none => rw [cut_out z] at e; exact ⟨rfl, e⟩
  | some p => rw [cut_in z] at e; cases e
/-- the part is nobody else's -/
structure Res (Hs0 H0 h : Hp) : Prop where
  d0 : ∀ a o, h a = some o → H0 a = none
  ds : ∀ a o, h a = some o → Hs0 a = none
  nt : ∀ a ps, h a ≠ some (.tbl ps)
theorem Res.same {Hs0 H0 h : Hp} (R : Res Hs0 H0 h) : Same H0 (jn H0 h) := fun a o e => by
  rw [jn_out]; exact e
  cases z : h a with
  | none => rfl
  | some p => rw [R.d0 a p z] at e; cases e
/-- what is part of the entry: at (Hs, H) it stands, unshared -/
structure Own (h Hs H : Hp) : Prop where
  st : Same h H
  un : ∀ a o, h a = some o → Hs a = none
  nt : ∀ a ps, h a ≠ some (.tbl ps)
theorem own_of {Hs0 H0 h Hs H : Hp} (i : Same h H0) (ds : ∀ a o, h a = some o → Hs0 a = none) (nt : ∀ a ps, h a ≠ some (.tbl ps)) (g : Grow Hs0 H0 Hs H) : Own h Hs H :=
  ⟨fun a o e => by
    rcases g.e a o (i a o e) with z | ⟨ps, _, z, _⟩
    · exact z
    · subst z; exact absurd e (nt a ps), fun a o e => g.n a o (i a o e) (ds a o e), nt⟩
theorem Own.grow {h Hs H Hs' H' : Hp} (w : Own h Hs H) (g : Grow Hs H Hs' H') : Own h Hs' H' :=
  ⟨fun a o e => by
    rcases g.e a o (w.st a o e) with z | ⟨ps, _, z, _⟩
    · exact z
    · subst z; exact absurd e (w.nt a ps), fun a o e => g.n a o (w.st a o e) (w.un a o e), w.nt⟩
theorem Own.jn {h Hs H : Hp} (w : Own h Hs H) : Same Hs (jn Hs h) ∧ Same h (Z.jn Hs h) ∧ (Same Hs H → Same (Z.jn Hs h) H) := by
  refine ⟨fun a o e => ?_, fun a o e => jn_in e, fun b a o e => ?_⟩
  · cases z : h a with
    | none => rw [jn_out z]; exact e
    | some p => rw [w.un a p z] at e; cases e
  · cases z : h a with
    | none => rw [jn_out z] at e; exact b _ _ e
    | some p => rw [jn_in z] at e; cases e; exact w.st _ _ z
theorem Own.tb {h Hs H : Hp} (w : Own h Hs H) (t : TbOk Hs H) : TbOk (Z.jn Hs h) H := fun P hP => by
  obtain ⟨⟨ps, h1, h2⟩, h3⟩ := t P hP
  refine ⟨⟨ps, h1, h2⟩, ?_⟩
  cases z : h P with
  | none => rw [jn_out z]; exact h3
  | some o =>
    have e := w.st _ _ z
    rw [h1] at e; cases e
    exact absurd z (w.nt P ps)
/-- back from what was shared for a while -/
theorem Own.back {h Hs H Hs' H' : Hp} (w : Own h Hs H) (g : Grow (Z.jn Hs h) H Hs' H') : Grow Hs H (cut Hs' h) H' := by
  obtain ⟨j1, j2, _⟩ := w.jn
  refine ⟨fun a o e => ?_, g.e, fun a o e => g.b _ _ (cut_some e).2, fun a o e n => ?_, fun t P hP => ?_⟩
  · have z : h a = none := by
      cases z : h a with
      | none => rfl
      | some p => rw [w.un a p z] at e; cases e
    rw [cut_out z]; exact g.s _ _ (j1 _ _ e)
  · cases z : h a with
    | none => rw [cut_out z]; exact g.n a o e (by rw [jn_out z]; exact n)
    | some p => exact cut_in z
  · obtain ⟨h1, h2⟩ := g.t (w.tb t) P hP
    refine ⟨h1, ?_⟩
    cases z : h P with
    | none => rw [cut_out z]; exact h2
    | some p => exact cut_in z
section
variable {K : PySem.W.Frag} {Hs0 H0 Hb h : Hp} {γ : Gam} {te ta : TE} {tr : TA} {t : TT} {ts tz tu : TS} {Φ : D → Prop} {Ω : Out}
/-- a handle is looked at as what stands in the part -/
def Look (K : PySem.W.Frag) (h : Hp) (d e : D) : Prop := d = e ∨ ∃ p, d = .hnd p ∧ Rep K h (.ref p) e
def LookL (K : PySem.W.Frag) (h : Hp) : List D → List D → Prop
  | [], [] => True
  | d :: ds, e :: es => Look K h d e ∧ LookL K h ds es
  | _, _ => False
theorem look_rep {Hs H : Hp} (w : Own h Hs H) : ∀ {ds es : List D} {vs : List V}, LookL K h ds es → RepL K Hs vs ds → RepL K (jn Hs h) vs es
  | [], [], _, _, .nil => .nil
  | d :: ds, e :: es, _, l, .cons a r => by
    obtain ⟨j1, j2, _⟩ := w.jn
    refine .cons ?_ (look_rep w l.2 r)
    rcases l.1 with rfl | ⟨p, rfl, q⟩
    · exact a.mono j1
    · cases a; exact q.mono j2
  | [], _ :: _, _, l, _ => l.elim
  | _ :: _, [], _, l, _ => l.elim
theorem flat_rep {H : Hp} {d : D} (fl : flatD d = true) : Rep K H (toV d) d := by
  cases d <;> first | exact .non | exact .bl _ | exact .int _ | exact .str _ | exact .ty _ | (cases fl)
/-- a call that looks at the part -/
theorem ex_look {n : Nat} {pre : List D → Prop} {post : List D → D → Prop} {E : XK} (i : Same h H0) (ds : ∀ a o, h a = some o → Hs0 a = none) (nt : ∀ a ps, h a ≠ some (.tbl ps))
    (hh : AX K Hs0 H0 Hb tr γ fun ds => ∃ es, LookL K h ds es ∧ es.length = n ∧ pre es ∧ ∀ d, post es d → flatD d = true ∧ Φ d) : EX K Hs0 H0 Hb (tCall (spD K n pre post) [] E tr) γ Φ := fun Hs H σ Q hb S q =>
  hh Hs H σ _ hb S fun Hs1 H1 vs ds1 g1 r1 ⟨es, lk, l, p, k⟩ => by
    have w := (own_of i ds nt S.gr).grow g1
    obtain ⟨j1, j2, j3⟩ := w.jn
    refine ⟨jn Hs1 h, es, w.tb (g1.t S.tb), j3 g1.b, by rw [List.append_nil]; exact look_rep w lk r1, l, p, fun Hs2 H2 v d g2 r2 ps => ?_⟩
    obtain ⟨fl, pd⟩ := k d ps
    have e := Rep.toV fl r2
    subst e
    refine q _ _ _ d (g1.trans (w.back g2)) ?_ pd
    exact flat_rep fl
/-- a method by a promise of its own -/
structure MtH (P : Program) (w : World) (K : PySem.W.Frag) (mg : Str → Option Value) (base : Heap) (C : Str) (m : Str) (k : Nat) (ps : List Str) (sp : Sp) : Prop where
  ex : ∃ f fd, Meth K (He.ga K C) m f ∧ Binds K fd ps [] ∧ FnOk P w K mg base CX0 k f fd ps sp
theorem mh_mk {P : Program} {w : World} {mg : Str → Option Value} {base : Heap} {C : Str} {m qual : Str} {params : Arguments} {body : List Stmt} {scope : Scope} {f : Addr} {fd : FuncData} {N ps : List Str} {k : Nat} {sp : Sp} (F : FunD K m qual params body scope [] [] f fd) (hm : Meth K (He.ga K C) m f) (S : FnScope N ps scope)
    (hb : ∀ (kV doc pm : Value) (an : Option Addr) (cdv ct : Value) (us : List Value), us.length = ps.length → bindArgs (PySem.W.fnOf m qual params body scope .none kV doc pm an cdv ct) ⟨us, []⟩ = pure (ps.zip us))
    (len : ∀ vs H Q E, sp vs H Q E → vs.length = ps.length)
    (hbody : ∀ (cdv : Value) (A : Around) (outer : List Env) (s : Shared) (H : Hp) (vs : List V) (Q : VK) (E : XK), Room k (A.deeper (PyProof.Rows.envOfC qual scope s.heap.objs.size f cdv)) → sp vs H Q E →
      ∃ t, PSs (cxOf CX0 P w K mg base N qual scope f cdv A outer s H E).nox body t ∧ t { nx := fun _ H' => Q .non H', rt := Q } (L2.start N vs) H) : MtH P w K mg base C m (k + 1) ps sp := by
  refine ⟨f, fd, hm, F.bindsN hb, F.ok S len (fun cdv A outer s H vs Q E hr h => ?_)⟩
  obtain ⟨t, ht, hw⟩ := hbody cdv A outer s H vs Q E hr h
  exact ⟨t, ht.nox, hw⟩
theorem pe_mH {X : Cx} {C : Str} {m : Str} {k j : Nat} {ps : List Str} {sp : Sp} {pos apos : Pos} {o e : Expr} {es : List Expr} {ta : TE} {t : TA} {pl : Sem Bool} (K : PySem.W.Frag) (hK : X.K = K) (ho : PE X o ta) (c : Cls K (He.ga K C)) (g : MtH X.prog X.w K X.mg X.base C m j ps sp) (hr : Room k X.A) (hj : j ≤ k)
    (ha : PA X (e :: es) t) (he : starEach (e :: es) X.env = (false, eval e X.env) :: starEach es X.env := by rfl) (hpl : (backTo pos (starEach es X.env)).any (·.1) = false := by rfl)
    (hev : eval (.Call (.Attribute o m apos) (e :: es) [] pos) X.env = (do
      let ov ← eval o X.env
      standAt apos.atName
      let (f, first) ← holding [ov] (getMethod ov m pl)
      callWith pos f first (backTo pos (starEach (e :: es) X.env)) (backToKw pos (keywordEach [] X.env))) := by rfl) :
    PE X (.Call (.Attribute o m apos) (e :: es) [] pos) (tMeth (He.ga K C) m sp [] E0 ta t) := by
  subst hK
  obtain ⟨f, fd, h1, h2, h3⟩ := g.ex
  exact pe_meth (pl := pl) ho c h1 h3 (hr.mono hj) h2 .nil pass0 ha he hpl hev
/-! ### tests at a fixed entry -/
def TX (K : PySem.W.Frag) (Hs0 H0 Hb : Hp) (t : TT) (γ : Gam) (Φ : Bool → Prop) : Prop := ∀ (Hs H : Hp) (σ : L2.St) (Q : Bool → Hp → Prop), Same Hb Hs → Sl K Hs0 H0 Hs H σ γ →
  (∀ Hs' H' b, Grow Hs H Hs' H' → Φ b → Q b H') → t σ H Q
theorem tx_of {Φ : Bool → Prop} (h : TW K t γ Φ) : TX K Hs0 H0 Hb t γ Φ := fun Hs H σ Q _ => h Hs0 H0 Hs H σ Q
theorem tx_B {Φ : Bool → Prop} (h : EX K Hs0 H0 Hb te γ fun d => ∃ b, d = .bl b ∧ Φ b) : TX K Hs0 H0 Hb (tB te) γ Φ := fun Hs H σ Q hb S q =>
  h Hs H σ _ hb S fun Hs' H' v d g r ⟨b, e, p⟩ => by
    subst e; cases r
    exact ⟨b, rfl, q _ _ b g p⟩
theorem tx_not {Φ : Bool → Prop} (h : TX K Hs0 H0 Hb t γ fun b => Φ (!b)) : TX K Hs0 H0 Hb (tNot t) γ Φ := fun Hs H σ Q hb S q =>
  h Hs H σ _ hb S fun Hs' H' b g p => q _ _ _ g p
theorem sx_ifX (h : TX K Hs0 H0 Hb t γ fun b => (b = true → SX K Hs0 H0 Hb ts γ Ω) ∧ (b = false → SX K Hs0 H0 Hb tz γ Ω)) : SX K Hs0 H0 Hb (tIfS t ts tz) γ Ω := fun Hs H σ E hb S kn kr kb kc =>
  h Hs H σ _ hb S fun Hs1 H1 b g ⟨p1, p2⟩ => by
    cases b with
    | true => exact p1 rfl Hs1 H1 σ E (hb.trans g.s) (S.grow g) (fun Hs' H' σ' γ' e => kn Hs' H' σ' γ' (g.s.trans e)) kr (fun Hs' H' σ' γ' e => kb Hs' H' σ' γ' (g.s.trans e)) fun Hs' H' σ' γ' e => kc Hs' H' σ' γ' (g.s.trans e)
    | false => exact p2 rfl Hs1 H1 σ E (hb.trans g.s) (S.grow g) (fun Hs' H' σ' γ' e => kn Hs' H' σ' γ' (g.s.trans e)) kr (fun Hs' H' σ' γ' e => kb Hs' H' σ' γ' (g.s.trans e)) fun Hs' H' σ' γ' e => kc Hs' H' σ' γ' (g.s.trans e)
end
/-! ### statements between which the part may change -/
structure OutG where
  nx : Hp → Gam → Prop
  rt : D → Prop
  bk : Hp → Gam → Prop := fun _ _ => False
  ct : Hp → Gam → Prop := fun _ _ => False
def SlH (K : PySem.W.Frag) (Hs0 H0 h Hs H : Hp) (σ : L2.St) (γ : Gam) : Prop := Res Hs0 H0 h ∧ Sl K Hs0 (jn H0 h) Hs H σ γ
def SG (K : PySem.W.Frag) (Hs0 H0 h : Hp) (ts : TS) (γ : Gam) (Φ : OutG) : Prop := ∀ (Hs H : Hp) (σ : L2.St) (E : Ends), SlH K Hs0 H0 h Hs H σ γ →
  (∀ h' Hs' H' σ' γ', Same Hs Hs' → SlH K Hs0 H0 h' Hs' H' σ' γ' → Φ.nx h' γ' → E.nx σ' H') →
  (∀ Hs' H' v d, Grow Hs0 H0 Hs' H' → Rep K Hs' v d → Φ.rt d → E.rt v H') →
  (∀ h' Hs' H' σ' γ', Same Hs Hs' → SlH K Hs0 H0 h' Hs' H' σ' γ' → Φ.bk h' γ' → E.bk σ' H') →
  (∀ h' Hs' H' σ' γ', Same Hs Hs' → SlH K Hs0 H0 h' Hs' H' σ' γ' → Φ.ct h' γ' → E.ct σ' H') → ts E σ H
theorem Res.down {Hs0 H0 h Hs' H' : Hp} (R : Res Hs0 H0 h) (g : Grow Hs0 (jn H0 h) Hs' H') : Grow Hs0 H0 Hs' H' :=
  ⟨g.s, fun a o e => g.e a o (R.same a o e), g.b, fun a o e n => g.n a o (R.same a o e) n, fun t => g.t fun P hP => by
    obtain ⟨⟨ps, h1, h2⟩, h3⟩ := t P hP
    exact ⟨⟨ps, R.same _ _ h1, h2⟩, h3⟩⟩
section
variable {K : PySem.W.Frag} {Hs0 H0 h : Hp} {γ : Gam} {ts tz tu : TS} {Ω : OutG}
/-- a statement that leaves the part as it is -/
theorem sg_of (hh : Res Hs0 H0 h → SX K Hs0 (jn H0 h) (fun _ => none) ts γ { nx := Ω.nx h, rt := Ω.rt, bk := Ω.bk h, ct := Ω.ct h }) : SG K Hs0 H0 h ts γ Ω := fun Hs H σ E ⟨R, S⟩ kn kr kb kc =>
  hh R Hs H σ E (fun _ _ z => by cases z) S (fun Hs' H' σ' γ' e S' p => kn h Hs' H' σ' γ' e ⟨R, S'⟩ p) (fun Hs' H' v d g r p => kr Hs' H' v d (R.down g) r p)
    (fun Hs' H' σ' γ' e S' p => kb h Hs' H' σ' γ' e ⟨R, S'⟩ p) fun Hs' H' σ' γ' e S' p => kc h Hs' H' σ' γ' e ⟨R, S'⟩ p
theorem sg_seq (hh : SG K Hs0 H0 h ts γ { Ω with nx := fun h1 γ1 => SG K Hs0 H0 h1 tz γ1 Ω }) : SG K Hs0 H0 h (tSeq ts tz) γ Ω := fun Hs H σ E S kn kr kb kc =>
  hh Hs H σ _ S (fun h1 Hs1 H1 σ1 γ1 e1 S1 q => q Hs1 H1 σ1 E S1 (fun h' Hs' H' σ' γ' e => kn h' Hs' H' σ' γ' (e1.trans e)) kr (fun h' Hs' H' σ' γ' e => kb h' Hs' H' σ' γ' (e1.trans e)) fun h' Hs' H' σ' γ' e => kc h' Hs' H' σ' γ' (e1.trans e)) kr kb kc
theorem SG.mono {Φ : OutG} (hh : SG K Hs0 H0 h ts γ Φ) (k1 : ∀ h x, Φ.nx h x → Ω.nx h x) (k2 : ∀ x, Φ.rt x → Ω.rt x) (k3 : ∀ h x, Φ.bk h x → Ω.bk h x) (k4 : ∀ h x, Φ.ct h x → Ω.ct h x) : SG K Hs0 H0 h ts γ Ω := fun Hs H σ E S kn kr kb kc =>
  hh Hs H σ E S (fun a b c d e f g p => kn a b c d e f g (k1 _ _ p)) (fun a b c d e f g => kr a b c d e f (k2 _ g)) (fun a b c d e f g p => kb a b c d e f g (k3 _ _ p)) (fun a b c d e f g p => kc a b c d e f g (k4 _ _ p))
theorem sg_if {t : TT} (hh : TW K t γ fun b => (b = true → SG K Hs0 H0 h ts γ Ω) ∧ (b = false → SG K Hs0 H0 h tz γ Ω)) : SG K Hs0 H0 h (tIfS t ts tz) γ Ω := fun Hs H σ E ⟨R, S⟩ kn kr kb kc =>
  hh Hs0 (jn H0 h) Hs H σ _ S fun Hs1 H1 b g ⟨p1, p2⟩ => by
    cases b with
    | true => exact p1 rfl Hs1 H1 σ E ⟨R, S.grow g⟩ (fun h' Hs' H' σ' γ' e => kn h' Hs' H' σ' γ' (g.s.trans e)) kr (fun h' Hs' H' σ' γ' e => kb h' Hs' H' σ' γ' (g.s.trans e)) fun h' Hs' H' σ' γ' e => kc h' Hs' H' σ' γ' (g.s.trans e)
    | false => exact p2 rfl Hs1 H1 σ E ⟨R, S.grow g⟩ (fun h' Hs' H' σ' γ' e => kn h' Hs' H' σ' γ' (g.s.trans e)) kr (fun h' Hs' H' σ' γ' e => kb h' Hs' H' σ' γ' (g.s.trans e)) fun h' Hs' H' σ' γ' e => kc h' Hs' H' σ' γ' (g.s.trans e)
theorem sg_for {wi : TI} {g : TG} {js : List Nat} (hh : IW K wi γ fun ds => ∃ I : Nat → Hp → Gam → Prop, I 0 h γ ∧
    (∀ i d h' γ', ds[i]? = some d → I i h' γ' → GW K g js d γ' fun γ2 => SG K Hs0 H0 h' tu γ2 { nx := I (i + 1), rt := Ω.rt, bk := Ω.nx, ct := I (i + 1) }) ∧ ∀ h' γ', I ds.length h' γ' → Ω.nx h' γ') : SG K Hs0 H0 h (tFor wi g tu) γ Ω := fun Hs H σ E ⟨R, S⟩ kn kr kb kc =>
  hh Hs0 (jn H0 h) Hs H σ _ S fun Hs1 H1 J ds g1 Y ⟨I, i0, step, fin⟩ => by
    refine ⟨fun i m σ' H' => m = ds.length - i ∧ i ≤ ds.length ∧ ∃ h' Hs' γ', Same Hs1 Hs' ∧ SlH K Hs0 H0 h' Hs' H' σ' γ' ∧ I i h' γ', ⟨ds.length, by simp, Nat.zero_le _, h, Hs1, γ, .refl _, ⟨R, S.grow g1⟩, i0⟩, ?_⟩
    rintro i m σ' H' ⟨rfl, hi, h', Hs', γ', e', ⟨R', S'⟩, iv⟩
    by_cases hlt : i < ds.length
    · refine .inr ⟨Y.go i Hs' H' e' S'.b hlt, fun σ2 H2 => ∃ h2 Hs2 γ2, Same Hs1 Hs2 ∧ SlH K Hs0 H0 h2 Hs2 H2 σ2 γ2 ∧ I (i + 1) h2 γ2, fun σ2 H2 ⟨a, b, c, d⟩ => ⟨ds.length - (i + 1), by omega, rfl, hlt, a, b, c, d⟩, fun x H'' hy => ?_⟩
      have hd : ds[i]? = some ds[i] := by simp [hlt]
      obtain ⟨Hs2, g2, rx⟩ := Y.yld i Hs' H' ds[i] x H'' e' S'.b hd hy
      have e2 := e'.trans g2.s
      refine step i ds[i] h' γ' hd iv Hs0 (jn H0 h') Hs2 H'' σ' x _ (S'.grow g2) rx fun σ3 γ3 S3 _ h3 => ?_
      refine h3 Hs2 H'' σ3 _ ⟨R', S3⟩ (fun h4 Hs4 H4 σ4 γ4 e4 S4 q => ⟨h4, Hs4, γ4, e2.trans e4, S4, q⟩) kr (fun h4 Hs4 H4 σ4 γ4 e4 S4 q => kn h4 Hs4 H4 σ4 γ4 ((g1.s.trans e2).trans e4) S4 q) (fun h4 Hs4 H4 σ4 γ4 e4 S4 q => ⟨h4, Hs4, γ4, e2.trans e4, S4, q⟩)
    · have e : i = ds.length := by omega
      subst e
      exact .inl ⟨Y.stop Hs' H' e' S'.b, kn h' Hs' H' σ' γ' (g1.s.trans e') ⟨R', S'⟩ (fin h' γ' iv)⟩
end
end Z

/-! list(range(n)) as a new list; o.f = e by the heap -/
namespace Z
open PySem PySem.Spec L2 StX
variable [Tabs]
theorem ps_fldK {X : Cx} {o value : Expr} {f : Str} {pos pos' : Pos} {ta tv : TE} (K : PySem.W.Frag) (hK : X.K = K) (ho : PE X o ta) (hv : PE X value tv) (hs : swapsWith value (some (o.Attribute f pos')) pos.line X.env = pure false) : PS X (Stmt.Assign [o.Attribute f pos'] value pos) (sFld K ta tv f) := by
  subst hK; exact ps_fld ho hv hs
/-- a class that makes objects -/
structure MkF (K : PySem.W.Frag) (C : Addr) : Prop where
  makes : PySem.W.makesIn K C = true
  kp : PySem.W.keepIn K (.ref C) = true
theorem pe_mkH {X : Cx} {C : Str} {k j : Nat} {ps : List Str} {sp : Sp} {p pos : Pos} {e : Expr} {es : List Expr} {t : TA} (K : PySem.W.Frag) (hK : X.K = K) (mk : MkF K (He.ga K C)) (g : MtH X.prog X.w K X.mg X.base C "__init__" j ps sp) (hr : Room k X.A) (hj : j + 1 ≤ k) (hg : Gl X C) (hm : X.mg C = some (.ref (He.ga K C)))
    (ha : PA X (e :: es) t) (hdb : (C == ("__debug__" : Str)) = false := by decide) (he : starEach (e :: es) X.env = (false, eval e X.env) :: starEach es X.env := by rfl) (hpl : (backTo pos (starEach es X.env)).any (·.1) = false := by rfl) :
    PE X (.Call (.Name C p) (e :: es) [] pos) (tMake (He.ga K C) sp [] E0 t) := by
  subst hK
  obtain ⟨f, fd, h1, h2, h3⟩ := g.ex
  exact pe_make ⟨mk.makes, h1.at_, h1.fn, mk.kp⟩ h3 (hr.mono hj) hg hm h2 .nil pass0 ha hdb he hpl
end Z

/-! the part that a def owns: begun, made, changed -/
namespace Z
open PySem PySem.Spec L2 StX
variable [Tabs]
section
variable {K : PySem.W.Frag} {Hs0 H0 h Hs H : Hp} {σ : L2.St} {γ : Gam} {ts tz : TS}
theorem jn_none {a : Addr} (e : jn H0 h a = none) : h a = none ∧ H0 a = none := by
  cases z : h a with
  | none => rw [jn_out z] at e; exact ⟨rfl, e⟩
  | some o => rw [jn_in z] at e; cases e
theorem SlH.down (S : SlH K Hs0 H0 h Hs H σ γ) : Sl K Hs0 H0 Hs H σ γ :=
  ⟨S.1.down S.2.gr, S.2.len, S.2.ok, fun i s a h1 ho h2 => (jn_none (S.2.fr i s a h1 ho h2)).2, S.2.ne, S.2.tb⟩
theorem SlH.nul (S : Sl K Hs0 H0 Hs H σ γ) : SlH K Hs0 H0 (fun _ => none) Hs H σ γ :=
  ⟨⟨(by intro _ _ z; cases z), (by intro _ _ z; cases z), (by intro _ _ z; cases z)⟩, S⟩
/-- a body of statements with a part, as a body without -/
theorem sw_sg {Ω : Out} (hh : ∀ Hs0 H0, SG K Hs0 H0 (fun _ => none) ts γ { nx := fun _ => Ω.nx, rt := Ω.rt, bk := fun _ => Ω.bk, ct := fun _ => Ω.ct }) : SW K ts γ Ω := fun Hs0 H0 Hs H σ E S kn kr kb kc =>
  hh Hs0 H0 Hs H σ E (.nul S) (fun h' Hs' H' σ' γ' e S' p => kn Hs' H' σ' γ' e S'.down p) kr (fun h' Hs' H' σ' γ' e S' p => kb Hs' H' σ' γ' e S'.down p) fun h' Hs' H' σ' γ' e S' p => kc Hs' H' σ' γ' e S'.down p
theorem sg_seqW {Ω : OutG} (hh : SW K ts γ { nx := fun γ1 => SG K Hs0 H0 h tz γ1 Ω, rt := Ω.rt, bk := Ω.bk h, ct := Ω.ct h }) : SG K Hs0 H0 h (tSeq ts tz) γ Ω :=
  sg_seq (sg_of fun _ => sx_of hh)
theorem sg_seqX {Ω : OutG} (hh : Res Hs0 H0 h → SX K Hs0 (jn H0 h) (fun _ => none) ts γ { nx := fun γ1 => SG K Hs0 H0 h tz γ1 Ω, rt := Ω.rt, bk := Ω.bk h, ct := Ω.ct h }) : SG K Hs0 H0 h (tSeq ts tz) γ Ω :=
  sg_seq (sg_of hh)
/-- the part is made -/
theorem SlH.new {Hs' H' : Hp} (S : SlH K Hs0 H0 (fun _ => none) Hs H σ γ) (g : Grow Hs H Hs' H') (hi : Same h H') (fr : ∀ a o, h a = some o → H a = none ∧ Hs' a = none) (nt : ∀ a ps, h a ≠ some (.tbl ps)) : SlH K Hs0 H0 h Hs' H' σ γ := by
  have S1 := S.down
  have f0 : ∀ a o, h a = some o → H0 a = none := fun a o e => SameT.free S1.gr.e (fr a o e).1
  have fs : ∀ a o, h a = some o → Hs0 a = none := fun a o e => by
    cases z : Hs0 a with
    | none => rfl
    | some u =>
      have := S1.gr.b _ _ (S1.gr.s _ _ z)
      rw [(fr a o e).1] at this; cases this
  have R : Res Hs0 H0 h := ⟨f0, fs, nt⟩
  have S2 := S1.grow g
  refine ⟨R, ⟨⟨S2.gr.s, fun a o e => ?_, S2.gr.b, fun a o e n => ?_, fun t => ?_⟩, S2.len, S2.ok, fun i s a h1 o1 h2 => ?_, S2.ne, S2.tb⟩⟩
  · cases z : h a with
    | none => rw [jn_out z] at e; exact S2.gr.e a o e
    | some u => rw [jn_in z] at e; cases e; exact .inl (hi _ _ z)
  · cases z : h a with
    | none => rw [jn_out z] at e; exact S2.gr.n a o e n
    | some u => exact (fr a u z).2
  · exact S2.tb
  · have e0 := S2.fr i s a h1 o1 h2
    cases z : h a with
    | none => rw [jn_out z]; exact e0
    | some u =>
      obtain ⟨_, o2, k2, _⟩ := S1.nos h1 o1 h2
      rw [(fr _ u z).1] at k2; cases k2
/-- the part is changed -/
theorem SlH.swap {h' H' : Hp} (S : SlH K Hs0 H0 h Hs H σ γ) (dom : ∀ a, h' a = none ↔ h a = none) (hi : Same h' H') (ho : ∀ a o, h a = none → H a = some o → H' a = some o) (nt : ∀ a ps, h' a ≠ some (.tbl ps)) (nx : ∀ a vfs, h a ≠ some (.xd vfs)) : SlH K Hs0 H0 h' Hs H' σ γ := by
  obtain ⟨R, S⟩ := S
  have is : ∀ a o, h' a = some o → ∃ u, h a = some u := fun a o e => by
    cases z : h a with
    | none => rw [(dom a).mpr z] at e; cases e
    | some u => exact ⟨u, rfl⟩
  have w : Own h Hs H := own_of (fun a o e => jn_in e) R.ds R.nt S.gr
  have R' : Res Hs0 H0 h' := ⟨fun a o e => let ⟨u, z⟩ := is a o e; R.d0 a u z, fun a o e => let ⟨u, z⟩ := is a o e; R.ds a u z, nt⟩
  have sh : ∀ a o, Hs a = some o → h a = none := fun a o e => by
    cases z : h a with
    | none => rfl
    | some u => rw [w.un a u z] at e; cases e
  have tb : TbOk Hs H' := fun P hP => by
    obtain ⟨⟨ps, h1, h2⟩, h3⟩ := S.tb P hP
    refine ⟨⟨ps, ho P _ ?_ h1, h2⟩, h3⟩
    cases z : h P with
    | none => rfl
    | some u =>
      have := w.st _ _ z
      rw [h1] at this; cases this
      exact absurd z (R.nt P ps)
  refine ⟨R', ⟨⟨S.gr.s, fun a o e => ?_, fun a o e => ho a o (sh a o e) (S.gr.b _ _ e), fun a o e n => ?_, fun _ => tb⟩, S.len, fun i s hs => ?_, fun i s a h1 o1 h2 => ?_, S.ne, tb⟩⟩
  · cases z : h' a with
    | some u => rw [jn_in z] at e; cases e; exact .inl (hi _ _ z)
    | none =>
      rw [jn_out z] at e
      have zh := (dom a).mp z
      rcases S.gr.e a o (by rw [jn_out zh]; exact e) with q | ⟨ps, ps', q1, q2⟩
      · exact .inl (ho a o zh q)
      · exact .inr ⟨ps, ps', q1, ho a _ zh q2⟩
  · cases z : h' a with
    | some u => obtain ⟨x, hx⟩ := is a u z; exact w.un a x hx
    | none =>
      rw [jn_out z] at e
      exact S.gr.n a o (by rw [jn_out ((dom a).mp z)]; exact e) n
  · obtain ⟨v, hv, k⟩ := S.ok i s hs
    refine ⟨v, hv, ?_⟩
    cases s with
    | sh d => exact k
    | ow ds =>
      obtain ⟨a, vs, rfl, k1, k2, k3⟩ := k
      exact ⟨a, vs, rfl, k1, ho a _ (jn_none (S.fr i _ a hs rfl hv)).1 k2, k3⟩
    | ob w =>
      obtain ⟨a, o, rfl, k1, k2, k3⟩ := k
      exact ⟨a, o, rfl, k1, ho a _ (jn_none (S.fr i _ a hs rfl hv)).1 k2, k3⟩
    | exc b cls d x =>
      refine ⟨k.1, k.2.1, k.2.2.imp id fun ⟨dd, vfs, e1, e2, e3⟩ => ⟨dd, vfs, e1, ho dd _ ?_ e2, e3⟩⟩
      cases z : h dd with
      | none => rfl
      | some u =>
        have := w.st _ _ z
        rw [e2] at this; cases this
        exact absurd z (nx dd vfs)
  · have e0 := jn_none (S.fr i s a h1 o1 h2)
    rw [jn_out ((dom a).mpr e0.1)]; exact e0.2
end
end Z

/-! methods of texts with several arguments; find from a place -/
namespace Z
open PySem PySem.Spec L2 StX
variable [Tabs]
section
variable {K : PySem.W.Frag} {γ : Gam} {Φ : D → Prop} {ta : TE}
theorem ew_mS {tr : TA} {r : V → List V → Hp → VK → Prop} (h : EW K ta γ fun x => ∃ z, x = .str z ∧ AW K tr γ fun ys => RWM K r x ys Φ) : EW K (tBM K "str" r ta tr) γ Φ := fun Hs0 H0 Hs H σ Q S q =>
  h Hs0 H0 Hs H σ _ S fun Hs1 H1 v x g1 r1 ⟨z, e, h1⟩ => by
    subst e
    have rz := r1
    cases r1
    exact ⟨rfl, h1 Hs0 H0 Hs1 H1 σ _ (S.grow g1) fun Hs2 H2 ws ys g2 r2 h2 => h2 Hs2 H2 _ ws Q g2.b (rz.mono g2.s) r2 fun Hs3 H3 w d g3 r3 p => q _ _ _ _ ((g1.trans g2).trans g3) r3 p⟩
def rFind3 : V → List V → Hp → VK → Prop := fun x xs H Q => ∃ (a b : Str) (i : Int), x = .str a ∧ xs = [.str b, .int i] ∧ Q (.int (Txt.find3 a b i)) H
theorem mt_find3Z {X : Cx} : MtR X "str.find" rFind3 := mt_find3
theorem rwm_find3 {a b : Str} {i : Int} (k : Φ (.int (Txt.find3 a b i))) : RWM K rFind3 (.str a) [.str b, .int i] Φ := fun Hs H v vs Q bb r1 r2 q => by
  cases r1
  cases r2 with
  | cons h r => cases h; cases r with
    | cons h r => cases h; cases r; exact ⟨a, b, i, rfl, rfl, q _ _ _ _ (.refl bb) (.int _) k⟩
end
theorem find3_one (x y : Str) (hx : 1 ≤ x.length) : (Txt.find3 x y 1 = -1 ∧ ∀ i, 1 ≤ i → ¬ StrLaws.At x y x.length i) ∨ ∃ i : Nat, Txt.find3 x y 1 = (i : Int) ∧ 1 ≤ i ∧ StrLaws.At x y x.length i ∧ ∀ k, 1 ≤ k → k < i → ¬ StrLaws.At x y x.length k := by
  have e : fromIndex x.length 1 = 1 := rfl
  unfold Txt.find3
  rw [e]
  rcases StrLaws.occ_head_from x y 1 1 (Nat.le_refl _) with ⟨h0, hn⟩ | ⟨i, r, h0, h1, h2, h3⟩
  · rw [h0]; exact .inl ⟨rfl, hn⟩
  · rw [h0]; exact .inr ⟨i, rfl, h1, h2, h3⟩
end Z

/-! dicts as data and as own things -/
namespace Z
open PySem PySem.Spec L2 StX
variable [Tabs]
def kD : Key → D
  | .inl i => .int i
  | .inr x => .str x
def valD (kds : List (Key × D)) (k : Key) : Option D := (kds.find? fun kv => decide (kv.1 = k)).map (·.2)
def putD (kds : List (Key × D)) (k : Key) (d : D) : List (Key × D) := if kds.any (fun kv => decide (kv.1 = k)) then kds.map (fun kv => if kv.1 = k then (kv.1, d) else kv) else kds ++ [(k, d)]
section
variable {K : PySem.W.Frag} {H : Hp}
theorem kD_rep (k : Key) : Rep K H (kV k) (kD k) := by cases k <;> first | exact .int _ | exact .str _
theorem kD_is {v : V} {k : Key} (r : Rep K H v (kD k)) : v = kV k := by cases k <;> (cases r; rfl)
theorem RepK.length : ∀ {vs : List (Key × V)} {ds : List (Key × D)}, RepK K H vs ds → vs.length = ds.length
  | _, _, .nil => rfl
  | _, _, .cons _ r => by rw [List.length_cons, List.length_cons, RepK.length r]
theorem RepK.get : ∀ {vs : List (Key × V)} {ds : List (Key × D)} {i : Nat} {k : Key} {v : V}, RepK K H vs ds → vs[i]? = some (k, v) → ∃ d, ds[i]? = some (k, d) ∧ Rep K H v d
  | _, _, _, _, _, .nil, e => by simp at e
  | _, _, 0, _, _, .cons h r, e => by simp at e; obtain ⟨rfl, rfl⟩ := e; exact ⟨_, rfl, h⟩
  | _, _, i + 1, _, _, .cons h r, e => by
    obtain ⟨d, h1, h2⟩ := RepK.get (i := i) r (by simpa using e)
    exact ⟨d, by simpa using h1, h2⟩
theorem RepK.val {k : Key} : ∀ {vs : List (Key × V)} {ds : List (Key × D)}, RepK K H vs ds → (valD ds k = none ∧ valV vs k = none) ∨ ∃ v d, valD ds k = some d ∧ valV vs k = some v ∧ Rep K H v d
  | _, _, .nil => .inl ⟨rfl, rfl⟩
  | _, _, .cons (k := k') (v := v) (d := d) h r => by
    by_cases e : k' = k
    · exact .inr ⟨v, d, by unfold valD; rw [List.find?_cons_of_pos (by simpa using e)]; rfl, by unfold valV; rw [List.find?_cons_of_pos (by simpa using e)]; rfl, h⟩
    · rcases RepK.val r with ⟨a, b⟩ | ⟨u, c, a, b, q⟩
      · exact .inl ⟨by unfold valD at a ⊢; rw [List.find?_cons_of_neg (by simpa using e)]; exact a, by unfold valV at b ⊢; rw [List.find?_cons_of_neg (by simpa using e)]; exact b⟩
      · exact .inr ⟨u, c, by unfold valD at a ⊢; rw [List.find?_cons_of_neg (by simpa using e)]; exact a, by unfold valV at b ⊢; rw [List.find?_cons_of_neg (by simpa using e)]; exact b, q⟩
theorem RepK.any {p : Key → Bool} : ∀ {vs : List (Key × V)} {ds : List (Key × D)}, RepK K H vs ds → vs.any (fun kv => p kv.1) = ds.any (fun kv => p kv.1)
  | _, _, .nil => rfl
  | _, _, .cons h r => by rw [List.any_cons, List.any_cons, RepK.any r]
theorem RepK.append : ∀ {vs ws : List (Key × V)} {ds es : List (Key × D)}, RepK K H vs ds → RepK K H ws es → RepK K H (vs ++ ws) (ds ++ es)
  | _, _, _, _, .nil, q => q
  | _, _, _, _, .cons h r, q => .cons h (RepK.append r q)
theorem RepK.change {k : Key} {v : V} {d : D} (h : Rep K H v d) : ∀ {vs : List (Key × V)} {ds : List (Key × D)}, RepK K H vs ds → RepK K H (vs.map fun kv => if kv.1 = k then (kv.1, v) else kv) (ds.map fun kv => if kv.1 = k then (kv.1, d) else kv)
  | _, _, .nil => .nil
  | _, _, .cons (k := k') h' r => by
    rw [List.map_cons, List.map_cons]
    by_cases e : k' = k
    · rw [if_pos e, if_pos e]; exact .cons h (RepK.change h r)
    · rw [if_neg e, if_neg e]; exact .cons h' (RepK.change h r)
theorem RepK.put {k : Key} {v : V} {d : D} {vs : List (Key × V)} {ds : List (Key × D)} (h : Rep K H v d) (r : RepK K H vs ds) : RepK K H (putK vs k v) (putD ds k d) := by
  unfold putK putD
  rw [r.any (p := fun j => decide (j = k))]
  split
  · exact r.change h
  · exact r.append (.cons h .nil)
theorem RepK.keys : ∀ {vs : List (Key × V)} {ds : List (Key × D)}, RepK K H vs ds → vs.map (·.1) = ds.map (·.1)
  | _, _, .nil => rfl
  | _, _, .cons h r => by rw [List.map_cons, List.map_cons, RepK.keys r]
end
/-! ### what is locked stays so -/
inductive LockP (P : Hp → Prop) : Hp → Prop
  | now {H : Hp} (h : P H) : LockP P H
  | lock {H : Hp} {d : Addr} {u : HO} (hd : H d = some u) (mu : Mut (some u)) (h : ∀ od, LockP P (upd H d (.frz od u))) : LockP P H
def tLockF (t : TS) : TS := fun D σ H => LockP (t D σ) H
theorem ps_lockF {X : Cx} {st : Stmt} {t : TS} (h : PS X st t) : PS X st (tLockF t) := by
  refine ⟨fun pins s σ H D I hw => ?_⟩
  induction hw with
  | now hw => exact h.run pins s σ _ _ I hw
  | lock hd mu _ ih =>
    obtain ⟨od, I1⟩ := I.lock hd mu
    exact ih od I1
section
variable {K : PySem.W.Frag} {γ : Gam} {te ta tb : TE} {ts : TS} {Φ : D → Prop} {Ω : Out} {i : Nat}
theorem sw_lock0 (h : SW K ts γ Ω) : SW K (tLockF ts) γ Ω := fun Hs0 H0 Hs H σ E S kn kr kb kc => .now (h Hs0 H0 Hs H σ E S kn kr kb kc)
theorem sw_lockD (i : Nat) {kds : List (Key × D)} (hg : γ[i]? = some (some (.ob (.dct kds)))) (h : SW K (tLockF ts) (γ.set i (some (.sh (.dct kds)))) Ω) : SW K (tLockF ts) γ Ω := fun Hs0 H0 Hs H σ E S kn kr kb kc => by
  obtain ⟨v, hv, a, o, rfl, h1, h2, kvs, rfl, h3⟩ := S.ok i _ hg
  refine .lock h2 trivial fun od => ?_
  obtain ⟨e, T⟩ := S.frzB (o' := .frz od (.dK kvs)) i hg rfl hv (fun _ z => by cases z) (.dct upd_same (RepK.mono (sameNew h1) h3))
  exact h Hs0 H0 _ _ σ E T (fun Hs' H' σ' γ' e' => kn Hs' H' σ' γ' (e.trans e')) kr (fun Hs' H' σ' γ' e' => kb Hs' H' σ' γ' (e.trans e')) fun Hs' H' σ' γ' e' => kc Hs' H' σ' γ' (e.trans e')
/-! ### a new dict -/
theorem sw_newD (h : Ω.nx (γ.set i (some (.ob (.dct []))))) : SW K (tAsg tDNewK (gName i)) γ Ω := fun Hs0 H0 Hs H σ E S kn kr _ _ p hp => by
  have g : Grow Hs H Hs (upd H p (.dK [])) := .hid S.b hp
  refine kn Hs _ _ _ (.refl _) ((S.grow g).ownB (s := .ob (.dct [])) i (SameT.free S.gr.e hp) (S.b.free hp) upd_same rfl ⟨[], rfl, .nil⟩ fun j t h1 ho h2 => ?_) h
  obtain ⟨_, o, k2, _⟩ := S.nos h1 ho h2
  rw [hp] at k2; cases k2
/-- d[k] = v -/
theorem sw_putD {kds : List (Key × D)} (hg : γ[i]? = some (some (.ob (.dct kds)))) (l : kds.length < sizeS) (h : EW K te γ fun d => EW K tb γ fun y => ∃ k, y = kD k ∧ Ω.nx (γ.set i (some (.ob (.dct (putD kds k d)))))) : SW K (sDPut (tVar i) tb te) γ Ω := fun Hs0 H0 Hs H σ E S kn kr _ _ => by
  obtain ⟨v, hv, a, o, rfl, h1, h2, kvs, rfl, h3⟩ := S.ok i _ hg
  refine h Hs0 H0 Hs H σ _ S fun Hs1 H1 v1 d g1 r1 h' => ⟨.ref a, hv, h' Hs0 H0 Hs1 H1 σ _ (S.grow g1) fun Hs2 H2 w y g2 r2 ⟨k, e, p⟩ => ?_⟩
  subst e
  have e := kD_is r2
  subst e
  have g := g1.trans g2
  have S2 := S.grow g
  have ha : H2 a = some (.dK kvs) := g.e.oho h2 trivial
  refine ⟨a, _, rfl, .inl ⟨kvs, k, ha, rfl, by rw [h3.length]; exact Nat.lt_trans l (by decide), rfl⟩, ?_⟩
  refine kn Hs2 _ σ _ g.s (S2.putB (s' := .ob (.dct (putD kds k d))) i hg rfl hv rfl ⟨_, rfl, (RepK.mono g.s h3).put (r1.mono g2.s)⟩) p
/-! ### reading -/
theorem ew_dget (h : EW K ta γ fun x => ∃ kds, x = .dct kds ∧ EW K tb γ fun y => ∃ k d, y = kD k ∧ valD kds k = some d ∧ Φ d) : EW K (tDGet ta tb) γ Φ := fun Hs0 H0 Hs H σ Q S q =>
  h Hs0 H0 Hs H σ _ S fun Hs1 H1 v x g1 r1 ⟨kds, e, h1⟩ => by
    subst e
    cases r1 with
    | dct hh rr =>
      rename_i a ob kvs
      refine h1 Hs0 H0 Hs1 H1 σ _ (S.grow g1) fun Hs2 H2 w y g2 r2 ⟨k, d, e, hd, p⟩ => ?_
      subst e
      have e := kD_is r2
      subst e
      rcases (RepK.mono g2.s rr).val (k := k) with ⟨z, _⟩ | ⟨v, d', z1, z2, z3⟩
      · rw [hd] at z; cases z
      · rw [hd] at z1; cases z1
        exact ⟨a, v, rfl, .inl ⟨kvs, k, .inr ⟨ob, g2.b _ _ (g2.s _ _ hh)⟩, rfl, z2.symm⟩, q _ _ _ _ (g1.trans g2) z3 p⟩
theorem ew_din (h : EW K tb γ fun y => EW K ta γ fun x => ∃ kds k, x = .dct kds ∧ y = kD k ∧ Φ (.bl (valD kds k).isSome)) : EW K (tDIn tb ta) γ Φ := fun Hs0 H0 Hs H σ Q S q =>
  h Hs0 H0 Hs H σ _ S fun Hs1 H1 v y g1 r1 h1 => h1 Hs0 H0 Hs1 H1 σ _ (S.grow g1) fun Hs2 H2 w x g2 r2 ⟨kds, k, e1, e2, p⟩ => by
    subst e1 e2
    have e := kD_is r1
    subst e
    cases r2 with
    | dct hh rr =>
      rename_i a ob kvs
      refine ⟨a, valV kvs k, rfl, .inl ⟨kvs, k, .inr ⟨ob, g2.b _ _ hh⟩, rfl, rfl⟩, ?_⟩
      have e : (valV kvs k).isSome = (valD kds k).isSome := by
        rcases rr.val (k := k) with ⟨z1, z2⟩ | ⟨_, _, z1, z2, _⟩ <;> rw [z1, z2] <;> rfl
      rw [e]
      exact q _ _ _ _ (g1.trans g2) (.bl _) p
theorem ew_dnin (h : EW K tb γ fun y => EW K ta γ fun x => ∃ kds k, x = .dct kds ∧ y = kD k ∧ Φ (.bl (!(valD kds k).isSome))) : EW K (tDNotIn tb ta) γ Φ := fun Hs0 H0 Hs H σ Q S q =>
  h Hs0 H0 Hs H σ _ S fun Hs1 H1 v y g1 r1 h1 => h1 Hs0 H0 Hs1 H1 σ _ (S.grow g1) fun Hs2 H2 w x g2 r2 ⟨kds, k, e1, e2, p⟩ => by
    subst e1 e2
    have e := kD_is r1
    subst e
    cases r2 with
    | dct hh rr =>
      rename_i a ob kvs
      refine ⟨a, valV kvs k, rfl, .inl ⟨kvs, k, .inr ⟨ob, g2.b _ _ hh⟩, rfl, rfl⟩, ?_⟩
      have e : (valV kvs k).isSome = (valD kds k).isSome := by
        rcases rr.val (k := k) with ⟨z1, z2⟩ | ⟨_, _, z1, z2, _⟩ <;> rw [z1, z2] <;> rfl
      rw [e]
      exact q _ _ _ _ (g1.trans g2) (.bl _) p
/-- k in d, d a local that it owns -/
theorem ew_dinO {kds : List (Key × D)} (hg : γ[i]? = some (some (.ob (.dct kds)))) (h : EW K tb γ fun y => ∃ k, y = kD k ∧ Φ (.bl (valD kds k).isSome)) : EW K (tDIn tb (tVar i)) γ Φ := fun Hs0 H0 Hs H σ Q S q =>
  h Hs0 H0 Hs H σ _ S fun Hs1 H1 v y g1 r1 ⟨k, e, p⟩ => by
    subst e
    have e := kD_is r1
    subst e
    obtain ⟨v, hv, a, o, rfl, h1, h2, kvs, rfl, h3⟩ := (S.grow g1).ok i _ hg
    refine ⟨.ref a, hv, a, valV kvs k, rfl, .inl ⟨kvs, k, .inl h2, rfl, rfl⟩, ?_⟩
    have e : (valV kvs k).isSome = (valD kds k).isSome := by
      rcases h3.val (k := k) with ⟨z1, z2⟩ | ⟨_, _, z1, z2, _⟩ <;> rw [z1, z2] <;> rfl
    rw [e]
    exact q _ _ _ _ g1 (.bl _) p
theorem ew_dninO {kds : List (Key × D)} (hg : γ[i]? = some (some (.ob (.dct kds)))) (h : EW K tb γ fun y => ∃ k, y = kD k ∧ Φ (.bl (!(valD kds k).isSome))) : EW K (tDNotIn tb (tVar i)) γ Φ := fun Hs0 H0 Hs H σ Q S q =>
  h Hs0 H0 Hs H σ _ S fun Hs1 H1 v y g1 r1 ⟨k, e, p⟩ => by
    subst e
    have e := kD_is r1
    subst e
    obtain ⟨v, hv, a, o, rfl, h1, h2, kvs, rfl, h3⟩ := (S.grow g1).ok i _ hg
    refine ⟨.ref a, hv, a, valV kvs k, rfl, .inl ⟨kvs, k, .inl h2, rfl, rfl⟩, ?_⟩
    have e : (valV kvs k).isSome = (valD kds k).isSome := by
      rcases h3.val (k := k) with ⟨z1, z2⟩ | ⟨_, _, z1, z2, _⟩ <;> rw [z1, z2] <;> rfl
    rw [e]
    exact q _ _ _ _ g1 (.bl _) p
theorem ew_dgetO {kds : List (Key × D)} (hg : γ[i]? = some (some (.ob (.dct kds)))) (h : EW K tb γ fun y => ∃ k d, y = kD k ∧ valD kds k = some d ∧ Φ d) : EW K (tDGet (tVar i) tb) γ Φ := fun Hs0 H0 Hs H σ Q S q => by
  obtain ⟨v, hv, a, o, rfl, h1, h2, kvs, rfl, h3⟩ := S.ok i _ hg
  refine ⟨.ref a, hv, h Hs0 H0 Hs H σ _ S fun Hs1 H1 v y g1 r1 ⟨k, d, e, hd, p⟩ => ?_⟩
  subst e
  have e := kD_is r1
  subst e
  rcases (RepK.mono g1.s h3).val (k := k) with ⟨z, _⟩ | ⟨v, d', z1, z2, z3⟩
  · rw [hd] at z; cases z
  · rw [hd] at z1; cases z1
    exact ⟨a, v, rfl, .inl ⟨kvs, k, .inl (g1.e.oho h2 trivial), rfl, z2.symm⟩, q _ _ _ _ g1 z3 p⟩
/-! ### walks -/
theorem iw_keys {Φ : List D → Prop} (h : EW K te γ fun d => ∃ kds, d = .dct kds ∧ Φ (kds.map fun kv => kD kv.1)) : IW K (iKeys te) γ Φ := fun Hs0 H0 Hs H σ R S q =>
  h Hs0 H0 Hs H σ _ S fun Hs1 H1 v x g1 r1 ⟨kds, e, p⟩ => by
    subst e
    cases r1 with
    | dct hh rr =>
      rename_i a ob kvs
      refine ⟨a, ob, rfl, .inl ⟨kvs, g1.b _ _ hh, q _ _ _ _ g1 ⟨fun i Hs' H' e b hi => ⟨b _ _ (e _ _ hh), ?_⟩, fun i Hs' H' d x H'' e b hd hy => ?_, fun Hs' H' e b => ⟨b _ _ (e _ _ hh), ?_⟩⟩ p⟩⟩
      · rw [List.length_map] at hi; rw [rr.length]; exact hi
      · obtain ⟨rfl, k, v, hk, rfl⟩ := hy
        obtain ⟨d', hd', _⟩ := rr.get hk
        rw [List.getElem?_map, hd'] at hd
        cases hd
        exact ⟨Hs', .refl b, kD_rep k⟩
      · rw [List.length_map, rr.length]; exact Nat.le_refl _
theorem iw_keysM {Φ : List D → Prop} (h : EW K te γ fun d => ∃ kds, d = .dct kds ∧ Φ (kds.map fun kv => kD kv.1)) : IW K (iKeysM te) γ Φ := fun Hs0 H0 Hs H σ R S q =>
  h Hs0 H0 Hs H σ _ S fun Hs1 H1 v x g1 r1 ⟨kds, e, p⟩ => by
    subst e
    cases r1 with
    | dct hh rr =>
      rename_i a ob kvs
      refine ⟨a, ob, kvs, rfl, g1.b _ _ hh, q _ _ _ _ g1 ⟨fun i Hs' H' e b hi => ⟨b _ _ (e _ _ hh), ?_⟩, fun i Hs' H' d x H'' e b hd hy => ?_, fun Hs' H' e b => ⟨b _ _ (e _ _ hh), ?_⟩⟩ p⟩
      · rw [List.length_map] at hi; rw [rr.length]; exact hi
      · obtain ⟨rfl, k, v, hk, rfl⟩ := hy
        obtain ⟨d', hd', _⟩ := rr.get hk
        rw [List.getElem?_map, hd'] at hd
        cases hd
        exact ⟨Hs', .refl b, kD_rep k⟩
      · rw [List.length_map, rr.length]; exact Nat.le_refl _
theorem iw_vals {Φ : List D → Prop} (h : EW K te γ fun d => ∃ kds, d = .dct kds ∧ Φ (kds.map (·.2))) : IW K (iVals te) γ Φ := fun Hs0 H0 Hs H σ R S q =>
  h Hs0 H0 Hs H σ _ S fun Hs1 H1 v x g1 r1 ⟨kds, e, p⟩ => by
    subst e
    cases r1 with
    | dct hh rr =>
      rename_i a ob kvs
      refine ⟨a, ob, kvs, rfl, g1.b _ _ hh, q _ _ _ _ g1 ⟨fun i Hs' H' e b hi => ⟨b _ _ (e _ _ hh), ?_⟩, fun i Hs' H' d x H'' e b hd hy => ?_, fun Hs' H' e b => ⟨b _ _ (e _ _ hh), ?_⟩⟩ p⟩
      · rw [List.length_map] at hi; rw [rr.length]; exact hi
      · obtain ⟨rfl, k, hk⟩ := hy
        obtain ⟨d', hd', rd⟩ := rr.get hk
        rw [List.getElem?_map, hd'] at hd
        cases hd
        exact ⟨Hs', .refl b, rd.mono e⟩
      · rw [List.length_map, rr.length]; exact Nat.le_refl _
theorem iw_items {Φ : List D → Prop} (h : EW K te γ fun d => ∃ kds, d = .dct kds ∧ Φ (kds.map fun kv => .tpl [kD kv.1, kv.2])) : IW K (iItems te) γ Φ := fun Hs0 H0 Hs H σ R S q =>
  h Hs0 H0 Hs H σ _ S fun Hs1 H1 v x g1 r1 ⟨kds, e, p⟩ => by
    subst e
    cases r1 with
    | dct hh rr =>
      rename_i a ob kvs
      refine ⟨a, ob, kvs, rfl, g1.b _ _ hh, q _ _ _ _ g1 ⟨fun i Hs' H' e b hi => ⟨b _ _ (e _ _ hh), ?_⟩, fun i Hs' H' d x H'' e b hd hy => ?_, fun Hs' H' e b => ⟨b _ _ (e _ _ hh), ?_⟩⟩ p⟩
      · rw [List.length_map] at hi; rw [rr.length]; exact hi
      · obtain ⟨T, k, v, hk, rfl, hT, rfl⟩ := hy
        obtain ⟨d', hd', rd⟩ := rr.get hk
        rw [List.getElem?_map, hd'] at hd
        cases hd
        exact ⟨_, .new b hT, .tpl upd_same (.cons (kD_rep k) (.cons (rd.mono (e.trans (sameNew (b.free hT)))) .nil))⟩
      · rw [List.length_map, rr.length]; exact Nat.le_refl _
end
section
variable {X : Cx}
theorem pe_dgetK {o i : Expr} {td ty : TE} {pos : Pos} (hu : X.A.units + 64 < cLine) (ho : PE X o td) (hi : PE X i ty) (hs : NoSl i) : PE X (.Subscript o i pos) (tDGet td ty) := pe_dget (by omega) ho hi hs
theorem pc_dinK {o i : Expr} {td ty : TE} (hu : X.A.units + 64 < cLine) (hi : PE X i ty) (ho : PE X o td) : PC X .In i o (tDIn ty td) := pc_din (by omega) hi ho
theorem pc_dninK {o i : Expr} {td ty : TE} (hu : X.A.units + 64 < cLine) (hi : PE X i ty) (ho : PE X o td) : PC X .NotIn i o (tDNotIn ty td) := pc_dnotin (by omega) hi ho
theorem ps_dputK {o i value : Expr} {td ty tv : TE} {pos pos' : Pos} (hu : X.A.units + 64 < cLine) (ho : PE X o td) (hi : PE X i ty) (hv : PE X value tv) (hs : swapsWith value (some (.Subscript o i pos')) pos.line X.env = pure false) : PS X (.Assign [.Subscript o i pos'] value pos) (sDPut td ty tv) := ps_dput (by omega) ho hi hv hs
end
/-! ### facts of classes, by Bool -/
def clsB (K : PySem.W.Frag) (C : Addr) : Bool := PySem.W.plainGet K C Str.empty && PySem.W.hasDictIn K C && PySem.W.plainOver K C && decide (PySem.W.findIn K (.ref C) "__setattr__" = some (some (.builtin "object.__setattr__")))
theorem clsB_ok {K : PySem.W.Frag} {C : Addr} (h : clsB K C = true) : Cls K C := by
  unfold clsB at h
  simp only [Bool.and_eq_true, decide_eq_true_eq] at h
  exact ⟨h.1.1.1, h.1.1.2, h.1.2, h.2⟩
def noB (K : PySem.W.Frag) (C : Addr) (f : Str) : Bool := decide (PySem.W.findIn K (.ref C) f = some none)
theorem noB_ok {K : PySem.W.Frag} {C : Addr} {f : Str} (h : noB K C f = true) : NoAttr K C f := by
  unfold noB at h
  exact of_decide_eq_true (p := PySem.W.findIn K (.ref C) f = some none) h
def methB (K : PySem.W.Frag) (C : Str) (m : Str) : Bool := decide (PySem.W.findIn K (.ref (He.ga K C)) m = some (some (.ref (He.fAd K (C, some m))))) && PySem.W.isFn K (.ref (He.fAd K (C, some m))) && PySem.W.keepIn K (.ref (He.fAd K (C, some m)))
theorem methB_ok {K : PySem.W.Frag} {C m : Str} (h : methB K C m = true) : Meth K (He.ga K C) m (He.fAd K (C, some m)) := by
  unfold methB at h
  simp only [Bool.and_eq_true, decide_eq_true_eq] at h
  exact ⟨h.1.1, h.1.2, h.2⟩
def mkB (K : PySem.W.Frag) (C : Addr) : Bool := PySem.W.makesIn K C && PySem.W.keepIn K (.ref C)
theorem mkB_ok {K : PySem.W.Frag} {C : Addr} (h : mkB K C = true) : MkF K C := by
  unfold mkB at h
  simp only [Bool.and_eq_true] at h
  exact ⟨h.1, h.2⟩
/-! ### a method whose code object is known -/
abbrev TBofM (K : PySem.W.Frag) (mg : Str → Option Value) (base : Heap) (C x : Str) : Prop := GxR.TabB base mg (He.codeOf K (C, some x)) (He.tabOf K (He.codeOf K (C, some x)))
abbrev TofM (K : PySem.W.Frag) (C x : Str) : Addr := He.tabOf K (He.codeOf K (C, some x))
section
variable {P : Program} {w : World} {K : PySem.W.Frag} {mg : Str → Option Value} {base : Heap}
theorem mt_mkT {C x qual : Str} {params : Arguments} {body : List Stmt} {scope : Scope} {fd : FuncData} {N ps : List Str} {k : Nat} {pre : List D → Prop} {post : List D → D → Prop} (F : FunD K x qual params body scope [] [] (He.fAd K (C, some x)) fd) (hm : Meth K (He.ga K C) x (He.fAd K (C, some x))) (S : FnScope N ps scope)
    (hb : ∀ (kV doc pm : Value) (an : Option Addr) (cdv ct : Value) (us : List Value), us.length = ps.length → bindArgs (PySem.W.fnOf x qual params body scope .none kV doc pm an cdv ct) ⟨us, []⟩ = pure (ps.zip us))
    (hbody : ∀ (A : Around) (outer : List Env) (s : Shared) (H : Hp) (E : XK), Room k (A.deeper (PyProof.Rows.envOfC qual scope s.heap.objs.size (He.fAd K (C, some x)) (.ref (He.codeOf K (C, some x))))) → ∀ ds, ds.length = ps.length → pre ds →
      ∃ t, PSs (cxOf CX0 P w K mg base N qual scope (He.fAd K (C, some x)) (.ref (He.codeOf K (C, some x))) A outer s H E).nox body t ∧ SW K t (gam0 N.length ds) { nx := fun _ => post ds .non, rt := post ds }) : MtD P w K mg base C x (k + 1) ps ps.length pre post := by
  have bN := F.bindsN hb
  have kp := F.kp
  obtain ⟨oc, od, dV, kV, doc, pm, an, cdv, ct, osl, rfl, lk, hcd, _, _⟩ := F.ex
  obtain ⟨c, rfl⟩ := He.codeIn_ref hcd
  have e : He.codeOf K (C, some x) = c := He.codeOf_eq lk rfl
  subst e
  refine ⟨_, _, hm, bN, fn_of lk hcd S (fun vs H Q E h => ?_) (fun A outer s H vs Q E hr h => ?_)⟩
  · obtain ⟨Hs, ds, _, _, r, l, _⟩ := h
    rw [r.length]; exact l
  · obtain ⟨Hs, ds, tb, b, r, l, p, q⟩ := h
    obtain ⟨t, ht, hw⟩ := hbody A outer s H E hr ds l p
    exact ⟨t, ht.nox, hw Hs H Hs H _ _ (sl_start tb b r) (fun Hs' H' σ' γ' e S' p => q Hs' H' _ _ S'.gr .non p) (fun Hs' H' v d g r p => q Hs' H' v d g r p) (fun _ _ _ _ _ _ z => z.elim) (fun _ _ _ _ _ _ z => z.elim)⟩
end
/-! ### the part becomes a datum -/
section
variable {K : PySem.W.Frag} {Hs0 H0 h Hs H : Hp} {σ : L2.St} {γ : Gam} {ts : TS} {Ω : OutG}
theorem SlH.share (S : SlH K Hs0 H0 h Hs H σ γ) : Same Hs (jn Hs h) ∧ Sl K Hs0 H0 (jn Hs h) H σ γ := by
  obtain ⟨R, S⟩ := S
  have w : Own h Hs H := own_of (fun a o e => jn_in e) R.ds R.nt S.gr
  obtain ⟨j1, j2, j3⟩ := w.jn
  have tb := w.tb S.tb
  refine ⟨j1, ⟨⟨S.gr.s.trans j1, fun a o e => S.gr.e a o (R.same a o e), j3 S.gr.b, fun a o e n => ?_, fun _ => tb⟩, S.len, fun i s hs => ?_, fun i s a h1 o1 h2 => (jn_none (S.fr i s a h1 o1 h2)).2, S.ne, tb⟩⟩
  · cases z : h a with
    | some u => rw [R.d0 a u z] at e; cases e
    | none => rw [jn_out z]; exact S.gr.n a o (R.same a o e) n
  · obtain ⟨v, hv, k⟩ := S.ok i s hs
    refine ⟨v, hv, ?_⟩
    have nb : ∀ b, s.isO = true → v = .ref b → Hs b = none → jn Hs h b = none := fun b ho e n => by
      subst e
      rw [jn_out (jn_none (S.fr i s b hs ho hv)).1]; exact n
    cases s with
    | sh d => exact Rep.mono j1 k
    | exc b cls d x => exact ⟨k.1, k.2.1, k.2.2.imp id fun ⟨dd, vfs, e1, e2, e3⟩ => ⟨dd, vfs, e1, e2, fun f v z => let ⟨u, p, q⟩ := e3 f v z; ⟨u, p, q.mono j1⟩⟩⟩
    | ow ds =>
      obtain ⟨b, o2, rfl, k1, k2, k3⟩ := (SlotOk.own (s := .ow ds) rfl).mp k
      exact (SlotOk.own (s := .ow ds) rfl).mpr ⟨b, o2, rfl, nb b rfl rfl k1, k2, k3.mono j1⟩
    | ob w' =>
      obtain ⟨b, o2, rfl, k1, k2, k3⟩ := (SlotOk.own (s := .ob w') rfl).mp k
      exact (SlotOk.own (s := .ob w') rfl).mpr ⟨b, o2, rfl, nb b rfl rfl k1, k2, k3.mono j1⟩
theorem sg_done {i : Nat} {p : Addr} {d : D} (hg : γ[i]? = some (some (.sh (.hnd p)))) (hr : Rep K h (.ref p) d) (hh : SW K ts (γ.set i (some (.sh d))) { nx := Ω.nx (fun _ => none), rt := Ω.rt, bk := Ω.bk (fun _ => none), ct := Ω.ct (fun _ => none) }) : SG K Hs0 H0 h ts γ Ω := fun Hs H σ E S kn kr kb kc => by
  have w : Own h Hs H := own_of (fun a o e => jn_in e) S.1.ds S.1.nt S.2.gr
  obtain ⟨j1, j2, j3⟩ := w.jn
  obtain ⟨e, T⟩ := S.share
  obtain ⟨v, hv, k⟩ := S.2.ok i _ hg
  have hv2 : v = .ref p := by cases k; rfl
  subst hv2
  have T2 := T.set i (hr.mono j2)
  have es : σ.set i (some (.ref p)) = σ := by
    apply List.ext_getElem?
    intro j
    by_cases hj : i = j
    · subst hj
      rw [List.getElem?_set_self (List.getElem?_eq_some_iff.mp hv).1, hv]
    · rw [List.getElem?_set_ne hj]
  rw [es] at T2
  exact hh Hs0 H0 _ H σ E T2 (fun Hs' H' σ' γ' e' S' p => kn _ Hs' H' σ' γ' (e.trans e') (.nul S') p) kr (fun Hs' H' σ' γ' e' S' p => kb _ Hs' H' σ' γ' (e.trans e') (.nul S') p) fun Hs' H' σ' γ' e' S' p => kc _ Hs' H' σ' γ' (e.trans e') (.nul S') p
end
/-! ### by hand: heaps that nobody's slot owns -/
section
variable {K : PySem.W.Frag} {Hs0 H0 Hs H : Hp} {σ : L2.St} {γ : Gam} {a : Addr} {o : HO}
def ShG (γ : Gam) : Prop := ∀ (i : Nat) (s : Slot), γ[i]? = some (some s) → ∃ d, s = Slot.sh d
theorem Sl.updF (S : Sl K Hs0 H0 Hs H σ γ) (hγ : ShG γ) (h0 : H0 a = none) (hs : Hs a = none) (nt : ∀ ps, H a ≠ some (.tbl ps)) : Sl K Hs0 H0 Hs (upd H a o) σ γ := by
  have tb : TbOk Hs (upd H a o) := fun P hP => by
    obtain ⟨⟨ps, h1, h2⟩, h3⟩ := S.tb P hP
    exact ⟨⟨ps, by rw [upd_ne (fun q => nt ps (by rw [← q]; exact h1))]; exact h1, h2⟩, h3⟩
  refine ⟨⟨S.gr.s, fun b u e => by rw [upd_ne (ne_of_none e h0)]; exact S.gr.e _ _ e, fun b u e => by rw [upd_ne (ne_of_none e hs)]; exact S.gr.b _ _ e, S.gr.n, fun _ => tb⟩, S.len, fun i s h => ?_, S.fr, S.ne, tb⟩
  obtain ⟨d, rfl⟩ := hγ i s h
  exact S.ok i _ h
theorem Sl.shareF (S : Sl K Hs0 H0 Hs H σ γ) (hγ : ShG γ) (h0 : H0 a = none) (hs : Hs a = none) (ha : H a = some o) (nt : ∀ ps, o ≠ .tbl ps) : Sl K Hs0 H0 (upd Hs a o) H σ γ := by
  have tb : TbOk (upd Hs a o) H := fun P hP => by
    obtain ⟨⟨ps, h1, h2⟩, h3⟩ := S.tb P hP
    exact ⟨⟨ps, h1, h2⟩, by rw [upd_ne (fun q => by rw [q, ha] at h1; cases h1; exact nt _ rfl)]; exact h3⟩
  refine ⟨⟨S.gr.s.trans (sameNew hs), S.gr.e, fun b u e => ?_, fun b u e n => by rw [upd_ne (ne_of_none e h0)]; exact S.gr.n b u e n, fun _ => tb⟩, S.len, fun i s h => ?_, S.fr, S.ne, tb⟩
  · by_cases hb : b = a
    · subst hb; rw [upd_same] at e; cases e; exact ha
    · rw [upd_ne hb] at e; exact S.gr.b _ _ e
  · obtain ⟨d, rfl⟩ := hγ i s h
    obtain ⟨v, hv, r⟩ := S.ok i _ h
    exact ⟨v, hv, Rep.mono (sameNew hs) r⟩
theorem for_raw {wi : TI} {g : TG} {tu : TS} {E : Ends} {Φ : List D → Prop} (hi : IW K wi γ Φ) (S : Sl K Hs0 H0 Hs H σ γ)
    (k : ∀ Hs1 H1 ds, Grow Hs H Hs1 H1 → Φ ds → ∃ I : Nat → Hp → Hp → L2.St → Prop, I 0 Hs1 H1 σ ∧ (∀ i Hs' H' σ', I i Hs' H' σ' → Same Hs1 Hs' ∧ Same Hs' H') ∧
      (∀ i d Hs' H' σ' Hs2 H2 x, ds[i]? = some d → I i Hs' H' σ' → Grow Hs' H' Hs2 H2 → Rep K Hs2 x d → g x σ' H2 fun σ3 H3 => tu { nx := fun σ4 H4 => ∃ Hs4, I (i + 1) Hs4 H4 σ4, rt := E.rt, bk := E.nx, ct := fun σ4 H4 => ∃ Hs4, I (i + 1) Hs4 H4 σ4 } σ3 H3) ∧
      ∀ Hs' H' σ', I ds.length Hs' H' σ' → E.nx σ' H') : tFor wi g tu E σ H := by
  refine hi Hs0 H0 Hs H σ _ S fun Hs1 H1 J ds g1 Y p => ?_
  obtain ⟨I, i0, sm, step, fin⟩ := k Hs1 H1 ds g1 p
  refine ⟨fun i m σ' H' => m = ds.length - i ∧ i ≤ ds.length ∧ ∃ Hs', I i Hs' H' σ', ⟨ds.length, by simp, Nat.zero_le _, Hs1, i0⟩, ?_⟩
  rintro i m σ' H' ⟨rfl, hi, Hs', iv⟩
  obtain ⟨e1, e2⟩ := sm i Hs' H' σ' iv
  by_cases hlt : i < ds.length
  · refine .inr ⟨Y.go i Hs' H' e1 e2 hlt, fun σ2 H2 => ∃ Hs2, I (i + 1) Hs2 H2 σ2, fun σ2 H2 q => ⟨ds.length - (i + 1), by omega, rfl, hlt, q⟩, fun x H'' hy => ?_⟩
    have hd : ds[i]? = some ds[i] := by simp [hlt]
    obtain ⟨Hs2, g2, rx⟩ := Y.yld i Hs' H' ds[i] x H'' e1 e2 hd hy
    exact step i ds[i] Hs' H' σ' Hs2 H'' x hd iv g2 rx
  · have e : i = ds.length := by omega
    subst e
    exact .inl ⟨Y.stop Hs' H' e1 e2, fin Hs' H' σ' iv⟩
theorem set_get {α : Type} {l : List α} {i : Nat} {x : α} (h : l[i]? = some x) : l.set i x = l := by
  apply List.ext_getElem?
  intro j
  by_cases hj : i = j
  · subst hj
    rw [List.getElem?_set_self (List.getElem?_eq_some_iff.mp h).1, h]
  · rw [List.getElem?_set_ne hj]
end
end Z

/-! list(range(..)) as data -/
namespace Z
open PySem PySem.Spec L2 StX
variable [Tabs]
section
variable {K : PySem.W.Frag} {γ : Gam} {ta tb : TE}
theorem rgL (a b : Nat) {H : Hp} : RepL K H (rgV (a : Int) (b : Int)) ((List.range (b - a)).map fun i => .int ((a + i : Nat) : Int)) := by
  unfold rgV
  rw [show ((b : Int) - (a : Int)).toNat = b - a by omega]
  have : ∀ xs : List Nat, RepL K H (xs.map fun i => V.int ((a : Int) + (i : Nat))) (xs.map fun i => .int ((a + i : Nat) : Int)) := fun xs => by
    induction xs with
    | nil => exact .nil
    | cons x xs ih =>
      refine .cons ?_ ih
      show Rep K H (V.int ((a : Int) + (x : Nat))) (D.int ((a + x : Nat) : Int))
      rw [show ((a : Int) + (x : Nat)) = ((a + x : Nat) : Int) by omega]
      exact .int _
  exact this _
theorem en_listRg {Φ : List D → Prop} (h : EW K ta γ fun d => ∃ n : Nat, d = .int (n : Int) ∧ n ≤ sizeS ∧ Φ ((List.range n).map fun (i : Nat) => .int (i : Int))) : EN K (tLstRg (tRg1 ta)) γ Φ := fun Hs0 H0 Hs H σ Q S q =>
  h Hs0 H0 Hs H σ _ S fun Hs1 H1 v d g r ⟨n, e, l, p⟩ => by
    subst e; cases r
    have hs : n ≤ 1000000 := l
    refine ⟨(n : Int), rfl, ⟨by omega, by omega, by omega, by omega, by omega⟩, fun a ha => ?_⟩
    refine q Hs1 _ a _ _ (g.trans (.hid g.b ha)) (g.e.free ha) (g.b.free ha) upd_same ?_ p
    have := rgL (K := K) (H := Hs1) 0 n
    simp only [Nat.sub_zero, Nat.zero_add] at this
    exact this
end
end Z

/-! methods, operators and the making of own objects, over data; errors may leave -/
namespace Z
open PySem PySem.Spec L2 StX NdefX
variable [Tabs]
section
variable {P : Program} {w : World} {K : PySem.W.Frag} {mg : Str → Option Value} {base : Heap}
/-- a method that may let an error out; the first of ds is the object -/
structure MtX (P : Program) (w : World) (K : PySem.W.Frag) (mg : Str → Option Value) (base : Heap) (C m : Str) (k : Nat) (ps : List Str) (n : Nat) (pre : List D → Prop) (post : List D → D → Prop) (xpost : List D → XD → Prop) : Prop where
  ex : ∃ f fd, Meth K (He.ga K C) m f ∧ Binds K fd ps [] ∧ FnOk P w K mg base (L2.CX P w) k f fd ps (spX K n pre post xpost)
theorem mx_mk {C m qual : Str} {params : Arguments} {body : List Stmt} {scope : Scope} {f : Addr} {fd : FuncData} {N ps : List Str} {k : Nat} {pre : List D → Prop} {post : List D → D → Prop} {xpost : List D → XD → Prop} (F : FunD K m qual params body scope [] [] f fd) (hm : Meth K (He.ga K C) m f) (S : FnScope N ps scope)
    (hb : ∀ (kV doc pm : Value) (an : Option Addr) (cdv ct : Value) (us : List Value), us.length = ps.length → bindArgs (PySem.W.fnOf m qual params body scope .none kV doc pm an cdv ct) ⟨us, []⟩ = pure (ps.zip us))
    (hbody : ∀ (cdv : Value) (A : Around) (outer : List Env) (s : Shared) (H : Hp) (E : XK), Room k (A.deeper (PyProof.Rows.envOfC qual scope s.heap.objs.size f cdv)) → ∀ ds, ds.length = ps.length → pre ds →
      ∃ t, PSs (cxOf (L2.CX P w) P w K mg base N qual scope f cdv A outer s H E) body t ∧ ∀ Hs0 H0, Wok K Hs0 H0 Hs0 (WD E) (fun x _ => xpost ds x) → SX K Hs0 H0 Hs0 t (gam0 N.length ds) { nx := fun _ => post ds .non, rt := post ds }) : MtX P w K mg base C m (k + 1) ps ps.length pre post xpost := by
  refine ⟨f, fd, hm, F.bindsN hb, F.ok S (fun vs H Q E h => ?_) (fun cdv A outer s H vs Q E hr h => ?_)⟩
  · obtain ⟨Hs, ds, _, _, r, l, _⟩ := h
    rw [r.length]; exact l
  · obtain ⟨Hs, ds, tb, b, r, l, p, q, qx⟩ := h
    obtain ⟨t, ht, hw⟩ := hbody cdv A outer s H E hr ds l p
    exact ⟨t, ht, hw Hs H (fun Hs' H' σ' γ' cls d x _ S' r' px => qx Hs' H' cls d x S'.gr r' px) Hs H _ _ (.refl _) (sl_start tb b r) (fun Hs' H' σ' γ' e S' p => q Hs' H' _ _ S'.gr .non p) (fun Hs' H' v d g r p => q Hs' H' v d g r p) (fun _ _ _ _ _ _ z => z.elim) (fun _ _ _ _ _ _ z => z.elim)⟩
/-- .. whose code object is known -/
theorem mx_mkT {C m qual : Str} {params : Arguments} {body : List Stmt} {scope : Scope} {fd : FuncData} {N ps : List Str} {k : Nat} {pre : List D → Prop} {post : List D → D → Prop} {xpost : List D → XD → Prop} (F : FunD K m qual params body scope [] [] (He.fAd K (C, some m)) fd) (hm : Meth K (He.ga K C) m (He.fAd K (C, some m))) (S : FnScope N ps scope)
    (hb : ∀ (kV doc pm : Value) (an : Option Addr) (cdv ct : Value) (us : List Value), us.length = ps.length → bindArgs (PySem.W.fnOf m qual params body scope .none kV doc pm an cdv ct) ⟨us, []⟩ = pure (ps.zip us))
    (hbody : ∀ (A : Around) (outer : List Env) (s : Shared) (H : Hp) (E : XK), Room k (A.deeper (PyProof.Rows.envOfC qual scope s.heap.objs.size (He.fAd K (C, some m)) (.ref (He.codeOf K (C, some m))))) → ∀ ds, ds.length = ps.length → pre ds →
      ∃ t, PSs (cxOf (L2.CX P w) P w K mg base N qual scope (He.fAd K (C, some m)) (.ref (He.codeOf K (C, some m))) A outer s H E) body t ∧ ∀ Hs0 H0, Wok K Hs0 H0 Hs0 (WD E) (fun x _ => xpost ds x) → SX K Hs0 H0 Hs0 t (gam0 N.length ds) { nx := fun _ => post ds .non, rt := post ds }) : MtX P w K mg base C m (k + 1) ps ps.length pre post xpost := by
  have bN := F.bindsN hb
  obtain ⟨oc, od, dV, kV, doc, pm, an, cdv, ct, osl, rfl, lk, hcd, _, _⟩ := F.ex
  obtain ⟨c, rfl⟩ := He.codeIn_ref hcd
  have e : He.codeOf K (C, some m) = c := He.codeOf_eq lk rfl
  subst e
  refine ⟨_, _, hm, bN, fn_of lk hcd S (fun vs H Q E h => ?_) (fun A outer s H vs Q E hr h => ?_)⟩
  · obtain ⟨Hs, ds, _, _, r, l, _⟩ := h
    rw [r.length]; exact l
  · obtain ⟨Hs, ds, tb, b, r, l, p, q, qx⟩ := h
    obtain ⟨t, ht, hw⟩ := hbody A outer s H E hr ds l p
    exact ⟨t, ht, hw Hs H (fun Hs' H' σ' γ' cls d x _ S' r' px => qx Hs' H' cls d x S'.gr r' px) Hs H _ _ (.refl _) (sl_start tb b r) (fun Hs' H' σ' γ' e S' p => q Hs' H' _ _ S'.gr .non p) (fun Hs' H' v d g r p => q Hs' H' v d g r p) (fun _ _ _ _ _ _ z => z.elim) (fun _ _ _ _ _ _ z => z.elim)⟩
/-! ### __init__ -/
def spN (K : PySem.W.Frag) (C : Str) (n : Nat) (pre : List D → Prop) (post : List D → List Str → List D → Prop) (xpost : List D → XD → Prop) : Sp := fun vs H Q E => ∃ x dx us Hs ds, vs = .ref x :: us ∧ H x = some (.ins (He.ga K C) dx []) ∧ Hs x = none ∧ TbOk Hs H ∧ Same Hs H ∧ RepL K Hs us ds ∧ ds.length = n ∧ pre ds ∧
  (∀ Hs' H' dx' ns vs' fs, Grow Hs (del H x) Hs' H' → H' x = some (.ins (He.ga K C) dx' (ns.zip vs')) → Hs' x = none → ns.length = fs.length → RepL K Hs' vs' fs → post ds ns fs → Q .non H') ∧
  ∀ Hs' H' cls d e, Grow Hs (del H x) Hs' H' → RepX K Hs' H' cls d e → xpost ds e → E cls d H'
structure MkX (P : Program) (w : World) (K : PySem.W.Frag) (mg : Str → Option Value) (base : Heap) (C : Str) (k : Nat) (ps : List Str) (n : Nat) (pre : List D → Prop) (post : List D → List Str → List D → Prop) (xpost : List D → XD → Prop) : Prop where
  ex : ∃ f fd, Mk K (He.ga K C) f ∧ Binds K fd ps [] ∧ FnOk P w K mg base (L2.CX P w) k f fd ps (spN K C n pre post xpost)
def gamI (C : Str) (x : Addr) (n : Nat) (ds : List D) : Gam := some (.ob (.obj x C [] [])) :: gam0 (n - 1) ds
theorem sl_startI {Hs H : Hp} {N : List Str} {C : Str} {x dx : Addr} {us : List V} {ds : List D} (tb : TbOk Hs H) (b : Same Hs H) (hx : H x = some (.ins (He.ga K C) dx [])) (hs : Hs x = none) (r : RepL K Hs us ds) (hn : 1 ≤ N.length) : Sl K Hs (del H x) Hs H (L2.start N (.ref x :: us)) (gamI C x N.length ds) := by
  have sd : Same (del H x) H := fun a o e => by
    by_cases h : a = x
    · subst h; rw [del_same] at e; cases e
    · rw [del_ne h] at e; exact e
  have bd : Same Hs (del H x) := fun a o e => by rw [del_ne (fun q => by rw [q, hs] at e; cases e)]; exact b _ _ e
  have tbd : TbOk Hs (del H x) := fun P hP => by
    obtain ⟨⟨ps, h1, h2⟩, h3⟩ := tb P hP
    exact ⟨⟨ps, by rw [del_ne (fun q => by rw [q, hx] at h1; cases h1)]; exact h1, h2⟩, h3⟩
  obtain ⟨n0, N', rfl⟩ : ∃ n0 N', N = n0 :: N' := match N, hn with | a :: b, _ => ⟨a, b, rfl⟩
  have S0 : Sl K Hs (del H x) Hs (del H x) (L2.start N' us) (gam0 N'.length ds) := sl_start tbd bd r
  have gr : Grow Hs (del H x) Hs H := ⟨.refl _, .of sd, b, fun _ _ _ h => h, fun _ => tb⟩
  have S1 := S0.grow gr
  have e1 : L2.start (n0 :: N') (.ref x :: us) = some (.ref x) :: L2.start N' us := by
    unfold L2.start
    simp
  have e2 : gamI C x (n0 :: N').length ds = some (.ob (.obj x C [] [])) :: gam0 N'.length ds := rfl
  rw [e1, e2]
  have nog : ∀ (i : Nat) (s : Slot), (gam0 N'.length ds)[i]? = some (some s) → s.isO = false := fun i s h => by
    unfold gam0 at h
    by_cases hi : i < ds.length
    · rw [List.getElem?_append_left (by simpa using hi), List.getElem?_map] at h
      cases e : ds[i]? with
      | none => rw [e] at h; cases h
      | some d => rw [e] at h; cases h; rfl
    · rw [List.getElem?_append_right (by simpa using hi), List.getElem?_replicate] at h
      split at h <;> cases h
  refine ⟨gr, by rw [List.length_cons, List.length_cons, S1.len], fun i s h => ?_, fun i s a h ho h' => ?_, fun i j s t a h1 h2 o1 o2 h3 h4 => ?_, tb⟩
  · match i, h with
    | 0, h =>
      cases h
      exact ⟨.ref x, rfl, x, _, rfl, hs, hx, rfl, dx, [], rfl, rfl, .nil⟩
    | i + 1, h => exact S1.ok i s h
  · match i, h, h' with
    | 0, h, h' => cases h'; exact del_same
    | i + 1, h, h' => rw [nog i s h] at ho; cases ho
  · match i, h1 with
    | 0, h1 =>
      match j, h2 with
      | 0, _ => rfl
      | j + 1, h2 => rw [nog j t h2] at o2; cases o2
    | i + 1, h1 => rw [nog i s h1] at o1; cases o1
theorem mkx_mk {C qual : Str} {params : Arguments} {body : List Stmt} {scope : Scope} {f : Addr} {fd : FuncData} {N ps : List Str} {p0 : Str} {k : Nat} {pre : List D → Prop} {post : List D → List Str → List D → Prop} {xpost : List D → XD → Prop} (F : FunD K "__init__" qual params body scope [] [] f fd) (hm : Meth K (He.ga K C) "__init__" f) (mk : MkF K (He.ga K C)) (S : FnScope N (p0 :: ps) scope) (hN : 1 ≤ N.length)
    (hb : ∀ (kV doc pm : Value) (an : Option Addr) (cdv ct : Value) (us : List Value), us.length = (p0 :: ps).length → bindArgs (PySem.W.fnOf "__init__" qual params body scope .none kV doc pm an cdv ct) ⟨us, []⟩ = pure ((p0 :: ps).zip us))
    (hbody : ∀ (cdv : Value) (A : Around) (outer : List Env) (s : Shared) (H : Hp) (E : XK), Room k (A.deeper (PyProof.Rows.envOfC qual scope s.heap.objs.size f cdv)) → ∀ ds, ds.length = ps.length → pre ds →
      ∃ t, PSs (cxOf (L2.CX P w) P w K mg base N qual scope f cdv A outer s H E) body t ∧ ∀ Hs0 H0 x, Wok K Hs0 H0 Hs0 (WD E) (fun x _ => xpost ds x) → SX K Hs0 H0 Hs0 t (gamI C x N.length ds) { nx := fun γ => ∃ ns fs, γ[0]? = some (some (.ob (.obj x C ns fs))) ∧ post ds ns fs, rt := fun _ => False }) : MkX P w K mg base C (k + 1) (p0 :: ps) ps.length pre post xpost := by
  refine ⟨f, fd, ⟨mk.makes, hm.at_, hm.fn, mk.kp⟩, F.bindsN hb, F.ok S (fun vs H Q E h => ?_) (fun cdv A outer s H vs Q E hr h => ?_)⟩
  · obtain ⟨x, dx, us, Hs, ds, rfl, _, _, _, _, r, l, _⟩ := h
    rw [List.length_cons, List.length_cons, r.length, l]
  · obtain ⟨x, dx, us, Hs, ds, rfl, hx, hs, tb, b, r, l, p, q, qx⟩ := h
    obtain ⟨t, ht, hw⟩ := hbody cdv A outer s H E hr ds l p
    refine ⟨t, ht, hw Hs (del H x) x (fun Hs' H' σ' γ' cls d e _ S' r' px => qx Hs' H' cls d e S'.gr r' px) Hs H _ _ (.refl _) (sl_startI tb b hx hs r hN) (fun Hs' H' σ' γ' e S' ⟨ns, fs, hg, po⟩ => ?_) (fun _ _ _ _ _ _ z => z.elim) (fun _ _ _ _ _ _ z => z.elim) (fun _ _ _ _ _ _ z => z.elim)⟩
    obtain ⟨v, hv, a, o, rfl, k1, k2, rfl, dx', vs', rfl, kl, kr⟩ := S'.ok 0 _ hg
    exact q Hs' H' dx' ns vs' fs S'.gr k2 k1 kl kr po
end
/-! ### judgements -/
def CallN (n : Nat) (pre : List D → Prop) (post : List D → D → Prop) (xpost : List D → XD → Prop) (Φ : D → Prop) (ds : List D) : Prop := ds.length = n ∧ pre ds ∧ (∀ d, post ds d → Φ d) ∧ ∀ x, xpost ds x → False
theorem call_n {n : Nat} {pre : List D → Prop} {post : List D → D → Prop} {xpost : List D → XD → Prop} {Φ : D → Prop} {ds : List D} (l : ds.length = n) (h : pre ds) (kx : ∀ x, xpost ds x → False) (k : ∀ d, post ds d → Φ d) : CallN n pre post xpost Φ ds := ⟨l, h, k, kx⟩
section
variable {K : PySem.W.Frag} {Hs0 H0 Hb : Hp} {γ : Gam} {ta tb te : TE} {tr : TA} {Φ : D → Prop} {W : WX} {Ψ : XD → Gam → Prop} {C : Str} {n : Nat} {pre : List D → Prop} {post : List D → D → Prop} {xpost : List D → XD → Prop} {E : L2.St → XK}
theorem ew_callX (h : AW K tr γ fun ds => CallN n pre post xpost Φ ds) : EW K (tCallS (spX K n pre post xpost) E tr) γ Φ := fun Hs0 H0 Hs H σ Q S q =>
  h Hs0 H0 Hs H σ _ S fun Hs1 H1 vs ds g1 r1 ⟨l, p, k, kx⟩ => ⟨Hs1, ds, g1.t S.tb, g1.b, r1, l, p, fun Hs2 H2 v d g2 r2 ps => q _ _ _ _ (g1.trans g2) r2 (k d ps), fun Hs2 H2 cls d x g2 r2 ps => (kx x ps).elim⟩
/-- o, then arguments -/
theorem ew_ow (h : EW K ta γ fun d => ∃ ns fs, d = .obj C ns fs ∧ AW K tr γ fun ds => CallN n pre post xpost Φ (.obj C ns fs :: ds)) : EW K (tOw (He.ga K C) (spX K n pre post xpost) E ta tr) γ Φ := fun Hs0 H0 Hs H σ Q S q =>
  h Hs0 H0 Hs H σ _ S fun Hs1 H1 v x g1 r1 ⟨ns, fs, e, p⟩ => by
    subst e
    have r := r1
    cases r1 with
    | obj h1 l rr =>
      exact p Hs0 H0 Hs1 H1 σ _ (S.grow g1) fun Hs2 H2 vs ds g2 r2 ⟨l2, pp, k, kx⟩ =>
        ⟨_, _, _, rfl, g2.b _ _ (g2.s _ _ h1), Hs2, _, g2.t (g1.t S.tb), g2.b, .cons (r.mono g2.s) r2, l2, pp, fun Hs3 H3 u d g3 r3 ps => q _ _ _ _ ((g1.trans g2).trans g3) r3 (k d ps), fun _ _ _ _ x _ _ ps => (kx x ps).elim⟩
theorem ex_ow (hW : Wok K Hs0 H0 Hb W Ψ) (h : EX K Hs0 H0 Hb ta γ fun d => ∃ ns fs, d = .obj C ns fs ∧ AX K Hs0 H0 Hb tr γ fun ds => CallX n pre post xpost Φ (fun x => Ψ x γ) (.obj C ns fs :: ds)) : EX K Hs0 H0 Hb (tOw (He.ga K C) (spX K n pre post xpost) (WE W) ta tr) γ Φ := fun Hs H σ Q hb S q =>
  h Hs H σ _ hb S fun Hs1 H1 v x g1 r1 ⟨ns, fs, e, p⟩ => by
    subst e
    have r := r1
    cases r1 with
    | obj h1 l rr =>
      exact p Hs1 H1 σ _ (hb.trans g1.s) (S.grow g1) fun Hs2 H2 vs ds g2 r2 ⟨l2, pp, k, kx⟩ =>
        ⟨_, _, _, rfl, g2.b _ _ (g2.s _ _ h1), Hs2, _, g2.t (g1.t S.tb), g2.b, .cons (r.mono g2.s) r2, l2, pp, fun Hs3 H3 u d g3 r3 ps => q _ _ _ _ ((g1.trans g2).trans g3) r3 (k d ps),
          fun Hs3 H3 cls d x g3 r3 ps => hW Hs3 H3 σ γ cls d x (hb.trans ((g1.trans g2).trans g3).s) (S.grow ((g1.trans g2).trans g3)) r3 (kx x ps)⟩
theorem ew_owB (h : EW K ta γ fun x => EW K tb γ fun y => ∃ ns fs ms gs, x = .obj C ns fs ∧ y = .obj C ms gs ∧ CallN n pre post xpost Φ [x, y]) : EW K (tOwB (He.ga K C) (spX K n pre post xpost) E ta tb) γ Φ := fun Hs0 H0 Hs H σ Q S q =>
  h Hs0 H0 Hs H σ _ S fun Hs1 H1 v x g1 r1 p => p Hs0 H0 Hs1 H1 σ _ (S.grow g1) fun Hs2 H2 u y g2 r2 ⟨ns, fs, ms, gs, e1, e2, l2, pp, k, kx⟩ => by
    have rr1 := r1.mono g2.s
    have rr2 := r2
    subst e1 e2
    cases r1 with
    | obj h1 l rr =>
      cases r2 with
      | obj h2 l' rr' =>
        exact ⟨⟨_, _, _, rfl, g2.b _ _ (g2.s _ _ h1)⟩, ⟨_, _, _, rfl, g2.b _ _ h2⟩, Hs2, _, g2.t (g1.t S.tb), g2.b, .cons rr1 (.cons rr2 .nil), l2, pp, fun Hs3 H3 u d g3 r3 ps => q _ _ _ _ ((g1.trans g2).trans g3) r3 (k d ps), fun _ _ _ _ x _ _ ps => (kx x ps).elim⟩
theorem ex_owB (hW : Wok K Hs0 H0 Hb W Ψ) (h : EX K Hs0 H0 Hb ta γ fun x => EX K Hs0 H0 Hb tb γ fun y => ∃ ns fs ms gs, x = .obj C ns fs ∧ y = .obj C ms gs ∧ CallX n pre post xpost Φ (fun x => Ψ x γ) [x, y]) : EX K Hs0 H0 Hb (tOwB (He.ga K C) (spX K n pre post xpost) (WE W) ta tb) γ Φ := fun Hs H σ Q hb S q =>
  h Hs H σ _ hb S fun Hs1 H1 v x g1 r1 p => p Hs1 H1 σ _ (hb.trans g1.s) (S.grow g1) fun Hs2 H2 u y g2 r2 ⟨ns, fs, ms, gs, e1, e2, l2, pp, k, kx⟩ => by
    have rr1 := r1.mono g2.s
    have rr2 := r2
    subst e1 e2
    cases r1 with
    | obj h1 l rr =>
      cases r2 with
      | obj h2 l' rr' =>
        exact ⟨⟨_, _, _, rfl, g2.b _ _ (g2.s _ _ h1)⟩, ⟨_, _, _, rfl, g2.b _ _ h2⟩, Hs2, _, g2.t (g1.t S.tb), g2.b, .cons rr1 (.cons rr2 .nil), l2, pp, fun Hs3 H3 u d g3 r3 ps => q _ _ _ _ ((g1.trans g2).trans g3) r3 (k d ps),
          fun Hs3 H3 cls d x g3 r3 ps => hW Hs3 H3 σ γ cls d x (hb.trans ((g1.trans g2).trans g3).s) (S.grow ((g1.trans g2).trans g3)) r3 (kx x ps)⟩
theorem ew_owI (h : EW K ta γ fun x => EW K tb γ fun y => ∃ ns fs i, x = .obj C ns fs ∧ y = .int i ∧ CallN n pre post xpost Φ [x, y]) : EW K (tOwI (He.ga K C) (spX K n pre post xpost) E ta tb) γ Φ := fun Hs0 H0 Hs H σ Q S q =>
  h Hs0 H0 Hs H σ _ S fun Hs1 H1 v x g1 r1 p => p Hs0 H0 Hs1 H1 σ _ (S.grow g1) fun Hs2 H2 u y g2 r2 ⟨ns, fs, i, e1, e2, l2, pp, k, kx⟩ => by
    have rr1 := r1.mono g2.s
    have rr2 := r2
    subst e1 e2
    cases r1 with
    | obj h1 l rr =>
      cases r2
      exact ⟨⟨_, _, _, rfl, g2.b _ _ (g2.s _ _ h1)⟩, ⟨_, rfl⟩, Hs2, _, g2.t (g1.t S.tb), g2.b, .cons rr1 (.cons rr2 .nil), l2, pp, fun Hs3 H3 u d g3 r3 ps => q _ _ _ _ ((g1.trans g2).trans g3) r3 (k d ps), fun _ _ _ _ x _ _ ps => (kx x ps).elim⟩
theorem ex_owI (hW : Wok K Hs0 H0 Hb W Ψ) (h : EX K Hs0 H0 Hb ta γ fun x => EX K Hs0 H0 Hb tb γ fun y => ∃ ns fs i, x = .obj C ns fs ∧ y = .int i ∧ CallX n pre post xpost Φ (fun x => Ψ x γ) [x, y]) : EX K Hs0 H0 Hb (tOwI (He.ga K C) (spX K n pre post xpost) (WE W) ta tb) γ Φ := fun Hs H σ Q hb S q =>
  h Hs H σ _ hb S fun Hs1 H1 v x g1 r1 p => p Hs1 H1 σ _ (hb.trans g1.s) (S.grow g1) fun Hs2 H2 u y g2 r2 ⟨ns, fs, i, e1, e2, l2, pp, k, kx⟩ => by
    have rr1 := r1.mono g2.s
    have rr2 := r2
    subst e1 e2
    cases r1 with
    | obj h1 l rr =>
      cases r2
      exact ⟨⟨_, _, _, rfl, g2.b _ _ (g2.s _ _ h1)⟩, ⟨_, rfl⟩, Hs2, _, g2.t (g1.t S.tb), g2.b, .cons rr1 (.cons rr2 .nil), l2, pp, fun Hs3 H3 u d g3 r3 ps => q _ _ _ _ ((g1.trans g2).trans g3) r3 (k d ps),
        fun Hs3 H3 cls d x g3 r3 ps => hW Hs3 H3 σ γ cls d x (hb.trans ((g1.trans g2).trans g3).s) (S.grow ((g1.trans g2).trans g3)) r3 (kx x ps)⟩
/-- x == y by __eq__ -/
theorem ew_owEq (h : EW K ta γ fun x => EW K tb γ fun y => ∃ ns fs, x = .obj C ns fs ∧ ((∃ ms gs, y = .obj C ms gs) ∨ ∃ i, y = .int i ∧ PySem.W.subIn K (.type "int") (.ref (He.ga K C)) = some false) ∧ CallN n pre post xpost Φ [x, y]) : EW K (tOp (rOwEq K (He.ga K C) (spX K n pre post xpost)) ta tb) γ Φ := fun Hs0 H0 Hs H σ Q S q =>
  h Hs0 H0 Hs H σ _ S fun Hs1 H1 v x g1 r1 p => p Hs0 H0 Hs1 H1 σ _ (S.grow g1) fun Hs2 H2 u y g2 r2 ⟨ns, fs, e1, hy, l2, pp, k, kx⟩ => by
    have rr1 := r1.mono g2.s
    have rr2 := r2
    have hsp : spX K n pre post xpost [v, u] H2 Q fun _ _ _ => False := ⟨Hs2, _, g2.t (g1.t S.tb), g2.b, .cons rr1 (.cons rr2 .nil), l2, pp, fun Hs3 H3 u d g3 r3 ps => q _ _ _ _ ((g1.trans g2).trans g3) r3 (k d ps), fun _ _ _ _ x _ _ ps => kx x ps⟩
    subst e1
    cases r1 with
    | obj h1 l rr =>
      refine ⟨⟨_, _, _, rfl, g2.b _ _ (g2.s _ _ h1)⟩, ?_, hsp⟩
      rcases hy with ⟨ms, gs, e⟩ | ⟨i, e, hs⟩
      · subst e
        cases r2 with
        | obj h2 l' rr' => exact .inl ⟨_, _, _, rfl, g2.b _ _ h2⟩
      · subst e
        cases r2
        exact .inr ⟨i, rfl, hs⟩
/-- o.m(..) -/
theorem ew_mtX {m : Str} (h : EW K ta γ fun d => ∃ ns fs, d = .obj C ns fs ∧ m ∉ ns ∧ AW K tr γ fun ds => CallN n pre post xpost Φ (.obj C ns fs :: ds)) : EW K (tMethS (He.ga K C) m (spX K n pre post xpost) E ta tr) γ Φ := fun Hs0 H0 Hs H σ Q S q =>
  h Hs0 H0 Hs H σ _ S fun Hs1 H1 v x g1 r1 ⟨ns, fs, e, hm, p⟩ => by
    subst e
    have r := r1
    cases r1 with
    | obj h1 l rr =>
      exact ⟨_, _, _, rfl, g1.b _ _ h1, zip_no hm, p Hs0 H0 Hs1 H1 σ _ (S.grow g1) fun Hs2 H2 vs ds g2 r2 ⟨l2, pp, k, kx⟩ =>
        ⟨Hs2, _, g2.t (g1.t S.tb), g2.b, .cons (r.mono g2.s) r2, l2, pp, fun Hs3 H3 u d g3 r3 ps => q _ _ _ _ ((g1.trans g2).trans g3) r3 (k d ps), fun _ _ _ _ x _ _ ps => (kx x ps).elim⟩⟩
theorem ex_mtX {m : Str} (hW : Wok K Hs0 H0 Hb W Ψ) (h : EX K Hs0 H0 Hb ta γ fun d => ∃ ns fs, d = .obj C ns fs ∧ m ∉ ns ∧ AX K Hs0 H0 Hb tr γ fun ds => CallX n pre post xpost Φ (fun x => Ψ x γ) (.obj C ns fs :: ds)) : EX K Hs0 H0 Hb (tMethS (He.ga K C) m (spX K n pre post xpost) (WE W) ta tr) γ Φ := fun Hs H σ Q hb S q =>
  h Hs H σ _ hb S fun Hs1 H1 v x g1 r1 ⟨ns, fs, e, hm, p⟩ => by
    subst e
    have r := r1
    cases r1 with
    | obj h1 l rr =>
      exact ⟨_, _, _, rfl, g1.b _ _ h1, zip_no hm, p Hs1 H1 σ _ (hb.trans g1.s) (S.grow g1) fun Hs2 H2 vs ds g2 r2 ⟨l2, pp, k, kx⟩ =>
        ⟨Hs2, _, g2.t (g1.t S.tb), g2.b, .cons (r.mono g2.s) r2, l2, pp, fun Hs3 H3 u d g3 r3 ps => q _ _ _ _ ((g1.trans g2).trans g3) r3 (k d ps),
          fun Hs3 H3 cls d x g3 r3 ps => hW Hs3 H3 σ γ cls d x (hb.trans ((g1.trans g2).trans g3).s) (S.grow ((g1.trans g2).trans g3)) r3 (kx x ps)⟩⟩
/-- o(..) -/
def tCallOX (C : Addr) (sp : Sp) (E : L2.St → XK) (te : TE) (t : TA) : TE := fun σ H Q => te σ H fun y H1 => ∃ a, y = V.ref a ∧ t σ H1 fun vs H2 => (∃ dx fs, H2 a = some (.ins C dx fs)) ∧ sp (V.ref a :: vs) H2 Q (E σ)
theorem ew_callOX (h : EW K ta γ fun d => ∃ ns fs, d = .obj C ns fs ∧ AW K tr γ fun ds => CallN n pre post xpost Φ (.obj C ns fs :: ds)) : EW K (tCallOX (He.ga K C) (spX K n pre post xpost) E ta tr) γ Φ := fun Hs0 H0 Hs H σ Q S q =>
  h Hs0 H0 Hs H σ _ S fun Hs1 H1 v x g1 r1 ⟨ns, fs, e, p⟩ => by
    subst e
    have r := r1
    cases r1 with
    | obj h1 l rr =>
      exact ⟨_, rfl, p Hs0 H0 Hs1 H1 σ _ (S.grow g1) fun Hs2 H2 vs ds g2 r2 ⟨l2, pp, k, kx⟩ =>
        ⟨⟨_, _, g2.b _ _ (g2.s _ _ h1)⟩, Hs2, _, g2.t (g1.t S.tb), g2.b, .cons (r.mono g2.s) r2, l2, pp, fun Hs3 H3 u d g3 r3 ps => q _ _ _ _ ((g1.trans g2).trans g3) r3 (k d ps), fun _ _ _ _ x _ _ ps => (kx x ps).elim⟩⟩
theorem ex_callOX (hW : Wok K Hs0 H0 Hb W Ψ) (h : EX K Hs0 H0 Hb ta γ fun d => ∃ ns fs, d = .obj C ns fs ∧ AX K Hs0 H0 Hb tr γ fun ds => CallX n pre post xpost Φ (fun x => Ψ x γ) (.obj C ns fs :: ds)) : EX K Hs0 H0 Hb (tCallOX (He.ga K C) (spX K n pre post xpost) (WE W) ta tr) γ Φ := fun Hs H σ Q hb S q =>
  h Hs H σ _ hb S fun Hs1 H1 v x g1 r1 ⟨ns, fs, e, p⟩ => by
    subst e
    have r := r1
    cases r1 with
    | obj h1 l rr =>
      exact ⟨_, rfl, p Hs1 H1 σ _ (hb.trans g1.s) (S.grow g1) fun Hs2 H2 vs ds g2 r2 ⟨l2, pp, k, kx⟩ =>
        ⟨⟨_, _, g2.b _ _ (g2.s _ _ h1)⟩, Hs2, _, g2.t (g1.t S.tb), g2.b, .cons (r.mono g2.s) r2, l2, pp, fun Hs3 H3 u d g3 r3 ps => q _ _ _ _ ((g1.trans g2).trans g3) r3 (k d ps),
          fun Hs3 H3 cls d x g3 r3 ps => hW Hs3 H3 σ γ cls d x (hb.trans ((g1.trans g2).trans g3).s) (S.grow ((g1.trans g2).trans g3)) r3 (kx x ps)⟩⟩
end
/-! ### C(..) -/
section
variable {K : PySem.W.Frag} {Hs0 H0 Hb : Hp} {γ : Gam} {tr : TA} {Φ : D → Prop} {W : WX} {Ψ : XD → Gam → Prop} {C : Str} {n : Nat} {pre : List D → Prop} {post : List D → List Str → List D → Prop} {xpost : List D → XD → Prop} {E : L2.St → XK}
theorem made_pre {Hs H : Hp} {x dx : Addr} {C : Addr} (b : Same Hs H) (tb : TbOk Hs H) (hx : H x = none) (hd : H dx = none) (ne : dx ≠ x) : TbOk Hs (upd (upd H dx (.own x)) x (.ins C dx [])) ∧ Same Hs (upd (upd H dx (.own x)) x (.ins C dx [])) ∧ ∀ a o, H a = some o → del (upd (upd H dx (.own x)) x (.ins C dx [])) x a = some o := by
  have h1 : ∀ a o, H a = some o → upd (upd H dx (.own x)) x (.ins C dx []) a = some o := fun a o e => by
    rw [upd_ne (ne_of_none e hx), upd_ne (ne_of_none e hd)]; exact e
  refine ⟨tb.mono h1 fun a o e n => n, fun a o e => h1 _ _ (b _ _ e), fun a o e => ?_⟩
  rw [del_ne (ne_of_none e hx)]; exact h1 a o e
theorem made_ok {Hs1 H1 Hs2 H2 : Hp} {x dx dx' : Addr} {C C' : Addr} {fs : List (Str × V)} (b : Same Hs1 H1) (hx : H1 x = none) (hd : H1 dx = none) (ne : dx ≠ x) (g : Grow Hs1 (del (upd (upd H1 dx (.own x)) x (.ins C dx [])) x) Hs2 H2) (h2 : H2 x = some (.ins C' dx' fs)) (hs2 : Hs2 x = none) : Grow Hs1 H1 (upd Hs2 x (.ins C' dx' fs)) H2 := by
  have k : ∀ a o, H1 a = some o → del (upd (upd H1 dx (.own x)) x (.ins C dx [])) x a = some o := fun a o e => by
    rw [del_ne (ne_of_none e hx), upd_ne (ne_of_none e hx), upd_ne (ne_of_none e hd)]; exact e
  refine ⟨g.s.trans (sameNew hs2), fun a o e => g.e a o (k a o e), fun a o e => ?_, fun a o e n => ?_, fun t P hP => ?_⟩
  · by_cases h : a = x
    · subst h; rw [upd_same] at e; cases e; exact h2
    · rw [upd_ne h] at e; exact g.b _ _ e
  · rw [upd_ne (ne_of_none e hx)]; exact g.n a o (k a o e) n
  · have t2 : TbOk Hs1 (del (upd (upd H1 dx (.own x)) x (.ins C dx [])) x) := t.mono (k) fun a o e n => n
    obtain ⟨⟨ps, q1, q2⟩, q3⟩ := g.t t2 P hP
    exact ⟨⟨ps, q1, q2⟩, by rw [upd_ne (fun q => by rw [q, h2] at q1; cases q1)]; exact q3⟩
theorem made_x {Hs1 H1 Hs2 H2 : Hp} {x dx : Addr} {C : Addr} (hx : H1 x = none) (hd : H1 dx = none) (g : Grow Hs1 (del (upd (upd H1 dx (.own x)) x (.ins C dx [])) x) Hs2 H2) : Grow Hs1 H1 Hs2 H2 := by
  have k : ∀ a o, H1 a = some o → del (upd (upd H1 dx (.own x)) x (.ins C dx [])) x a = some o := fun a o e => by
    rw [del_ne (ne_of_none e hx), upd_ne (ne_of_none e hx), upd_ne (ne_of_none e hd)]; exact e
  exact ⟨g.s, fun a o e => g.e a o (k a o e), g.b, fun a o e n => g.n a o (k a o e) n, fun t => g.t (t.mono k fun a o e n => n)⟩
theorem ew_mkX (h : AW K tr γ fun ds => ds.length = n ∧ pre ds ∧ (∀ ns fs, post ds ns fs → Φ (.obj C ns fs)) ∧ ∀ x, xpost ds x → False) : EW K (tMakeS (He.ga K C) (spN K C n pre post xpost) E tr) γ Φ := fun Hs0 H0 Hs H σ Q S q =>
  h Hs0 H0 Hs H σ _ S fun Hs1 H1 vs ds g1 r1 ⟨l, p, k, kx⟩ x dx hx hd ne => by
    obtain ⟨m1, m2, m3⟩ := made_pre (C := He.ga K C) g1.b (g1.t S.tb) hx hd ne
    refine ⟨x, dx, vs, Hs1, ds, rfl, upd_same, g1.b.free hx, m1, m2, r1, l, p, fun Hs2 H2 dx' ns vs' fs g2 h2 hs2 hl hr po => ⟨rfl, ?_⟩, fun _ _ _ _ e _ _ ps => (kx e ps).elim⟩
    have g3 := made_ok g1.b hx hd ne g2 h2 hs2
    exact q _ _ _ _ (g1.trans g3) (.obj upd_same hl (RepL.mono (sameNew hs2) hr)) (k ns fs po)
theorem ex_mkX (hW : Wok K Hs0 H0 Hb W Ψ) (h : AX K Hs0 H0 Hb tr γ fun ds => ds.length = n ∧ pre ds ∧ (∀ ns fs, post ds ns fs → Φ (.obj C ns fs)) ∧ ∀ x, xpost ds x → Ψ x γ) : EX K Hs0 H0 Hb (tMakeS (He.ga K C) (spN K C n pre post xpost) (WE W) tr) γ Φ := fun Hs H σ Q hb S q =>
  h Hs H σ _ hb S fun Hs1 H1 vs ds g1 r1 ⟨l, p, k, kx⟩ x dx hx hd ne => by
    obtain ⟨m1, m2, m3⟩ := made_pre (C := He.ga K C) g1.b (g1.t S.tb) hx hd ne
    refine ⟨x, dx, vs, Hs1, ds, rfl, upd_same, g1.b.free hx, m1, m2, r1, l, p, fun Hs2 H2 dx' ns vs' fs g2 h2 hs2 hl hr po => ⟨rfl, ?_⟩, fun Hs2 H2 cls d e g2 r2 ps => ?_⟩
    · have g3 := made_ok g1.b hx hd ne g2 h2 hs2
      exact q _ _ _ _ (g1.trans g3) (.obj upd_same hl (RepL.mono (sameNew hs2) hr)) (k ns fs po)
    · have g3 := g1.trans (made_x hx hd g2)
      exact hW Hs2 H2 σ γ cls d e (hb.trans g3.s) (S.grow g3) r2 (kx e ps)
end
/-! ### self.f = e -/
section
variable {K : PySem.W.Frag} {Hs0 H0 Hb : Hp} {γ : Gam} {te : TE} {Ω : Out} {i : Nat}
theorem putF_zip {f : Str} {y : V} : ∀ {ns : List Str} {vs : List V}, f ∉ ns → ns.length = vs.length → putF f y (ns.zip vs) = (ns ++ [f]).zip (vs ++ [y])
  | [], [], _, _ => rfl
  | [], _ :: _, _, h => by cases h
  | _ :: _, [], _, h => by cases h
  | n :: ns, v :: vs, hf, hl => by
    have hn : ¬ n = f := fun e => hf (by rw [e]; exact List.mem_cons_self)
    have ih := putF_zip (y := y) (ns := ns) (vs := vs) (fun h => hf (List.mem_cons_of_mem _ h)) (by simpa using hl)
    show (if n = f then (n, y) :: ns.zip vs else (n, v) :: putF f y (ns.zip vs)) = _
    rw [if_neg hn, ih]; rfl
theorem sw_fld {f : Str} {p : Addr} {c : Str} {ns : List Str} {ds : List D} (hg : γ[i]? = some (some (.ob (.obj p c ns ds)))) (hc : Cls K (He.ga K c)) (na : NoAttr K (He.ga K c) f) (hf : f ∉ ns) (hl : ns.length < 900) (h : EW K te γ fun d => Ω.nx (γ.set i (some (.ob (.obj p c (ns ++ [f]) (ds ++ [d])))))) : SW K (sFld K (tVar i) te f) γ Ω := fun Hs0 H0 Hs H σ E S kn kr _ _ =>
  h Hs0 H0 Hs H σ _ S fun Hs1 H1 v d g1 r1 pp => by
    have S1 := S.grow g1
    obtain ⟨u, hu, a, o, rfl, k1, k2, rfl, dx, vs, rfl, kl, kr'⟩ := S1.ok i _ hg
    have el : ns.length = vs.length := by rw [kl, kr'.length]
    refine ⟨.ref a, hu, a, _, dx, _, rfl, k2, hc, na, by rw [List.length_zip]; omega, ?_⟩
    rw [putF_zip hf el]
    exact kn Hs1 _ σ _ g1.s (S1.putB (s' := .ob (.obj a c (ns ++ [f]) (ds ++ [d]))) i hg rfl hu rfl ⟨rfl, dx, _, rfl, by rw [List.length_append, List.length_append, kl]; rfl, kr'.append (.cons r1 .nil)⟩) pp
end
section
variable {X : Cx}
theorem pe_mX {C m : Str} {k j n : Nat} {ps : List Str} {pre : List D → Prop} {post : List D → D → Prop} {xpost : List D → XD → Prop} {W : WX} {pos apos : Pos} {o e : Expr} {es : List Expr} {ta : TE} {t : TA} {pl : Sem Bool} (K : PySem.W.Frag) (hK : X.K = K) (ho : PE X o ta) (c : Cls K (He.ga K C)) (g : MtX X.prog X.w K X.mg X.base C m j ps n pre post xpost) (hr : Room k X.A) (hj : j ≤ k) (tk : Takes X W)
    (ha : PA X (e :: es) t) (he : starEach (e :: es) X.env = (false, eval e X.env) :: starEach es X.env := by rfl) (hpl : (backTo pos (starEach es X.env)).any (·.1) = false := by rfl)
    (hev : eval (.Call (.Attribute o m apos) (e :: es) [] pos) X.env = (do
      let ov ← eval o X.env
      standAt apos.atName
      let (f, first) ← holding [ov] (getMethod ov m pl)
      callWith pos f first (backTo pos (starEach (e :: es) X.env)) (backToKw pos (keywordEach [] X.env))) := by rfl) :
    PE X (.Call (.Attribute o m apos) (e :: es) [] pos) (tMethS (He.ga K C) m (spX K n pre post xpost) (WE W) ta t) := by
  subst hK
  obtain ⟨f, fd, h1, h2, h3⟩ := g.ex
  exact pe_methX (pl := pl) ho c h1 h3 (hr.mono hj) h2 (fun σ => passAt tk σ) ha he hpl hev
theorem pe_mX0 {C m : Str} {k j n : Nat} {ps : List Str} {pre : List D → Prop} {post : List D → D → Prop} {xpost : List D → XD → Prop} {W : WX} {pos apos : Pos} {o : Expr} {ta : TE} {pl : Sem Bool} (K : PySem.W.Frag) (hK : X.K = K) (ho : PE X o ta) (c : Cls K (He.ga K C)) (g : MtX X.prog X.w K X.mg X.base C m j ps n pre post xpost) (hr : Room k X.A) (hj : j ≤ k) (tk : Takes X W)
    (hev : eval (.Call (.Attribute o m apos) [] [] pos) X.env = (do
      let ov ← eval o X.env
      standAt apos.atName
      let (f, first) ← holding [ov] (getMethod ov m pl)
      callWith pos f first (backTo pos (starEach [] X.env)) (backToKw pos (keywordEach [] X.env))) := by rfl) :
    PE X (.Call (.Attribute o m apos) [] [] pos) (tMethS (He.ga K C) m (spX K n pre post xpost) (WE W) ta tNil) := by
  subst hK
  obtain ⟨f, fd, h1, h2, h3⟩ := g.ex
  exact pe_methX0 (pl := pl) ho c h1 h3 (hr.mono hj) h2 (fun σ => passAt tk σ) hev
theorem pe_negX {C : Str} {k j n : Nat} {ps : List Str} {pre : List D → Prop} {post : List D → D → Prop} {xpost : List D → XD → Prop} {W : WX} {pos : Pos} {o : Expr} {ta : TE} (K : PySem.W.Frag) (hK : X.K = K) (ho : PE X o ta) (g : MtX X.prog X.w K X.mg X.base C "__neg__" j ps n pre post xpost) (hr : Room k X.A) (hj : j ≤ k) (tk : Takes X W) : PE X (.UnaryOp .USub o pos) (tOw (He.ga K C) (spX K n pre post xpost) (WE W) ta tNil) := by
  subst hK
  obtain ⟨f, fd, h1, h2, h3⟩ := g.ex
  exact pe_ownNeg ho h1 h3 (hr.mono hj) h2 (fun σ => passAt tk σ)
theorem pe_invX {C : Str} {k j n : Nat} {ps : List Str} {pre : List D → Prop} {post : List D → D → Prop} {xpost : List D → XD → Prop} {W : WX} {pos : Pos} {o : Expr} {ta : TE} (K : PySem.W.Frag) (hK : X.K = K) (ho : PE X o ta) (g : MtX X.prog X.w K X.mg X.base C "__invert__" j ps n pre post xpost) (hr : Room k X.A) (hj : j ≤ k) (tk : Takes X W) : PE X (.UnaryOp .Invert o pos) (tOw (He.ga K C) (spX K n pre post xpost) (WE W) ta tNil) := by
  subst hK
  obtain ⟨f, fd, h1, h2, h3⟩ := g.ex
  exact pe_ownInv ho h1 h3 (hr.mono hj) h2 (fun σ => passAt tk σ)
theorem pe_binX {C m : Str} {op : Operator} {k j n : Nat} {ps : List Str} {pre : List D → Prop} {post : List D → D → Prop} {xpost : List D → XD → Prop} {W : WX} {pos : Pos} {a b : Expr} {ta tb : TE} (K : PySem.W.Frag) (hK : X.K = K) (ha : PE X a ta) (hb : PE X b tb) (sf : PySem.W.selfFirst K (He.ga K C) = true) (g : MtX X.prog X.w K X.mg X.base C m j ps n pre post xpost) (hm : m = PySem.dunder op.info.2) (hr : Room k X.A) (hj : j ≤ k) (tk : Takes X W) : PE X (.BinOp a op b pos) (tOwB (He.ga K C) (spX K n pre post xpost) (WE W) ta tb) := by
  subst hK hm
  obtain ⟨f, fd, h1, h2, h3⟩ := g.ex
  exact pe_ownBin ha hb sf h1 h3 (hr.mono hj) h2 (fun σ => passAt tk σ)
theorem pe_binIX {C m : Str} {op : Operator} {k j n : Nat} {ps : List Str} {pre : List D → Prop} {post : List D → D → Prop} {xpost : List D → XD → Prop} {W : WX} {pos : Pos} {a b : Expr} {ta tb : TE} (K : PySem.W.Frag) (hK : X.K = K) (ha : PE X a ta) (hb : PE X b tb) (sf : PySem.W.selfFirst K (He.ga K C) = true) (oi : OpI K (He.ga K C) op = true) (g : MtX X.prog X.w K X.mg X.base C m j ps n pre post xpost) (hm : m = PySem.dunder op.info.2) (hr : Room k X.A) (hj : j ≤ k) (tk : Takes X W) : PE X (.BinOp a op b pos) (tOwI (He.ga K C) (spX K n pre post xpost) (WE W) ta tb) := by
  subst hK hm
  obtain ⟨f, fd, h1, h2, h3⟩ := g.ex
  exact pe_ownBinI ha hb sf oi h1 h3 (hr.mono hj) h2 (fun σ => passAt tk σ)
theorem op_eqX {C : Str} {k j n : Nat} {ps : List Str} {pre : List D → Prop} {post : List D → D → Prop} {xpost : List D → XD → Prop} (K : PySem.W.Frag) (hK : X.K = K) (g : MtX X.prog X.w K X.mg X.base C "__eq__" j ps n pre post xpost) (hr : Room k X.A) (hj : j ≤ k) (hu : X.A.units + 64 < cLine) : OpR X (compareOp .Eq) (rOwEq K (He.ga K C) (spX K n pre post xpost)) := by
  subst hK
  obtain ⟨f, fd, h1, h2, h3⟩ := g.ex
  exact op_ownEq hu h1 h3 (hr.mono hj) h2
theorem pe_coX {C : Str} {k j n : Nat} {ps : List Str} {pre : List D → Prop} {post : List D → D → Prop} {xpost : List D → XD → Prop} {W : WX} {pos : Pos} {fe e : Expr} {es : List Expr} {ta : TE} {t : TA} (K : PySem.W.Frag) (hK : X.K = K) (ho : PE X fe ta) (g : MtX X.prog X.w K X.mg X.base C "__call__" j ps n pre post xpost) (fi : ∀ f, Meth K (He.ga K C) "__call__" f → PySem.W.fnIn K f = true) (hr : Room k X.A) (hj : j ≤ k) (tk : Takes X W) (ha : PA X (e :: es) t)
    (ht : eval (.Call fe (e :: es) [] pos) X.env = (do callWith pos (← eval fe X.env) [] (backTo pos (starEach (e :: es) X.env)) (backToKw pos (keywordEach [] X.env))) := by rfl)
    (he : starEach (e :: es) X.env = (false, eval e X.env) :: starEach es X.env := by rfl) (hpl : (backTo pos (starEach es X.env)).any (·.1) = false := by rfl) : PE X (.Call fe (e :: es) [] pos) (tCallOX (He.ga K C) (spX K n pre post xpost) (WE W) ta t) := by
  subst hK
  obtain ⟨f, fd, h1, h2, h3⟩ := g.ex
  exact pe_callX (g := f) ho ⟨h1.at_, h1.fn, fi f h1⟩ h3 (hr.mono hj) h2 (fun σ => passAt tk σ) ha ht he hpl
theorem pe_mkXK {C : Str} {k j n : Nat} {ps : List Str} {pre : List D → Prop} {post : List D → List Str → List D → Prop} {xpost : List D → XD → Prop} {W : WX} {p pos : Pos} {e : Expr} {es : List Expr} {t : TA} (K : PySem.W.Frag) (hK : X.K = K) (g : MkX X.prog X.w K X.mg X.base C j ps n pre post xpost) (hr : Room k X.A) (hj : j + 1 ≤ k) (hg : Gl X C) (hm : X.mg C = some (.ref (He.ga K C))) (tk : Takes X W)
    (ha : PA X (e :: es) t) (hdb : (C == ("__debug__" : Str)) = false := by decide) (he : starEach (e :: es) X.env = (false, eval e X.env) :: starEach es X.env := by rfl) (hpl : (backTo pos (starEach es X.env)).any (·.1) = false := by rfl) :
    PE X (.Call (.Name C p) (e :: es) [] pos) (tMakeS (He.ga K C) (spN K C n pre post xpost) (WE W) t) := by
  subst hK
  obtain ⟨f, fd, h1, h2, h3⟩ := g.ex
  exact pe_makeX h1 h3 (hr.mono hj) hg hm h2 (fun σ => passAt tk σ) ha hdb he hpl
end
end Z

/-! isinstance of own objects; own classes as values -/
namespace Z
open PySem PySem.Spec L2 StX NdefX
variable [Tabs]
def isoB (K : PySem.W.Frag) (C : Addr) : Bool := clsB K C && decide (PySem.W.findIn K (.ref C) "__class__" = some (some (.builtin "object.__class__"))) && decide (PySem.W.specialIn K (.builtin "object.__class__") "__get__" = some (some (.builtin "getset_descriptor.__get__"))) && decide (PySem.W.takesIn K (.builtin "object.__class__") = some true) && decide (PySem.W.mroIn K C (.type "object") = some true)
theorem isoB_ok {K : PySem.W.Frag} {C : Addr} (h : isoB K C = true) : IsoC K C := by
  unfold isoB at h
  simp only [Bool.and_eq_true, decide_eq_true_eq] at h
  exact ⟨clsB_ok h.1.1.1.1, h.1.1.1.2, h.1.1.2, h.1.2, h.2⟩
section
variable {K : PySem.W.Frag} {γ : Gam} {Φ : D → Prop}
theorem ew_ch {p : Addr} (k : Φ (.hnd p)) : EW K (tC (.ref p)) γ Φ := fun Hs0 H0 Hs H σ Q S q => q _ _ _ _ (.refl S.b) (.hnd p) k
theorem rwl_isiO {c : Str} {ns : List Str} {ds : List D} {C : Addr} {b : Bool} (g : IsoC K (He.ga K c)) (hk : PySem.W.kitOne K (.ref (He.ga K c)) (.ref C) = some b) (k : Φ (.bl b)) : RWL K (rIsi K) [.obj c ns ds, .hnd C] Φ := fun Hs H vs Q bb r q => by
  cases r with
  | cons h r =>
    cases r with
    | cons h2 r =>
      cases h2; cases r
      cases h with
      | obj h1 l rr => exact ⟨_, .ref C, .ref (He.ga K c), .ref C, b, rfl, .own C, .base (.ins (bb _ _ h1) g.c g.ha g.hn g.ht g.hm), hk, q _ _ _ _ (.refl bb) (.bl _) k⟩
theorem rwl_isiC {x : D} {C : Addr} {b : Bool} (g : goodTy x = true) (hk : PySem.W.kitOne K (.type (tyD x)) (.ref C) = some b) (k : Φ (.bl b)) : RWL K (rIsi K) [x, .hnd C] Φ := fun Hs H vs Q bb r q => by
  cases r with
  | cons h r =>
    cases r with
    | cons h2 r =>
      cases h2; cases r
      exact ⟨_, .ref C, .type (tyD x), .ref C, b, rfl, .own C, tyX_of bb h g, hk, q _ _ _ _ (.refl bb) (.bl _) k⟩
theorem rwl_isiT {c : Str} {ns : List Str} {ds : List D} {n : String} {b : Bool} (g : IsoC K (He.ga K c)) (hk : PySem.W.kitOne K (.ref (He.ga K c)) (.type n) = some b) (k : Φ (.bl b)) : RWL K (rIsi K) [.obj c ns ds, .ty n] Φ := fun Hs H vs Q bb r q => by
  cases r with
  | cons h r =>
    cases r with
    | cons h2 r =>
      cases h2; cases r
      cases h with
      | obj h1 l rr => exact ⟨_, .ty n, .ref (He.ga K c), .type n, b, rfl, .ty n, .base (.ins (bb _ _ h1) g.c g.ha g.hn g.ht g.hm), hk, q _ _ _ _ (.refl bb) (.bl _) k⟩
end
end Z

/-! sorted; x = l.pop(k) -/
namespace Z
open PySem PySem.Spec L2
variable [Tabs]
section
variable {K : PySem.W.Frag} {γ : Gam} {Φ Ψ : D → Prop} {ta tb tc te : TE} {d x y : D} {i j : Nat} {Φo : Out}
theorem rnl_sortI {ns : List Int} {Φ : List D → Prop} (k : ∀ ms : List Int, ms.Perm ns → ms.Pairwise (· ≤ ·) → Φ (ms.map .int)) : RNL K (rSortedI K) [.lst (ns.map .int)] Φ := fun Hs H vs Q b r q => by
  cases r with
  | cons h r =>
    cases r
    cases h with
    | lst h r =>
      have e := r.ints; subst e
      exact ⟨_, ns, rfl, .of (b _ _ h), fun ms p hp hw hn => q Hs _ p _ _ (.hid b hn) hn (b.free hn) upd_same .ofInts (k ms hp hw)⟩
theorem rep_perm {H : Hp} : ∀ {vs ws : List V}, ws.Perm vs → ∀ {ds : List D}, RepL K H vs ds → ∃ es : List D, es.Perm ds ∧ RepL K H ws es := fun {vs ws} p => by
  induction p with
  | nil => intro ds r; cases r; exact ⟨[], .refl _, .nil⟩
  | cons x p ih =>
    intro ds r
    cases r with
    | cons a r =>
      obtain ⟨es, h1, h2⟩ := ih r
      exact ⟨_ :: es, .cons _ h1, .cons a h2⟩
  | swap x y l =>
    intro ds r
    cases r with
    | cons a r => cases r with | cons c r => exact ⟨_, .swap _ _ _, .cons c (.cons a r)⟩
  | trans p1 p2 ih1 ih2 =>
    intro ds r
    obtain ⟨es, h1, h2⟩ := ih2 r
    obtain ⟨fs, h3, h4⟩ := ih1 h2
    exact ⟨fs, h3.trans h1, h4⟩
theorem rnl_sortP {ds : List D} {Φ : List D → Prop} (hd : ∀ d ∈ ds, ∃ i j, d = .tup [.int i, .int j]) (k : ∀ es, es.Perm ds → Φ es) : RNL K (rSortedPF K) [.lst ds] Φ := fun Hs H vs Q b r q => by
  cases r with
  | cons h r =>
    cases r
    cases h with
    | @lst a ws _ h r =>
      have key : ∀ x ∈ ws, ∃ t i j, x = V.ref t ∧ SqT K H t [.int i, .int j] := fun x hx => by
        obtain ⟨n, hn⟩ := List.mem_iff_getElem?.mp hx
        obtain ⟨d, hd', rd⟩ := r.get' hn
        obtain ⟨i, j, rfl⟩ := hd d (List.mem_of_getElem? hd')
        cases rd with
        | tup ht rt =>
          cases rt with
          | cons a rt => cases a; cases rt with | cons c rt => cases c; cases rt; exact ⟨_, i, j, rfl, sameT b ht⟩
      refine ⟨_, ws, fun x => open Classical in if hx : x ∈ ws then ((key x hx).choose_spec.choose, (key x hx).choose_spec.choose_spec.choose) else (0, 0), rfl, .of (b _ _ h), fun x hx => ?_, fun ys p hp hn => ?_⟩
      · obtain ⟨e1, e2⟩ := (key x hx).choose_spec.choose_spec.choose_spec
        refine ⟨_, e1, ?_⟩
        simp only [dif_pos hx]
        exact e2
      · obtain ⟨es, h1, h2⟩ := rep_perm hp r
        exact q Hs _ p _ _ (.hid b hn) hn (b.free hn) upd_same h2 (k es h1)
/-- x = l.pop(k) -/
theorem sw_asgPop {ds : List D} (hij : i ≠ j) (hg : γ[i]? = some (some (.ow ds))) (h : EW K te γ fun d => ∃ k : Nat, d = .int (k : Int) ∧ ds.length ≤ sizeS ∧ ∃ e, ds[k]? = some e ∧ Φo.nx ((γ.set i (some (.ow (ds.eraseIdx k)))).set j (some (.sh e)))) :
    SW K (tAsg (tBM K "list" rPopZ (tVar i) (tCons te tNil)) (gName j)) γ Φo := fun Hs0 H0 Hs H σ E S kn kr _ _ => by
  obtain ⟨a, vs, hv, h1, h2, h3⟩ := own_at S hg
  refine ⟨.ref a, hv, .inl ⟨rfl, _, .of h2⟩, h Hs0 H0 Hs H σ _ S fun Hs' H' v d g r ⟨k, e, hl, y, hy, p⟩ => ?_⟩
  subst e
  cases r
  obtain ⟨w, hw, rw⟩ := (RepL.mono g.s h3).get hy
  have hk2 : k < vs.length := (List.getElem?_eq_some_iff.mp hw).1
  have hl2 : ds.length ≤ 1000000 := hl
  have e3 := h3.length
  have hs : seqIndex? (k : Int) vs.length = some k := (ixN_seq (by unfold ixN; rw [if_pos (by omega), if_pos (by omega)]; simp)).1
  refine ⟨a, vs, k, k, w, rfl, rfl, g.e.lst h2, by omega, by omega, hs, hw, ?_⟩
  exact kn Hs' _ _ _ g.s (((S.grow g).put i hg hv (g.n _ _ h2 h1) (RepL.eraseIdx k (RepL.mono g.s h3))).set j rw) p
/-- xs.append((e, l.pop(k))) -/
theorem sw_appPop {ds es : List D} (hij : i ≠ j) (hi : γ[i]? = some (some (.ow es))) (le : es.length < sizeS) (hg : γ[j]? = some (some (.ow ds))) (h : EW K ta γ fun a => EW K te γ fun d => ∃ k : Nat, d = .int (k : Int) ∧ ds.length ≤ sizeS ∧ ∃ e, ds[k]? = some e ∧ Φo.nx ((γ.set j (some (.ow (ds.eraseIdx k)))).set i (some (.ow (es ++ [.tup [a, e]]))))) :
    SW K (tDrop (tBM K "list" rAppend (tVar i) (tCons (tTupF (tCons ta (tCons (tBM K "list" rPopZ (tVar j) (tCons te tNil)) tNil))) tNil))) γ Φo := fun Hs0 H0 Hs H σ E S kn kr _ _ => by
  obtain ⟨b, us, hu, b1, b2, b3⟩ := own_at S hi
  obtain ⟨a, vs, hv, h1, h2, h3⟩ := own_at S hg
  refine ⟨.ref b, hu, .inl ⟨rfl, _, .of b2⟩, h Hs0 H0 Hs H σ _ S fun Hs1 H1 x dx g1 r1 h' => ?_⟩
  refine ⟨.ref a, hv, .inl ⟨rfl, _, .of (g1.e.lst h2)⟩, h' Hs0 H0 Hs1 H1 σ _ (S.grow g1) fun Hs2 H2 v d g2 r2 ⟨k, e, hl, y, hy, p⟩ => ?_⟩
  subst e
  cases r2
  have g := g1.trans g2
  obtain ⟨w, hw, rw⟩ := (RepL.mono g.s h3).get hy
  have hk2 : k < vs.length := (List.getElem?_eq_some_iff.mp hw).1
  have hl2 : ds.length ≤ 1000000 := hl
  have e3 := h3.length
  have hs : seqIndex? (k : Int) vs.length = some k := (ixN_seq (by unfold ixN; rw [if_pos (by omega), if_pos (by omega)]; simp)).1
  refine ⟨a, vs, k, k, w, rfl, rfl, g.e.lst h2, by omega, by omega, hs, hw, ?_⟩
  have S3 := (S.grow g).put j hg hv (g.n _ _ h2 h1) (RepL.eraseIdx k (RepL.mono g.s h3))
  have hi3 : (γ.set j (some (.ow (ds.eraseIdx k))))[i]? = some (some (.ow es)) := by rw [get_set_ne (Ne.symm hij)]; exact hi
  refine ⟨by show (2 : Nat) ≤ sizeLine; rw [sizeLine_eq]; decide, fun t ob hob ht => ?_⟩
  have gt := Grow.new (p := t) (o := .frz ob (.tup [x, w])) S3.b ht
  have S4 := S3.grow gt
  obtain ⟨b', us', hu', b1', b2', b3'⟩ := own_at S4 hi3
  rw [hu] at hu'
  cases hu'
  refine ⟨b, us', .ref t, rfl, rfl, b2', by rw [b3'.length]; exact Nat.lt_trans le (by decide), ?_⟩
  refine kn _ _ _ _ (g.s.trans gt.s) (S4.put i hi3 hu b1' (b3'.append (.cons (.tup ⟨ob, hob, upd_same⟩ (.cons (r1.mono (g2.s.trans gt.s)) (.cons (rw.mono gt.s) .nil))) .nil))) p
/-- an int in a list or tuple of ints -/
theorem int_flat : ∀ xs : List Int, (xs.map V.int).all flatV = true
  | [] => rfl
  | x :: xs => by rw [List.map_cons, List.all_cons, int_flat xs]; rfl
theorem inV_int (x : Int) : ∀ xs : List Int, inV (.int x) (xs.map V.int) = decide (x ∈ xs)
  | [] => rfl
  | y :: xs => by
    have ih := inV_int x xs
    unfold inV at ih ⊢
    rw [List.map_cons, List.any_cons, ih]
    have e : eqV (.int y) (.int x) = decide (x = y) := by
      show (y == x) = decide (x = y)
      by_cases h : x = y
      · subst h; simp
      · rw [decide_eq_false h]; exact beq_eq_false_iff_ne.mpr (Ne.symm h)
    rw [e]
    by_cases h1 : x = y
    · simp [h1]
    · simp [h1]
theorem rw_inLI {x : Int} {xs : List Int} (k : Φ (.bl (decide (x ∈ xs)))) : RW2 K (rIn K false) (.int x) (.lst (xs.map .int)) Φ := fun Hs H v u Q b r1 r2 q => by
  cases r1
  cases r2 with
  | lst h r =>
    have e := r.ints; subst e
    refine ⟨_, _, rfl, .inl (.of (b _ _ h)), rfl, int_flat xs, q _ _ _ _ (.refl b) (.bl _) ?_⟩
    rw [inV_int]; exact k
theorem rw_inTI {x : Int} {xs : List Int} (k : Φ (.bl (decide (x ∈ xs)))) : RW2 K (rIn K false) (.int x) (.tup (xs.map .int)) Φ := fun Hs H v u Q b r1 r2 q => by
  cases r1
  cases r2 with
  | tup h r =>
    have e := r.ints; subst e
    refine ⟨_, _, rfl, .inr (sameT b h), rfl, int_flat xs, q _ _ _ _ (.refl b) (.bl _) ?_⟩
    rw [inV_int]; exact k
theorem rw_niLI {x : Int} {xs : List Int} (k : Φ (.bl (!decide (x ∈ xs)))) : RW2 K (rIn K true) (.int x) (.lst (xs.map .int)) Φ := fun Hs H v u Q b r1 r2 q => by
  cases r1
  cases r2 with
  | lst h r =>
    have e := r.ints; subst e
    refine ⟨_, _, rfl, .inl (.of (b _ _ h)), rfl, int_flat xs, q _ _ _ _ (.refl b) (.bl _) ?_⟩
    rw [inV_int]; exact k
theorem rw_niTI {x : Int} {xs : List Int} (k : Φ (.bl (!decide (x ∈ xs)))) : RW2 K (rIn K true) (.int x) (.tup (xs.map .int)) Φ := fun Hs H v u Q b r1 r2 q => by
  cases r1
  cases r2 with
  | tup h r =>
    have e := r.ints; subst e
    refine ⟨_, _, rfl, .inr (sameT b h), rfl, int_flat xs, q _ _ _ _ (.refl b) (.bl _) ?_⟩
    rw [inV_int]; exact k
theorem ew_inOI {xs : List Int} {Φ : D → Prop} (hg : γ[i]? = some (some (.ow (xs.map .int)))) (h : EW K ta γ fun y => ∃ z, y = .int z ∧ Φ (.bl (decide (z ∈ xs)))) : EW K (tOp (rIn K false) ta (tVar i)) γ Φ := fun Hs0 H0 Hs H σ Q S q => by
  obtain ⟨a, vs, hv, h1, h2, h3⟩ := own_at S hg
  refine h Hs0 H0 Hs H σ _ S fun Hs1 H1 w y g1 r1 ⟨z, e, p⟩ => ⟨.ref a, hv, ?_⟩
  subst e
  cases r1
  have e := (RepL.mono g1.s h3).ints
  subst e
  refine ⟨a, _, rfl, .inl (.of (g1.e.lst h2)), rfl, int_flat xs, q _ _ _ _ g1 (.bl _) ?_⟩
  rw [inV_int]; exact p
theorem ew_niOI {xs : List Int} {Φ : D → Prop} (hg : γ[i]? = some (some (.ow (xs.map .int)))) (h : EW K ta γ fun y => ∃ z, y = .int z ∧ Φ (.bl (!decide (z ∈ xs)))) : EW K (tOp (rIn K true) ta (tVar i)) γ Φ := fun Hs0 H0 Hs H σ Q S q => by
  obtain ⟨a, vs, hv, h1, h2, h3⟩ := own_at S hg
  refine h Hs0 H0 Hs H σ _ S fun Hs1 H1 w y g1 r1 ⟨z, e, p⟩ => ⟨.ref a, hv, ?_⟩
  subst e
  cases r1
  have e := (RepL.mono g1.s h3).ints
  subst e
  refine ⟨a, _, rfl, .inl (.of (g1.e.lst h2)), rfl, int_flat xs, q _ _ _ _ g1 (.bl _) ?_⟩
  rw [inV_int]; exact p
end
end Z

/-! enumerate(tuple); a dict out of a comprehension; a def with a generator that may raise; a part within errors -/
namespace Z
open PySem PySem.Spec L2 StX
variable [Tabs]
section
variable {K : PySem.W.Frag} {γ : Gam} {ta te : TE} {Φ : D → Prop} {Ψ : Gam → Prop} {Ω : Out} {i j : Nat}
theorem iw_enumT {t : TA} {Φ : List D → Prop} (h : AW K t γ fun ds => ∃ xs, ds = [.tup xs] ∧ Φ (enumD xs)) : IW K (iEnumT K t) γ Φ := fun Hs0 H0 Hs H σ R S q =>
  h Hs0 H0 Hs H σ _ S fun Hs1 H1 vs ds g1 r1 ⟨xs, e, p⟩ => by
    subst e
    cases r1 with
    | cons h1 r2 =>
      cases r2
      cases h1 with
      | tup h1 r1 =>
        rename_i a vs
        refine ⟨a, vs, rfl, sameT g1.b h1, q Hs1 H1 _ _ g1 ⟨fun i Hs' H' e1 e2 hi => ?_, fun i Hs' H' d x H'' e1 e2 hd hy => ?_, fun Hs' H' e1 e2 => ?_⟩ p⟩
        · have hv : i < vs.length := by rw [r1.length, ← enumD_len]; exact hi
          exact ⟨vs, vs[i], sameT (e1.trans e2) h1, by simp [hv]⟩
        · obtain ⟨T, y, rfl, hT, rfl, hy⟩ := hy
          have hx := hy vs (sameT (e1.trans e2) h1)
          obtain ⟨d', hd', rd⟩ := r1.get' hx
          obtain ⟨d2, hd2, rfl⟩ := enumD_get hd
          rw [hd'] at hd2; cases hd2
          have n2 := e2.free hT
          exact ⟨_, .new e2 hT, .tpl upd_same (.cons (.int _) (.cons (rd.mono (e1.trans (sameNew n2))) .nil))⟩
        · exact ⟨vs, sameT (e1.trans e2) h1, by rw [r1.length, enumD_len]; exact Nat.le_refl _⟩
/-- d = {k: v for .. in .. if ..} -/
theorem sw_asgDc {wi : TI} {g : TG} {js : List Nat} {tt : TT} {tk tv : TE} {vs : List Nat} (hj : ∀ j ∈ js, j ∈ vs)
    (h : IW K wi γ fun ds => ∃ Iv : Nat → List (Key × D) → Prop, Iv 0 [] ∧ (∀ i d acc, ds[i]? = some d → Iv i acc → acc.length < sizeS ∧ GW K g js d (wipeG γ vs) fun γ2 => TW K tt γ2 fun b => (b = true → EW K tk γ2 fun y => EW K tv γ2 fun z => ∃ k, y = kD k ∧ Iv (i + 1) (putD acc k z)) ∧ (b = false → Iv (i + 1) acc)) ∧
      ∀ acc, Iv ds.length acc → Ω.nx (γ.set i (some (.ob (.dct acc))))) : SW K (tAsg (tDc wi g tt tk tv vs) (gName i)) γ Ω := fun Hs0 H0 Hs H σ E S kn kr _ _ =>
  h Hs0 H0 Hs H σ _ S fun Hs1 H1 J ds g1 Y ⟨Iv, i0, step, fin⟩ Dl hD => by
    have S1 := S.grow g1
    have HsD : Hs1 Dl = none := g1.b.free hD
    refine ⟨fun i m Hx => m = ds.length - i ∧ i ≤ ds.length ∧ ∃ Hs' ws acc, Grow Hs1 H1 Hs' Hx ∧ Hs' Dl = none ∧ Hx Dl = some (.dK ws) ∧ RepK K Hs' ws acc ∧ Iv i acc,
      ⟨ds.length, by simp, Nat.zero_le _, Hs1, [], [], .hid g1.b hD, HsD, upd_same, .nil, i0⟩, ?_⟩
    rintro i m Hx ⟨rfl, hi, Hs', ws, acc, gx, nD, hDl, rw', iv⟩
    by_cases hlt : i < ds.length
    · refine .inr ⟨Y.go i Hs' Hx gx.s gx.b hlt, fun H' => ∃ Hs'' ws acc, Grow Hs1 H1 Hs'' H' ∧ Hs'' Dl = none ∧ H' Dl = some (.dK ws) ∧ RepK K Hs'' ws acc ∧ Iv (i + 1) acc, fun H' ⟨a, b, c, d⟩ => ⟨ds.length - (i + 1), by omega, rfl, hlt, a, b, c, d⟩, fun x H'' hy => ?_⟩
      have hd : ds[i]? = some ds[i] := by simp [hlt]
      obtain ⟨Hs2, g2, rx⟩ := Y.yld i Hs' Hx ds[i] x H'' gx.s gx.b hd hy
      obtain ⟨sz, st⟩ := step i ds[i] acc hd iv
      have n2 : Hs2 Dl = none := g2.n _ _ hDl nD
      have S2 : Sl K Hs0 H0 Hs2 H'' (wipe σ vs) (wipeG γ vs) := ((S1.grow gx).grow g2).wipe vs
      refine st Hs0 H0 Hs2 H'' (wipe σ vs) x _ S2 rx fun σ2 γ2 S3 w3 h3 => ⟨by rw [w3 vs hj, wipe_wipe], ?_⟩
      refine h3 Hs0 H0 Hs2 H'' σ2 _ S3 fun Hs3 H3 b g3 ⟨p1, p2⟩ => ?_
      have d2 : H'' Dl = some (.dK ws) := g2.e.oho hDl trivial
      have n3 : Hs3 Dl = none := g3.n _ _ d2 n2
      have d3 : H3 Dl = some (.dK ws) := g3.e.oho d2 trivial
      have g13 : Grow Hs1 H1 Hs3 H3 := (gx.trans g2).trans g3
      cases b with
      | true =>
        rw [if_pos rfl]
        refine p1 rfl Hs0 H0 Hs3 H3 σ2 _ (S3.grow g3) fun Hs4 H4 y dy g4 r4 p4 => ?_
        refine p4 Hs0 H0 Hs4 H4 σ2 _ ((S3.grow g3).grow g4) fun Hs5 H5 z dz g5 r5 ⟨k, ek, p5⟩ => ?_
        subst ek
        have ek := kD_is r4
        subst ek
        have g45 := g4.trans g5
        have n5 : Hs5 Dl = none := g45.n _ _ d3 n3
        have d5 : H5 Dl = some (.dK ws) := g45.e.oho d3 trivial
        refine ⟨ws, k, rfl, d5, by rw [rw'.length]; exact Nat.lt_trans sz (by decide), Hs5, putK ws k z, putD acc k dz, ?_, n5, upd_same, (RepK.mono ((g2.trans g3).trans g45).s rw').put r5, p5⟩
        have g14 := g13.trans g45
        exact ⟨g14.s, fun b o e => by rw [upd_ne (ne_of_none e hD)]; exact g14.e _ _ e, fun b o e => by rw [upd_ne (ne_of_none e n5)]; exact g14.b _ _ e, g14.n, fun t P hP => by
          obtain ⟨⟨ps, q1, q2⟩, q3⟩ := g14.t t P hP
          exact ⟨⟨ps, by rw [upd_ne (fun q => by rw [q, d5] at q1; cases q1)]; exact q1, q2⟩, q3⟩⟩
      | false =>
        rw [if_neg Bool.false_ne_true]
        exact ⟨Hs3, ws, acc, g13, n3, d3, RepK.mono (g2.trans g3).s rw', p2 rfl⟩
    · have e : i = ds.length := by omega
      subst e
      refine .inl ⟨Y.stop Hs' Hx gx.s gx.b, kn Hs' Hx _ _ (g1.trans gx).s ((S1.grow gx).ownB (s := .ob (.dct acc)) _ (SameT.free (S1.gr.e) hD) nD hDl rfl ⟨ws, rfl, rw'⟩ fun j t h1 ho h2 => ?_) (fin acc iv)⟩
      obtain ⟨_, o, k2, _⟩ := S1.nos h1 ho h2
      rw [hD] at k2; cases k2
end
section
variable {K : PySem.W.Frag} {Hs0 H0 Hb : Hp} {γ : Gam} {te ta tb : TE} {tr : TA} {t : TT} {ts tz tu : TS} {Φ : D → Prop} {Ω : Out}
theorem ex_sl {r : V → Option Int → Option Int → Hp → VK → Prop} {tl th : TO} (h : EX K Hs0 H0 Hb ta γ fun x => OW K tl γ fun l => OW K th γ fun u => SlW K r x l u Φ) : EX K Hs0 H0 Hb (tSl r ta tl th) γ Φ := fun Hs H σ Q hb S q =>
  h Hs H σ _ hb S fun Hs1 H1 v x g1 r1 h1 => h1 Hs0 H0 Hs1 H1 σ _ (S.grow g1) fun Hs2 H2 l g2 h2 => h2 Hs0 H0 Hs2 H2 σ _ ((S.grow g1).grow g2) fun Hs3 H3 u g3 h3 =>
    h3 Hs3 H3 v Q g3.b ((r1.mono g2.s).mono g3.s) fun Hs4 H4 w d g4 r4 p => q _ _ _ _ (((g1.trans g2).trans g3).trans g4) r4 p
/-- statements with a part, where an error may have left before -/
theorem sx_sg (hh : SG K Hs0 H0 (fun _ => none) ts γ { nx := fun _ => Ω.nx, rt := Ω.rt, bk := fun _ => Ω.bk, ct := fun _ => Ω.ct }) : SX K Hs0 H0 Hb ts γ Ω := fun Hs H σ E _ S kn kr kb kc =>
  hh Hs H σ E (.nul S) (fun h' Hs' H' σ' γ' e S' p => kn Hs' H' σ' γ' e S'.down p) kr (fun h' Hs' H' σ' γ' e S' p => kb Hs' H' σ' γ' e S'.down p) fun h' Hs' H' σ' γ' e S' p => kc Hs' H' σ' γ' e S'.down p
end
section
variable {P : Program} {w : World} {K : PySem.W.Frag} {mg : Str → Option Value} {base : Heap}
/-- a def that may raise and whose code object is known -/
theorem df_mkXT {x : Str} {params : Arguments} {body : List Stmt} {scope : Scope} {fd : FuncData} {N ps : List Str} {k : Nat} {pre : List D → Prop} {post : List D → D → Prop} {xpost : List D → XD → Prop} (F : FunD K x x params body scope [] [] (He.fAd K (x, none)) fd) (hm : mg x = some (.ref (He.fAd K (x, none)))) (S : FnScope N ps scope)
    (hb : ∀ (kV doc pm : Value) (an : Option Addr) (cdv ct : Value) (us : List Value), us.length = ps.length → bindArgs (PySem.W.fnOf x x params body scope .none kV doc pm an cdv ct) ⟨us, []⟩ = pure (ps.zip us))
    (hbody : ∀ (A : Around) (outer : List Env) (s : Shared) (H : Hp) (E : XK), Room k (A.deeper (PyProof.Rows.envOfC x scope s.heap.objs.size (He.fAd K (x, none)) (.ref (He.codeOf K (x, none))))) → ∀ ds, ds.length = ps.length → pre ds →
      ∃ t, PSs (cxOf (L2.CX P w) P w K mg base N x scope (He.fAd K (x, none)) (.ref (He.codeOf K (x, none))) A outer s H E) body t ∧ ∀ Hs0 H0, Wok K Hs0 H0 Hs0 (WD E) (fun x _ => xpost ds x) → SX K Hs0 H0 Hs0 t (gam0 N.length ds) { nx := fun _ => post ds .non, rt := post ds }) : DfX P w K mg base x (k + 1) ps ps.length pre post xpost := by
  have bN := F.bindsN hb
  have kp := F.kp
  obtain ⟨oc, od, dV, kV, doc, pm, an, cdv, ct, osl, rfl, lk, hcd, _, _⟩ := F.ex
  obtain ⟨c, rfl⟩ := He.codeIn_ref hcd
  have e : He.codeOf K (x, none) = c := He.codeOf_eq lk rfl
  subst e
  refine ⟨_, _, hm, kp, bN, fn_of lk hcd S (fun vs H Q E h => ?_) (fun A outer s H vs Q E hr h => ?_)⟩
  · obtain ⟨Hs, ds, _, _, r, l, _⟩ := h
    rw [r.length]; exact l
  · obtain ⟨Hs, ds, tb, b, r, l, p, q, qx⟩ := h
    obtain ⟨t, ht, hw⟩ := hbody A outer s H E hr ds l p
    exact ⟨t, ht, hw Hs H (fun Hs' H' σ' γ' cls d x _ S' r' px => qx Hs' H' cls d x S'.gr r' px) Hs H _ _ (.refl _) (sl_start tb b r) (fun Hs' H' σ' γ' e S' p => q Hs' H' _ _ S'.gr .non p) (fun Hs' H' v d g r p => q Hs' H' v d g r p) (fun _ _ _ _ _ _ z => z.elim) (fun _ _ _ _ _ _ z => z.elim)⟩
end
end Z

/-! errors whose context is told; defs that are called while an error is handled -/
namespace Z
open PySem PySem.Spec L2 StX
variable [Tabs]
section
variable {P : Program} {w : World} {K : PySem.W.Frag} {mg : Str → Option Value} {base : Heap}
structure DfXN (P : Program) (w : World) (K : PySem.W.Frag) (mg : Str → Option Value) (base : Heap) (x : Str) (k : Nat) (ps : List Str) (n : Nat) (pre : List D → Prop) (post : List D → D → Prop) (xpost : List D → XD → Prop) : Prop where
  ex : ∃ f fd, mg x = some (.ref f) ∧ PySem.W.keepIn K (.ref f) = true ∧ Binds K fd ps [] ∧ FnOk P w K mg base (L2N.CX P w) k f fd ps (spX K n pre post xpost)
theorem df_mkXN {x : Str} {params : Arguments} {body : List Stmt} {scope : Scope} {f : Addr} {fd : FuncData} {N ps : List Str} {k : Nat} {pre : List D → Prop} {post : List D → D → Prop} {xpost : List D → XD → Prop} (F : FunD K x x params body scope [] [] f fd) (hm : mg x = some (.ref f)) (S : FnScope N ps scope)
    (hb : ∀ (kV doc pm : Value) (an : Option Addr) (cdv ct : Value) (us : List Value), us.length = ps.length → bindArgs (PySem.W.fnOf x x params body scope .none kV doc pm an cdv ct) ⟨us, []⟩ = pure (ps.zip us))
    (hbody : ∀ (cdv : Value) (A : Around) (outer : List Env) (s : Shared) (H : Hp) (E : XK), Room k (A.deeper (PyProof.Rows.envOfC x scope s.heap.objs.size f cdv)) → ∀ ds, ds.length = ps.length → pre ds →
      ∃ t, PSs (cxOf (L2N.CX P w) P w K mg base N x scope f cdv A outer s H E) body t ∧ ∀ Hs0 H0, Wok K Hs0 H0 Hs0 (WD E) (fun x _ => xpost ds x) → SX K Hs0 H0 Hs0 t (gam0 N.length ds) { nx := fun _ => post ds .non, rt := post ds }) : DfXN P w K mg base x (k + 1) ps ps.length pre post xpost := by
  refine ⟨f, fd, hm, F.kp, F.bindsN hb, F.ok S (fun vs H Q E h => ?_) (fun cdv A outer s H vs Q E hr h => ?_)⟩
  · obtain ⟨Hs, ds, _, _, r, l, _⟩ := h
    rw [r.length]; exact l
  · obtain ⟨Hs, ds, tb, b, r, l, p, q, qx⟩ := h
    obtain ⟨t, ht, hw⟩ := hbody cdv A outer s H E hr ds l p
    exact ⟨t, ht, hw Hs H (fun Hs' H' σ' γ' cls d x _ S' r' px => qx Hs' H' cls d x S'.gr r' px) Hs H _ _ (.refl _) (sl_start tb b r) (fun Hs' H' σ' γ' e S' p => q Hs' H' _ _ S'.gr .non p) (fun Hs' H' v d g r p => q Hs' H' v d g r p) (fun _ _ _ _ _ _ z => z.elim) (fun _ _ _ _ _ _ z => z.elim)⟩
theorem df_mkXTN {x : Str} {params : Arguments} {body : List Stmt} {scope : Scope} {fd : FuncData} {N ps : List Str} {k : Nat} {pre : List D → Prop} {post : List D → D → Prop} {xpost : List D → XD → Prop} (F : FunD K x x params body scope [] [] (He.fAd K (x, none)) fd) (hm : mg x = some (.ref (He.fAd K (x, none)))) (S : FnScope N ps scope)
    (hb : ∀ (kV doc pm : Value) (an : Option Addr) (cdv ct : Value) (us : List Value), us.length = ps.length → bindArgs (PySem.W.fnOf x x params body scope .none kV doc pm an cdv ct) ⟨us, []⟩ = pure (ps.zip us))
    (hbody : ∀ (A : Around) (outer : List Env) (s : Shared) (H : Hp) (E : XK), Room k (A.deeper (PyProof.Rows.envOfC x scope s.heap.objs.size (He.fAd K (x, none)) (.ref (He.codeOf K (x, none))))) → ∀ ds, ds.length = ps.length → pre ds →
      ∃ t, PSs (cxOf (L2N.CX P w) P w K mg base N x scope (He.fAd K (x, none)) (.ref (He.codeOf K (x, none))) A outer s H E) body t ∧ ∀ Hs0 H0, Wok K Hs0 H0 Hs0 (WD E) (fun x _ => xpost ds x) → SX K Hs0 H0 Hs0 t (gam0 N.length ds) { nx := fun _ => post ds .non, rt := post ds }) : DfXN P w K mg base x (k + 1) ps ps.length pre post xpost := by
  have bN := F.bindsN hb
  have kp := F.kp
  obtain ⟨oc, od, dV, kV, doc, pm, an, cdv, ct, osl, rfl, lk, hcd, _, _⟩ := F.ex
  obtain ⟨c, rfl⟩ := He.codeIn_ref hcd
  have e : He.codeOf K (x, none) = c := He.codeOf_eq lk rfl
  subst e
  refine ⟨_, _, hm, kp, bN, fn_of lk hcd S (fun vs H Q E h => ?_) (fun A outer s H vs Q E hr h => ?_)⟩
  · obtain ⟨Hs, ds, _, _, r, l, _⟩ := h
    rw [r.length]; exact l
  · obtain ⟨Hs, ds, tb, b, r, l, p, q, qx⟩ := h
    obtain ⟨t, ht, hw⟩ := hbody A outer s H E hr ds l p
    exact ⟨t, ht, hw Hs H (fun Hs' H' σ' γ' cls d x _ S' r' px => qx Hs' H' cls d x S'.gr r' px) Hs H _ _ (.refl _) (sl_start tb b r) (fun Hs' H' σ' γ' e S' p => q Hs' H' _ _ S'.gr .non p) (fun Hs' H' v d g r p => q Hs' H' v d g r p) (fun _ _ _ _ _ _ z => z.elim) (fun _ _ _ _ _ _ z => z.elim)⟩
/-- a def that is called while an error is handled -/
structure DfH (P : Program) (w : World) (K : PySem.W.Frag) (mg : Str → Option Value) (base : Heap) (x : Str) (k : Nat) (ps : List Str) (n : Nat) (pre : List D → Prop) (post : List D → D → Prop) : Prop where
  ex : ∃ f fd, mg x = some (.ref f) ∧ PySem.W.keepIn K (.ref f) = true ∧ Binds K fd ps [] ∧ L2H.FnH P w K mg base CX0 k f fd ps (spD K n pre post)
theorem dfH_mk {x : Str} {params : Arguments} {body : List Stmt} {scope : Scope} {f : Addr} {fd : FuncData} {N ps : List Str} {k : Nat} {pre : List D → Prop} {post : List D → D → Prop} (F : FunD K x x params body scope [] [] f fd) (hm : mg x = some (.ref f)) (S : FnScope N ps scope)
    (hb : ∀ (kV doc pm : Value) (an : Option Addr) (cdv ct : Value) (us : List Value), us.length = ps.length → bindArgs (PySem.W.fnOf x x params body scope .none kV doc pm an cdv ct) ⟨us, []⟩ = pure (ps.zip us))
    (hbody : ∀ (cdv : Value) (A : Around) (outer : List Env) (s : Shared) (H : Hp) (E : XK) (p : Addr × Obj), L2H.RoomH k (A.deeper (PyProof.Rows.envOfC x scope s.heap.objs.size f cdv)) → L2H.HotC (L2H.cxH CX0 P w K mg base N x scope f cdv A outer s H E p).nox → ∀ ds, ds.length = ps.length → pre ds →
      ∃ t, PSs (L2H.cxH CX0 P w K mg base N x scope f cdv A outer s H E p).nox body t ∧ SW K t (gam0 N.length ds) { nx := fun _ => post ds .non, rt := post ds }) : DfH P w K mg base x (k + 1) ps ps.length pre post := by
  have bN := F.bindsN hb
  have kp := F.kp
  obtain ⟨oc, od, dV, kV, doc, pm, an, cdv, ct, osl, rfl, lk, hcd, _, _⟩ := F.ex
  refine ⟨_, _, hm, kp, bN, L2H.fn_ofH lk hcd S (fun vs H Q E h => ?_) (fun A outer s H vs Q E p hot hr h => ?_)⟩
  · obtain ⟨Hs, ds, _, _, r, l, _⟩ := h
    rw [r.length]; exact l
  · obtain ⟨Hs, ds, tb, b, r, l, pp, q⟩ := h
    obtain ⟨t, ht, hw⟩ := hbody cdv A outer s H E p hr ⟨p, hot, List.mem_cons_self⟩ ds l pp
    exact ⟨t, ht.nox, hw Hs H Hs H _ _ (sl_start tb b r) (fun Hs' H' σ' γ' e S' p => q Hs' H' _ _ S'.gr .non p) (fun Hs' H' v d g r p => q Hs' H' v d g r p) (fun _ _ _ _ _ _ z => z.elim) (fun _ _ _ _ _ _ z => z.elim)⟩
theorem dfH_void {x : Str} {params : Arguments} {body : List Stmt} {scope : Scope} {f : Addr} {fd : FuncData} {ps : List Str} {n : Nat} {pre : List D → Prop} {post : List D → D → Prop} (F : FunD K x x params body scope [] [] f fd) (hm : mg x = some (.ref f))
    (hb : ∀ (kV doc pm : Value) (an : Option Addr) (cdv ct : Value) (us : List Value), us.length = ps.length → bindArgs (PySem.W.fnOf x x params body scope .none kV doc pm an cdv ct) ⟨us, []⟩ = pure (ps.zip us)) (hp : ∀ ds, ¬ pre ds) : DfH P w K mg base x 0 ps n pre post :=
  ⟨f, fd, hm, F.kp, F.bindsN hb, fun vs H Q E ⟨_, ds, _, _, _, _, p, _⟩ => (hp ds p).elim, fun _ _ _ _ _ _ _ _ _ _ _ _ _ _ _ _ ⟨_, ds, _, _, _, _, p, _⟩ => (hp ds p).elim⟩
end
theorem roomH_units {k : Nat} {A : Around} (r : L2H.RoomH k A) : A.units + 64 < cLine := by have := r.un; omega
theorem takesN0 {X : Cx} : L2N.Takes X (fun _ _ _ _ => False) := fun _ _ x => by
  obtain ⟨_, _, _, _, _, _, _, _, _, _, _, _, _, _, _, _, z⟩ := x
  exact z.elim
section
variable {X : Cx}
theorem pe_dfXN (K : PySem.W.Frag) (h : X.K = K) {x : Str} {k j : Nat} {ps : List Str} {n : Nat} {pre : List D → Prop} {post : List D → D → Prop} {xpost : List D → XD → Prop} {W : WX} {p pos : Pos} {e : Expr} {es : List Expr} {t : TA} (g : DfXN X.prog X.w X.K X.mg X.base x j ps n pre post xpost) (hr : Room k X.A) (hj : j ≤ k) (hg : Gl X x) (tk : L2N.Takes X W)
    (ha : PA X (e :: es) t) (hdb : (x == ("__debug__" : Str)) = false := by decide) (he : starEach (e :: es) X.env = (false, eval e X.env) :: starEach es X.env := by rfl) (hpl : (backTo pos (starEach es X.env)).any (·.1) = false := by rfl) :
    PE X (.Call (.Name x p) (e :: es) [] pos) (tCallS (spX K n pre post xpost) (WE W) t) := by
  subst h
  obtain ⟨f, fd, h1, h2, h3, h4⟩ := g.ex
  exact pe_callS h4 (hr.mono hj) hg h1 h2 h3 (fun σ => L2N.passAt tk σ) ha hdb he hpl
theorem pe_dfH (K : PySem.W.Frag) (h : X.K = K) {x : Str} {k j : Nat} {ps : List Str} {n : Nat} {pre : List D → Prop} {post : List D → D → Prop} {p pos : Pos} {e : Expr} {es : List Expr} {t : TA} (g : DfH X.prog X.w K X.mg X.base x j ps n pre post) (hr : L2H.RoomH k X.A) (hj : j ≤ k) (hc : L2H.HotC X) (hg : Gl X x)
    (ha : PA X (e :: es) t) (hdb : (x == ("__debug__" : Str)) = false := by decide) (he : starEach (e :: es) X.env = (false, eval e X.env) :: starEach es X.env := by rfl) (hpl : (backTo pos (starEach es X.env)).any (·.1) = false := by rfl) :
    PE X (.Call (.Name x p) (e :: es) [] pos) (tCallS (spD K n pre post) (fun _ => E0) t) := by
  subst h
  obtain ⟨f, fd, h1, h2, h3, h4⟩ := g.ex
  exact L2H.pe_callH h4 (hr.mono hj) hc hg h1 h2 h3 (fun σ _ _ _ _ _ _ z => z.elim) ha hdb he hpl
theorem ps_rzN (K : PySem.W.Frag) (h : X.K = K) {x : Str} {k j : Nat} {fs : List Str} {pre : List D → Prop} {W : WX} {p pos p2 : Pos} {e : Expr} {es : List Expr} {ta : TA} (g : RzC X.prog X.w X.K X.mg X.base x j fs pre) (hc : X.calm = true) (tk : L2N.Takes X W) (hr : Room k X.A) (hj : j + 1 ≤ k) (hg : Gl X x) (ha : PA X (e :: es) ta)
    (hdb : (x == ("__debug__" : Str)) = false := by decide) (he : starEach (e :: es) X.env = (false, eval e X.env) :: starEach es X.env := by rfl) (hpl : (backTo pos (starEach es X.env)).any (·.1) = false := by rfl) :
    PS X (.Raise (some (.Call (.Name x p) (e :: es) [] pos)) none p2) (fun _ σ H => tMkO (He.ga K x) (spI K (He.ga K x) fs pre) [] ta σ H fun cls d H' => W cls d σ H') := by
  subst h
  obtain ⟨f, fd, h1, h2, h3, h4, _, _, ps, h5, h6⟩ := g.ex
  exact L2N.ps_raise hc tk (pmk_oexN h2 h3 h4 h6 (hr.mono hj) h5 .nil pass0 hg h1 ha hdb he hpl)
theorem ps_try_asN (K : PySem.W.Frag) (h : X.K = K) {x n : Str} {c : Value} {i : Nat} {body suite : List Stmt} {b₀ : Stmt} {np pos pos' : Pos} {tb : WX → TS} {ts : Addr → Value → Option Addr → TS} {Wout : WX} (hs : X.stack = X.env :: X.outer) (hf : X.env.frame = some X.env.locals) (hN : X.N.Nodup) (hi : X.N[i]? = some n) (hln : X.env.kindOf n = some .local) (hc : Names X x c) (tk : L2N.Takes X Wout)
    (hb : ∀ (W : WX) (pn : List (Addr × Obj)) (xe : Value → Shared → Prop), L2N.Takes (X.tr pn xe) W → PassesOwn (model X.prog X.w) X.A X.env xe → PSs (X.tr pn xe) body (tb W))
    (hsu : ∀ (a : Addr) (oe : Obj) (cls : Value) (d : Option Addr) (pn : List (Addr × Obj)), L2N.Zn cls d oe → (∃ vs, oe.data = .fields vs) → PSs (X.suite a ((a, oe) :: pn)) (b₀ :: suite) (ts a cls d)) :
    PS X (.Try body [.ExceptHandler (some (.Name x np)) (some n) (b₀ :: suite) pos'] [] [] pos) (tTryAs K c i tb ts Wout) := by
  subst h
  exact L2N.ps_try_as hs hf hN hi hln hc tk hb hsu
/-- the context of a suite is hot -/
theorem hot_suite {a : Addr} {oe : Obj} {cls : Value} {d : Option Addr} {pn : List (Addr × Obj)} (hz : L2N.Zn cls d oe) (hf : ∃ vs, oe.data = .fields vs) : L2H.HotC (X.suite a ((a, oe) :: pn)) :=
  let ⟨vs, e⟩ := hf
  ⟨(a, oe), ⟨rfl, vs, e, hz.2.2 vs e⟩, List.mem_cons_self⟩
end
theorem ew_callH {K : PySem.W.Frag} {γ : Gam} {Φ : D → Prop} {n : Nat} {pre : List D → Prop} {post : List D → D → Prop} {E : L2.St → XK} {tr : TA} (h : AW K tr γ fun ds => CallOk n pre post Φ ds) : EW K (tCallS (spD K n pre post) E tr) γ Φ := fun Hs0 H0 Hs H σ Q S q =>
  h Hs0 H0 Hs H σ _ S fun Hs1 H1 vs ds g1 r1 ⟨l, p, k⟩ => ⟨Hs1, ds, g1.t S.tb, g1.b, r1, l, p, fun Hs2 H2 v d g2 r2 ps => q _ _ _ _ (g1.trans g2) r2 (k d ps)⟩
end Z

/-! two fors in a comprehension; sorted texts; max, min of a list; len(set(..)); zip; l.index(x) -/
namespace Z
open PySem PySem.Spec L2 StX RZ
variable [Tabs]
section
variable {K : PySem.W.Frag} {Hs0 H0 Hs H Hs' H' : Hp} {σ : L2.St} {γ : Gam} {a : Addr}
theorem del_in {b : Addr} {o : HO} (e : del H a b = some o) : b ≠ a ∧ H b = some o := by
  by_cases h : b = a
  · subst h; rw [del_same] at e; cases e
  · rw [del_ne h] at e; exact ⟨h, e⟩
theorem tb_del (t : TbOk Hs H) (nt : ∀ ps, H a ≠ some (.tbl ps)) : TbOk Hs (del H a) := fun P hP => by
  obtain ⟨⟨ps, h1, h2⟩, h3⟩ := t P hP
  exact ⟨⟨ps, by rw [del_ne (fun q => nt ps (by rw [← q]; exact h1))]; exact h1, h2⟩, h3⟩
theorem tb_undel (t : TbOk Hs (del H a)) : TbOk Hs H := fun P hP => by
  obtain ⟨⟨ps, h1, h2⟩, h3⟩ := t P hP
  exact ⟨⟨ps, (del_in h1).2, h2⟩, h3⟩
theorem Grow.del (g : Grow Hs H Hs' H') (h0 : H a = none) (hs : Hs' a = none) (nt : ∀ ps, H' a ≠ some (.tbl ps)) : Grow Hs H Hs' (L2.del H' a) :=
  ⟨g.s, fun b o e => by rw [del_ne (ne_of_none e h0)]; exact g.e b o e, fun b o e => by rw [del_ne (ne_of_none e hs)]; exact g.b b o e, g.n, fun t => tb_del (g.t t) nt⟩
theorem Grow.undel (b : Same Hs H) (hs : Hs a = none) : Grow Hs (L2.del H a) Hs H :=
  ⟨.refl _, .of fun c o e => (del_in e).2, b, fun _ _ _ h => h, fun t => tb_undel t⟩
theorem Sl.delH (S : Sl K Hs0 H0 Hs H σ γ) (hγ : ShG γ) (h0 : H0 a = none) (hs : Hs a = none) (nt : ∀ ps, H a ≠ some (.tbl ps)) : Sl K Hs0 H0 Hs (L2.del H a) σ γ := by
  refine ⟨S.gr.del h0 hs nt, S.len, fun i s h => ?_, S.fr, S.ne, tb_del S.tb nt⟩
  obtain ⟨d, rfl⟩ := hγ i s h
  exact S.ok i _ h
theorem en_lc2 {γ : Gam} {wi : TI} {g : TG} {js : List Nat} {tt : TT} {wi1 : TI} {g1 : TG} {js1 : List Nat} {tt1 : TT} {te : TE} {vs vs1 : List Nat} {Φ : List D → Prop} (hj : ∀ j ∈ js, j ∈ vs) (hj1 : ∀ j ∈ js1, j ∈ vs1)
    (h : IW K wi γ fun ds => ∃ Iv : Nat → List D → Prop, Iv 0 [] ∧ (∀ i d acc, ds[i]? = some d → Iv i acc → GW K g js d (wipeG γ vs) fun γ2 => ShG γ2 ∧ TW K tt γ2 fun b => (b = true → IW K wi1 γ2 fun es => ∃ Jv : Nat → List D → Prop, Jv 0 acc ∧
      (∀ j e acc', es[j]? = some e → Jv j acc' → acc'.length < sizeS ∧ GW K g1 js1 e (wipeG γ2 vs1) fun γ3 => TW K tt1 γ3 fun b => (b = true → EW K te γ3 fun y => Jv (j + 1) (acc' ++ [y])) ∧ (b = false → Jv (j + 1) acc')) ∧ ∀ acc', Jv es.length acc' → Iv (i + 1) acc') ∧ (b = false → Iv (i + 1) acc)) ∧
      ∀ acc, Iv ds.length acc → Φ acc) : EN K (tLc2 wi g tt wi1 g1 tt1 te vs vs1) γ Φ := fun Hs0 H0 Hs H σ Q S q =>
  h Hs0 H0 Hs H σ _ S fun Hs1 H1 J ds g1' Y ⟨Iv, i0, step, fin⟩ Dl hD => by
    have S1 := S.grow g1'
    have HsD : Hs1 Dl = none := g1'.b.free hD
    have H0D : H0 Dl = none := SameT.free S1.gr.e hD
    refine ⟨fun i m Hx => m = ds.length - i ∧ i ≤ ds.length ∧ ∃ Hs' ws acc, Grow Hs1 H1 Hs' Hx ∧ Hs' Dl = none ∧ Hx Dl = some (.lst ws) ∧ RepL K Hs' ws acc ∧ Iv i acc,
      ⟨ds.length, by simp, Nat.zero_le _, Hs1, [], [], .hid g1'.b hD, HsD, upd_same, .nil, i0⟩, ?_⟩
    rintro i m Hx ⟨rfl, hi, Hs', ws, acc, gx, nD, hDl, rw', iv⟩
    by_cases hlt : i < ds.length
    · refine .inr ⟨Y.go i Hs' Hx gx.s gx.b hlt, fun H' => ∃ Hs'' ws acc, Grow Hs1 H1 Hs'' H' ∧ Hs'' Dl = none ∧ H' Dl = some (.lst ws) ∧ RepL K Hs'' ws acc ∧ Iv (i + 1) acc, fun H' ⟨a, b, c, d⟩ => ⟨ds.length - (i + 1), by omega, rfl, hlt, a, b, c, d⟩, fun x H'' hy => ?_⟩
      have hd : ds[i]? = some ds[i] := by simp [hlt]
      obtain ⟨Hs2, g2, rx⟩ := Y.yld i Hs' Hx ds[i] x H'' gx.s gx.b hd hy
      have st := step i ds[i] acc hd iv
      have n2 : Hs2 Dl = none := g2.n _ _ hDl nD
      have S2 : Sl K Hs0 H0 Hs2 H'' (wipe σ vs) (wipeG γ vs) := ((S1.grow gx).grow g2).wipe vs
      refine st Hs0 H0 Hs2 H'' (wipe σ vs) x _ S2 rx fun σ2 γ2 S3 w3 ⟨sh2, h3⟩ => ⟨by rw [w3 vs hj, wipe_wipe], ?_⟩
      refine h3 Hs0 H0 Hs2 H'' σ2 _ S3 fun Hs3 H3 b g3 ⟨p1, p2⟩ => ?_
      have d2 : H'' Dl = some (.lst ws) := g2.e.lst hDl
      have n3 : Hs3 Dl = none := g3.n _ _ d2 n2
      have d3 : H3 Dl = some (.lst ws) := g3.e.lst d2
      have g13 : Grow Hs1 H1 Hs3 H3 := (gx.trans g2).trans g3
      cases b with
      | false =>
        rw [if_neg Bool.false_ne_true]
        exact ⟨Hs3, ws, acc, g13, n3, d3, RepL.mono (g2.trans g3).s rw', p2 rfl⟩
      | true =>
        rw [if_pos rfl]
        refine p1 rfl Hs0 H0 Hs3 H3 σ2 _ (S3.grow g3) fun Hs4 H4 J1 es g4 Y1 ⟨Jv, j0, step1, fin1⟩ => ?_
        have n4 : Hs4 Dl = none := g4.n _ _ d3 n3
        have d4 : H4 Dl = some (.lst ws) := g4.e.lst d3
        have nt4 : ∀ ps, H4 Dl ≠ some (.tbl ps) := fun ps z => by rw [d4] at z; cases z
        have S4 := (S3.grow g3).grow g4
        have S4d : Sl K Hs0 H0 Hs4 (L2.del H4 Dl) σ2 γ2 := S4.delH sh2 H0D n4 nt4
        have b14 : Grow Hs1 H1 Hs4 (L2.del H4 Dl) := (g13.trans g4).del hD n4 nt4
        refine ⟨fun j k Hx => k = es.length - j ∧ j ≤ es.length ∧ ∃ Hs' ws acc', Grow Hs4 (L2.del H4 Dl) Hs' Hx ∧ Hs' Dl = none ∧ Hx Dl = some (.lst ws) ∧ RepL K Hs' ws acc' ∧ Jv j acc',
          ⟨es.length, by simp, Nat.zero_le _, Hs4, ws, acc, .undel g4.b n4, n4, d4, RepL.mono ((g2.trans g3).trans g4).s rw', j0⟩, ?_⟩
        rintro j k Hx ⟨rfl, hjl, Hs5, ws5, acc', gy, n5, d5, r5, jv⟩
        by_cases hlt1 : j < es.length
        · refine .inr ⟨Y1.go j Hs5 Hx gy.s gy.b hlt1, fun H' => ∃ Hs'' ws acc', Grow Hs4 (L2.del H4 Dl) Hs'' H' ∧ Hs'' Dl = none ∧ H' Dl = some (.lst ws) ∧ RepL K Hs'' ws acc' ∧ Jv (j + 1) acc', fun H' ⟨a, b, c, d⟩ => ⟨es.length - (j + 1), by omega, rfl, hlt1, a, b, c, d⟩, fun x1 H6 hy1 => ?_⟩
          have he : es[j]? = some es[j] := by simp [hlt1]
          obtain ⟨Hs6, g6, rx1⟩ := Y1.yld j Hs5 Hx es[j] x1 H6 gy.s gy.b he hy1
          obtain ⟨sz, st1⟩ := step1 j es[j] acc' he jv
          have n6 : Hs6 Dl = none := g6.n _ _ d5 n5
          have S6 : Sl K Hs0 H0 Hs6 H6 (wipe σ2 vs1) (wipeG γ2 vs1) := ((S4d.grow gy).grow g6).wipe vs1
          refine st1 Hs0 H0 Hs6 H6 (wipe σ2 vs1) x1 _ S6 rx1 fun σ3 γ3 S7 w7 h7 => ⟨by rw [w7 vs1 hj1, wipe_wipe], ?_⟩
          refine h7 Hs0 H0 Hs6 H6 σ3 _ S7 fun Hs7 H7 b g7 ⟨p1, p2⟩ => ?_
          have d6 : H6 Dl = some (.lst ws5) := g6.e.lst d5
          have n7 : Hs7 Dl = none := g7.n _ _ d6 n6
          have d7 : H7 Dl = some (.lst ws5) := g7.e.lst d6
          have g47 : Grow Hs4 (L2.del H4 Dl) Hs7 H7 := (gy.trans g6).trans g7
          cases b with
          | true =>
            rw [if_pos rfl]
            refine p1 rfl Hs0 H0 Hs7 H7 σ3 _ (S7.grow g7) fun Hs8 H8 y dy g8 r8 p8 => ?_
            have n8 : Hs8 Dl = none := g8.n _ _ d7 n7
            have d8 := g8.e.lst d7
            have g48 := g47.trans g8
            refine ⟨ws5, d8, by rw [r5.length]; exact Nat.lt_trans sz (by decide), Hs8, ws5 ++ [y], acc' ++ [dy], ?_, n8, upd_same, (RepL.mono ((g6.trans g7).trans g8).s r5).append (.cons r8 .nil), p8⟩
            exact ⟨g48.s, fun b o e => by rw [upd_ne (del_in e).1]; exact g48.e _ _ e, fun b o e => by rw [upd_ne (ne_of_none e n8)]; exact g48.b _ _ e, g48.n, fun t P hP => by
              obtain ⟨⟨ps, q1, q2⟩, q3⟩ := g48.t t P hP
              exact ⟨⟨ps, by rw [upd_ne (fun q => by rw [q, d8] at q1; cases q1)]; exact q1, q2⟩, q3⟩⟩
          | false =>
            rw [if_neg Bool.false_ne_true]
            exact ⟨Hs7, ws5, acc', g47, n7, d7, RepL.mono (g6.trans g7).s r5, p2 rfl⟩
        · have e : j = es.length := by omega
          subst e
          exact .inl ⟨Y1.stop Hs5 Hx gy.s gy.b, Hs5, ws5, acc', b14.trans gy, n5, d5, r5, fin1 acc' jv⟩
    · have e : i = ds.length := by omega
      subst e
      refine .inl ⟨Y.stop Hs' Hx gx.s gx.b, q Hs' Hx Dl ws acc (g1'.trans gx) (SameT.free g1'.e hD) nD hDl rw' (fin acc iv)⟩
end
section
variable {K : PySem.W.Frag} {γ : Gam} {Φ : D → Prop} {ta tb te : TE} {i : Nat}
theorem rnl_sortS {xs : List Str} {Φ : List D → Prop} (k : ∀ ys : List Str, ys.Perm xs → PyProof.Rows.sortedS ys = true → Φ (ys.map .str)) : RNL K (rSortedSA K) [.lst (xs.map .str)] Φ := fun Hs H vs Q b r q => by
  cases r with
  | cons h r =>
    cases r
    cases h with
    | lst h r =>
      have e := r.strs; subst e
      exact ⟨_, xs, rfl, .of (b _ _ h), fun ys p hp hw hn => q Hs _ p _ _ (.hid b hn) hn (b.free hn) upd_same .ofStrs (k ys hp hw)⟩
theorem rwl_maxL {ns : List Int} (h0 : 0 < ns.length) (k : ∀ m, m ∈ ns → (∀ y ∈ ns, y ≤ m) → Φ (.int m)) : RWL K (rMax K) [.lst (ns.map .int)] Φ := fun Hs H vs Q b r q => by
  cases r with
  | cons h r =>
    cases r
    cases h with
    | lst h r =>
      have e := r.ints; subst e
      exact ⟨_, ns, rfl, .of (b _ _ h), h0, fun m hm hy => q _ _ _ _ (.refl b) (.int m) (k m hm hy)⟩
theorem rwl_minL {ns : List Int} (h0 : 0 < ns.length) (k : ∀ m, m ∈ ns → (∀ y ∈ ns, m ≤ y) → Φ (.int m)) : RWL K (rMin K) [.lst (ns.map .int)] Φ := fun Hs H vs Q b r q => by
  cases r with
  | cons h r =>
    cases r
    cases h with
    | lst h r =>
      have e := r.ints; subst e
      exact ⟨_, ns, rfl, .of (b _ _ h), h0, fun m hm hy => q _ _ _ _ (.refl b) (.int m) (k m hm hy)⟩
theorem ew_lenSet (h : EW K ta γ fun d => ∃ ns : List Int, d = .tup (ns.map .int) ∧ ns.length ≤ 1000 ∧ ∀ out : List Int, out.Nodup → (∀ k, k ∈ out ↔ k ∈ ns) → Φ (.int (out.length : Nat))) : EW K (tLenSetT K ta) γ Φ := fun Hs0 H0 Hs H σ Q S q =>
  h Hs0 H0 Hs H σ _ S fun Hs1 H1 v d g1 r1 ⟨ns, e, l, p⟩ => by
    subst e
    cases r1 with
    | tup h r =>
      have e := r.ints; subst e
      exact ⟨_, ns, rfl, sameT g1.b h, l, fun out nd hm => q _ _ _ _ g1 (.int _) (p out nd hm)⟩
theorem int_flatB : ∀ xs : List Int, (xs.map V.int).all flatV = true
  | [] => rfl
  | x :: xs => by rw [List.map_cons, List.all_cons, int_flatB xs]; rfl
/-- l.index(x), ints -/
theorem rwm_index {ns : List Int} {x : Int} {j : Nat} (hj : ns[j]? = some x) (hno : ∀ m, m < j → ns[m]? ≠ some x) (k : Φ (.int (j : Nat))) : RWM K (rIndex K) (.lst (ns.map .int)) [.int x] Φ := fun Hs H v vs Q b r1 r2 q => by
  cases r1 with
  | lst h r =>
    have e := r.ints; subst e
    cases r2 with
    | cons r2 r3 =>
      cases r2; cases r3
      refine ⟨_, _, .int x, j, .int x, rfl, rfl, .of (b _ _ h), rfl, int_flatB ns, by rw [List.getElem?_map, hj]; rfl, by show (x == x) = true; simp, fun m z hm hz => ?_, q _ _ _ _ (.refl b) (.int _) k⟩
      rw [List.getElem?_map] at hz
      obtain ⟨y, hy, rfl⟩ := Option.map_eq_some_iff.mp hz
      show (y == x) = false
      exact beq_eq_false_iff_ne.mpr fun e => hno m hm (by rw [hy, e])
theorem ew_bmL {r : V → List V → Hp → VK → Prop} {tr : TA} (h : EW K ta γ fun x => ∃ ds, x = .lst ds ∧ AW K tr γ fun ys => RWM K r x ys Φ) : EW K (tBM K "list" r ta tr) γ Φ := fun Hs0 H0 Hs H σ Q S q =>
  h Hs0 H0 Hs H σ _ S fun Hs1 H1 v x g1 r1 ⟨ds, e, h1⟩ => by
    subst e
    have rz := r1
    cases r1 with
    | lst hh rr =>
      exact ⟨.inl ⟨rfl, _, .of (g1.b _ _ hh)⟩, h1 Hs0 H0 Hs1 H1 σ _ (S.grow g1) fun Hs2 H2 ws ys g2 r2 h2 => h2 Hs2 H2 _ ws Q g2.b (rz.mono g2.s) r2 fun Hs3 H3 w d g3 r3 p => q _ _ _ _ ((g1.trans g2).trans g3) r3 p⟩
/-- zip of tuples -/
def zipD (xs ys : List D) : List D := (xs.zip ys).map fun p => .tpl [p.1, p.2]
theorem zipD_get {xs ys : List D} {i : Nat} {d : D} (h : (zipD xs ys)[i]? = some d) : ∃ x y, xs[i]? = some x ∧ ys[i]? = some y ∧ d = .tpl [x, y] := by
  unfold zipD at h
  rw [List.getElem?_map] at h
  obtain ⟨p, hp, rfl⟩ := Option.map_eq_some_iff.mp h
  rw [List.getElem?_zip_eq_some] at hp
  exact ⟨p.1, p.2, hp.1, hp.2, rfl⟩
theorem zipD_len (xs ys : List D) : (zipD xs ys).length = min xs.length ys.length := by unfold zipD; rw [List.length_map, List.length_zip]
theorem iw_zipT {t : TA} {Φ : List D → Prop} (h : AW K t γ fun ds => ∃ xs ys, ds = [.tup xs, .tup ys] ∧ Φ (zipD xs ys)) : IW K (iZipA K t) γ Φ := fun Hs0 H0 Hs H σ R S q =>
  h Hs0 H0 Hs H σ _ S fun Hs1 H1 vs ds g1 r1 ⟨xs, ys, e, p⟩ => by
    subst e
    cases r1 with
    | cons h1 r2 =>
      cases r2 with
      | cons h2 r3 =>
        cases r3
        cases h1 with
        | tup h1 r1 =>
          cases h2 with
          | tup h2 r2 =>
            rename_i a va b vb
            refine ⟨a, b, va, vb, rfl, .inr ⟨sameT g1.b h1, sameT g1.b h2, q Hs1 H1 _ _ g1 ⟨fun i Hs' H' e1 e2 hi => ?_, fun i Hs' H' d x H'' e1 e2 hd hy => ?_, fun Hs' H' e1 e2 => ?_⟩ p⟩⟩
            · rw [zipD_len] at hi
              have ha : i < va.length := by rw [r1.length]; omega
              have hb : i < vb.length := by rw [r2.length]; omega
              exact ⟨va, vb, va[i], vb[i], sameT (e1.trans e2) h1, sameT (e1.trans e2) h2, by simp [ha], by simp [hb]⟩
            · obtain ⟨T, x1, y1, rfl, hT, rfl, hy1, hy2⟩ := hy
              have hx := hy1 va (sameT (e1.trans e2) h1)
              have hz := hy2 vb (sameT (e1.trans e2) h2)
              obtain ⟨dx, hdx, rdx⟩ := r1.get' hx
              obtain ⟨dy, hdy, rdy⟩ := r2.get' hz
              obtain ⟨x2, y2, q1, q2, rfl⟩ := zipD_get hd
              rw [hdx] at q1; cases q1
              rw [hdy] at q2; cases q2
              have n2 := e2.free hT
              have sm := e1.trans (sameNew (o := .tup [x1, y1]) n2)
              exact ⟨_, .new e2 hT, .tpl upd_same (.cons (rdx.mono sm) (.cons (rdy.mono sm) .nil))⟩
            · refine ⟨va, vb, sameT (e1.trans e2) h1, sameT (e1.trans e2) h2, ?_⟩
              rw [zipD_len, r1.length, r2.length]; omega
end
end Z

/-! defs whose answer is a new list, of the caller's own -/
namespace Z
open PySem PySem.Spec L2 StX
variable [Tabs]
def SXF (K : PySem.W.Frag) (Hs0 H0 Hb : Hp) (ts : TS) (γ : Gam) (Φ : List D → Prop) : Prop := ∀ (Hs H : Hp) (σ : L2.St) (E : Ends), Same Hb Hs → Sl K Hs0 H0 Hs H σ γ →
  (∀ Hs' H' a vs ds, Grow Hs0 H0 Hs' H' → H0 a = none → Hs' a = none → H' a = some (.lst vs) → RepL K Hs' vs ds → Φ ds → E.rt (.ref a) H') → ts E σ H
section
variable {K : PySem.W.Frag} {Hs0 H0 Hb : Hp} {γ : Gam} {te : TE} {tr : TA} {ts tz : TS} {Φ : List D → Prop} {W : WX} {Ψ : XD → Gam → Prop}
theorem sxf_seq (h : SX K Hs0 H0 Hb ts γ { nx := fun γ1 => SXF K Hs0 H0 Hb tz γ1 Φ, rt := fun _ => False }) : SXF K Hs0 H0 Hb (tSeq ts tz) γ Φ := fun Hs H σ E hb S kr =>
  h Hs H σ _ hb S (fun Hs1 H1 σ1 γ1 e1 S1 h1 => h1 Hs1 H1 σ1 E (hb.trans e1) S1 kr) (fun _ _ _ _ _ _ z => z.elim) (fun _ _ _ _ _ _ z => z.elim) fun _ _ _ _ _ _ z => z.elim
theorem sxf_ret (h : EN K te γ Φ) : SXF K Hs0 H0 Hb (tRet te) γ Φ := fun Hs H σ E hb S kr =>
  h Hs0 H0 Hs H σ _ S fun Hs' H' a vs ds g n1 n2 h3 r p => kr Hs' H' a vs ds (S.gr.trans g) (SameT.free S.gr.e n1) n2 h3 r p
theorem sxf_retO {i : Nat} {ds : List D} (hg : γ[i]? = some (some (.ow ds))) (p : Φ ds) : SXF K Hs0 H0 Hb (tRet (tVar i)) γ Φ := fun Hs H σ E hb S kr => by
  obtain ⟨a, vs, hv, h1, h2, h3⟩ := own_at S hg
  exact ⟨.ref a, hv, kr Hs H a vs ds S.gr (S.fr i _ a hg rfl hv) h1 h2 h3 p⟩
def spF (K : PySem.W.Frag) (n : Nat) (pre : List D → Prop) (post : List D → D → Prop) (xpost : List D → XD → Prop) : Sp := fun vs H Q E => ∃ Hs ds, TbOk Hs H ∧ Same Hs H ∧ RepL K Hs vs ds ∧ ds.length = n ∧ pre ds ∧
  (∀ Hs' H' a vs' ds', Grow Hs H Hs' H' → H a = none → Hs' a = none → H' a = some (.lst vs') → RepL K Hs' vs' ds' → post ds (.lst ds') → Q (.ref a) H') ∧ ∀ Hs' H' cls d x, Grow Hs H Hs' H' → RepX K Hs' H' cls d x → xpost ds x → E cls d H'
structure DfXF (P : Program) (w : World) (K : PySem.W.Frag) (mg : Str → Option Value) (base : Heap) (x : Str) (k : Nat) (ps : List Str) (n : Nat) (pre : List D → Prop) (post : List D → D → Prop) (xpost : List D → XD → Prop) : Prop where
  ex : ∃ f fd, mg x = some (.ref f) ∧ PySem.W.keepIn K (.ref f) = true ∧ Binds K fd ps [] ∧ FnOk P w K mg base (L2N.CX P w) k f fd ps (spF K n pre post xpost)
end
section
variable {P : Program} {w : World} {K : PySem.W.Frag} {mg : Str → Option Value} {base : Heap}
theorem df_mkXF {x : Str} {params : Arguments} {body : List Stmt} {scope : Scope} {f : Addr} {fd : FuncData} {N ps : List Str} {k : Nat} {pre : List D → Prop} {post : List D → D → Prop} {xpost : List D → XD → Prop} (F : FunD K x x params body scope [] [] f fd) (hm : mg x = some (.ref f)) (S : FnScope N ps scope)
    (hb : ∀ (kV doc pm : Value) (an : Option Addr) (cdv ct : Value) (us : List Value), us.length = ps.length → bindArgs (PySem.W.fnOf x x params body scope .none kV doc pm an cdv ct) ⟨us, []⟩ = pure (ps.zip us))
    (hbody : ∀ (cdv : Value) (A : Around) (outer : List Env) (s : Shared) (H : Hp) (E : XK), Room k (A.deeper (PyProof.Rows.envOfC x scope s.heap.objs.size f cdv)) → ∀ ds, ds.length = ps.length → pre ds →
      ∃ t, PSs (cxOf (L2N.CX P w) P w K mg base N x scope f cdv A outer s H E) body t ∧ ∀ Hs0 H0, Wok K Hs0 H0 Hs0 (WD E) (fun x _ => xpost ds x) → SXF K Hs0 H0 Hs0 t (gam0 N.length ds) fun ds' => post ds (.lst ds')) : DfXF P w K mg base x (k + 1) ps ps.length pre post xpost := by
  refine ⟨f, fd, hm, F.kp, F.bindsN hb, F.ok S (fun vs H Q E h => ?_) (fun cdv A outer s H vs Q E hr h => ?_)⟩
  · obtain ⟨Hs, ds, _, _, r, l, _⟩ := h
    rw [r.length]; exact l
  · obtain ⟨Hs, ds, tb, b, r, l, p, q, qx⟩ := h
    obtain ⟨t, ht, hw⟩ := hbody cdv A outer s H E hr ds l p
    exact ⟨t, ht, hw Hs H (fun Hs' H' σ' γ' cls d x _ S' r' px => qx Hs' H' cls d x S'.gr r' px) Hs H _ _ (.refl _) (sl_start tb b r) fun Hs' H' a vs' ds' g n1 n2 h3 r' p' => q Hs' H' a vs' ds' g n1 n2 h3 r' p'⟩
end
section
variable {X : Cx}
theorem pe_dfXF (K : PySem.W.Frag) (h : X.K = K) {x : Str} {k j : Nat} {ps : List Str} {n : Nat} {pre : List D → Prop} {post : List D → D → Prop} {xpost : List D → XD → Prop} {W : WX} {p pos : Pos} {e : Expr} {es : List Expr} {t : TA} (g : DfXF X.prog X.w X.K X.mg X.base x j ps n pre post xpost) (hr : Room k X.A) (hj : j ≤ k) (hg : Gl X x) (tk : L2N.Takes X W)
    (ha : PA X (e :: es) t) (hdb : (x == ("__debug__" : Str)) = false := by decide) (he : starEach (e :: es) X.env = (false, eval e X.env) :: starEach es X.env := by rfl) (hpl : (backTo pos (starEach es X.env)).any (·.1) = false := by rfl) :
    PE X (.Call (.Name x p) (e :: es) [] pos) (tCallS (spF K n pre post xpost) (WE W) t) := by
  subst h
  obtain ⟨f, fd, h1, h2, h3, h4⟩ := g.ex
  exact pe_callS h4 (hr.mono hj) hg h1 h2 h3 (fun σ => L2N.passAt tk σ) ha hdb he hpl
end
section
variable {K : PySem.W.Frag} {Hs0 H0 Hb : Hp} {γ : Gam} {tr : TA} {W : WX} {Ψ : XD → Gam → Prop} {n : Nat} {pre : List D → Prop} {post : List D → D → Prop} {xpost : List D → XD → Prop}
/-- where it cannot raise: a new list -/
theorem en_callF {Φ : List D → Prop} {E : L2.St → XK} (h : AW K tr γ fun ds => ds.length = n ∧ pre ds ∧ (∀ x, xpost ds x → False) ∧ ∀ ds', post ds (.lst ds') → Φ ds') : EN K (tCallS (spF K n pre post xpost) E tr) γ Φ := fun Hs0 H0 Hs H σ Q S q =>
  h Hs0 H0 Hs H σ _ S fun Hs1 H1 vs ds g1 r1 ⟨l, p, kx, k⟩ => ⟨Hs1, ds, g1.t S.tb, g1.b, r1, l, p, fun Hs2 H2 a vs' ds' g2 n1 n2 h3 r2 ps => q Hs2 H2 a vs' ds' (g1.trans g2) (SameT.free g1.e n1) n2 h3 r2 (k ds' ps), fun _ _ _ _ x _ _ ps => (kx x ps).elim⟩
/-- where it may raise: a datum -/
theorem ex_callF {Φ : D → Prop} (hW : Wok K Hs0 H0 Hb W Ψ) (h : AX K Hs0 H0 Hb tr γ fun ds => CallX n pre post xpost Φ (fun x => Ψ x γ) ds) : EX K Hs0 H0 Hb (tCallS (spF K n pre post xpost) (WE W) tr) γ Φ := fun Hs H σ Q hb S q =>
  h Hs H σ _ hb S fun Hs1 H1 vs ds g1 r1 ⟨l, p, k, kx⟩ => ⟨Hs1, ds, g1.t S.tb, g1.b, r1, l, p, fun Hs2 H2 a vs' ds' g2 n1 n2 h3 r2 ps => by
    obtain ⟨g', r'⟩ := en_grow g2 n1 n2 h3 r2
    exact q _ _ _ _ (g1.trans g') r' (k (.lst ds') ps), fun Hs2 H2 cls d x g2 r2 ps => hW Hs2 H2 σ γ cls d x (hb.trans (g1.trans g2).s) (S.grow (g1.trans g2)) r2 (kx x ps)⟩
end
end Z

/-! a test that only reads a list of one's own -/
namespace Z
open PySem PySem.Spec L2 StX
variable [Tabs]
section
variable {K : PySem.W.Frag} {γ : Gam} {t : TT} {Φ : Bool → Prop}
theorem tw_thaw (i : Nat) {ds : List D} (hg : γ[i]? = some (some (.ow ds))) (h : TW K t (γ.set i (some (.sh (.lst ds)))) Φ) : TW K t γ Φ := fun Hs0 H0 Hs H σ Q S q => by
  obtain ⟨Hs1, e1, S1⟩ := S.freeze i hg
  exact h Hs0 H0 Hs1 H σ _ S1 fun Hs' H' b g p => q Hs H' b ⟨.refl _, g.e, (e1.trans g.s).trans g.b, fun _ _ _ z => z, fun tb P hP => ⟨(g.t S1.tb P hP).1, (tb P hP).2⟩⟩ p
end
end Z

/-! constants of classes; objects that are called; defs with keyword-only parameters whose answer is a new list of the caller's own -/
namespace Z
open PySem PySem.Spec L2 StX ClX
variable [Tabs]
/-! ### C.f, a whole number of the class C -/
def cvB (K : PySem.W.Frag) (C : Addr) (f : Str) (i : Int) : Bool := PySem.W.readsIn K C (.type "type") && decide (PySem.W.specialIn K (.ref C) "__getattribute__" = some (some (.builtin "type.__getattribute__"))) &&
  (match PySem.W.findCls K (.ref C) (.type "type") f with
    | some (.val (.int j _)) => j == i
    | _ => false)
structure CvI (K : PySem.W.Frag) (C : Addr) (f : Str) (i : Int) : Prop where
  r : CRead K C (.type "type")
  v : ∃ u, CVal K C (.type "type") f (.int i) u
theorem cvB_ok {K : PySem.W.Frag} {C : Addr} {f : Str} {i : Int} (h : cvB K C f i = true) : CvI K C f i := by
  unfold cvB at h
  rcases Bool.and_eq_true_iff.mp h with ⟨h, hv⟩
  rcases Bool.and_eq_true_iff.mp h with ⟨hr, hg⟩
  refine ⟨⟨hr, of_decide_eq_true hg⟩, ?_⟩
  split at hv
  · rename_i j t e
    cases beq_iff_eq.mp hv
    exact ⟨_, e, t, rfl⟩
  · cases hv
theorem pe_cvalK {X : Cx} {e : Expr} {f : Str} {pos : Pos} {ta : TE} (K : PySem.W.Frag) (hK : X.K = K) (he : PE X e ta) (hb : attributeBase e f X.env (eval e X.env) = eval e X.env := by rfl) : PE X (.Attribute e f pos) (tCVal K ta f) := hK ▸ pe_cval he hb
theorem ew_cval {K : PySem.W.Frag} {γ : Gam} {Φ : D → Prop} {C : Addr} {f : Str} (i : Int) (h : CvI K C f i) (k : Φ (.int i)) : EW K (tCVal K (tC (.ref C)) f) γ Φ := fun _ _ Hs H σ Q S q =>
  let ⟨u, v⟩ := h.v
  ⟨C, _, _, u, rfl, h.r, v, q _ _ _ _ (.refl S.b) (.int i) k⟩
/-! ### o(e, ..), o an object whose class has a __call__ that raises nothing -/
def fiB (K : PySem.W.Frag) (C m : Str) : Bool := match PySem.W.findIn K (.ref (He.ga K C)) m with
  | some (some (.ref f)) => PySem.W.fnIn K f
  | _ => false
theorem fiB_ok {K : PySem.W.Frag} {C m : Str} (h : fiB K C m = true) (f : Addr) (hm : Meth K (He.ga K C) m f) : PySem.W.fnIn K f = true := by
  unfold fiB at h
  rw [hm.at_] at h
  exact h
theorem pe_coD {X : Cx} {C : Str} {k j n : Nat} {ps : List Str} {pre : List D → Prop} {post : List D → D → Prop} {pos : Pos} {fe e : Expr} {es : List Expr} {ta : TE} {t : TA} (K : PySem.W.Frag) (hK : X.K = K) (ho : PE X fe ta) (g : MtD X.prog X.w K X.mg X.base C "__call__" j ps n pre post) (fi : fiB K C "__call__" = true) (hr : Room k X.A) (hj : j ≤ k) (ha : PA X (e :: es) t)
    (ht : eval (.Call fe (e :: es) [] pos) X.env = (eval fe X.env >>= fun fv => callWith pos fv [] (backTo pos (starEach (e :: es) X.env)) (backToKw pos (keywordEach [] X.env))) := by rfl) (he : Fst X e es := by rfl) (hpl : Pln X pos es := by rfl) :
    PE X (.Call fe (e :: es) [] pos) (tCallOX (He.ga K C) (spD K n pre post) (fun _ => E0) ta t) := by
  subst hK
  rcases g.ex with ⟨f, fd, h1, h2, h3⟩
  exact pe_callX (g := f) (E := fun _ => E0) ho ⟨h1.at_, h1.fn, fiB_ok fi f h1⟩ h3 (hr.mono hj) h2 (fun _ _ _ _ _ _ _ z => z.elim) ha ht he hpl
theorem ew_coD {K : PySem.W.Frag} {γ : Gam} {Φ : D → Prop} {C : Str} {n : Nat} {pre : List D → Prop} {post : List D → D → Prop} {ta : TE} {tr : TA} {E : L2.St → XK} (h : EW K ta γ fun d => ∃ ns fs, d = .obj C ns fs ∧ AW K tr γ fun ds => CallOk n pre post Φ (.obj C ns fs :: ds)) :
    EW K (tCallOX (He.ga K C) (spD K n pre post) E ta tr) γ Φ := fun Hs0 H0 Hs H σ Q S q =>
  h Hs0 H0 Hs H σ _ S fun Hs1 H1 v x g1 r1 ⟨ns, fs, e, p⟩ => by
    subst e
    have r := r1
    cases r1 with
    | obj h1 l rr =>
      exact ⟨_, rfl, p Hs0 H0 Hs1 H1 σ _ (S.grow g1) fun Hs2 H2 vs ds g2 r2 ⟨l2, pp, k⟩ =>
        ⟨⟨_, _, g2.b _ _ (g2.s _ _ h1)⟩, Hs2, _, g2.t (g1.t S.tb), g2.b, .cons (r.mono g2.s) r2, l2, pp, fun Hs3 H3 u d g3 r3 ps => q _ _ _ _ ((g1.trans g2).trans g3) r3 (k d ps)⟩⟩
/-! ### a quiet def whose answer is a new list; keyword-only parameters -/
def spF0 (K : PySem.W.Frag) (n : Nat) (pre : List D → Prop) (post : List D → D → Prop) : Sp := fun vs H Q _ => ∃ Hs ds, TbOk Hs H ∧ Same Hs H ∧ RepL K Hs vs ds ∧ ds.length = n ∧ pre ds ∧
  ∀ Hs' H' a vs' ds', Grow Hs H Hs' H' → H a = none → Hs' a = none → H' a = some (.lst vs') → RepL K Hs' vs' ds' → post ds (.lst ds') → Q (.ref a) H'
/-- nk positional parameters; dvs: what the others are if they are not given; ks: their names -/
structure DfF (P : Program) (w : World) (K : PySem.W.Frag) (mg : Str → Option Value) (base : Heap) (x : Str) (k : Nat) (ps : List Str) (n : Nat) (dvs : List V) (nk : Nat) (ks : List Str) (pre : List D → Prop) (post : List D → D → Prop) : Prop where
  ex : ∃ f fd, mg x = some (.ref f) ∧ PySem.W.keepIn K (.ref f) = true ∧ (∃ ds, Vals dvs ds ∧ Binds K fd ps ds) ∧ (ks = [] ∨ ∃ g, KBn K fd ps nk ks g (fun vs zs => vs ++ zs)) ∧ FnOk P w K mg base CX0 k f fd ps (spF0 K n pre post)
section
variable {P : Program} {w : World} {K : PySem.W.Frag} {mg : Str → Option Value} {base : Heap}
theorem df_mkF {x : Str} {params : Arguments} {body : List Stmt} {scope : Scope} {f : Addr} {fd : FuncData} {N ps : List Str} {k : Nat} {dvs : List V} {kws : List (Str × V)} {nk : Nat} {ks : List Str} {pre : List D → Prop} {post : List D → D → Prop} (F : FunD K x x params body scope [] kws f fd) (hm : mg x = some (.ref f)) (S : FnScope N ps scope)
    (hd : ∃ ds, Vals dvs ds ∧ Binds K fd ps ds) (hk : ks = [] ∨ ∃ g, KBn K fd ps nk ks g (fun vs zs => vs ++ zs))
    (hbody : ∀ (cdv : Value) (A : Around) (outer : List Env) (s : Shared) (H : Hp) (E : XK), Room k (A.deeper (PyProof.Rows.envOfC x scope s.heap.objs.size f cdv)) → ∀ ds, ds.length = ps.length → pre ds →
      ∃ t, PSs (cxOf CX0 P w K mg base N x scope f cdv A outer s H E).nox body t ∧ ∀ Hs0 H0, SXF K Hs0 H0 Hs0 t (gam0 N.length ds) fun ds' => post ds (.lst ds')) : DfF P w K mg base x (k + 1) ps ps.length dvs nk ks pre post := by
  refine ⟨f, fd, hm, F.kp, hd, hk, F.ok S (fun vs H Q E h => ?_) (fun cdv A outer s H vs Q E hr h => ?_)⟩
  · rcases h with ⟨_, _, _, _, r, l, _⟩
    rw [r.length]; exact l
  · rcases h with ⟨Hs, ds, tb, b, r, l, p, q⟩
    rcases hbody cdv A outer s H E hr ds l p with ⟨t, ht, hw⟩
    exact ⟨t, ht.nox, hw Hs H Hs H _ _ (.refl _) (sl_start tb b r) q⟩
/-- keywords that are all given -/
theorem kbn_all {x : Str} {params : Arguments} {body : List Stmt} {scope : Scope} {f : Addr} {fd : FuncData} {ps ks : List Str} {nk : Nat} {kws : List (Str × V)} (F : FunD K x x params body scope [] kws f fd) (hk : kws ≠ [])
    (h : ∀ (D : Addr) (doc pm : Value) (an : Option Addr) (cdv ct : Value) (us ws : List Value), us.length = nk → ws.length = ks.length → bindArgs (PySem.W.fnOf x x params body scope .none (.ref D) doc pm an cdv ct) ⟨us, ks.zip ws⟩ = pure (ps.zip (us ++ ws))) : ∃ g, KBn K fd ps nk ks g (fun vs zs => vs ++ zs) := by
  rcases F.kbinds0 (ps := ps) nk ks [] (fun us _ ws => us ++ ws) hk (by simp) (fun a _ c => a.append c) (fun D doc pm an cdv ct us mv ws l1 _ l2 => h D doc pm an cdv ct us ws l1 l2) with ⟨mv, kb⟩
  exact ⟨_, kb⟩
/-- a def without keyword-only parameters -/
theorem binds_plain {x : Str} {params : Arguments} {body : List Stmt} {scope : Scope} {f : Addr} {fd : FuncData} {ps : List Str} (F : FunD K x x params body scope [] [] f fd)
    (h : ∀ (kV doc pm : Value) (an : Option Addr) (cdv ct : Value) (us : List Value), us.length = ps.length → bindArgs (PySem.W.fnOf x x params body scope .none kV doc pm an cdv ct) ⟨us, []⟩ = pure (ps.zip us)) : ∃ ds, Vals [] ds ∧ Binds K fd ps ds := ⟨[], .nil, F.bindsN h⟩
end
section
variable {X : Cx} {x : Str} {k j n nk : Nat} {ps ks : List Str} {dvs : List V} {pre : List D → Prop} {post : List D → D → Prop} {p pos : Pos} {e : Expr} {es : List Expr} {kws : List Keyword} {t tk : TA}
theorem pe_dfF (K : PySem.W.Frag) (h : X.K = K) (g : DfF X.prog X.w K X.mg X.base x j ps n dvs nk ks pre post) (hr : Room k X.A) (hj : j ≤ k) (hg : Gl X x) (ha : PA X (e :: es) t) (hdb : (x == ("__debug__" : Str)) = false := by decide) (he : Fst X e es := by rfl) (hpl : Pln X pos es := by rfl) :
    PE X (.Call (.Name x p) (e :: es) [] pos) (tCall (spF0 K n pre post) dvs E0 t) := by
  subst h
  rcases g.ex with ⟨f, fd, h1, h2, ⟨ds, r, hb⟩, _, h4⟩
  exact pe_call h4 (hr.mono hj) hg h1 h2 hb r pass0 ha hdb he hpl
theorem pe_dfFk (K : PySem.W.Frag) (h : X.K = K) (g : DfF X.prog X.w K X.mg X.base x j ps n dvs nk ks pre post) (hne : ks ≠ []) (hr : Room k X.A) (hj : j ≤ k) (hg : Gl X x) (ha : PA X (e :: es) t) (hkw : PK X kws tk) (hall : (backToKw pos (keywordEach kws X.env)).all (·.1.isSome) = true := by rfl) (hks : (backToKw pos (keywordEach kws X.env)).filterMap (·.1) = ks := by rfl)
    (hdb : (x == ("__debug__" : Str)) = false := by decide) (he : Fst X e es := by rfl) (hpl : ((backTo pos (starEach (e :: es) X.env)).any (·.1) || (backToKw pos (keywordEach kws X.env)).any (·.1.isNone)) = false := by rfl) :
    PE X (.Call (.Name x p) (e :: es) kws pos) (tCallN nk ks.length (spF0 K n pre post) (fun vs zs => vs ++ zs) E0 t tk) := by
  subst h
  rcases g.ex with ⟨f, fd, h1, h2, _, h3, h4⟩
  rcases h3 with z | ⟨gg, kb⟩
  · exact absurd z hne
  · exact pe_callN h4 (hr.mono hj) hg h1 h2 kb pass0 ha hkw hall hks hdb he hpl
end
section
variable {K : PySem.W.Frag} {Hs0 H0 Hb : Hp} {γ : Gam} {tr tk : TA} {n nk m : Nat} {dvs : List V} {pre : List D → Prop} {post : List D → D → Prop} {Φ : List D → Prop} {E : XK}
theorem rep_plain {H : Hp} : ∀ {vs : List V}, vs.all plainV = true → RepL K H vs (vs.map ofV)
  | [], _ => .nil
  | v :: vs, h => by
    rw [List.all_cons, Bool.and_eq_true] at h
    exact .cons (.ofV h.1) (rep_plain h.2)
theorem en_callD (pl : dvs.all plainV = true) (h : AW K tr γ fun ds => (ds ++ dvs.map ofV).length = n ∧ pre (ds ++ dvs.map ofV) ∧ ∀ ds', post (ds ++ dvs.map ofV) (.lst ds') → Φ ds') : EN K (tCall (spF0 K n pre post) dvs E tr) γ Φ := fun Hs0 H0 Hs H σ Q S q =>
  h Hs0 H0 Hs H σ _ S fun Hs1 H1 vs ds g1 r1 ⟨l, p, k⟩ => ⟨Hs1, _, g1.t S.tb, g1.b, r1.append (rep_plain pl), l, p, fun Hs2 H2 a vs' ds' g2 n1 n2 h3 r2 ps => q Hs2 H2 a vs' ds' (g1.trans g2) (SameT.free g1.e n1) n2 h3 r2 (k ds' ps)⟩
theorem en_callK (h : AW K tr γ fun ds => AW K tk γ fun es => ds.length = nk ∧ es.length = m ∧ (ds ++ es).length = n ∧ pre (ds ++ es) ∧ ∀ ds', post (ds ++ es) (.lst ds') → Φ ds') : EN K (tCallN nk m (spF0 K n pre post) (fun vs zs => vs ++ zs) E tr tk) γ Φ := fun Hs0 H0 Hs H σ Q S q =>
  h Hs0 H0 Hs H σ _ S fun Hs1 H1 vs ds g1 r1 h1 => h1 Hs0 H0 Hs1 H1 σ _ (S.grow g1) fun Hs2 H2 zs es g2 r2 ⟨l1, l2, l, p, k⟩ =>
    ⟨by rw [r1.length]; exact l1, by rw [r2.length]; exact l2, Hs2, ds ++ es, g2.t (g1.t S.tb), g2.b, (RepL.mono g2.s r1).append r2, l, p, fun Hs3 H3 a vs' ds' g3 n1 n2 h3 r3 ps =>
      q Hs3 H3 a vs' ds' ((g1.trans g2).trans g3) (SameT.free (g1.trans g2).e n1) n2 h3 r3 (k ds' ps)⟩
/-- a way out that always answers, else the rest -/
theorem sxf_if {t : TT} {ts tz tr : TS} (h : TW K t γ fun b => (b = true → SXF K Hs0 H0 Hb ts γ Φ) ∧ (b = false → SXF K Hs0 H0 Hb (tSeq tz tr) γ Φ)) : SXF K Hs0 H0 Hb (tSeq (tIfS t ts tz) tr) γ Φ := fun Hs H σ E hb S kr =>
  h Hs0 H0 Hs H σ _ S fun Hs1 H1 b g ⟨p1, p2⟩ => by
    cases b with
    | true => exact p1 rfl Hs1 H1 σ _ (hb.trans g.s) (S.grow g) kr
    | false => exact p2 rfl Hs1 H1 σ E (hb.trans g.s) (S.grow g) kr
theorem sxf_next {tr : TS} (h : SXF K Hs0 H0 Hb tr γ Φ) : SXF K Hs0 H0 Hb (tSeq tNext tr) γ Φ := sxf_seq (sx_next h)
theorem sxf_seqW {ts tz : TS} (h : SW K ts γ { nx := fun γ1 => SXF K Hs0 H0 Hb tz γ1 Φ, rt := fun _ => False }) : SXF K Hs0 H0 Hb (tSeq ts tz) γ Φ := sxf_seq (sx_of h)
end
end Z

/-! comprehensions over lists of one kind of data -/
namespace Z
open PySem PySem.Spec L2 StX
variable [Tabs]
section
variable {K : PySem.W.Frag} {γ : Gam} {wi : TI} {g : TG} {js : List Nat} {tt : TT} {te : TE} {vs : List Nat} {Φ : List D → Prop} {α β δ : Type}
/-- the items a of src, each worth f a if it is taken -/
theorem en_lcT (enc : α → D) (enc2 : β → D) (src : List α) (f : α → Option β) (hj : ∀ j ∈ js, j ∈ vs) (small : src.length ≤ sizeS)
    (h : IW K wi γ fun ds => ds = src.map enc ∧ (∀ a, a ∈ src → GW K g js (enc a) (wipeG γ vs) fun γ2 => TW K tt γ2 fun b => (b = true → ∃ y, f a = some y ∧ EW K te γ2 fun d => d = enc2 y) ∧ (b = false → f a = none)) ∧ Φ ((src.filterMap f).map enc2)) : EN K (tLc wi g tt te vs) γ Φ := by
  refine en_lc hj fun Hs0 H0 Hs H σ R S q => h Hs0 H0 Hs H σ R S fun Hs' H' J ds gr Y ⟨e, step, fin⟩ => q Hs' H' J ds gr Y ?_
  subst e
  refine ⟨fun i acc => acc = ((src.take i).filterMap f).map enc2, rfl, ?_, ?_⟩
  · rintro i d acc hd rfl
    rw [List.getElem?_map] at hd
    rcases Option.map_eq_some_iff.mp hd with ⟨a, ha, rfl⟩
    have lt : i < src.length := (List.getElem?_eq_some_iff.mp ha).1
    have next : (src.take (i + 1)).filterMap f = (src.take i).filterMap f ++ (f a).toList := by
      rw [List.take_add_one, ha, List.filterMap_append]
      cases e : f a with
      | none => simp [e]
      | some y => simp [e]
    refine ⟨?_, fun Hs0 H0 Hs H σ v R S r q => step a (List.mem_of_getElem? ha) Hs0 H0 Hs H σ v R S r fun σ2 γ2 S2 w2 h2 => q σ2 γ2 S2 w2 (h2.mono fun b ⟨p1, p2⟩ => ⟨fun e => ?_, fun e => ?_⟩)⟩
    · rw [List.length_map]
      have le : ((src.take i).filterMap f).length ≤ (src.take i).length := List.length_filterMap_le ..
      rw [List.length_take] at le
      omega
    · rcases p1 e with ⟨y, ey, hy⟩
      refine hy.mono fun d ed => ?_
      show _ = ((src.take (i + 1)).filterMap f).map enc2
      rw [next, ey, ed]
      simp
    · show _ = ((src.take (i + 1)).filterMap f).map enc2
      rw [next, p2 e]
      simp
  · rintro acc rfl
    rw [List.length_map, List.take_length]
    exact fin
/-- .. all of them -/
theorem en_lcA (enc : α → D) (enc2 : β → D) (src : List α) (f : α → β) (hj : ∀ j ∈ js, j ∈ vs) (small : src.length ≤ sizeS)
    (h : IW K wi γ fun ds => ds = src.map enc ∧ (∀ a, a ∈ src → GW K g js (enc a) (wipeG γ vs) fun γ2 => EW K te γ2 fun d => d = enc2 (f a)) ∧ Φ ((src.map f).map enc2)) : EN K (tLc wi g tYes te vs) γ Φ := by
  refine en_lcT enc enc2 src (fun a => some (f a)) hj small fun Hs0 H0 Hs H σ R S q => h Hs0 H0 Hs H σ R S fun Hs' H' J ds gr Y ⟨e, step, fin⟩ => q Hs' H' J ds gr Y ⟨e, fun a ha => ?_, ?_⟩
  · exact fun Hs0 H0 Hs H σ v R S r q => step a ha Hs0 H0 Hs H σ v R S r fun σ2 γ2 S2 w2 h2 => q σ2 γ2 S2 w2 (tw_yes ⟨fun _ => ⟨_, rfl, h2⟩, fun e => by cases e⟩)
  · have e2 : src.filterMap (fun a => some (f a)) = src.map f := congrFun List.filterMap_eq_map' src
    rw [e2]; exact fin
/-- two fors -/
theorem en_lc2T {wi1 : TI} {g1 : TG} {js1 vs1 : List Nat} {tt1 : TT} (enc : α → D) (encb : β → D) (enc2 : δ → D) (src : List α) (srcb : α → List β) (f : α → β → Option δ) (hj : ∀ j ∈ js, j ∈ vs) (hj1 : ∀ j ∈ js1, j ∈ vs1) (small : (src.flatMap fun a => (srcb a).filterMap (f a)).length < sizeS)
    (h : IW K wi γ fun ds => ds = src.map enc ∧ (∀ a, a ∈ src → GW K g js (enc a) (wipeG γ vs) fun γ2 => ShG γ2 ∧ IW K wi1 γ2 fun es => es = (srcb a).map encb ∧
      ∀ b, b ∈ srcb a → GW K g1 js1 (encb b) (wipeG γ2 vs1) fun γ3 => TW K tt1 γ3 fun c => (c = true → ∃ y, f a b = some y ∧ EW K te γ3 fun d => d = enc2 y) ∧ (c = false → f a b = none)) ∧ Φ ((src.flatMap fun a => (srcb a).filterMap (f a)).map enc2)) :
    EN K (tLc2 wi g tYes wi1 g1 tt1 te vs vs1) γ Φ := by
  refine en_lc2 hj hj1 fun Hs0 H0 Hs H σ R S q => h Hs0 H0 Hs H σ R S fun Hs' H' J ds gr Y ⟨e, step, fin⟩ => q Hs' H' J ds gr Y ?_
  subst e
  let F := fun a => (srcb a).filterMap (f a)
  refine ⟨fun i acc => acc = ((src.take i).flatMap F).map enc2, rfl, ?_, ?_⟩
  · rintro i d acc hd rfl
    rw [List.getElem?_map] at hd
    rcases Option.map_eq_some_iff.mp hd with ⟨a, ha, rfl⟩
    have lt : i < src.length := (List.getElem?_eq_some_iff.mp ha).1
    have next : (src.take (i + 1)).flatMap F = (src.take i).flatMap F ++ F a := by
      rw [List.take_add_one, ha, List.flatMap_append]; simp
    have part : ((src.take (i + 1)).flatMap F).length ≤ (src.flatMap F).length := by
      have z : src.flatMap F = (src.take (i + 1)).flatMap F ++ (src.drop (i + 1)).flatMap F := by rw [← List.flatMap_append, List.take_append_drop]
      rw [z, List.length_append]; omega
    refine fun Hs0 H0 Hs H σ v R S r q => step a (List.mem_of_getElem? ha) Hs0 H0 Hs H σ v R S r fun σ2 γ2 S2 w2 ⟨sh, h2⟩ => q σ2 γ2 S2 w2 ⟨sh, tw_yes ⟨fun _ => ?_, fun e => by cases e⟩⟩
    refine fun Hs0 H0 Hs H σ R S q => h2 Hs0 H0 Hs H σ R S fun Hs' H' J es gr Y ⟨e, inner⟩ => q Hs' H' J es gr Y ?_
    subst e
    refine ⟨fun j acc => acc = ((src.take i).flatMap F ++ ((srcb a).take j).filterMap (f a)).map enc2, by simp, ?_, ?_⟩
    · rintro j e acc he rfl
      rw [List.getElem?_map] at he
      rcases Option.map_eq_some_iff.mp he with ⟨b, hb, rfl⟩
      have ltb : j < (srcb a).length := (List.getElem?_eq_some_iff.mp hb).1
      have nextb : ((srcb a).take (j + 1)).filterMap (f a) = ((srcb a).take j).filterMap (f a) ++ (f a b).toList := by
        rw [List.take_add_one, hb, List.filterMap_append]
        cases e : f a b with
        | none => simp [e]
        | some y => simp [e]
      refine ⟨?_, fun Hs0 H0 Hs H σ v R S r q => inner b (List.mem_of_getElem? hb) Hs0 H0 Hs H σ v R S r fun σ3 γ3 S3 w3 h3 => q σ3 γ3 S3 w3 (h3.mono fun c ⟨p1, p2⟩ => ⟨fun e => ?_, fun e => ?_⟩)⟩
      · have z : F a = ((srcb a).take j).filterMap (f a) ++ ((srcb a).drop j).filterMap (f a) := by rw [← List.filterMap_append, List.take_append_drop]
        rw [next, z, List.length_append, List.length_append] at part
        rw [List.length_map, List.length_append]
        have := small
        show _ < sizeS
        have s2 : (src.flatMap F).length < sizeS := small
        omega
      · rcases p1 e with ⟨y, ey, hy⟩
        refine hy.mono fun d ed => ?_
        show _ = ((src.take i).flatMap F ++ ((srcb a).take (j + 1)).filterMap (f a)).map enc2
        rw [nextb, ey, ed]
        simp
      · show _ = ((src.take i).flatMap F ++ ((srcb a).take (j + 1)).filterMap (f a)).map enc2
        rw [nextb, p2 e]
        simp
    · rintro acc rfl
      show _ = ((src.take (i + 1)).flatMap F).map enc2
      rw [List.length_map, List.take_length, next]
  · rintro acc rfl
    rw [List.length_map, List.take_length]
    exact fin
end
/-- tests whose values are told apart from one another -/
theorem tw_andT {K : PySem.W.Frag} {γ : Gam} {t u : TT} {Φ : Bool → Prop} {B C : Bool} (ht : TW K t γ fun b => b = B) (hu : TW K u γ fun c => c = C) (k : Φ (B && C)) : TW K (tAnd t u) γ Φ :=
  tw_and (ht.mono fun b e => ⟨fun eb => hu.mono fun c ec => by subst e ec eb; exact k, fun eb => by subst e eb; exact k⟩)
theorem tw_orT {K : PySem.W.Frag} {γ : Gam} {t u : TT} {Φ : Bool → Prop} {B C : Bool} (ht : TW K t γ fun b => b = B) (hu : TW K u γ fun c => c = C) (k : Φ (B || C)) : TW K (tOr t u) γ Φ :=
  tw_or (ht.mono fun b e => ⟨fun eb => by subst e eb; exact k, fun eb => hu.mono fun c ec => by subst e ec eb; exact k⟩)
/-- a statement, then the rest, with a word between them -/
theorem sxf_seqP {K : PySem.W.Frag} {Hs0 H0 Hb : Hp} {γ : Gam} {ts tz : TS} {Φ : List D → Prop} (P : Gam → Prop) (h : SW K ts γ { nx := P, rt := fun _ => False }) (k : ∀ γ1, P γ1 → SXF K Hs0 H0 Hb tz γ1 Φ) : SXF K Hs0 H0 Hb (tSeq ts tz) γ Φ :=
  sxf_seqW (h.mono k (fun _ z => z) (fun _ z => z) fun _ z => z)
theorem sxf_frz {K : PySem.W.Frag} {Hs0 H0 Hb : Hp} {γ : Gam} {ts : TS} {Φ : List D → Prop} (i : Nat) {ds : List D} (hg : γ[i]? = some (some (.ow ds))) (h : SXF K Hs0 H0 Hb ts (γ.set i (some (.sh (.lst ds)))) Φ) : SXF K Hs0 H0 Hb ts γ Φ := fun Hs H σ E hb S kr => by
  obtain ⟨Hs1, e1, S1⟩ := S.freeze i hg
  exact h Hs1 H σ E (hb.trans e1) S1 kr
theorem pa_starK {X : Cx} (K : PySem.W.Frag) (h : X.K = K) {e : Expr} {es : List Expr} {te : TE} {t : TA} {p : Pos} (he : PE X e te) (hr : PA X es t) (hs : starEach (.Starred e p :: es) X.env = (true, eval e X.env) :: starEach es X.env := by rfl) : PA X (.Starred e p :: es) (tStar K te t) := h ▸ pa_star he hr hs
end Z

/-! several except clauses, with or without names -/
namespace Z
open PySem PySem.Spec L2 StX PyProof.Rows
open HandSPX (FlyingZ)
/-- an error of the body as it reaches the clauses: in the air over the frames of X -/
structure Air (X : Cx) (pins : List (Addr × Obj)) (σ : L2.St) (H : Hp) (a : Addr) (cls : Value) (d : Option Addr) (B : Heap) (sI s : Shared) : Prop where
  inv : Inv X pins σ H sI
  nb : ∀ b o, sI.heap.get? b = some o → b ∉ frs X.stack → B.get? b = some o
  up : sI.heap.UpToSlots s.heap
  fly : FlyingZ B (X.env :: X.outer) a (Zc cls d) s.heap
  na : H a = none
  os : s.os = sI.os
  bare : AllBare s.gens
section
variable {X : Cx} {pins : List (Addr × Obj)} {σ : L2.St} {H : Hp} {a : Addr} {cls : Value} {d : Option Addr} {B : Heap} {sI s : Shared}
theorem Air.now (x : Air X pins σ H a cls d B sI s) : Inv X pins σ H s := x.inv.landed x.nb x.fly.1 x.up x.os x.bare
theorem Air.next (x : Air X pins σ H a cls d B sI s) {h : Heap} (fl : FlyingZ B (X.env :: X.outer) a (Zc cls d) h) (up : s.heap.UpToSlots h) : Air X pins σ H a cls d B sI { s with heap := h } := ⟨x.inv, x.nb, x.up.trans up, fl, x.na, x.os, x.bare⟩
/-- the exception is no frame -/
theorem Air.off (x : Air X pins σ H a cls d B sI s) : a ∉ frs (X.env :: X.outer) := fun m => by
  obtain ⟨o, vs, at_, _, fs⟩ := x.fly.there
  obtain ⟨_, o', at', no⟩ := x.fly.2.2.1.mem m
  cases at_.symm.trans at'
  exact no vs fs
/-- the state of a clause -/
theorem Air.in_ (hf : X.env.frame = some X.env.locals) (x : Air X pins σ H a cls d B sI s) : ∃ oe, Zc cls d oe ∧ (∃ vs, oe.data = .fields vs) ∧ s.heap.get? a = some oe ∧ Inv (X.suite a ((a, oe) :: (X.pn ++ pins))) [] σ H s := by
  obtain ⟨oe, vs, at_, z, fs⟩ := x.fly.there
  have off := x.off
  have l : a ≠ X.env.locals := fun e => off (List.mem_filterMap.mpr ⟨X.env, List.mem_cons_self, by rw [hf, e]⟩)
  have f : a ∉ X.fs := fun m => by
    obtain ⟨e, he, q⟩ := List.mem_filterMap.mp m
    exact off (List.mem_filterMap.mpr ⟨e, List.mem_cons_of_mem _ he, q⟩)
  exact ⟨oe, z, ⟨vs, fs⟩, at_, x.now.suite at_ fs x.na l f⟩
end
/-- the clauses hds take an error of which w is wished -/
def Hdl (X : Cx) (hds : List ExceptHandler) (D : Ends) (w : WX) : Prop := ∀ (pins : List (Addr × Obj)) (σ : L2.St) (H : Hp) (a : Addr) (cls : Value) (d : Option Addr) (B : Heap) (sI s : Shared),
  Air X pins σ H a cls d B sI s → w cls d σ H → wpAny (model X.prog X.w) X.A (handleBy (.ref a) X.env hds) (SP X pins D) X.xe s
section
variable {X : Cx} {D : Ends} {hds : List ExceptHandler} {w : WX}
theorem hdl_nil (hs : X.stack = X.env :: X.outer) (hf : X.env.frame = some X.env.locals) {Wout : WX} (tk : Takes X Wout) : Hdl X [] D Wout := fun pins σ H a cls d B sI s x hw => by
  refine wpAny_handleBy_nil ?_
  obtain ⟨_, _, _, oe, vs, T, _, _, at_, _, fs, one, _⟩ := id x.fly
  unfold PySem.passOn
  have some_ : ¬ ((Value.ref T == Value.none) = true) := by simp
  have out : wpAny (model X.prog X.w) X.A (setFlight (.ref a) X.env.frame) (fun _ s4 => wpAny (model X.prog X.w) X.A (throw (.ref a) : Sem Flow) (SP X pins D) X.xe s4) X.xe s := by
    rw [hf]
    exact HandSPX.setFlight_upZ x.fly fun h held up => wpAny_throw (tk _ _ ⟨a, B, sI, pins, σ, H, cls, d, rfl, x.inv, x.nb, x.up.trans up, .inr (.inr (by rw [hs]; exact held)), x.na, x.os, x.bare, hw⟩)
  refine wpAny_bind (wpAny_field at_ fs one ?_)
  rw [if_neg some_]
  first
    | exact wpAny_bind (wpAny_pure (wpAny_bind out))
    | exact wpAny_bind out
/-- the test of a clause: its class is read, the error is held against it -/
theorem hdl_read {x : Str} {c : Value} {np : Pos} (hc : Names X x c) {σ : L2.St} {H : Hp} {a : Addr} {pn : List (Addr × Obj)} {s : Shared} {Q E : Value → Shared → Prop} (I : Inv (X.suite a pn) [] σ H s) (q : Q c s) : wpAny (model X.prog X.w) (X.A.mark (some (.ref a))) (eval (.Name x np) X.env) Q E s := by
  obtain ⟨gl, dbg, mine | ⟨no, boot, name⟩⟩ := hc
  · exact ld_glob (X := X.suite a pn) I gl mine q dbg
  · exact ld_blt (X := X.suite a pn) I gl no boot q name dbg
theorem hdl_look {pins : List (Addr × Obj)} {σ : L2.St} {H : Hp} {a : Addr} {c cls : Value} {d : Option Addr} {B : Heap} {sI s : Shared} {b : Bool} (x : Air X pins σ H a cls d B sI s) (hb : PySem.W.exmOne X.K cls c = some b) : PySem.W.Looks (model X.prog X.w) s.heap (excMatches (.ref a) c) b := by
  obtain ⟨oe, vs, at_, z, fs⟩ := x.fly.there
  exact PySem.W.exm_one x.now.kIn (fun A Q E t k q => wpAny_typeOf_ref (k _ _ at_) (by rw [z.1]; exact q)) hb
/-- what is left of a suite's run, at the frame -/
def leaves (D : Ends) (i : Nat) : Ends := { nx := fun σ' H' => D.nx (σ'.set i none) H', rt := D.rt, bk := fun σ' H' => D.bk (σ'.set i none) H', ct := fun σ' H' => D.ct (σ'.set i none) H' }
variable {x n : Str} {c : Value} {i : Nat} {b₀ : Stmt} {suite : List Stmt} {np pos' : Pos} {ts : Addr → Value → Option Addr → TS}
/-- except c as n: .. -/
theorem hdl_as (hf : X.env.frame = some X.env.locals) (hN : X.N.Nodup) (hi : X.N[i]? = some n) (hln : X.env.kindOf n = some .local) (hc : Names X x c)
    (hsu : ∀ (a : Addr) (oe : Obj) (cls : Value) (d : Option Addr) (pn : List (Addr × Obj)), Zc cls d oe → (∃ vs, oe.data = .fields vs) → PSs (X.suite a ((a, oe) :: pn)) (b₀ :: suite) (ts a cls d)) (rest : Hdl X hds D w) :
    Hdl X (.ExceptHandler (some (.Name x np)) (some n) (b₀ :: suite) pos' :: hds) D (wAs X.K c i ts (fun cls d σ H => w cls d σ H) D) := fun pins σ H a cls d B sI s air ⟨b, hb, yes, no⟩ => by
  obtain ⟨oe, _, _, _, I⟩ := air.in_ hf
  refine wpAny_handleBy_cons (codeAny_handlers_test (hdl_read hc I ((hdl_look air hb).here ?_))) (by intro q; cases q)
  cases b with
  | false => exact rest pins σ H a cls d B sI s air (no rfl)
  | true =>
    refine codeAny_handlers_suite_as (HandSPX.lands_againZ air.fly fun h fl up => ?_)
    obtain ⟨oe', z, fs, _, I'⟩ := (air.next fl up).in_ hf
    have ok := air.inv.ok
    refine store_ok (X := X.suite a ((a, oe') :: (X.pn ++ pins))) (v := .ref a) I' hN hi (.inl hln) rfl (fun s5 I5 => ?_) (.inr hln)
    refine wpAny_mono ((hsu a oe' cls d (X.pn ++ pins) z fs).run [] s5 _ H _ I5 (yes rfl a air.na)) (fun f s6 left => ?_) fun _ _ => False.elim
    have gone : ∀ {σ6 : L2.St} {H6 : Hp} {Q : Shared → Prop}, Inv (X.suite a ((a, oe') :: (X.pn ++ pins))) [] σ6 H6 s6 → (∀ s7, Inv X pins (σ6.set i none) H6 s7 → Q s7) →
        wpAny (model X.prog X.w) X.A (do bindName X.env n .none; unbindBehindTheSuite X.env n pos') (fun _ s7 => Q s7) X.xe s6 := fun J q => gone_ok (J.unsuite ok) hN hi hln q
    match f, left with
    | .next, ⟨_, _, J, q⟩ => exact gone J fun _ J' => ⟨_, _, J', q⟩
    | .brk, ⟨_, _, J, q⟩ => exact gone J fun _ J' => ⟨_, _, J', q⟩
    | .cont, ⟨_, _, J, q⟩ => exact gone J fun _ J' => ⟨_, _, J', q⟩
    | .ret u, ⟨_, _, _, J, r, q⟩ => exact gone J fun _ J' => ⟨_, _, _, J', r, q⟩
/-- except c: .. -/
theorem hdl_only (hf : X.env.frame = some X.env.locals) (hc : Names X x c)
    (hsu : ∀ (a : Addr) (oe : Obj) (cls : Value) (d : Option Addr) (pn : List (Addr × Obj)), Zc cls d oe → (∃ vs, oe.data = .fields vs) → PSs (X.suite a ((a, oe) :: pn)) (b₀ :: suite) (ts a cls d)) (rest : Hdl X hds D w) :
    Hdl X (.ExceptHandler (some (.Name x np)) none (b₀ :: suite) pos' :: hds) D (wOnly X.K c ts (fun cls d σ H => w cls d σ H) D) := fun pins σ H a cls d B sI s air ⟨b, hb, yes, no⟩ => by
  obtain ⟨oe, _, _, _, I⟩ := air.in_ hf
  refine wpAny_handleBy_cons (codeAny_handlers_test (hdl_read hc I ((hdl_look air hb).here ?_))) (by intro q; cases q)
  cases b with
  | false => exact rest pins σ H a cls d B sI s air (no rfl)
  | true =>
    refine codeAny_handlers_suite (HandSPX.lands_againZ air.fly fun h fl up => ?_)
    obtain ⟨oe', z, fs, _, I'⟩ := (air.next fl up).in_ hf
    have ok := air.inv.ok
    refine wpAny_mono ((hsu a oe' cls d (X.pn ++ pins) z fs).run [] _ _ H _ I' (yes rfl a air.na)) (fun f s6 left => ?_) fun _ _ => False.elim
    match f, left with
    | .next, ⟨_, _, J, q⟩ => exact ⟨_, _, J.unsuite ok, q⟩
    | .brk, ⟨_, _, J, q⟩ => exact ⟨_, _, J.unsuite ok, q⟩
    | .cont, ⟨_, _, J, q⟩ => exact ⟨_, _, J.unsuite ok, q⟩
    | .ret u, ⟨_, _, _, J, r, q⟩ => exact ⟨_, _, _, J.unsuite ok, r, q⟩
end
/-- try: .., its clauses told by Hdl -/
theorem ps_tryH {X : Cx} {body : List Stmt} {h₀ : ExceptHandler} {hds : List ExceptHandler} {pos : Pos} {tb : WX → TS} {w : Ends → WX} (hs : X.stack = X.env :: X.outer) (hf : X.env.frame = some X.env.locals)
    (hb : ∀ (W : WX) (pn : List (Addr × Obj)) (xe : Value → Shared → Prop), Takes (X.tr pn xe) W → PassesOwn (model X.prog X.w) X.A X.env xe → PSs (X.tr pn xe) body (tb W)) (hh : ∀ D, Hdl X (h₀ :: hds) D (w D)) :
    PS X (.Try body (h₀ :: hds) [] [] pos) (fun D σ H => tb (w D) D σ H) where
  run := fun pins s σ H D I h => by
    have ok := I.ok
    apply wpAny_Try_except
    have body_run := (hb (w D) (X.pn ++ pins) (fun e s₁ => wpAny (model X.prog X.w) X.A (noteFrame e X.env) (fun _ s₂ => wpAny (model X.prog X.w) X.A (setFlight e none) (fun _ s₃ =>
      wpAny (model X.prog X.w) X.A (handleBy e X.env (h₀ :: hds)) (SP X pins D) X.xe s₃) X.xe s₂) X.xe s₁) (fun u s' xx => ?_) PassesOwn.looking).run [] s σ H D (I.toTry _) h
    · refine wpAny_mono body_run (fun f s1 left => ?_) fun _ _ z => z
      match f, left with
      | .next, ⟨_, _, J, q⟩ => exact wpAny_execs_nil ⟨_, _, J.ofTry ok, q⟩
      | .brk, ⟨_, _, J, q⟩ => exact ⟨_, _, J.ofTry ok, q⟩
      | .cont, ⟨_, _, J, q⟩ => exact ⟨_, _, J.ofTry ok, q⟩
      | .ret u, ⟨_, _, _, J, r, q⟩ => exact ⟨_, _, _, J.ofTry ok, r, q⟩
    · obtain ⟨a, B, sI, _, σ', H', cls, d, rfl, J, nb, up, sky, na, os, bare, hw⟩ := xx
      have sky' : Sky B (X.env :: X.outer) a (Zc cls d) X.env.locals s'.heap := by rw [← hs]; exact sky
      exact Sky.land Zc.steady (by rw [ok.frames, hs]) hf sky' fun h fl up' => hh D pins σ' H' a cls d B sI _ ⟨J.ofTry ok, nb, up.trans up', fl, na, os, bare⟩ hw
/-! ### over data -/
/-- a clause: the class, the slot of its name, its suite -/
abbrev Cla := Value × Option Nat × (Addr → Value → Option Addr → TS)
def wCl (K : PySem.W.Frag) (W : WX) (D : Ends) : List Cla → WX
  | [] => W
  | (c, some i, ts) :: l => wAs K c i ts (wCl K W D l) D
  | (c, none, ts) :: l => wOnly K c ts (wCl K W D l) D
def tTryCl (K : PySem.W.Frag) (l : List Cla) (tb : WX → TS) (W : WX) : TS := fun D σ H => tb (wCl K W D l) D σ H
section
variable {X : Cx} {hds : List ExceptHandler} {l : List Cla} {Wout : WX} {x n : Str} {c : Value} {i : Nat} {b₀ : Stmt} {suite : List Stmt} {np pos' : Pos} {ts : Addr → Value → Option Addr → TS}
theorem hdlC_nil (hs : X.stack = X.env :: X.outer) (hf : X.env.frame = some X.env.locals) (tk : Takes X Wout) (D : Ends) : Hdl X [] D (wCl X.K Wout D []) := hdl_nil hs hf tk
theorem hdlC_as (hf : X.env.frame = some X.env.locals) (hN : X.N.Nodup) (hi : X.N[i]? = some n) (hln : X.env.kindOf n = some .local) (hc : Names X x c)
    (hsu : ∀ (a : Addr) (oe : Obj) (cls : Value) (d : Option Addr) (pn : List (Addr × Obj)), Zc cls d oe → (∃ vs, oe.data = .fields vs) → PSs (X.suite a ((a, oe) :: pn)) (b₀ :: suite) (ts a cls d)) (rest : ∀ D, Hdl X hds D (wCl X.K Wout D l)) (D : Ends) :
    Hdl X (.ExceptHandler (some (.Name x np)) (some n) (b₀ :: suite) pos' :: hds) D (wCl X.K Wout D ((c, some i, ts) :: l)) := hdl_as hf hN hi hln hc hsu (rest D)
theorem hdlC_only (hf : X.env.frame = some X.env.locals) (hc : Names X x c)
    (hsu : ∀ (a : Addr) (oe : Obj) (cls : Value) (d : Option Addr) (pn : List (Addr × Obj)), Zc cls d oe → (∃ vs, oe.data = .fields vs) → PSs (X.suite a ((a, oe) :: pn)) (b₀ :: suite) (ts a cls d)) (rest : ∀ D, Hdl X hds D (wCl X.K Wout D l)) (D : Ends) :
    Hdl X (.ExceptHandler (some (.Name x np)) none (b₀ :: suite) pos' :: hds) D (wCl X.K Wout D ((c, none, ts) :: l)) := hdl_only hf hc hsu (rest D)
theorem ps_tryCl (K : PySem.W.Frag) (h : X.K = K) {body : List Stmt} {h₀ : ExceptHandler} {pos : Pos} {tb : WX → TS} (hs : X.stack = X.env :: X.outer) (hf : X.env.frame = some X.env.locals)
    (hb : ∀ (W : WX) (pn : List (Addr × Obj)) (xe : Value → Shared → Prop), Takes (X.tr pn xe) W → PassesOwn (model X.prog X.w) X.A X.env xe → PSs (X.tr pn xe) body (tb W)) (hh : ∀ D, Hdl X (h₀ :: hds) D (wCl X.K Wout D l)) :
    PS X (.Try body (h₀ :: hds) [] [] pos) (tTryCl K l tb Wout) := by
  subst h
  exact ps_tryH (w := fun D => wCl X.K Wout D l) hs hf hb hh
end
section
variable [Tabs] {K : PySem.W.Frag} {Hs0 H0 Hb : Hp} {γ : Gam} {W : WX} {Ψ : XD → Gam → Prop} {Ω : Out}
/-- what an error meets at the clauses -/
def HandCl (K : PySem.W.Frag) (Hs0 H0 Hb : Hp) (Ψ : XD → Gam → Prop) (Ω : Out) : List Cla → XD → Gam → Prop
  | [] => Ψ
  | (c, some i, ts) :: l => HandAs K Hs0 H0 Hb c i ts (HandCl K Hs0 H0 Hb Ψ Ω l) Ω
  | (c, none, ts) :: l => HandOnly K Hs0 H0 Hb c ts (HandCl K Hs0 H0 Hb Ψ Ω l) Ω
/-- E takes what Ω tells of, from Hs on -/
structure Fits (K : PySem.W.Frag) (Hs0 H0 Hs : Hp) (Ω : Out) (E : Ends) : Prop where
  nx : ∀ Hs' H' σ' γ', Same Hs Hs' → Sl K Hs0 H0 Hs' H' σ' γ' → Ω.nx γ' → E.nx σ' H'
  rt : ∀ Hs' H' v d, Grow Hs0 H0 Hs' H' → Rep K Hs' v d → Ω.rt d → E.rt v H'
  bk : ∀ Hs' H' σ' γ', Same Hs Hs' → Sl K Hs0 H0 Hs' H' σ' γ' → Ω.bk γ' → E.bk σ' H'
  ct : ∀ Hs' H' σ' γ', Same Hs Hs' → Sl K Hs0 H0 Hs' H' σ' γ' → Ω.ct γ' → E.ct σ' H'
theorem wok_cl {Hs : Hp} {E : Ends} (hb : Same Hb Hs) (fit : Fits K Hs0 H0 Hs Ω E) (hW : Wok K Hs0 H0 Hb W Ψ) : ∀ l : List Cla, Wok K Hs0 H0 Hs (wCl K W E l) (HandCl K Hs0 H0 Hb Ψ Ω l)
  | [] => fun Hs1 H1 σ1 γ1 cls d x hb1 S1 r1 hh => hW Hs1 H1 σ1 γ1 cls d x (hb.trans hb1) S1 r1 hh
  | (c, some i, ts) :: l => fun Hs1 H1 σ1 γ1 cls d x hb1 S1 r1 ⟨b, h1, h2, h3⟩ => by
    obtain rfl := r1.1
    exact ⟨b, h1, fun hbt a ha => h2 hbt a d Hs1 H1 _ _ (hb.trans hb1) (S1.exc i r1) (fun Hs2 H2 σ2 γ2 e2 S2 q => fit.nx Hs2 H2 _ _ (hb1.trans e2) (S2.drop i none) q) fit.rt
      (fun Hs2 H2 σ2 γ2 e2 S2 q => fit.bk Hs2 H2 _ _ (hb1.trans e2) (S2.drop i none) q) fun Hs2 H2 σ2 γ2 e2 S2 q => fit.ct Hs2 H2 _ _ (hb1.trans e2) (S2.drop i none) q, fun hbf => wok_cl hb fit hW l Hs1 H1 σ1 γ1 _ d x hb1 S1 r1 (h3 hbf)⟩
  | (c, none, ts) :: l => fun Hs1 H1 σ1 γ1 cls d x hb1 S1 r1 ⟨b, h1, h2, h3⟩ => by
    obtain rfl := r1.1
    exact ⟨b, h1, fun hbt a ha => h2 hbt a d Hs1 H1 _ _ (hb.trans hb1) S1 (fun Hs2 H2 σ2 γ2 e2 => fit.nx Hs2 H2 _ _ (hb1.trans e2)) fit.rt
      (fun Hs2 H2 σ2 γ2 e2 => fit.bk Hs2 H2 _ _ (hb1.trans e2)) fun Hs2 H2 σ2 γ2 e2 => fit.ct Hs2 H2 _ _ (hb1.trans e2), fun hbf => wok_cl hb fit hW l Hs1 H1 σ1 γ1 _ d x hb1 S1 r1 (h3 hbf)⟩
theorem sx_tryCl {l : List Cla} {tb : WX → TS} (hW : Wok K Hs0 H0 Hb W Ψ) (h : ∀ W' Hb', Same Hb Hb' → Wok K Hs0 H0 Hb' W' (HandCl K Hs0 H0 Hb Ψ Ω l) → SX K Hs0 H0 Hb' (tb W') γ Ω) : SX K Hs0 H0 Hb (tTryCl K l tb W) γ Ω := fun Hs H σ E hb S kn kr kb kc =>
  h (wCl K W E l) Hs hb (wok_cl hb ⟨kn, kr, kb, kc⟩ hW l) Hs H σ E (.refl _) S kn kr kb kc
end
end Z

/-! zip(a, b), each a list or a tuple -/
namespace Z
open PySem PySem.Spec L2 StX PyProof.Rows
/-- the two kinds of sequences -/
inductive Kd | L | T
namespace Kd
def Sq (K : PySem.W.Frag) (H : Hp) (a : Addr) (xs : List V) : Kd → Prop
  | L => SqL K H a xs
  | T => SqT K H a xs
def Has (h : Heap) (a : Addr) (its : Array Value) : Kd → Prop
  | L => h.IsList a its
  | T => h.IsTuple a its
def Itr (h : Heap) (it a : Addr) (i : Nat) : Kd → Prop
  | L => h.IsListIter it a i
  | T => h.IsTupleIter it a i
def cell (a : Addr) : Kd → Obj
  | L => { cls := .type "list_iterator", data := .fields #[.ref a, .int 0 0] }
  | T => { cls := .type "tuple_iterator", data := .fields #[.ref a, .int 0 0] }
theorem itr_obj {h : Heap} {it a : Addr} {i : Nat} {k : Kd} (x : k.Itr h it a i) : ∃ o, h.get? it = some o ∧ ∀ v, o.data ≠ .cell v := by
  cases k with
  | L => obtain ⟨o, z, _, d⟩ := x; exact ⟨o, z, fun v => by rw [d]; nofun⟩
  | T => obtain ⟨o, z, _, d⟩ := x; exact ⟨o, z, fun v => by rw [d]; nofun⟩
theorem itr_at {h h' : Heap} {it a : Addr} {i : Nat} {k : Kd} (x : k.Itr h it a i) (z : ∀ o, h.get? it = some o → h'.get? it = some o) : k.Itr h' it a i := by
  cases k with
  | L => exact Heap.IsListIter.at x z
  | T => exact Heap.IsTupleIter.at x z
theorem src {X : Cx} {pins : List (Addr × Obj)} {σ : L2.St} {H : Hp} {s : Shared} {a : Addr} {xs : List V} {k : Kd} (I : Inv X pins σ H s) (x : k.Sq X.K H a xs) : ∃ its : List Value, Vals xs its ∧ k.Has s.heap a its.toArray := by
  cases k with
  | L => obtain ⟨its, r, p, _⟩ := I.list x; exact ⟨its, r, p.isList⟩
  | T => obtain ⟨its, r, p, _⟩ := I.tuple x; exact ⟨its, r, p⟩
theorem inj {X : Cx} {pins : List (Addr × Obj)} {σ : L2.St} {H : Hp} {s : Shared} {a : Addr} {xs ys : List V} {k : Kd} (I : Inv X pins σ H s) (x : k.Sq X.K H a xs) (y : k.Sq X.K H a ys) : xs = ys := by
  cases k with
  | L => exact I.list_inj x y
  | T => exact I.tuple_inj x y
theorem lt {h : Heap} {a : Addr} {its : Array Value} {k : Kd} (x : k.Has h a its) : a < h.objs.size := by
  cases k with
  | L => obtain ⟨_, z, _⟩ := x; exact Heap.lt_size z
  | T => obtain ⟨_, z, _⟩ := x; exact Heap.lt_size z
theorem draws {prog : Program} {w : World} {A : Around} (hh : A.handled = none) (it a : Addr) (ne : a ≠ it) (its : Array Value) (k : Kd) : Draws prog w A it [it, a] its.size (fun i v => its[i]? = some v) (fun i h => k.Itr h it a i ∧ k.Has h a its) := by
  cases k with
  | L => exact Draws.list hh it a ne its
  | T => exact Draws.tuple hh it a ne its
/-- behind the last item, wherever the iterator stands -/
theorem ended {prog : Program} {w : World} {A : Around} (it a : Addr) (its : Array Value) (i : Nat) (hh : A.handled = none) (past : its[i]? = none) (k : Kd) : Draws prog w A it [it, a] i (fun _ _ => False) (fun j h => j = i ∧ k.Itr h it a i ∧ k.Has h a its) where
  live := fun _ _ ⟨_, x, _⟩ => (itr_obj x).imp fun _ z => z.1
  frame := fun _ _ _ ⟨q, z, t⟩ f => ⟨q, itr_at z fun o => f it (List.mem_cons_self ..) o, by
    have g := f a (List.mem_cons_of_mem _ (List.mem_cons_self ..))
    cases k with
    | L => exact Heap.IsList.at t g
    | T => exact Heap.IsTuple.at t g⟩
  item := fun j _ _ _ lt ⟨q, _⟩ => absurd q (Nat.ne_of_lt lt)
  done := fun _ _ _ ⟨_, z, t⟩ => by
    cases k with
    | L => exact wpAny_nextOf_list_end hh z t past
    | T => exact wpAny_nextOf_tuple_end hh z t past
theorem begins (a : Addr) (its : Array Value) (k : Kd) : Begins (.ref a) (k.cell a) fun h => k.Has h a its := by
  cases k with
  | L => exact begins_list a its
  | T => exact begins_tuple a its
theorem itr_new {h : Heap} {it a : Addr} {k : Kd} (x : h.get? it = some (k.cell a)) : k.Itr h it a 0 := by
  cases k with
  | L => exact ⟨_, x, rfl, rfl⟩
  | T => exact ⟨_, x, rfl, rfl⟩
end Kd
def ItzK (K : PySem.W.Frag) (ka kb : Kd) (a b : Addr) : It :=
  ⟨fun i H => ∃ (xs ys : List V) (x y : V), ka.Sq K H a xs ∧ kb.Sq K H b ys ∧ xs[i]? = some x ∧ ys[i]? = some y,
    fun i H v H' => ∃ T x y, v = .ref T ∧ H T = none ∧ H' = upd H T (.tup [x, y]) ∧ (∀ xs, ka.Sq K H a xs → xs[i]? = some x) ∧ ∀ ys, kb.Sq K H b ys → ys[i]? = some y,
    fun i H => ∃ xs ys : List V, ka.Sq K H a xs ∧ kb.Sq K H b ys ∧ (xs.length ≤ i ∨ ys.length ≤ i)⟩
/-- how the cells of a zip stand -/
def ZipAt (ka kb : Kd) (z TI TO i1 i2 a b : Addr) (i : Nat) (h : Heap) : Prop := IsZip h z TI TO .none ∧ IsTupOf2 h TI (.ref i1) (.ref i2) ∧ (∃ x y, IsTupOf2 h TO x y) ∧ ka.Itr h i1 a i ∧ kb.Itr h i2 b i
theorem turn_zipK {P : Program} {w : World} {K : PySem.W.Frag} {elts : List Expr} {kk : Nat} {tpos : Pos} {ka kb : Kd} {a b z TI TO i1 i2 : Addr} (S : ZipSep2 z TI TO i1 i2 [i1, a] [i2, b]) (ha : a ≠ i1) (hb : b ≠ i2) :
    Turn P w K (.Tuple elts kk tpos) (ItzK K ka kb a b) [z, TI, TO, i1, i2] z (ZipAt ka kb z TI TO i1 i2 a b) := by
  have five : ∀ {c : Addr}, c ∈ [z, TI, TO, i1, i2] → c = z ∨ c = TI ∨ c = TO ∨ c = i1 ∨ c = i2 := fun h => by simpa using h
  have z1 : z ≠ i1 := fun e => S.zf1 (e ▸ S.mem1)
  have z2 : z ≠ i2 := fun e => S.zf2 (e ▸ S.mem2)
  have o1 : TO ≠ i1 := fun e => S.Tf1 (e ▸ S.mem1)
  have o2 : TO ≠ i2 := fun e => S.Tf2 (e ▸ S.mem2)
  refine { mem := List.mem_cons_self .., obj := ?_, keep := ?_, item := ?_, done := ?_, self := ?_ }
  · rintro i h ⟨hz, hT, ⟨x, y, hO⟩, t1, t2⟩ c hc
    rcases five hc with rfl | rfl | rfl | rfl | rfl
    · exact ⟨_, hz, nofun⟩
    · exact ⟨_, hT, nofun⟩
    · exact ⟨_, hO, nofun⟩
    · exact Kd.itr_obj t1
    · exact Kd.itr_obj t2
  · rintro i h h' ⟨hz, hT, ⟨x, y, hO⟩, t1, t2⟩ k
    exact ⟨k z (by simp) _ hz, k TI (by simp) _ hT, ⟨x, y, k TO (by simp) _ hO⟩, Kd.itr_at t1 fun o => k i1 (by simp) o, Kd.itr_at t2 fun o => k i2 (by simp) o⟩
  · rintro X rfl rfl rfl hc i pins s σ H E I hf ⟨hz, hT, ⟨p, q, hO⟩, t1, t2⟩ ⟨xs, ys, x, y, sx, sy, hx, hy⟩
    obtain ⟨its, rx, px⟩ := Kd.src I sx
    obtain ⟨jts, ry, py⟩ := Kd.src I sy
    obtain ⟨u, hu, ru⟩ := rx.get hx
    obtain ⟨v, hv, rv⟩ := ry.get hy
    have hh := I.ok.hd hc
    have D1 := Kd.draws (prog := X.prog) (w := X.w) (A := X.A.in1) hh i1 a ha its.toArray ka
    have D2 := Kd.draws (prog := X.prog) (w := X.w) (A := X.A.in1) hh i2 b hb jts.toArray kb
    have n1 : i < its.toArray.size := by have := (List.getElem?_eq_some_iff.mp hu).1; simpa using this
    have n2 : i < jts.toArray.size := by have := (List.getElem?_eq_some_iff.mp hv).1; simpa using this
    refine wpAny_pyNext_zipD2_item S D1 D2 hz hT hO ⟨t1, px⟩ ⟨t2, py⟩ n1 n2 ?_
    rintro u' v' h1 tk hu' hv' z' O' ⟨t1', _⟩ ⟨t2', _⟩ pair sz k1
    obtain rfl : u = u' := by
      have e : its.toArray[i]? = some u := by simpa using hu
      exact Option.some.inj (e.symm.trans hu')
    obtain rfl : v = v' := by
      have e : jts.toArray[i]? = some v := by simpa using hv
      exact Option.some.inj (e.symm.trans hv')
    have small : ∀ {c : Addr}, c ∈ [z, TI, TO, i1, i2] → c < s.heap.objs.size := fun hc => by
      rcases five hc with rfl | rfl | rfl | rfl | rfl
      · exact Heap.lt_size hz
      · exact Heap.lt_size hT
      · exact Heap.lt_size hO
      · obtain ⟨_, e, _⟩ := Kd.itr_obj t1; exact Heap.lt_size e
      · obtain ⟨_, e, _⟩ := Kd.itr_obj t2; exact Heap.lt_size e
    have zl := small (show z ∈ [z, TI, TO, i1, i2] by simp)
    refine ⟨_, rfl, wpAny_letOwnedTupleGo_zip (s := { s with heap := h1, toks := tk }) z' fun h2 z'' sb => ?_⟩
    have pair2 := (sb.2 _ (Nat.ne_of_gt zl)).trans pair
    have laid : ObjOk X.prog X.w (upd H s.heap.objs.size (.tup [x, y])) h2 s.heap.objs.size (.tup [x, y]) :=
      ⟨Nat.le_trans (by decide : 2 ≤ 2) (by decide), [u, v], .cons ru (.cons rv .nil), ⟨_, pair2, rfl, _, rfl⟩⟩
    have keep2 : ∀ (c : Addr) (o : Obj), c ∉ [z, TI, TO, i1, i2] → s.heap.get? c = some o → h2.get? c = some o := fun c o nc e => by
      have a1 : c ≠ z := fun q => nc (by simp [q])
      have a2 : c ≠ TO := fun q => nc (by simp [q])
      have a3 : c ≠ i1 := fun q => nc (by simp [q])
      have a4 : c ≠ i2 := fun q => nc (by simp [q])
      rw [sb.2 c a1]
      exact k1 c o a1 a2 a3 a4 e
    have hT2 : IsTupOf2 h2 TI (.ref i1) (.ref i2) := (sb.2 TI S.TIz).trans (k1 TI _ S.TIz S.TITO S.TIi1 S.TIi2 hT)
    refine ⟨.ref s.heap.objs.size, _, I.turnedNew (t' := tk) keep2 hf (Nat.le_refl _) laid, rfl, ⟨_, x, y, rfl, I.hok.fresh (Nat.le_refl _), rfl, fun xs' sx' => Kd.inj I sx' sx ▸ hx, fun ys' sy' => Kd.inj I sy' sy ▸ hy⟩,
      ⟨z'', hT2, ⟨u, v, (sb.2 TO S.TOz).trans O'⟩, Kd.itr_at t1' fun o => (sb.2 i1 (Ne.symm z1)).trans, Kd.itr_at t2' fun o => (sb.2 i2 (Ne.symm z2)).trans⟩, fun c hc => ?_⟩
    rw [upd_ne (Nat.ne_of_lt (small hc))]
    exact (hf c hc).1
  · rintro X rfl rfl rfl hc i pins s σ H E I hf ⟨hz, hT, ⟨p, q, hO⟩, t1, t2⟩ ⟨xs, ys, sx, sy, past⟩
    obtain ⟨its, rx, px⟩ := Kd.src I sx
    obtain ⟨jts, ry, py⟩ := Kd.src I sy
    have hh := I.ok.hd hc
    have lx := rx.length
    have ly := ry.length
    have fin : ∀ (h' : Heap) (tk : Nat), (∀ c o, c ≠ z → c ≠ TO → c ≠ i1 → c ≠ i2 → s.heap.get? c = some o → h'.get? c = some o) → Inv X pins σ H { s with heap := h', toks := tk } := fun h' tk k =>
      I.turnedL (ch := [z, TI, TO, i1, i2]) (fun c o nc e => k c o (fun q => nc (by simp [q])) (fun q => nc (by simp [q])) (fun q => nc (by simp [q])) (fun q => nc (by simp [q])) e) hf
    · have D1 := Kd.draws (prog := X.prog) (w := X.w) (A := X.A.in1) hh i1 a ha its.toArray ka
      have D2 := Kd.draws (prog := X.prog) (w := X.w) (A := X.A.in1) hh i2 b hb jts.toArray kb
      have none1 : xs.length ≤ i → its.toArray[i]? = none := fun le => by
        simp only [List.getElem?_toArray]
        exact List.getElem?_eq_none (by omega)
      have none2 : ys.length ≤ i → jts.toArray[i]? = none := fun le => by
        simp only [List.getElem?_toArray]
        exact List.getElem?_eq_none (by omega)
      by_cases e1 : xs.length ≤ i
      · have E1 := Kd.ended (prog := X.prog) (w := X.w) (A := X.A.in1) i1 a its.toArray i hh (none1 e1) ka
        by_cases e2 : ys.length ≤ i
        · have E2 := Kd.ended (prog := X.prog) (w := X.w) (A := X.A.in1) i2 b jts.toArray i hh (none2 e2) kb
          exact wpAny_pyNext_zipD2_end S E1 E2 hz hT hO ⟨rfl, t1, px⟩ ⟨rfl, t2, py⟩ (Nat.le_refl _) (Nat.le_refl _) (.inl rfl) fun h' tk k => ⟨rfl, fin h' tk k⟩
        · exact wpAny_pyNext_zipD2_end S E1 D2 hz hT hO ⟨rfl, t1, px⟩ ⟨t2, py⟩ (Nat.le_refl _) (by rw [List.size_toArray]; omega) (.inl rfl) fun h' tk k => ⟨rfl, fin h' tk k⟩
      · have e2 : ys.length ≤ i := past.resolve_left e1
        have E2 := Kd.ended (prog := X.prog) (w := X.w) (A := X.A.in1) i2 b jts.toArray i hh (none2 e2) kb
        exact wpAny_pyNext_zipD2_end S D1 E2 hz hT hO ⟨t1, px⟩ ⟨rfl, t2, py⟩ (by rw [List.size_toArray]; omega) (Nat.le_refl _) (.inr rfl) fun h' tk k => ⟨rfl, fin h' tk k⟩
  · rintro A i s Q E ⟨hz, _⟩ q
    exact wpAny_pyIter_zip hz q
/-- the answer of zip, whichever kinds the two are -/
def iZipQ (K : PySem.W.Frag) (ta : TA) : TI := fun σ H R => ta σ H fun vs H1 => ∃ (ka kb : Kd) (a b : Addr) (xs ys : List V), vs = [.ref a, .ref b] ∧ ka.Sq K H1 a xs ∧ kb.Sq K H1 b ys ∧ R (ItzK K ka kb a b) H1
theorem pi_zipQ {X : Cx} (K : PySem.W.Frag) (hK : X.K = K) {e e2 : Expr} {ta : TA} {p pos tpos : Pos} {elts : List Expr} {kk : Nat} (hg : Gl X "zip") (hm : X.mg "zip" = none) (ha : PA X [e, e2] ta)
    (hs : starEach [e, e2] X.env = (false, eval e X.env) :: starEach [e2] X.env := by rfl) (hpl : (backTo pos (starEach [e2] X.env)).any (·.1) = false := by rfl) :
    PI X (.Tuple elts kk tpos) (.Call (.Name "zip" p) [e, e2] [] pos) (iZipQ K ta) := by
  subst hK
  constructor
  intro pins s σ H R I h
  refine Call_ (ld_blt I hg hm PyProof.Rows.boot_zip (PyProof.Rows.callWith_type1 (thn (ha.run pos pins s σ H _ I h) ?_) hs hpl))
  rintro us t ⟨vs, H1, J, rel, ka, kb, a, b, xs, ys, rfl, sx, sy, q⟩
  cases rel with
  | cons r1 rr =>
  cases rr with
  | cons r2 rr =>
    cases rr
    cases r1
    cases r2
    obtain ⟨its, _, px⟩ := Kd.src J sx
    obtain ⟨jts, _, py⟩ := Kd.src J sy
    refine zip_begins2 (Kd.begins a its.toArray ka) (Kd.begins b jts.toArray kb) px py fun h' z1 z2 z3 z4 z5 _ keep => wpAny_pyIter_zip z1 ?_
    have la := Kd.lt px
    have lb := Kd.lt py
    refine ⟨_, [_, _, _, _, _], ZipAt ka kb (t.heap.objs.size + 4) (t.heap.objs.size + 2) (t.heap.objs.size + 3) t.heap.objs.size (t.heap.objs.size + 1) a b, ItzK X.K ka kb a b, H1, rfl, J.kept (t' := t.toks) keep,
      turn_zipK (zip_sep2 (fp1 := [a]) (fp2 := [b]) (by simpa using la) (by simpa using lb)) (Nat.ne_of_lt la) (Nat.ne_of_lt (Nat.lt_succ_of_lt lb)), ⟨z1, z2, ⟨_, _, z3⟩, Kd.itr_new z4, Kd.itr_new z5⟩, fun c hc => ?_, q⟩
    have le : t.heap.objs.size ≤ c := by
      simp only [List.mem_cons, List.not_mem_nil, or_false] at hc
      rcases hc with rfl | rfl | rfl | rfl | rfl <;> omega
    exact J.fpOk le (J.hok.fresh le)
/-- as data: a list or a tuple -/
def Sqd (ds : List D) (d : D) : Prop := d = .lst ds ∨ d = .tup ds
theorem Sqd.kd {K : PySem.W.Frag} {H : Hp} {ds : List D} {d : D} {v : V} (h : Sqd ds d) (r : Rep K H v d) : ∃ (k : Kd) (a : Addr) (vs : List V), v = .ref a ∧ RepL K H vs ds ∧ ∀ H', Same H H' → k.Sq K H' a vs := by
  rcases h with rfl | rfl
  · cases r with
    | lst h r => exact ⟨.L, _, _, rfl, r, fun H' e => .inl (.inl (e _ _ h))⟩
  · cases r with
    | tup h r => exact ⟨.T, _, _, rfl, r, fun H' e => sameT e h⟩
theorem iw_zipQ [Tabs] {K : PySem.W.Frag} {γ : Gam} {t : TA} {Φ : List D → Prop} (h : AW K t γ fun ds => ∃ xs ys d e, ds = [d, e] ∧ Sqd xs d ∧ Sqd ys e ∧ Φ (zipD xs ys)) : IW K (iZipQ K t) γ Φ := fun Hs0 H0 Hs H σ R S q =>
  h Hs0 H0 Hs H σ _ S fun Hs1 H1 vs ds g1 r ⟨xs, ys, d, e, ed, sx, sy, p⟩ => by
    subst ed
    cases r with
    | cons rx r =>
    cases r with
    | cons ry r =>
    cases r
    obtain ⟨ka, a, va, rfl, ra, fa⟩ := sx.kd rx
    obtain ⟨kb, b, vb, rfl, rb, fb⟩ := sy.kd ry
    have la := ra.length
    have lb := rb.length
    refine ⟨ka, kb, a, b, va, vb, rfl, fa _ g1.b, fb _ g1.b, q Hs1 H1 _ _ g1 ⟨?_, ?_, ?_⟩ p⟩
    · intro i Hs' H' e1 e2 hi
      rw [zipD_len] at hi
      have ha : i < va.length := by omega
      have hb : i < vb.length := by omega
      exact ⟨va, vb, va[i], vb[i], fa _ (e1.trans e2), fb _ (e1.trans e2), List.getElem?_eq_getElem ha, List.getElem?_eq_getElem hb⟩
    · rintro i Hs' H' dd x H'' e1 e2 hd ⟨T, x1, y1, rfl, free, rfl, hx, hy⟩
      obtain ⟨x2, y2, q1, q2, rfl⟩ := zipD_get hd
      obtain ⟨dx, kx, rdx⟩ := ra.get' (hx va (fa _ (e1.trans e2)))
      obtain ⟨dy, ky, rdy⟩ := rb.get' (hy vb (fb _ (e1.trans e2)))
      obtain rfl : dx = x2 := Option.some.inj (kx.symm.trans q1)
      obtain rfl : dy = y2 := Option.some.inj (ky.symm.trans q2)
      have sm := e1.trans (sameNew (o := .tup [x1, y1]) (e2.free free))
      exact ⟨_, .new e2 free, .tpl upd_same (.cons (rdx.mono sm) (.cons (rdy.mono sm) .nil))⟩
    · intro Hs' H' e1 e2
      refine ⟨va, vb, fa _ (e1.trans e2), fb _ (e1.trans e2), ?_⟩
      rw [zipD_len]
      omega
end Z

/-! sorted(pairs of ints), with the order of what comes first -/
namespace Z
open PySem PySem.Spec L2 PyProof.Rows
def rSrtPO (K : PySem.W.Frag) : List V → Hp → VK → Prop := fun vs H Q => ∃ (a : Addr) (xs : List V) (k : V → Int × Int), vs = [V.ref a] ∧ SqL K H a xs ∧ (∀ x ∈ xs, ∃ t, x = V.ref t ∧ SqT K H t [.int (k x).1, .int (k x).2]) ∧
  ∀ ys p, ys.Perm xs → ys.Pairwise (fun x y => (k x).1 ≤ (k y).1) → H p = none → Q (.ref p) (upd H p (.lst ys))
section
variable {X : Cx}
theorem lex_le {p q : Int × Int} (h : SrtO.lexB p q = false) : q.1 ≤ p.1 := by
  rcases Int.lt_or_le p.1 q.1 with l | l
  · rw [SrtO.lexB_iff.mpr (.inl l)] at h
    cases h
  · exact l
theorem cr_srtPOK (K : PySem.W.Frag) (hK : X.K = K) : CallR X (.builtin "sorted") (rSrtPO K) := by
  subst hK
  rintro pins s σ H _ us Q I r ⟨a, xs, k, rfl, sq, each, q⟩
  match us, r with
  | [_], .cons (rfl : _ = Value.ref a) .nil =>
    rcases I.list sq with ⟨its, rv, hl, small⟩
    rcases refs_back rv fun x m => (each x m).imp fun _ z => z.1 with ⟨back, refs⟩
    have got : ∀ v ∈ its, ∃ t, v = .ref t ∧ SqT X.K H t [.int (k (backV v)).1, .int (k (backV v)).2] := fun v m => by
      rcases refs v m with ⟨t, rfl⟩
      rcases each (.ref t) (back ▸ List.mem_map_of_mem (f := backV) m) with ⟨_, z, sqt⟩
      cases z
      exact ⟨t, rfl, sqt⟩
    apply SrtO.sorted_pairsO (k := fun u => k (backV u)) hl.isList (rv.length ▸ small)
    · intro v m
      rcases got v m with ⟨t, rfl, sqt⟩
      rcases pair_of I sqt with ⟨o, t1, t2, n, z, c, d⟩
      exact ⟨t, o, t1, t2, n, rfl, z, c, d⟩
    · rintro h' d out srt stb kp fresh ⟨n, at_⟩
      have out_refs : ∀ u ∈ out, ∃ a, u = Value.ref a := fun u m => refs u (stb.perm.mem_iff.mp m)
      have stb' : SrtO.Stb (ltP k) (out.map backV) xs := back ▸ stb.map (ltP_swo k) backV
      have ord : (out.map backV).Pairwise fun x y => (k x).1 ≤ (k y).1 := by
        rw [List.pairwise_map]
        exact List.Pairwise.imp (fun h => lex_le h) srt
      exact ⟨.ref d, upd H d (.lst (out.map backV)), I.laid (t' := s.toks) kp fresh ⟨stb'.len ▸ small, out, n, vals_back out_refs, at_⟩, rfl, q _ d stb'.perm ord (I.hok.fresh fresh)⟩
end
section
variable [Tabs] {K : PySem.W.Frag}
def pairD (p : Int × Int) : D := .tup [.int p.1, .int p.2]
theorem pairD_at {H : Hp} {x : V} {p : Int × Int} (h : Rep K H x (pairD p)) : ∃ t, x = .ref t ∧ FrT H t [.int p.1, .int p.2] := by
  cases h with
  | tup h r =>
    cases r with
    | cons a r =>
    cases r with
    | cons b r =>
    cases r
    cases a
    cases b
    exact ⟨_, rfl, h⟩
theorem pairD_one {H : Hp} {x : V} {p q : Int × Int} (h : Rep K H x (pairD p)) (g : Rep K H x (pairD q)) : p = q := by
  obtain ⟨t, rfl, o, f, h⟩ := pairD_at h
  obtain ⟨_, e, o', f', g⟩ := pairD_at g
  cases e
  have z := h.symm.trans g
  simp at z
  exact Prod.ext z.2.1 z.2.2
def unD : D → Int × Int
  | .tup [.int i, .int j] => (i, j)
  | _ => (0, 0)
theorem un_pair (p : Int × Int) : unD (pairD p) = p := rfl
theorem pairD_all {es : List D} {ps : List (Int × Int)} (h : es.Perm (ps.map pairD)) : (es.map unD).Perm ps ∧ es = (es.map unD).map pairD := by
  constructor
  · have z := h.map unD
    rw [List.map_map] at z
    have e : (unD ∘ pairD) = id := rfl
    rwa [e, List.map_id] at z
  · rw [List.map_map]
    refine (List.map_id es).symm.trans (List.map_congr_left fun d hd => ?_)
    obtain ⟨p, _, rfl⟩ := List.mem_map.mp (h.mem_iff.mp hd)
    rfl
theorem rep_some {H : Hp} : ∀ {vs : List V} {ds : List D}, RepL K H vs ds → ∀ {x : V}, x ∈ vs → ∃ d ∈ ds, Rep K H x d := fun r x hx => by
  obtain ⟨n, hn⟩ := List.mem_iff_getElem?.mp hx
  obtain ⟨d, hd, rd⟩ := r.get' hn
  exact ⟨d, List.mem_of_getElem? hd, rd⟩
theorem rep_pw {H : Hp} {f : V → Int × Int} (hf : ∀ x p, Rep K H x (pairD p) → f x = p) : ∀ {vs : List V} {qs : List (Int × Int)}, RepL K H vs (qs.map pairD) → vs.map f = qs
  | [], [], _ => rfl
  | _ :: _, [], r => nomatch r
  | [], _ :: _, r => nomatch r
  | x :: vs, q :: qs, .cons h r => by rw [List.map_cons, hf x q h, rep_pw hf r]
theorem rnl_sortPO {ps : List (Int × Int)} {Φ : List D → Prop} (k : ∀ qs : List (Int × Int), qs.Perm ps → qs.Pairwise (fun p q => p.1 ≤ q.1) → Φ (qs.map pairD)) : RNL K (rSrtPO K) [.lst (ps.map pairD)] Φ := fun Hs H vs Q b r q => by
  cases r with
  | cons h r =>
    cases r
    cases h with
    | @lst a ws _ h r =>
      have isP : ∀ x ∈ ws, ∃ p, Rep K Hs x (pairD p) := fun x hx => by
        obtain ⟨d, hd, rd⟩ := rep_some r hx
        obtain ⟨p, _, rfl⟩ := List.mem_map.mp hd
        exact ⟨p, rd⟩
      let f : V → Int × Int := fun x => @dite _ (∃ p, Rep K Hs x (pairD p)) (Classical.propDecidable _) (fun hx => hx.choose) fun _ => (0, 0)
      have hf : ∀ x p, Rep K Hs x (pairD p) → f x = p := fun x p rp => by
        have ex : ∃ p, Rep K Hs x (pairD p) := ⟨p, rp⟩
        show @dite _ (∃ p, Rep K Hs x (pairD p)) (Classical.propDecidable _) _ _ = p
        rw [dif_pos ex]
        exact pairD_one ex.choose_spec rp
      refine ⟨_, ws, f, rfl, .of (b _ _ h), fun x hx => ?_, fun ys p hp ord hn => ?_⟩
      · obtain ⟨p, rp⟩ := isP x hx
        obtain ⟨t, e, ft⟩ := pairD_at rp
        rw [hf x p rp]
        exact ⟨t, e, sameT b ft⟩
      · obtain ⟨es, h1, h2⟩ := rep_perm hp r
        obtain ⟨g1, g2⟩ := pairD_all h1
        rw [g2] at h2
        have e := rep_pw hf h2
        have srt : (es.map unD).Pairwise fun p q => p.1 ≤ q.1 := by
          rw [← e, List.pairwise_map]
          exact ord
        refine q Hs _ p _ _ (.hid b hn) hn (b.free hn) upd_same h2 (k _ g1 srt)
end
end Z

/-! a list of one's own is handed to a call that keeps nothing of it: what comes back has no list in it -/
namespace Z
open PySem PySem.Spec L2 StX
variable [Tabs]
mutual
def noL : D → Bool
  | .non => true
  | .bl _ => true
  | .int _ => true
  | .str _ => true
  | .ty _ => true
  | .hnd _ => true
  | .tup ds => noLs ds
  | .tpl ds => noLs ds
  | .obj _ _ ds => noLs ds
  | .lst _ => false
  | .scr _ => false
  | .dct ks => noLk ks
def noLk : List (Key × D) → Bool
  | [] => true
  | (_, d) :: ds => noL d && noLk ds
def noLs : List D → Bool
  | [] => true
  | d :: ds => noL d && noLs ds
end
theorem noL_tup {ds : List D} : noL (.tup ds) = true → noLs ds = true := by unfold noL; exact id
theorem noL_tpl {ds : List D} : noL (.tpl ds) = true → noLs ds = true := by unfold noL; exact id
theorem noL_obj {c : Str} {ns : List Str} {ds : List D} : noL (.obj c ns ds) = true → noLs ds = true := by unfold noL; exact id
theorem noL_dct {ds : List (Key × D)} : noL (.dct ds) = true → noLk ds = true := by unfold noL; exact id
theorem noL_lst {ds : List D} : ¬ noL (.lst ds) = true := by unfold noL; simp
theorem noL_scr {ds : List Int} : ¬ noL (.scr ds) = true := by unfold noL; simp
theorem noLs_1 {d : D} {ds : List D} : noLs (d :: ds) = true → noL d = true := by rw [noLs]; exact fun g => (Bool.and_eq_true_iff.mp g).1
theorem noLs_2 {d : D} {ds : List D} : noLs (d :: ds) = true → noLs ds = true := by rw [noLs]; exact fun g => (Bool.and_eq_true_iff.mp g).2
theorem noLk_1 {k : Key} {d : D} {ds : List (Key × D)} : noLk ((k, d) :: ds) = true → noL d = true := by rw [noLk]; exact fun g => (Bool.and_eq_true_iff.mp g).1
theorem noLk_2 {k : Key} {d : D} {ds : List (Key × D)} : noLk ((k, d) :: ds) = true → noLk ds = true := by rw [noLk]; exact fun g => (Bool.and_eq_true_iff.mp g).2
theorem del_at {H : Hp} {a b : Addr} {vs : List V} {o : HO} (ha : H a = some (.lst vs)) (hb : H b = some o) (ne : ∀ ws, o ≠ .lst ws) : del H a b = some o := by
  rw [del_ne fun e => ?_]
  · exact hb
  · rw [e, ha] at hb
    exact ne vs (Option.some.inj hb).symm
theorem frT_del {H : Hp} {a t : Addr} {ws vs : List V} (ha : H a = some (.lst ws)) (h : FrT H t vs) : FrT (del H a) t vs := h.imp fun _ z => ⟨z.1, del_at ha z.2 nofun⟩
theorem tup_del {H : Hp} {a t : Addr} {ws vs : List V} (ha : H a = some (.lst ws)) (h : H t = some (.tup vs)) : del H a t = some (.tup vs) := del_at ha h nofun
theorem ins_del {H : Hp} {a t C dx : Addr} {ws : List V} {fs : List (Str × V)} (ha : H a = some (.lst ws)) (h : H t = some (.ins C dx fs)) : del H a t = some (.ins C dx fs) := del_at ha h nofun
theorem frz_del {H : Hp} {a t : Addr} {ws : List V} {ob : Obj} {u : HO} (ha : H a = some (.lst ws)) (h : H t = some (.frz ob u)) : del H a t = some (.frz ob u) := del_at ha h nofun
mutual
theorem rep_del {K : PySem.W.Frag} {H : Hp} {a : Addr} {ws : List V} (ha : H a = some (.lst ws)) : ∀ {v : V} {d : D}, Rep K H v d → noL d = true → Rep K (del H a) v d
  | _, _, .non, _ => .non
  | _, _, .bl b, _ => .bl b
  | _, _, .int i, _ => .int i
  | _, _, .str x, _ => .str x
  | _, _, .lst h r, g => absurd g noL_lst
  | _, _, .tup h r, g => .tup (frT_del ha h) (repL_del ha r (noL_tup g))
  | _, _, .scr h, g => absurd g noL_scr
  | _, _, .tpl h r, g => .tpl (tup_del ha h) (repL_del ha r (noL_tpl g))
  | _, _, .obj h l r, g => .obj (ins_del ha h) l (repL_del ha r (noL_obj g))
  | _, _, .hnd p, _ => .hnd p
  | _, _, .dct h r, g => .dct (frz_del ha h) (repK_del ha r (noL_dct g))
  | _, _, .ty n, _ => .ty n
theorem repL_del {K : PySem.W.Frag} {H : Hp} {a : Addr} {ws : List V} (ha : H a = some (.lst ws)) : ∀ {vs : List V} {ds : List D}, RepL K H vs ds → noLs ds = true → RepL K (del H a) vs ds
  | _, _, .nil, _ => .nil
  | _, _, .cons h r, g => .cons (rep_del ha h (noLs_1 g)) (repL_del ha r (noLs_2 g))
theorem repK_del {K : PySem.W.Frag} {H : Hp} {a : Addr} {ws : List V} (ha : H a = some (.lst ws)) : ∀ {vs : List (Key × V)} {ds : List (Key × D)}, RepK K H vs ds → noLk ds = true → RepK K (del H a) vs ds
  | _, _, .nil, _ => .nil
  | _, _, .cons h r, g => .cons (rep_del ha h (noLk_1 g)) (repK_del ha r (noLk_2 g))
end
section
variable {K : PySem.W.Frag} {γ : Gam} {te : TE} {Hs H Hs' H' Hs0 H0 : Hp} {σ : L2.St} {a : Addr} {ws : List V} {ds : List D}
/-- what has grown from the list told as shared has grown from it told as one's own -/
theorem grow_thaw (hs : Hs a = none) (hh : H a = some (.lst ws)) (t1 : TbOk Hs H → TbOk (upd Hs a (.lst ws)) H) (g : Grow (upd Hs a (.lst ws)) H Hs' H') : Grow Hs H (del Hs' a) H' where
  s := fun b o e => by
    have ne : b ≠ a := fun z => by rw [z, hs] at e; cases e
    rw [del_ne ne]
    exact g.s b o (by rw [upd_ne ne]; exact e)
  e := g.e
  b := fun b o e => by
    by_cases z : b = a
    · subst z; rw [del_same] at e; cases e
    · rw [del_ne z] at e; exact g.b b o e
  n := fun b o e f => by
    by_cases z : b = a
    · subst z; exact del_same
    · rw [del_ne z]; exact g.n b o e (by rw [upd_ne z]; exact f)
  t := fun tb P hP => by
    obtain ⟨x, y⟩ := g.t (t1 tb) P hP
    refine ⟨x, ?_⟩
    by_cases z : P = a
    · subst z; exact del_same
    · rw [del_ne z]; exact y
theorem ew_thaw (i : Nat) {ds : List D} {Φ : D → Prop} (hg : γ[i]? = some (some (.ow ds))) (h : EW K te (γ.set i (some (.sh (.lst ds)))) fun d => noL d = true ∧ Φ d) : EW K te γ Φ := fun Hs0 H0 Hs H σ Q S q => by
  obtain ⟨a, vs, hv, h1, h2, h3⟩ := own_at S hg
  obtain ⟨e, T⟩ := S.frzB (o' := .lst vs) i hg rfl hv (fun _ z => by cases z) (.lst upd_same (RepL.mono (sameNew h1) h3))
  rw [upd_self h2] at T
  exact h Hs0 H0 _ H σ _ T fun Hs' H' v d g r ⟨nl, p⟩ => q (del Hs' a) H' v d (grow_thaw h1 h2 (fun _ => T.tb) g) (rep_del (g.s _ _ upd_same) r nl) p
theorem en_thaw (i : Nat) {ds : List D} {Φ : List D → Prop} (hg : γ[i]? = some (some (.ow ds))) (h : EN K te (γ.set i (some (.sh (.lst ds)))) fun es => noLs es = true ∧ Φ es) : EN K te γ Φ := fun Hs0 H0 Hs H σ Q S q => by
  obtain ⟨a, vs, hv, h1, h2, h3⟩ := own_at S hg
  obtain ⟨e, T⟩ := S.frzB (o' := .lst vs) i hg rfl hv (fun _ z => by cases z) (.lst upd_same (RepL.mono (sameNew h1) h3))
  rw [upd_self h2] at T
  refine h Hs0 H0 _ H σ _ T fun Hs' H' b us es g n1 n2 h3 r ⟨nl, p⟩ => q (del Hs' a) H' b us es (grow_thaw h1 h2 (fun _ => T.tb) g) n1 ?_ h3 (repL_del (g.s _ _ upd_same) r nl) p
  rw [del_ne fun z => by rw [z, h2] at n1; cases n1]
  exact n2
end
theorem noLs_ints : ∀ xs : List Int, noLs (xs.map D.int) = true
  | [] => by rw [List.map_nil]; unfold noLs; rfl
  | x :: xs => by rw [List.map_cons]; unfold noLs; rw [noLs_ints xs]; unfold noL; rfl
theorem noLs_strs : ∀ xs : List Str, noLs (xs.map D.str) = true
  | [] => by rw [List.map_nil]; unfold noLs; rfl
  | x :: xs => by rw [List.map_cons]; unfold noLs; rw [noLs_strs xs]; unfold noL; rfl
end Z

/-! methods whose answer is a new list of the caller's own; x == y for any y; making through a value; errors in what a text method is asked -/
namespace StX
open PySem PySem.Spec L2 PyProof.Rows
section
variable {X : Cx} {CX : CXT} {k : Nat} {f C : Addr} {fd : FuncData} {ps : List Str} {sp : Sp}
/-- x == y by an own __eq__; y of its class, or of any type that is told -/
def rOwEqT (K : PySem.W.Frag) (C : Addr) (sp : Sp) : R2 := fun x y H Q => (∃ a dx fs, x = .ref a ∧ H a = some (.ins C dx fs)) ∧ ((∃ b dy gs, y = .ref b ∧ H b = some (.ins C dy gs)) ∨ ∃ t, TyX K H y t ∧ PySem.W.subIn K t (.ref C) = some false) ∧ sp [x, y] H Q fun _ _ _ => False
theorem op_ownEqT (hu : X.A.units + 64 < cLine) (hm : Meth X.K C "__eq__" f) (F : FnOk X.prog X.w X.K X.mg X.base (L2.CX X.prog X.w) k f fd ps sp) (hr : Room k X.A) (hb : Binds X.K fd ps []) : OpR X (compareOp .Eq) (rOwEqT X.K C sp) := by
  rintro pins s σ H x y v u Q I rv ru ⟨hx, hy, q⟩
  rcases hy with same | ⟨t, ty, sub⟩
  · exact op_ownEq hu hm F hr hb pins s σ H x y v u Q I rv ru ⟨hx, .inl same, q⟩
  · rcases hx with ⟨i, dx, fs, rfl, at1⟩
    obtain rfl : v = .ref i := rv
    obtain ⟨_, _, inst, _⟩ := ins_at I at1
    obtain ⟨_, fr⟩ := I.fr
    obtain ⟨_, kit, p, _⟩ := kit_of I ru ty
    have small : X.A.units < cLine := by omega
    have run := own_runB (E := fun _ _ _ _ => False) F hr hb (passAt (W := fun _ _ _ _ => False) takes0 σ) I (.cons ru .nil) q
    refine PySem.W.cmp_K (op := .Eq) small fr I.mod.kin inst (kit.ty _ _ I.kIn p) ?_ hm.at_ hm.fn run
    unfold PySem.W.notFirst
    rw [sub]
    simp
/-- c(e, ..), c the class as a value -/
theorem pe_makeV {fe e : Expr} {es : List Expr} {te : TE} {t : TA} {pos : Pos} {E : L2.St → XK} (hf : PE X fe te) (M : Mk X.K C f) (F : FnOk X.prog X.w X.K X.mg X.base CX k f fd ps sp) (hr : Room (k + 1) X.A) (hb : Binds X.K fd ps []) (hx : ∀ σ, PassesAt CX X σ (E σ)) (ha : PA X (e :: es) t)
    (ht : eval (.Call fe (e :: es) [] pos) X.env = (eval fe X.env >>= fun fv => callWith pos fv [] (backTo pos (starEach (e :: es) X.env)) (backToKw pos (keywordEach [] X.env))) := by rfl) (he : Fst X e es := by rfl) (hpl : Pln X pos es := by rfl) :
    PE X (.Call fe (e :: es) [] pos) (fun σ H Q => te σ H fun y H1 => y = .ref C ∧ tMakeS C sp E t σ H1 Q) where
  run := fun pins s σ H Q I h => by
    apply Call_ _ ht
    apply thn (hf.run pins s σ H _ I h)
    rintro v s1 ⟨_, H1, I1, rv, rfl, q⟩
    obtain rfl : v = .ref C := rv
    exact PySem.W.callWith_K I1.mod.kin M.kp (he := he) (hplain := hpl) (thn (ha.run pos pins s1 σ H1 _ I1 q) fun us s' ⟨vs, H', J, r, q'⟩ => ⟨J.kIn, run_makeS M F hr hb (hx σ) J r q'⟩)
end
end StX
namespace Z
open PySem PySem.Spec L2 StX NdefX
variable [Tabs]
section
variable {P : Program} {w : World} {K : PySem.W.Frag} {mg : Str → Option Value} {base : Heap}
structure MtF (P : Program) (w : World) (K : PySem.W.Frag) (mg : Str → Option Value) (base : Heap) (C m : Str) (k : Nat) (ps : List Str) (n : Nat) (pre : List D → Prop) (post : List D → D → Prop) (xpost : List D → XD → Prop) : Prop where
  ex : ∃ f fd, Meth K (He.ga K C) m f ∧ Binds K fd ps [] ∧ FnOk P w K mg base (L2.CX P w) k f fd ps (spF K n pre post xpost)
theorem mf_mk {C m qual : Str} {params : Arguments} {body : List Stmt} {scope : Scope} {f : Addr} {fd : FuncData} {N ps : List Str} {k : Nat} {pre : List D → Prop} {post : List D → D → Prop} {xpost : List D → XD → Prop} (F : FunD K m qual params body scope [] [] f fd) (hm : Meth K (He.ga K C) m f) (S : FnScope N ps scope)
    (hb : ∀ (kV doc pm : Value) (an : Option Addr) (cdv ct : Value) (us : List Value), us.length = ps.length → bindArgs (PySem.W.fnOf m qual params body scope .none kV doc pm an cdv ct) ⟨us, []⟩ = pure (ps.zip us))
    (hbody : ∀ (cdv : Value) (A : Around) (outer : List Env) (s : Shared) (H : Hp) (E : XK), Room k (A.deeper (PyProof.Rows.envOfC qual scope s.heap.objs.size f cdv)) → ∀ ds, ds.length = ps.length → pre ds →
      ∃ t, PSs (cxOf (L2.CX P w) P w K mg base N qual scope f cdv A outer s H E) body t ∧ ∀ Hs0 H0, Wok K Hs0 H0 Hs0 (WD E) (fun x _ => xpost ds x) → SXF K Hs0 H0 Hs0 t (gam0 N.length ds) fun ds' => post ds (.lst ds')) : MtF P w K mg base C m (k + 1) ps ps.length pre post xpost := by
  refine ⟨f, fd, hm, F.bindsN hb, F.ok S (fun vs H Q E h => ?_) (fun cdv A outer s H vs Q E hr h => ?_)⟩
  · rcases h with ⟨_, _, _, _, r, l, _⟩
    exact r.length.trans l
  · rcases h with ⟨Hs, ds, tb, b, r, l, p, q, qx⟩
    rcases hbody cdv A outer s H E hr ds l p with ⟨t, ht, hw⟩
    have up : Wok K Hs H Hs (WD E) fun x _ => xpost ds x := fun _ _ _ _ _ _ _ _ S' r' px => qx _ _ _ _ _ S'.gr r' px
    exact ⟨t, ht, hw Hs H up Hs H _ _ (.refl _) (sl_start tb b r) q⟩
end
section
variable {X : Cx}
theorem pe_mF {C m : Str} {k j n : Nat} {ps : List Str} {pre : List D → Prop} {post : List D → D → Prop} {xpost : List D → XD → Prop} {W : WX} {pos apos : Pos} {o e : Expr} {es : List Expr} {ta : TE} {t : TA} {pl : Sem Bool} (K : PySem.W.Frag) (hK : X.K = K) (ho : PE X o ta) (c : Cls K (He.ga K C)) (g : MtF X.prog X.w K X.mg X.base C m j ps n pre post xpost) (hr : Room k X.A) (hj : j ≤ k) (tk : Takes X W) (ha : PA X (e :: es) t)
    (he : Fst X e es := by rfl) (hpl : Pln X pos es := by rfl) (hev : MNode X o m apos pos (e :: es) pl := by rfl) :
    PE X (.Call (.Attribute o m apos) (e :: es) [] pos) (tMethS (He.ga K C) m (spF K n pre post xpost) (WE W) ta t) := by
  subst hK
  rcases g.ex with ⟨f, fd, h1, h2, h3⟩
  exact pe_methX (pl := pl) ho c h1 h3 (hr.mono hj) h2 (fun σ => passAt tk σ) ha he hpl hev
theorem op_eqT {C : Str} {k j n : Nat} {ps : List Str} {pre : List D → Prop} {post : List D → D → Prop} {xpost : List D → XD → Prop} (K : PySem.W.Frag) (hK : X.K = K) (g : MtX X.prog X.w K X.mg X.base C "__eq__" j ps n pre post xpost) (hr : Room k X.A) (hj : j ≤ k) (hu : X.A.units + 64 < cLine) : OpR X (compareOp .Eq) (rOwEqT K (He.ga K C) (spX K n pre post xpost)) := by
  subst hK
  rcases g.ex with ⟨f, fd, h1, h2, h3⟩
  exact op_ownEqT hu h1 h3 (hr.mono hj) h2
def tMakeV (C : Addr) (sp : Sp) (E : L2.St → XK) (te : TE) (t : TA) : TE := fun σ H Q => te σ H fun y H1 => y = .ref C ∧ tMakeS C sp E t σ H1 Q
theorem pe_mkV {C : Str} {k j n : Nat} {ps : List Str} {pre : List D → Prop} {post : List D → List Str → List D → Prop} {xpost : List D → XD → Prop} {W : WX} {pos : Pos} {fe e : Expr} {es : List Expr} {te : TE} {t : TA} (K : PySem.W.Frag) (hK : X.K = K) (hf : PE X fe te) (g : MkX X.prog X.w K X.mg X.base C j ps n pre post xpost) (hr : Room k X.A) (hj : j + 1 ≤ k) (tk : Takes X W) (ha : PA X (e :: es) t)
    (ht : eval (.Call fe (e :: es) [] pos) X.env = (eval fe X.env >>= fun fv => callWith pos fv [] (backTo pos (starEach (e :: es) X.env)) (backToKw pos (keywordEach [] X.env))) := by rfl) (he : Fst X e es := by rfl) (hpl : Pln X pos es := by rfl) :
    PE X (.Call fe (e :: es) [] pos) (tMakeV (He.ga K C) (spN K C n pre post xpost) (WE W) te t) := by
  subst hK
  rcases g.ex with ⟨f, fd, h1, h2, h3⟩
  exact pe_makeV hf h1 h3 (hr.mono hj) h2 (fun σ => passAt tk σ) ha ht he hpl
end
section
variable {K : PySem.W.Frag} {Hs0 H0 Hb : Hp} {γ : Gam} {ta tb te : TE} {tr : TA} {W : WX} {Ψ : XD → Gam → Prop} {C m : Str} {n : Nat} {pre : List D → Prop} {post : List D → D → Prop} {xpost : List D → XD → Prop} {E : L2.St → XK}
theorem en_mF {Φ : List D → Prop} (h : EW K ta γ fun d => ∃ ns fs, d = .obj C ns fs ∧ m ∉ ns ∧ AW K tr γ fun ds => (D.obj C ns fs :: ds).length = n ∧ pre (.obj C ns fs :: ds) ∧ (∀ x, xpost (.obj C ns fs :: ds) x → False) ∧ ∀ es, post (.obj C ns fs :: ds) (.lst es) → Φ es) :
    EN K (tMethS (He.ga K C) m (spF K n pre post xpost) E ta tr) γ Φ := fun Hs0 H0 Hs H σ Q S q =>
  h Hs0 H0 Hs H σ _ S fun Hs1 H1 v x g1 r1 ⟨ns, fs, e, hm, p⟩ => by
    subst e
    have r := r1
    cases r1 with
    | obj h1 l rr =>
      refine ⟨_, _, _, rfl, g1.b _ _ h1, zip_no hm, p Hs0 H0 Hs1 H1 σ _ (S.grow g1) fun Hs2 H2 vs ds g2 r2 ⟨l2, pp, kx, k⟩ => ⟨Hs2, _, g2.t (g1.t S.tb), g2.b, .cons (r.mono g2.s) r2, l2, pp, ?_, fun _ _ _ _ x _ _ ps => (kx x ps).elim⟩⟩
      exact fun Hs3 H3 a us es g3 n1 n2 h3 r3 ps => q Hs3 H3 a us es ((g1.trans g2).trans g3) (SameT.free (g1.trans g2).e n1) n2 h3 r3 (k es ps)
theorem ex_mF {Φ : D → Prop} (hW : Wok K Hs0 H0 Hb W Ψ) (h : EX K Hs0 H0 Hb ta γ fun d => ∃ ns fs, d = .obj C ns fs ∧ m ∉ ns ∧ AX K Hs0 H0 Hb tr γ fun ds => CallX n pre post xpost Φ (fun x => Ψ x γ) (.obj C ns fs :: ds)) : EX K Hs0 H0 Hb (tMethS (He.ga K C) m (spF K n pre post xpost) (WE W) ta tr) γ Φ := fun Hs H σ Q hb S q =>
  h Hs H σ _ hb S fun Hs1 H1 v x g1 r1 ⟨ns, fs, e, hm, p⟩ => by
    subst e
    have r := r1
    cases r1 with
    | obj h1 l rr =>
      refine ⟨_, _, _, rfl, g1.b _ _ h1, zip_no hm, p Hs1 H1 σ _ (hb.trans g1.s) (S.grow g1) fun Hs2 H2 vs ds g2 r2 ⟨l2, pp, k, kx⟩ => ⟨Hs2, _, g2.t (g1.t S.tb), g2.b, .cons (r.mono g2.s) r2, l2, pp, ?_, ?_⟩⟩
      · exact fun Hs3 H3 a us es g3 n1 n2 h3 r3 ps => (en_grow g3 n1 n2 h3 r3).elim fun g4 r4 => q _ _ _ _ ((g1.trans g2).trans g4) r4 (k (.lst es) ps)
      · exact fun Hs3 H3 cls d x g3 r3 ps => hW Hs3 H3 σ γ cls d x (hb.trans ((g1.trans g2).trans g3).s) (S.grow ((g1.trans g2).trans g3)) r3 (kx x ps)
theorem ex_m1 {r : V → List V → Hp → VK → Prop} {Φ : D → Prop} (h : EX K Hs0 H0 Hb ta γ fun x => ∃ z, x = .str z ∧ EX K Hs0 H0 Hb tb γ fun y => RWM K r x [y] Φ) : EX K Hs0 H0 Hb (tM1 r ta tb) γ Φ := fun Hs H σ Q hb S q =>
  h Hs H σ _ hb S fun Hs1 H1 v x g1 r1 ⟨z, e, h1⟩ => by
    subst e
    have rz := r1
    cases r1
    exact ⟨⟨z, rfl⟩, h1 Hs1 H1 σ _ (hb.trans g1.s) (S.grow g1) fun Hs2 H2 w y g2 r2 h2 => h2 Hs2 H2 _ [w] Q g2.b (rz.mono g2.s) (.cons r2 .nil) fun Hs3 H3 w d g3 r3 p => q _ _ _ _ ((g1.trans g2).trans g3) r3 p⟩
theorem ew_owEqT {Φ : D → Prop} (h : EW K ta γ fun x => EW K tb γ fun y => ∃ ns fs, x = .obj C ns fs ∧ ((∃ ms gs, y = .obj C ms gs) ∨ (goodTy y = true ∧ PySem.W.subIn K (.type (tyD y)) (.ref (He.ga K C)) = some false)) ∧ CallN n pre post xpost Φ [x, y]) :
    EW K (tOp (rOwEqT K (He.ga K C) (spX K n pre post xpost)) ta tb) γ Φ := fun Hs0 H0 Hs H σ Q S q =>
  h Hs0 H0 Hs H σ _ S fun Hs1 H1 v x g1 r1 p => p Hs0 H0 Hs1 H1 σ _ (S.grow g1) fun Hs2 H2 u y g2 r2 ⟨ns, fs, e1, hy, l2, pp, k, kx⟩ => by
    have rr := r1.mono g2.s
    have ry := r2
    subst e1
    cases r1 with
    | obj h1 l r =>
      refine ⟨⟨_, _, _, rfl, g2.b _ _ (g2.s _ _ h1)⟩, ?_, Hs2, _, g2.t (g1.t S.tb), g2.b, .cons rr (.cons ry .nil), l2, pp, fun Hs3 H3 u d g3 r3 ps => q _ _ _ _ ((g1.trans g2).trans g3) r3 (k d ps), fun _ _ _ _ x _ _ ps => (kx x ps).elim⟩
      rcases hy with ⟨ms, gs, rfl⟩ | ⟨gt, sub⟩
      · cases r2 with
        | obj h2 l' r' => exact .inl ⟨_, _, _, rfl, g2.b _ _ h2⟩
      · exact .inr ⟨_, tyX_of g2.b r2 gt, sub⟩
theorem ew_mkV {Φ : D → Prop} (h : EW K te γ fun d => d = .hnd (He.ga K C) ∧ AW K tr γ fun ds => ds.length = n ∧ pre ds ∧ (∀ ns fs, postN ds ns fs → Φ (.obj C ns fs)) ∧ ∀ x, xpost ds x → False) : EW K (tMakeV (He.ga K C) (spN K C n pre postN xpost) E te tr) γ Φ := fun Hs0 H0 Hs H σ Q S q =>
  h Hs0 H0 Hs H σ _ S fun Hs1 H1 v x g1 r1 ⟨e, p⟩ => by
    subst e
    cases r1
    exact ⟨rfl, ew_mkX p Hs0 H0 Hs1 H1 σ Q (S.grow g1) fun Hs2 H2 u d g2 r2 k => q _ _ _ _ (g1.trans g2) r2 k⟩
end
end Z

/-! classmethods over data; the head's hook with defs at any address -/
namespace StX
open PySem PySem.Spec L2 He
/-- hookS, and defs told by where they stand -/
abbrev AlM : Type := AlS × List He5.FnW
structure SaysM (fa : List Fa) (fn : List DefD) (ts : List Tab) (tf : List Defn) (ex : PySem.W.Frag → Bool) (sd : List SupD) (da : List He5.DefA) (w : World) (h : Heap) (K : PySem.W.Frag) : Prop extends SaysS fa fn ts tf ex sd w h K where
  a : (da.map fun d => He5.fnA K (d.at_ K)) = da.map He5.DefA.val
def obsM (n : Nat) (fa : List Fa) (fn : List DefD) (ts : List Tab) (tf : List Defn) (ex : PySem.W.Frag → Bool) (sd : List SupD) (da : List He5.DefA) (g : Addr → Option Obj) : AlM := (obsS n fa fn ts tf ex sd g, da.map fun d => He5.fnA (frS g n) (d.at_ (frS g n)))
def hookM (n : Nat) (fa : List Fa) (fn : List DefD) (ts : List Tab) (tf : List Defn) (ex : PySem.W.Frag → Bool) (sd : List SupD) (da : List He5.DefA) : PySem.W.Hook where
  α := AlM
  obs := fun s => obsM n fa fn ts tf ex sd da s.heap.get?
  val := fun w => (valS fn ts sd w, da.map He5.DefA.val)
  says := fun w h => ∃ K : PySem.W.Frag, K.In h ∧ SaysM fa fn ts tf ex sd da w h K
  of := fun _ _ e => by
    have e1 := congrArg (fun z : AlM => z.1) e
    exact ⟨_, frT_in, ⟨⟨saysS_of (congrArg (fun z : AlS => z.1) e1), congrArg (fun z : AlS => z.2) e1⟩, congrArg (fun z : AlM => z.2) e⟩⟩
  keeps := fun _ _ _ ⟨K, hK, c⟩ k => ⟨K, PySem.W.Frag.In.keeps hK k, ⟨⟨⟨c.x.t, c.x.more, c.x.hd, c.x.out, fun p hp => k _ _ (c.x.empty p hp)⟩, c.s⟩, c.a⟩⟩
theorem obsM_eq {n : Nat} {fa : List Fa} {fn : List DefD} {ts : List Tab} {tf : List Defn} {ex : PySem.W.Frag → Bool} {sd : List SupD} {da : List He5.DefA} {g : Addr → Option Obj} {s : Shared} (h : ∀ a, g a = s.heap.get? a) : obsM n fa fn ts tf ex sd da g = (hookM n fa fn ts tf ex sd da).obs s := by
  obtain rfl : g = s.heap.get? := funext h
  rfl
theorem SaysM.defA {fa : List Fa} {fn : List DefD} {ts : List Tab} {tf : List Defn} {ex : PySem.W.Frag → Bool} {sd : List SupD} {da : List He5.DefA} {w : World} {h : Heap} {K : PySem.W.Frag} (c : SaysM fa fn ts tf ex sd da w h K) (i : Nat) {d : He5.DefA} (hi : da[i]? = some d := by rfl) (ok : d.ok K = true) :
    ∃ fd, FunD K d.name d.qual d.params d.body d.scope (d.dvs K) (d.kws K) (d.at_ K) fd := by
  have e := congrArg (fun l => l[i]?) c.a
  simp only [List.getElem?_map, hi, Option.map_some] at e
  exact He5.DefA.funD (Option.some.inj e) ok
end StX
namespace Z
open PySem PySem.Spec L2 StX NdefX
variable [Tabs]
/-- where the def of the classmethod C.m stands -/
def cmA (C m : Str) (K : PySem.W.Frag) : Addr := He5.wf K (He.ga K C) "classmethod" m
def cmB (K : PySem.W.Frag) (C m : Str) : Bool := PySem.W.readsIn K (He.ga K C) (.type "type") && decide (PySem.W.specialIn K (.ref (He.ga K C)) "__getattribute__" = some (some (.builtin "type.__getattribute__"))) && He5.wrapB K (He.ga K C) "classmethod" "classmethod.__get__" m && PySem.W.fnIn K (cmA C m K)
structure CmF (K : PySem.W.Frag) (C m : Str) : Prop where
  r : ClX.CRead K (He.ga K C) (.type "type")
  c : ∃ p, ClX.CMet K (He.ga K C) (.type "type") m p (cmA C m K)
theorem cmB_ok {K : PySem.W.Frag} {C m : Str} (h : cmB K C m = true) : CmF K C m := by
  unfold cmB at h
  simp only [Bool.and_eq_true, decide_eq_true_eq] at h
  exact ⟨⟨h.1.1.1, h.1.1.2⟩, _, He5.cmet_of h.1.2 h.2⟩
section
variable {P : Program} {w : World} {K : PySem.W.Frag} {mg : Str → Option Value} {base : Heap}
/-- the first of what it is handed is the class -/
def preC (K : PySem.W.Frag) (C : Str) (pre : List D → Prop) : List D → Prop := fun ds => (∃ r, ds = .hnd (He.ga K C) :: r) ∧ pre ds
structure MtC (P : Program) (w : World) (K : PySem.W.Frag) (mg : Str → Option Value) (base : Heap) (C m : Str) (k : Nat) (n : Nat) (pre : List D → Prop) (post : List D → D → Prop) : Prop where
  f : CmF K C m
  run : FnR P w K mg base CX0 k (cmA C m K) (spD K n (preC K C pre) post)
theorem fnR_of {CX : CXT} {k : Nat} {f : Addr} {fd : FuncData} {ps : List Str} {sp : Sp} (F : FnOk P w K mg base CX k f fd ps sp) (hb : Binds K fd ps []) : FnR P w K mg base CX k f sp := fun A outer s H us vs Q E hr e0 r h => by
  have n : (us ++ []).length = ps.length := by rw [List.append_nil, ← r.length, F.len vs H Q E h]
  have kin : K.In s.heap := PySem.W.Frag.In.keeps e0.mod.kin fun b o e => (e0.bs b o e).1
  exact F.run A outer s H ⟨us, []⟩ us vs Q E hr e0 (by simpa using hb s us kin n) r h
theorem mc_mk {C m qual : Str} {params : Arguments} {body : List Stmt} {scope : Scope} {fd : FuncData} {N ps : List Str} {k : Nat} {pre : List D → Prop} {post : List D → D → Prop} (F : FunD K m qual params body scope [] [] (cmA C m K) fd) (hm : CmF K C m) (S : FnScope N ps scope)
    (hb : ∀ (kV doc pm : Value) (an : Option Addr) (cdv ct : Value) (us : List Value), us.length = ps.length → bindArgs (PySem.W.fnOf m qual params body scope .none kV doc pm an cdv ct) ⟨us, []⟩ = pure (ps.zip us))
    (hbody : ∀ (cdv : Value) (A : Around) (outer : List Env) (s : Shared) (H : Hp) (E : XK), Room k (A.deeper (PyProof.Rows.envOfC qual scope s.heap.objs.size (cmA C m K) cdv)) → ∀ ds, ds.length = ps.length → preC K C pre ds →
      ∃ t, PSs (cxOf CX0 P w K mg base N qual scope (cmA C m K) cdv A outer s H E).nox body t ∧ SW K t (gam0 N.length ds) { nx := fun _ => post ds .non, rt := post ds }) : MtC P w K mg base C m (k + 1) ps.length pre post := by
  refine ⟨hm, fnR_of (F.ok S (fun vs H Q E h => ?_) (fun cdv A outer s H vs Q E hr h => ?_)) (F.bindsN hb)⟩
  · rcases h with ⟨_, _, _, _, r, l, _⟩
    exact r.length.trans l
  · rcases h with ⟨Hs, ds, tb, b, r, l, p, q⟩
    rcases hbody cdv A outer s H E hr ds l p with ⟨t, ht, hw⟩
    exact ⟨t, ht.nox, hw Hs H Hs H _ _ (sl_start tb b r) (fun Hs' H' σ' γ' e S' p => q Hs' H' _ _ S'.gr .non p) (fun Hs' H' v d g r p => q Hs' H' v d g r p) (fun _ _ _ _ _ _ z => z.elim) (fun _ _ _ _ _ _ z => z.elim)⟩
end
section
variable {X : Cx}
theorem pe_cmD {C m : Str} {k j n : Nat} {pre : List D → Prop} {post : List D → D → Prop} {pos apos : Pos} {o e : Expr} {es : List Expr} {ta : TE} {t : TA} {pl : Sem Bool} (K : PySem.W.Frag) (hK : X.K = K) (ho : PE X o ta) (g : MtC X.prog X.w K X.mg X.base C m j n pre post) (hr : Room k X.A) (hj : j ≤ k) (ha : PA X (e :: es) t)
    (he : Fst X e es := by rfl) (hpl : Pln X pos es := by rfl) (hev : MNode X o m apos pos (e :: es) pl := by rfl) :
    PE X (.Call (.Attribute o m apos) (e :: es) [] pos) (ClX.tCMeth (He.ga K C) (spD K n (preC K C pre) post) E0 ta t) := by
  subst hK
  rcases g.f.c with ⟨p, c⟩
  exact ClX.pe_cmeth ho g.f.r c g.run (hr.mono hj) pass0 ha he hpl hev
end
theorem ew_cmD {K : PySem.W.Frag} {γ : Gam} {Φ : D → Prop} {C : Str} {n : Nat} {pre : List D → Prop} {post : List D → D → Prop} {ta : TE} {tr : TA} {E : XK} (h : EW K ta γ fun d => d = .hnd (He.ga K C) ∧ AW K tr γ fun ds => CallOk n pre post Φ (.hnd (He.ga K C) :: ds)) : EW K (ClX.tCMeth (He.ga K C) (spD K n (preC K C pre) post) E ta tr) γ Φ := fun Hs0 H0 Hs H σ Q S q =>
  h Hs0 H0 Hs H σ _ S fun Hs1 H1 v x g1 r1 ⟨e, p⟩ => by
    subst e
    cases r1
    exact ⟨rfl, p Hs0 H0 Hs1 H1 σ _ (S.grow g1) fun Hs2 H2 vs ds g2 r2 ⟨l2, pp, k⟩ => ⟨Hs2, _, g2.t (g1.t S.tb), g2.b, .cons (.hnd _) r2, l2, ⟨⟨_, rfl⟩, pp⟩, fun Hs3 H3 u d g3 r3 ps => q _ _ _ _ ((g1.trans g2).trans g3) r3 (k d ps)⟩⟩
/-! ### facts of a class as one Bool -/
def excCB (K : PySem.W.Frag) (D : Addr) : Bool := decide (PySem.W.findIn K (.ref D) "__getattribute__" = some (some (.builtin "BaseException.__getattribute__"))) && decide (PySem.W.findIn K (.ref D) "__getattr__" = some none) && decide (PySem.W.subIn K (.ref D) (.type "BaseException") = some true) && PySem.W.hasDictIn K D &&
  decide (PySem.W.findIn K (.ref D) "__class__" = some (some (.builtin "object.__class__"))) && decide (PySem.W.specialIn K (.builtin "object.__class__") "__get__" = some (some (.builtin "getset_descriptor.__get__"))) && decide (PySem.W.takesIn K (.builtin "object.__class__") = some true) && decide (PySem.W.mroIn K D (.type "object") = some true)
theorem excCB_ok {K : PySem.W.Frag} {D : Addr} (h : excCB K D = true) : ExcC K D := by
  unfold excCB at h
  simp only [Bool.and_eq_true, decide_eq_true_eq] at h
  exact ⟨h.1.1.1.1.1.1.1, h.1.1.1.1.1.1.2, h.1.1.1.1.1.2, h.1.1.1.1.2, h.1.1.1.2, h.1.1.2, h.1.2, h.2⟩
end Z

/-! a list times a whole number -/
namespace Z
open PySem PySem.Spec L2 StX
variable [Tabs]
theorem repL_times {K : PySem.W.Frag} {H : Hp} {vs : List V} {ds : List D} (r : RepL K H vs ds) : ∀ n, RepL K H (List.replicate n vs).flatten (List.replicate n ds).flatten
  | 0 => .nil
  | n + 1 => by
    rw [List.replicate_succ, List.replicate_succ, List.flatten_cons, List.flatten_cons]
    exact r.append (repL_times r n)
theorem rn_rep {K : PySem.W.Frag} {ds : List D} {k : Int} {Φ : List D → Prop} (lo : -(2 ^ 63) ≤ k) (hi : k < 2 ^ 63) (l : ds.length * k.toNat ≤ sizeS) (p : Φ (List.replicate k.toNat ds).flatten) : RN2 K rRep (.lst ds) (.int k) Φ := fun Hs H v u Q b r1 r2 q => by
  cases r2
  cases r1 with
  | lst h1 r1 => exact ⟨_, k, _, rfl, rfl, b _ _ h1, lo, hi, by rw [r1.length]; exact sz_ok l, fun x hx => q Hs _ x _ _ (.hid b hx) hx (b.free hx) upd_same (repL_times r1 k.toNat) p⟩
theorem times_one (d : D) (n : Nat) : (List.replicate n [d]).flatten = List.replicate n d := by
  induction n with
  | zero => rfl
  | succ n ih => rw [List.replicate_succ, List.flatten_cons, ih, List.replicate_succ]; rfl
/-- a comprehension whose source is told by what it walks over -/
theorem en_lcE {K : PySem.W.Frag} {γ : Gam} {wi : TI} {g : TG} {js : List Nat} {te : TE} {vs : List Nat} {Φ : List D → Prop} {α β : Type} (enc : α → D) (enc2 : β → D) (f : α → β) (hj : ∀ j ∈ js, j ∈ vs)
    (h : IW K wi γ fun ds => ∃ src : List α, src.length ≤ sizeS ∧ ds = src.map enc ∧ (∀ a, a ∈ src → GW K g js (enc a) (wipeG γ vs) fun γ2 => EW K te γ2 fun d => d = enc2 (f a)) ∧ Φ ((src.map f).map enc2)) : EN K (tLc wi g tYes te vs) γ Φ := by
  refine en_lc hj fun Hs0 H0 Hs H σ R S q => h Hs0 H0 Hs H σ R S fun Hs' H' J ds gr Y ⟨src, small, e, step, fin⟩ => q Hs' H' J ds gr Y ?_
  subst e
  refine ⟨fun i acc => acc = (src.take i).map fun a => enc2 (f a), rfl, ?_, ?_⟩
  · rintro i d acc hd rfl
    obtain ⟨a, ha, rfl⟩ : ∃ a, src[i]? = some a ∧ enc a = d := by
      rw [List.getElem?_map] at hd
      exact Option.map_eq_some_iff.mp hd
    have lt : i < src.length := (List.getElem?_eq_some_iff.mp ha).1
    refine ⟨by rw [List.length_map, List.length_take]; omega, fun Hs0 H0 Hs H σ v R S r q => step a (List.mem_of_getElem? ha) Hs0 H0 Hs H σ v R S r fun σ2 γ2 S2 w2 h2 => q σ2 γ2 S2 w2 (tw_yes ⟨fun _ => h2.mono fun d ed => ?_, fun e => by cases e⟩)⟩
    show _ = (src.take (i + 1)).map fun a => enc2 (f a)
    rw [List.take_add_one, ha, List.map_append, ed]
    rfl
  · rintro acc rfl
    rw [List.length_map, List.take_length]
    rw [List.map_map] at fin
    exact fin
end Z

/-! tuple(range(a, b)) -/
namespace StX
open PySem PySem.Spec L2 PyProof.Rows
section
variable {X : Cx} {e : Expr} {te : L2.St → Hp → (Int → Int → Hp → Prop) → Prop}
def tTupRgF (te : L2.St → Hp → (Int → Int → Hp → Prop) → Prop) : TE := fun σ H Q => te σ H fun a b H1 => RgOk a b ∧ NewF H1 (rgV a b) Q
theorem pe_tupRgF {p pos : Pos} (hc : X.calm = true) (hg : Gl X "tuple") (hm : X.mg "tuple" = none) (he : PRg X e te) (na : starEach [e] X.env = (false, eval e X.env) :: starEach [] X.env := by rfl) : PE X (.Call (.Name "tuple" p) [e] [] pos) (tTupRgF te) := by
  constructor
  intro pins s σ H Q I h
  have inner := he pins s σ H (fun a b H1 => RgOk a b ∧ NewF H1 (rgV a b) Q) I h
  refine Call_ (ld_blt I hg hm boot_tuple (PyProof.Rows.callWith_type1 (args_cons (thn inner ?_) na) na))
  rintro x s1 ⟨r, a, b, t, u, v, H1, rfl, hr, J, ok, q⟩
  have small : RgOk a b := ok
  obtain ⟨b1, b2, b3, b4, b5⟩ := ok
  refine args_nil ?_
  refine call_tuple_range (n := (b - a).toNat) (J.ok.hd hc) hr (small_one b1 b2 b3 b4) (rangeSize_nat a b) b5 fun h' tk acc hk hi => ?_
  have J2 : Inv X pins σ H1 { s1 with heap := h', toks := tk } := J.kept hk
  have few : (rgV a b).length ≤ sizeLine := by rw [rgV_length, sizeLine_eq]; omega
  have z := newF J2 few (vals_rg hi) q
  rw [Array.toArray_toList] at z
  exact z
end
end StX
namespace Z
open PySem PySem.Spec L2 StX
variable [Tabs]
theorem ew_tupRg2 {K : PySem.W.Frag} {γ : Gam} {ta tb : TE} {Φ : D → Prop} (h : EW K ta γ fun d => EW K tb γ fun e => ∃ a b : Nat, d = .int (a : Int) ∧ e = .int (b : Int) ∧ a ≤ b ∧ b ≤ sizeS ∧ Φ (.tup ((List.range (b - a)).map fun (i : Nat) => .int ((a + i : Nat) : Int)))) : EW K (tTupRgF (tRg2 ta tb)) γ Φ := fun Hs0 H0 Hs H σ Q S q =>
  h Hs0 H0 Hs H σ _ S fun Hs1 H1 v d g1 r1 h1 => h1 Hs0 H0 Hs1 H1 σ _ (S.grow g1) fun Hs2 H2 u e g2 r2 ⟨a, b, ed, ee, le, l, p⟩ => by
    subst ed ee
    cases r1
    cases r2
    have hb : b ≤ 1000000 := l
    refine ⟨(a : Int), (b : Int), rfl, rfl, ⟨by omega, by omega, by omega, by omega, by omega⟩, fun x ob hd hx => ?_⟩
    exact q _ _ _ _ ((g1.trans g2).trans (.new g2.b hx)) (.tup ⟨ob, hd, upd_same⟩ (rgL a b)) p
end Z

/-! walks over a list or a tuple, from behind too; len of an own object; walks over an own object whose __iter__ gives a field's iterator -/
namespace Z
open PySem PySem.Spec L2 StX PyProof.Rows
variable [Tabs]
namespace Kd
def ItK (K : PySem.W.Frag) (a : Addr) : Kd → It
  | L => Itl K a
  | T => Itt K a
theorem turn {P : Program} {w : World} {K : PySem.W.Frag} {tg : Expr} (a it : Addr) (k : Kd) : Turn P w K tg (k.ItK K a) [it] it fun i h => k.Itr h it a i := by
  cases k with
  | L => exact turn_list a it
  | T => exact turn_tuple a it
theorem cell_live {a : Addr} {k : Kd} : (k.cell a).isFreed = false := by cases k <;> rfl
theorem it_next {k : Kd} {it a : Addr} {i : Nat} {M : Model} {A : Around} {E : Value → Shared → Prop} {s : Shared} {Q : Value → Shared → Prop} (x : k.Itr s.heap it a i) (q : Q (.ref it) s) : PySem.W.OwitIt M A Q E (.ref it) s := by
  unfold PySem.W.OwitIt
  cases k with
  | L => exact wpAny_specialOf (name := Str.ofString "__next__") (Heap.IsListIter.typeIs x) slot_listiter_next.lookup q
  | T => exact wpAny_specialOf (name := Str.ofString "__next__") (Heap.IsTupleIter.typeIs x) F.slot_tuple_iterator_next.lookup q
/-- what is told of its items -/
theorem yields {K : PySem.W.Frag} {Hs : Hp} {a : Addr} {vs : List V} {ds : List D} {k : Kd} (f : ∀ H', Same Hs H' → k.Sq K H' a vs) (r : RepL K Hs vs ds) : Yields K Hs (k.ItK K a) ds where
  go := fun i Hs' H' e1 e2 hi => by
    have hv : i < vs.length := by rw [r.length]; exact hi
    have sx := f H' (e1.trans e2)
    cases k <;> exact ⟨vs, vs[i], sx, List.getElem?_eq_getElem hv⟩
  yld := fun i Hs' H' d x H'' e1 e2 hd hy => by
    have sx := f H' (e1.trans e2)
    have hx : H'' = H' ∧ vs[i]? = some x := by
      cases k with
      | L => exact ⟨hy.1, hy.2 vs sx⟩
      | T => exact ⟨hy.1, hy.2 vs sx⟩
    obtain ⟨rfl, hx⟩ := hx
    obtain ⟨dx, hdx, rx⟩ := r.get' hx
    obtain rfl : d = dx := Option.some.inj (hd.symm.trans hdx)
    exact ⟨Hs', .refl e2, rx.mono e1⟩
  stop := fun Hs' H' e1 e2 => by
    have sx := f H' (e1.trans e2)
    have le : vs.length ≤ ds.length := Nat.le_of_eq r.length
    cases k <;> exact ⟨vs, sx, le⟩
end Kd
/-- an iterator that has just been made -/
theorem it_made {X : Cx} {pins : List (Addr × Obj)} {σ : L2.St} {H : Hp} {s : Shared} {tg : Expr} {R : It → Hp → Prop} {k : Kd} {a : Addr} (I : Inv X pins σ H s) (q : R (k.ItK X.K a) H) : PIE X pins σ tg R (.ref s.heap.objs.size) { s with heap := s.heap.push (k.cell a) } := by
  have J : Inv X pins σ H { s with heap := s.heap.push (k.cell a) } := I.kept (t' := s.toks) fun b o e => Heap.get?_push_of_some _ e
  refine ⟨s.heap.objs.size, [s.heap.objs.size], fun i h => k.Itr h s.heap.objs.size a i, k.ItK X.K a, H, rfl, J, k.turn a _, Kd.itr_new (Heap.get?_push_size _ Kd.cell_live), ?_, q⟩
  intro b hb
  rw [List.mem_singleton.mp hb]
  exact I.fpOk (Nat.le_refl _) (I.hok.fresh (Nat.le_refl _))
/-- for x in e, e a list or a tuple -/
def iSeqQ (K : PySem.W.Frag) (te : TE) : TI := fun σ H R => te σ H fun x H1 => ∃ (k : Kd) (a : Addr) (xs : List V), x = .ref a ∧ k.Sq K H1 a xs ∧ R (k.ItK K a) H1
theorem pi_seqQ {X : Cx} {tg e : Expr} {te : TE} (K : PySem.W.Frag) (hK : X.K = K) (he : PE X e te) : PI X tg e (iSeqQ K te) := by
  subst hK
  constructor
  intro pins s σ H R I h
  refine thn (he.run pins s σ H _ I h) ?_
  rintro u t ⟨_, H1, J, rel, k, a, xs, rfl, sx, q⟩
  cases rel
  obtain ⟨its, _, px⟩ := Kd.src J sx
  exact (Kd.begins a its.toArray k).iter _ _ _ _ _ _ px (it_made J q)
theorem iw_seqQ {K : PySem.W.Frag} {γ : Gam} {te : TE} {Φ : List D → Prop} (h : EW K te γ fun d => ∃ ds, Sqd ds d ∧ Φ ds) : IW K (iSeqQ K te) γ Φ := fun Hs0 H0 Hs H σ R S q =>
  h Hs0 H0 Hs H σ _ S fun Hs1 H1 v x g1 r ⟨ds, sx, p⟩ => by
    obtain ⟨k, a, va, rfl, ra, fa⟩ := sx.kd r
    exact ⟨k, a, va, rfl, fa _ g1.b, q Hs1 H1 _ _ g1 (Kd.yields fa ra) p⟩
/-- for x in reversed(e) -/
theorem pi_revQ {X : Cx} {tg e : Expr} {te : TE} {p pos : Pos} (K : PySem.W.Frag) (hK : X.K = K) (hg : Gl X "reversed") (hm : X.mg "reversed" = none) (he : PE X e te) (hs : starEach [e] X.env = (false, eval e X.env) :: starEach [] X.env := by rfl) : PI X tg (.Call (.Name "reversed" p) [e] [] pos) (RT.iRevA K te) := by
  subst hK
  exact RT.pi_revA hg hm he hs
theorem iw_rev {K : PySem.W.Frag} {γ : Gam} {te : TE} {Φ : List D → Prop} (h : EW K te γ fun d => ∃ ds, Sqd ds d ∧ Φ ds.reverse) : IW K (RT.iRevA K te) γ Φ := fun Hs0 H0 Hs H σ R S q =>
  h Hs0 H0 Hs H σ _ S fun Hs1 H1 v x g1 r ⟨ds, sx, p⟩ => by
    have back : ∀ {vs : List V} {i : Nat}, vs.length = ds.length → i < vs.length → vs[vs.length - 1 - i]? = vs.reverse[i]? := fun e lt => (List.getElem?_reverse lt).symm
    rcases sx with rfl | rfl
    · cases r with
      | @lst a vs _ h1 ra =>
        have le := ra.length
        have rr := ra.reverse
        refine ⟨a, vs, rfl, .inl ⟨.of (g1.b _ _ h1), q Hs1 H1 _ _ g1 ⟨fun i Hs' H' e1 e2 hi => ?_, fun i Hs' H' d x H'' e1 e2 hd hy => ?_, fun Hs' H' e1 e2 => ?_⟩ p⟩⟩
        · rw [List.length_reverse] at hi
          have lt : vs.length - 1 - i < vs.length := by omega
          exact ⟨by omega, vs, vs[vs.length - 1 - i], .of ((e1.trans e2) _ _ h1), List.getElem?_eq_getElem lt⟩
        · obtain ⟨rfl, hy⟩ := hy
          have hx := hy vs (.of ((e1.trans e2) _ _ h1))
          have li : i < vs.length := by
            have := (List.getElem?_eq_some_iff.mp hd).1
            rw [List.length_reverse] at this
            omega
          rw [back le li] at hx
          obtain ⟨dx, hdx, rx⟩ := rr.get' hx
          obtain rfl : d = dx := Option.some.inj (hd.symm.trans hdx)
          exact ⟨Hs', .refl e2, rx.mono e1⟩
        · show vs.length ≤ _
          rw [List.length_reverse]; omega
    · cases r with
      | @tup a vs _ h1 ra =>
        have le := ra.length
        have rr := ra.reverse
        refine ⟨a, vs, rfl, .inr ⟨sameT g1.b h1, q Hs1 H1 _ _ g1 ⟨fun i Hs' H' e1 e2 hi => ?_, fun i Hs' H' d x H'' e1 e2 hd hy => ?_, fun Hs' H' e1 e2 => ?_⟩ p⟩⟩
        · rw [List.length_reverse] at hi
          have lt : vs.length - 1 - i < vs.length := by omega
          exact ⟨by omega, vs, vs[vs.length - 1 - i], sameT (e1.trans e2) h1, List.getElem?_eq_getElem lt⟩
        · obtain ⟨rfl, hy⟩ := hy
          have hx := hy vs (sameT (e1.trans e2) h1)
          have li : i < vs.length := by
            have := (List.getElem?_eq_some_iff.mp hd).1
            rw [List.length_reverse] at this
            omega
          rw [back le li] at hx
          obtain ⟨dx, hdx, rx⟩ := rr.get' hx
          obtain rfl : d = dx := Option.some.inj (hd.symm.trans hdx)
          exact ⟨Hs', .refl e2, rx.mono e1⟩
        · show vs.length ≤ _
          rw [List.length_reverse]; omega
/-! ### len of an own object -/
def rLenO (C : Addr) (sp : Sp) : List V → Hp → VK → Prop := fun xs H Q => ∃ a dx fs, xs = [.ref a] ∧ H a = some (.ins C dx fs) ∧ sp [.ref a] H (fun v H2 => ∃ n : Int, v = .int n ∧ 0 ≤ n ∧ n < 2 ^ 63 ∧ Q (.int n) H2) E0
theorem call_lenO {X : Cx} {C : Str} {k j n : Nat} {ps : List Str} {pre : List D → Prop} {post : List D → D → Prop} (K : PySem.W.Frag) (hK : X.K = K) (g : MtD X.prog X.w K X.mg X.base C "__len__" j ps n pre post) (hr : Room k X.A) (hj : j + 1 ≤ k) : CallR X (.builtin "len") (rLenO (He.ga K C) (spD K n pre post)) := by
  subst hK
  rintro pins s σ H xs us Q I rel ⟨a, dx, fs, rfl, at_, q⟩
  obtain rfl := Vals.ref1 rel
  obtain ⟨f, fd, m, hb, F⟩ := g.ex
  rcases ins_at I at_ with ⟨_, _, inst, _⟩
  rcases I.fr with ⟨_, fr⟩
  have rel1 : Vals [V.ref a] [Value.ref a] := .cons rfl .nil
  have e0 := I.env0.in1
  refine PySem.W.len_K fr I.mod.kin inst m.at_ m.fn (wpAny_call (codeAny_mono (F.run X.A.in1 X.stack s H ⟨[.ref a], []⟩ _ _ _ E0 ((hr.mono hj).in1) e0 (bound F hb I.kIn rel1 q) rel1 q) ?_))
  intro r t hq
  match r, hq with
  | .ok (.ret u), hq =>
    obtain ⟨_, H2, J, ru, i, rfl, lo, hi, q2⟩ := I.after hq
    obtain ⟨tk, rfl⟩ := ru
    exact ⟨⟨lo, hi⟩, .int i, H2, J.kept (t' := t.toks + 1) fun _ _ e => e, ⟨_, rfl⟩, q2⟩
  | .ok .next, hq => exact hq.elim
  | .ok .brk, hq => exact hq.elim
  | .ok .cont, hq => exact hq.elim
  | .error e, hq => exact hq.elim
theorem ew_lnO {K : PySem.W.Frag} {γ : Gam} {tr : TA} {C : Str} {n : Nat} {pre : List D → Prop} {post : List D → D → Prop} {Φ : D → Prop} (h : AW K tr γ fun ds => ∃ ns fs, ds = [.obj C ns fs] ∧ CallOk n pre post (fun d => ∃ i : Int, d = .int i ∧ 0 ≤ i ∧ i < 2 ^ 63 ∧ Φ (.int i)) ds) : EW K (tCB (rLenO (He.ga K C) (spD K n pre post)) tr) γ Φ := fun Hs0 H0 Hs H σ Q S q =>
  h Hs0 H0 Hs H σ _ S fun Hs1 H1 vs ds g1 r ⟨ns, fs, e, l, p, k⟩ => by
    subst e
    have rr := r
    cases r with
    | cons r1 r2 =>
      cases r2
      cases r1 with
      | obj h1 ln rf =>
        refine ⟨_, _, _, rfl, g1.b _ _ h1, Hs1, _, g1.t S.tb, g1.b, rr, l, p, fun Hs2 H2 v d g2 rd po => ?_⟩
        obtain ⟨i, rfl, lo, hi, q2⟩ := k d po
        cases rd
        exact ⟨i, rfl, lo, hi, q _ _ _ _ (g1.trans g2) (.int i) q2⟩
/-! ### an own object walked over: its __iter__ gives the iterator of a field -/
def ItAt (k : Kd) (it t : Addr) : HO := .ext fun h => k.Itr h it t 0
section
variable {prog : Program} {w : World} {A : Around} {E : Value → Shared → Prop} {s : Shared}
theorem iter_begins {v : Value} {o : Obj} {G : Heap → Prop} {Q : Value → Shared → Prop} (b : Begins v o G) (g : G s.heap) (q : Q (.ref s.heap.objs.size) { s with heap := s.heap.push o }) : wpAny (model prog w) A (call (.builtin "iter") [v]) Q E s := by
  apply Calls.call_function_entry (by decide +kernel) (by decide +kernel) PySem.W.kdk_entry_iter (PySem.W.kdk_args_iter _)
  unfold Builtin.«iter»
  have one : someArgs "iter" 1 2 ⟨[v], []⟩ = pure [v] := by first | rfl | kernel_rfl!
  apply wpAny_bind
  apply wpAny_of_eq one
  show wpAny _ _ (pyIter v >>= _) _ _ _
  apply wpAny_bind
  exact b.iter _ _ _ _ _ _ g (wpAny_pure ⟨_, rfl, q⟩)
end
/-- iter(xs), of either kind; the iterator is younger than n -/
def rIterK (K : PySem.W.Frag) (n : Nat) : List V → Hp → VK → Prop := fun xs H Q => ∃ (k : Kd) (t : Addr) (ys : List V), xs = [.ref t] ∧ k.Sq K H t ys ∧ ∀ it, H it = none → n ≤ it → Q (.ref it) (upd H it (ItAt k it t))
theorem call_iterK {X : Cx} : CallR X (.builtin "iter") (rIterK X.K X.s_0.heap.objs.size) := by
  rintro pins s σ H xs us Q I rel ⟨k, t, ys, rfl, sx, q⟩
  obtain rfl := Vals.ref1 rel
  obtain ⟨its, _, px⟩ := Kd.src I sx
  refine iter_begins (Kd.begins t its.toArray k) px ?_
  have new : (s.heap.push (k.cell t)).get? s.heap.objs.size = some (k.cell t) := Heap.get?_push_size _ Kd.cell_live
  have laid := I.laid (a := s.heap.objs.size) (o := ItAt k s.heap.objs.size t) (t' := s.toks) (fun b u e => Heap.get?_push_of_some (k.cell t) e) (Nat.le_refl _) ⟨Kd.itr_new new, ⟨_, new⟩, fun h1 h2 x y => Kd.itr_at x y⟩
  exact ⟨.ref s.heap.objs.size, _, laid, rfl, q _ (I.hok.fresh (Nat.le_refl _)) I.sz⟩
/-- the promise of such an __iter__ -/
structure ItD (P : Program) (w : World) (K : PySem.W.Frag) (mg : Str → Option Value) (base : Heap) (C fld : Str) (k : Nat) : Prop where
  ex : ∃ f, Meth K (He.ga K C) "__iter__" f ∧ ∀ (A : Around) (outer : List Env) (s : Shared) (H : Hp) (a dx t : Addr) (fs : List (Str × V)) (kd : Kd) (xs : List V), Room k A → Env0 P w K mg base A outer s H → H a = some (.ins (He.ga K C) dx fs) → fs.lookup fld = some (.ref t) → kd.Sq K H t xs →
    codeAny (model P w) A (.call (.ref f) ⟨[.ref a], []⟩) (fun r s' => ∃ it, r = .ok (.ret (.ref it)) ∧ s.heap.objs.size ≤ it ∧ H it = none ∧ CE outer P w H s (fun v H' => v = .ref it ∧ H' = upd H it (ItAt kd it t)) (.ref it) s') s
def iOwnIt (K : PySem.W.Frag) (C : Addr) (fld : Str) (te : TE) : TI := fun σ H R => te σ H fun v H1 => ∃ (a dx t : Addr) (fs : List (Str × V)) (kd : Kd) (xs : List V), v = .ref a ∧ H1 a = some (.ins C dx fs) ∧ fs.lookup fld = some (.ref t) ∧ kd.Sq K H1 t xs ∧ R (kd.ItK K t) H1
theorem pi_ownIt {X : Cx} {C fld : Str} {k j : Nat} {tg e : Expr} {te : TE} (K : PySem.W.Frag) (hK : X.K = K) (he : PE X e te) (g : ItD X.prog X.w K X.mg X.base C fld j) (hr : Room k X.A) (hj : j ≤ k) : PI X tg e (iOwnIt K (He.ga K C) fld te) := by
  subst hK
  constructor
  intro pins s σ H R I h
  refine thn (he.run pins s σ H _ I h) ?_
  rintro u s1 ⟨_, H1, J, rel, a, dx, t, fs, kd, xs, rfl, at_, fl, sx, q⟩
  cases rel
  obtain ⟨f, m, run⟩ := g.ex
  rcases ins_at J at_ with ⟨_, _, inst, _⟩
  rcases J.fr with ⟨_, fr⟩
  refine PySem.W.owit_iter fr J.mod.kin inst m.at_ m.fn (wpAny_call (codeAny_mono (run X.A X.stack s1 H1 a dx t fs kd xs (hr.mono hj) J.env0 at_ fl sx) ?_))
  rintro r s2 ⟨it, rfl, young, free, back⟩
  obtain ⟨_, H2, J2, _, rfl, rfl⟩ := J.after back
  have st : kd.Itr s2.heap it t 0 := (J2.hok it _ upd_same).1
  have y2 : X.s_0.heap.objs.size ≤ it := Nat.le_trans J.sz young
  have J3 := ItX.inv_drop J2 upd_same
  have fp := ItX.inv_fp J2 upd_same y2
  rw [ItX.dropH_upd free] at J3 fp
  refine Kd.it_next st ⟨it, [it], fun i h => kd.Itr h it t i, kd.ItK X.K t, H1, rfl, J3, kd.turn t it, st, ?_, q⟩
  intro b hb
  rw [List.mem_singleton.mp hb]
  exact fp
theorem iw_ownIt {K : PySem.W.Frag} {γ : Gam} {te : TE} {C fld : Str} {Φ : List D → Prop} (h : EW K te γ fun d => ∃ ns fs y ds, d = .obj C ns fs ∧ (ns.zip fs).lookup fld = some y ∧ Sqd ds y ∧ Φ ds) : IW K (iOwnIt K (He.ga K C) fld te) γ Φ := fun Hs0 H0 Hs H σ R S q =>
  h Hs0 H0 Hs H σ _ S fun Hs1 H1 v x g1 r ⟨ns, fs, y, ds, e, fl, sx, p⟩ => by
    subst e
    cases r with
    | obj h1 ln rf =>
      obtain ⟨u, fu, ru⟩ := zip_at rf fl
      obtain ⟨k, t, vt, rfl, rt, ft⟩ := sx.kd ru
      exact ⟨_, _, t, _, k, vt, rfl, g1.b _ _ h1, fu, ft _ g1.b, q Hs1 H1 _ _ g1 (Kd.yields ft rt) p⟩
section
variable {P : Program} {w : World} {K : PySem.W.Frag} {mg : Str → Option Value} {base : Heap}
/-- THE RULE for such an __iter__ -/
theorem it_mk {C fld qual : Str} {params : Arguments} {body : List Stmt} {scope : Scope} {f : Addr} {fd : FuncData} {N : List Str} {k : Nat} (F : FunD K "__iter__" qual params body scope [] [] f fd) (hm : Meth K (He.ga K C) "__iter__" f) (S : FnScope N (["self"] : List Str) scope)
    (hb : ∀ (kV doc pm : Value) (an : Option Addr) (cdv ct : Value) (us : List Value), us.length = 1 → bindArgs (PySem.W.fnOf "__iter__" qual params body scope .none kV doc pm an cdv ct) ⟨us, []⟩ = pure ((["self"] : List Str).zip us))
    (hbody : ∀ (cdv : Value) (A : Around) (outer : List Env) (s : Shared) (H : Hp), Room k (A.deeper (PyProof.Rows.envOfC qual scope s.heap.objs.size f cdv)) →
      ∃ t, PSs (cxOf CX0 P w K mg base N qual scope f cdv A outer s H E0) body t ∧ ∀ (a dx tt : Addr) (fs : List (Str × V)) (kd : Kd) (xs : List V), H a = some (.ins (He.ga K C) dx fs) → fs.lookup fld = some (.ref tt) → kd.Sq K H tt xs →
        t { nx := fun _ _ => False, rt := fun v H' => ∃ it, v = .ref it ∧ s.heap.objs.size ≤ it ∧ H it = none ∧ H' = upd H it (ItAt kd it tt) } (start N [.ref a]) H) : ItD P w K mg base C fld (k + 1) := by
  have bN := F.bindsN (ps := (["self"] : List Str)) hb
  obtain ⟨oc, od, dV, kV, doc, pm, an, cdv, ct, osl, rfl, lk, hcd, _, _⟩ := F.ex
  refine ⟨f, hm, fun A outer s H a dx tt fs kd xs hr e0 at_ fl sx => ?_⟩
  have there : ∀ b o, base.get? b = some o → s.heap.get? b = some o := fun b o e => (e0.bs b o e).1
  have inK := e0.mod.kin.keeps there
  have rel : Vals [V.ref a] [Value.ref a] := .cons rfl .nil
  have bound : BindsTo s (PySem.W.fnOf "__iter__" qual params body scope dV kV doc pm an cdv ct) ⟨[.ref a], []⟩ ((["self"] : List Str).zip [.ref a]) := bN s [.ref a] inK rfl
  have kinds : ∀ y ∈ (["self"] : List Str).zip [Value.ref a], scope.names.lookup y.1 = some .local ∨ (scope.names.lookup y.1 = some .cell ∧ ((cellsFrom (s.heap.objs.size + 1) scope.names []).lookup y.1).isSome = true) := by
    rintro ⟨y, v⟩ hy
    exact (S.par y (List.of_mem_zip hy).1).imp id fun z => ⟨z, PySem.W.cellsFrom_some _ _ _ (.inl z)⟩
  obtain ⟨t, ht, go⟩ := hbody cdv A outer s H (hr.deeper _)
  have main : codeAny (model P w) A (.call (.ref f) ⟨[.ref a], []⟩) (fun r s' => match r with
      | .ok (.ret u) => ∃ it, u = .ref it ∧ s.heap.objs.size ≤ it ∧ H it = none ∧ CE outer P w H s (fun v H' => v = .ref it ∧ H' = upd H it (ItAt kd it tt)) (.ref it) s'
      | .ok _ => False
      | .error e => CX0 outer H s E0 e s') s := by
    apply codeAny_call_function hr.depth (inK _ _ lk) rfl S.co S.gen rfl (PySem.W.codeRec_of inK hcd) (bound _ _ _ _ _)
    apply wpAny_newFunctionEnv_cells S.kind kinds
    rintro env rfl s1 inCall
    have I := inv_start (CX := CX0) (P := P) (w := w) (mg := mg) (E := E0) S hr.hd e0 rfl rel inCall
    refine ⟨(e0.mod.nolimit.keeps there).keeps inCall.toInCall.keep, codeAny_func (wpAny_mono (ht.run [] s1 _ H _ I (go a dx tt fs kd xs at_ fl sx)) ?_ fun e s' z => z)⟩
    intro fl s' hs
    match fl, hs with
    | .ret u, ⟨v, σ', H', J, rv, it, ev, young, free, eH⟩ =>
      subst ev eH
      cases rv
      exact ⟨it, rfl, young, free, .ref it, _, J.os, J.bare, J.base, J.hok, rfl, rfl, rfl⟩
    | .next, ⟨_, _, _, z⟩ => exact z.elim
    | .brk, ⟨_, _, _, z⟩ => exact z.elim
    | .cont, ⟨_, _, _, z⟩ => exact z.elim
  refine codeAny_mono main fun r s' hq => ?_
  match r, hq with
  | .ok (.ret u), ⟨it, e, z⟩ => exact ⟨it, by rw [e], z⟩
  | .ok .next, z => exact z.elim
  | .ok .brk, z => exact z.elim
  | .ok .cont, z => exact z.elim
  | .error e, z => exact z.elim
theorem it_body {N : List Str} {C fld : Str} {s : Shared} {H : Hp} {ff : Str} (hf : ff = fld) (cl : Cls K (He.ga K C)) (na : NoAttr K (He.ga K C) fld) (a dx tt : Addr) (fs : List (Str × V)) (kd : Kd) (xs : List V) (at_ : H a = some (.ins (He.ga K C) dx fs)) (fl : fs.lookup fld = some (.ref tt)) (sx : kd.Sq K H tt xs) :
    tRet (tCB (rIterK K s.heap.objs.size) (tCons (tFld K (tVar 0) ff) tNil)) { nx := fun _ _ => False, rt := fun v H' => ∃ it, v = .ref it ∧ s.heap.objs.size ≤ it ∧ H it = none ∧ H' = upd H it (ItAt kd it tt) } (start N [.ref a]) H := by
  subst hf
  refine ⟨.ref a, rfl, a, _, dx, fs, .ref tt, rfl, at_, cl, na, fl, kd, tt, xs, rfl, sx, ?_⟩
  intro it free young
  exact ⟨it, rfl, young, free, rfl⟩
end
/-! ### xs.pop(), the item not asked for -/
theorem repL_dropLast {K : PySem.W.Frag} {H : Hp} {vs : List V} {ds : List D} (r : RepL K H vs ds) : RepL K H vs.dropLast ds.dropLast := by
  have z := r.eraseIdx (vs.length - 1)
  have e : ∀ {α : Type} (l : List α), l.eraseIdx (l.length - 1) = l.dropLast := fun l => by
    rcases List.eq_nil_or_concat l with rfl | ⟨m, x, rfl⟩
    · rfl
    · simp [List.eraseIdx_append_of_length_le]
  rw [e] at z
  rw [r.length, e] at z
  exact z
theorem sw_pop {K : PySem.W.Frag} {γ : Gam} {i : Nat} {Ω : Out} {ds : List D} (hg : γ[i]? = some (some (.ow ds))) (ne : ds ≠ []) (h : Ω.nx (γ.set i (some (.ow ds.dropLast)))) : SW K (tDrop (tBM0 K "list" rPop (tVar i))) γ Ω := fun Hs0 H0 Hs H σ E S kn kr _ _ => by
  obtain ⟨a, vs, hv, free, at_, r⟩ := own_at S hg
  have len : vs.length = ds.length := r.length
  have pos : 0 < ds.length := List.length_pos_iff.mpr ne
  have lt : vs.length - 1 < vs.length := by omega
  refine ⟨.ref a, hv, .inl ⟨rfl, vs, .of at_⟩, a, vs, vs[vs.length - 1], rfl, rfl, at_, List.getElem?_eq_getElem lt, ?_⟩
  exact kn Hs _ σ _ (.refl _) (S.put i hg hv free (repL_dropLast r)) h
end Z

/-! how often a whole number stands in a tuple -/
namespace StX
open PySem PySem.Spec L2 PyProof.Rows
def rCntTI (K : PySem.W.Frag) : V → List V → Hp → VK → Prop := fun x xs H Q => ∃ (p : Addr) (ns : List Int) (k : Int), x = .ref p ∧ xs = [.int k] ∧ SqT K H p (ns.map V.int) ∧ Q (.int (ns.count k : Nat)) H
theorem mt_tcntI {X : Cx} : MtR X "tuple.count" (rCntTI X.K) := by
  rintro pins s σ H x xs v us Q I rx rxs ⟨p, ns, k, rfl, rfl, sq, q⟩
  cases rx
  obtain ⟨u, rfl, t, rfl⟩ := rxs.one
  obtain ⟨its, rv, ⟨⟨cls, dd, data, sl⟩, at_, hc, n, hd⟩, small⟩ := I.tuple sq
  obtain rfl : cls = .type "tuple" := hc
  obtain rfl : data = .seq its.toArray n := hd
  have hi := ints_of_vals rv
  have fin : EP X pins σ Q (.int ((its.toArray.toList.countP (eqk k) : Nat) : Int) s.toks) { s with toks := s.toks + 1 } := ⟨.int (ns.count k : Nat), H, I.tok _, ⟨s.toks, by rw [show its.toArray.toList.countP (eqk k) = ns.count k from eqk_count hi]⟩, q⟩
  refine call_meets PySem.F.slot_tuple_count ⟨_, at_, rfl⟩ PySem.F.entry_tuple_count (PySem.F.args_tuple_count_2 _ _) (SeqAt.tuple_countAt p its.toArray n dd sl (.int k t) (eqk k)) ⟨at_, fun y hy => ?_, fin⟩
  exact (eqk_gives hi y (by simpa using hy)).at _ _
/-- t.count(e), t a tuple whose object is known -/
def tTupM (r : V → List V → Hp → VK → Prop) (to : TE) (t : TA) : TE := fun σ H Q => to σ H fun x H1 => ∃ (a : Addr) (xs : List V), x = .ref a ∧ FrT H1 a xs ∧ t σ H1 fun ys H2 => FrT H2 a xs ∧ r (.ref a) ys H2 Q
theorem pe_tcntG {X : Cx} {r : V → List V → Hp → VK → Prop} {o e : Expr} {es : List Expr} {to : TE} {t : TA} {apos cpos : Pos} (hm : MtR X "tuple.count" r) (ho : PE X o to) (ha : PA X (e :: es) t)
    (hbase : attributeBase o "count" X.env (eval o X.env) = eval o X.env := by rfl)
    (hfew : ((backTo cpos (starEach (e :: es) X.env)).all (fun x => !x.1) && (backToKw cpos (keywordEach [] X.env)).all (fun x => x.1.isSome) && decide ((e :: es).length + ([] : List Keyword).length + (if ([] : List Keyword).isEmpty then 0 else 1) < 30)) = true := by rfl)
    (hline : (apos.endLine == cpos.line) = true := by rfl) (hs : starEach (e :: es) X.env = (false, eval e X.env) :: starEach es X.env := by rfl) (hplain : (backTo cpos (starEach es X.env)).any (·.1) = false := by rfl) :
    PE X (.Call (.Attribute o "count" apos) (e :: es) [] cpos) (tTupM r to t) where
  run := fun pins s σ H Q I h => wpAny_Call_method_late hbase hfew hline rfl (thn (ho.run pins s σ H _ I h) fun v s1 q => by
    obtain ⟨_, H1, J, rel, a, xs, rfl, ⟨ob, nodict, at_⟩, q⟩ := q
    cases rel
    obtain ⟨here, _, its, _, ob2, here2, hcl, _⟩ := J.hok a _ at_
    obtain rfl : ob = ob2 := Option.some.inj (here.symm.trans here2)
    refine ⟨"tuple", "tuple.count", PySem.F.plainAttrs_tuple, PySem.F.slot_tuple_count, PySem.F.type_tuple_count, ⟨ob, here, hcl⟩, fun b eb => ⟨ob, by cases eb; exact here, nodict⟩, ?_⟩
    have args := ha.run cpos pins s1 σ H1 _ J q
    rw [hs] at args ⊢
    have noStar : ((false, eval e X.env) :: backTo cpos (starEach es X.env)).any (·.1) = false := by
      rw [List.any_cons, hplain]; rfl
    refine Calls.callWith_builtin noStar (Calls.evalArgs_plain (thn args ?_))
    rintro us s2 ⟨vs, H2, J2, r2, _, q2⟩
    exact hm pins s2 σ H2 (.ref a) vs (.ref a) us Q J2 rfl r2 q2)
theorem pe_tcntI {X : Cx} (K : PySem.W.Frag) (hK : X.K = K) {o e : Expr} {es : List Expr} {to : TE} {t : TA} {apos cpos : Pos} (ho : PE X o to) (ha : PA X (e :: es) t)
    (hbase : attributeBase o "count" X.env (eval o X.env) = eval o X.env := by rfl)
    (hfew : ((backTo cpos (starEach (e :: es) X.env)).all (fun x => !x.1) && (backToKw cpos (keywordEach [] X.env)).all (fun x => x.1.isSome) && decide ((e :: es).length + ([] : List Keyword).length + (if ([] : List Keyword).isEmpty then 0 else 1) < 30)) = true := by rfl)
    (hline : (apos.endLine == cpos.line) = true := by rfl) (hs : starEach (e :: es) X.env = (false, eval e X.env) :: starEach es X.env := by rfl) (hplain : (backTo cpos (starEach es X.env)).any (·.1) = false := by rfl) :
    PE X (.Call (.Attribute o "count" apos) (e :: es) [] cpos) (tTupM (rCntTI K) to t) := by
  subst hK
  exact pe_tcntG mt_tcntI ho ha hbase hfew hline hs hplain
end StX
namespace Z
open PySem PySem.Spec L2 StX
variable [Tabs]
theorem ew_tcntI {K : PySem.W.Frag} {to : TE} {t : TA} {γ : Gam} {Φ : D → Prop} (h : EW K to γ fun x => ∃ ns : List Int, x = .tup (ns.map .int) ∧ AW K t γ fun ds => ∃ k, ds = [.int k] ∧ Φ (.int (ns.count k : Nat))) : EW K (tTupM (rCntTI K) to t) γ Φ := fun Hs0 H0 Hs H σ Q S q =>
  h Hs0 H0 Hs H σ _ S fun Hs1 H1 v x g1 r1 ⟨ns, e, p⟩ => by
    subst e
    cases r1 with
    | tup h1 rr =>
      obtain rfl := RepL.ints rr
      refine ⟨_, _, rfl, monoT g1.b h1, p Hs0 H0 Hs1 H1 σ _ (S.grow g1) ?_⟩
      rintro Hs2 H2 ws es g2 r2 ⟨k, rfl, p2⟩
      cases r2 with
      | cons rz rn =>
        cases rn
        cases rz
        have at2 : FrT H2 _ (ns.map V.int) := monoT g2.b (monoT g2.s h1)
        exact ⟨at2, _, ns, k, rfl, rfl, at2.sq, q _ _ _ _ (g1.trans g2) (.int _) p2⟩
end Z

/-! tuple(e for x in xs), each item worth f -/
namespace Z
open PySem PySem.Spec L2 StX
variable [Tabs]
theorem ew_gxA {K : PySem.W.Frag} {γ : Gam} {wi : TI} {g : TG} {js : List Nat} {te : TE} {vs : List Nat} {P : Addr} {Φ : D → Prop} {α β : Type} (enc : α → D) (enc2 : β → D) (f : α → β) (hP : P ∈ Tabs.T) (hj : ∀ j ∈ js, j ∈ vs)
    (h : IW K wi γ fun ds => ∃ src : List α, src.length ≤ sizeS ∧ ds = src.map enc ∧ (∀ a, a ∈ src → GW K g js (enc a) (wipeG γ vs) fun γ2 => EW K te γ2 fun d => d = enc2 (f a)) ∧ Φ (.tup ((src.map f).map enc2))) : EW K (tTupGF (tGx P wi g tYes te vs)) γ Φ := by
  refine ew_gx hP hj fun Hs0 H0 Hs H σ R S q => h Hs0 H0 Hs H σ R S fun Hs' H' J ds gr Y ⟨src, small, e, step, fin⟩ => q Hs' H' J ds gr Y ?_
  subst e
  refine ⟨fun i acc => acc = (src.take i).map fun a => enc2 (f a), rfl, ?_, ?_⟩
  · rintro i d acc hd rfl
    obtain ⟨a, ha, rfl⟩ : ∃ a, src[i]? = some a ∧ enc a = d := by
      rw [List.getElem?_map] at hd
      exact Option.map_eq_some_iff.mp hd
    have lt : i < src.length := (List.getElem?_eq_some_iff.mp ha).1
    refine ⟨by rw [List.length_map, List.length_take]; omega, fun Hs0 H0 Hs H σ v R S r q => step a (List.mem_of_getElem? ha) Hs0 H0 Hs H σ v R S r fun σ2 γ2 S2 w2 h2 => q σ2 γ2 S2 w2 (tw_yes ⟨fun _ => h2.mono fun d ed => ?_, fun e => by cases e⟩)⟩
    show _ = (src.take (i + 1)).map fun a => enc2 (f a)
    rw [List.take_add_one, ha, List.map_append, ed]
    rfl
  · rintro acc rfl
    rw [List.length_map, List.take_length]
    rw [List.map_map] at fin
    exact fin
end Z

/-! sorted of a set comprehension of texts with two fors -/
namespace Z
open PySem PySem.Spec L2 StX RZ
section
variable {X : Cx}
/-- sorted(e), e a new set of texts -/
def tSorted (P : Program) (w : World) (te : TE) : TE := fun σ H Q => te σ H fun x H1 => rSortTx P w [x] H1 Q
open PyProof.Rows in
theorem pe_sorted1 {e : Expr} {te : TE} {p pos : Pos} (hc : X.calm = true) (hg : Gl X "sorted") (hm : X.mg "sorted" = none) (h : PE X e te) (na : starEach [e] X.env = (false, eval e X.env) :: starEach [] X.env := by rfl) :
    PE X (.Call (.Name "sorted" p) [e] [] pos) (tSorted X.prog X.w te) := by
  refine ⟨fun pins s σ H Q I hw => ?_⟩
  refine Call_ (ld_blt I hg hm boot_sorted (callWith_builtin1 (args_cons (thn (h.run pins s σ H _ I hw) fun v s1 ⟨x, H1, I1, r1, q1⟩ => args_nil ?_) na) na rfl))
  exact cr_sortTx hc pins s1 σ H1 [x] [v] Q I1 (.cons r1 .nil) q1
end
variable [Tabs]
section
variable {K : PySem.W.Frag} {Hs0 H0 Hs H Hs' H' : Hp} {σ : L2.St} {γ : Gam} {a : Addr} {P : Program} {w : World}
theorem SameT.ext {φ : Heap → Prop} (x : SameT H H') (h : H a = some (.ext φ)) : H' a = some (.ext φ) := by
  rcases x _ _ h with e | ⟨ps, ps', e, _⟩
  · exact e
  · cases e
theorem txo_ne {D : Addr} {zs : List Str} (h : H D = some (TxO P w D zs)) (ps : Array Value) : H D ≠ some (.tbl ps) := fun z => by rw [h] at z; cases z
/-- the set at D is another now -/
theorem Grow.put {D : Addr} {o : HO} (g : Grow Hs (L2.del H D) Hs' H') (h : Hs' D = none) (nt : ∀ ps, H' D ≠ some (.tbl ps)) : Grow Hs (L2.del H D) Hs' (upd H' D o) :=
  ⟨g.s, fun b o' e => by rw [upd_ne (del_in e).1]; exact g.e _ _ e, fun b o' e => by rw [upd_ne (ne_of_none e h)]; exact g.b _ _ e, g.n, fun t Q hQ => by
    obtain ⟨⟨ps, q1, q2⟩, q3⟩ := g.t t Q hQ
    exact ⟨⟨ps, by rw [upd_ne (fun q => nt ps (by rw [← q]; exact q1))]; exact q1, q2⟩, q3⟩⟩
open PyProof.Rows in
theorem en_sortSc2 {wi : TI} {g : TG} {js : List Nat} {tt : TT} {wi1 : TI} {g1 : TG} {js1 : List Nat} {tt1 : TT} {te : TE} {vs vs1 : List Nat} {Φ : List D → Prop} (hj : ∀ j ∈ js, j ∈ vs) (hj1 : ∀ j ∈ js1, j ∈ vs1)
    (h : IW K wi γ fun ds => ∃ Iv : Nat → List Str → Prop, Iv 0 [] ∧ (∀ i d zs, ds[i]? = some d → Iv i zs → GW K g js d (wipeG γ vs) fun γ2 => ShG γ2 ∧ TW K tt γ2 fun b => (b = true → IW K wi1 γ2 fun es => ∃ Jv : Nat → List Str → Prop, Jv 0 zs ∧
      (∀ j e zs', es[j]? = some e → Jv j zs' → zs'.length + 1 < scanBound ∧ GW K g1 js1 e (wipeG γ2 vs1) fun γ3 => TW K tt1 γ3 fun b => (b = true → EW K te γ3 fun y => ∃ z, y = .str z ∧ Jv (j + 1) (more1 zs' z)) ∧ (b = false → Jv (j + 1) zs')) ∧ ∀ zs', Jv es.length zs' → Iv (i + 1) zs') ∧ (b = false → Iv (i + 1) zs)) ∧
      ∀ zs, Iv ds.length zs → zs.Nodup → ∀ ys : List Str, ys.Perm zs → sortedS ys = true → Φ (ys.map .str)) : EN K (tSorted P w (tSc2 P w wi g tt wi1 g1 tt1 te vs vs1)) γ Φ := fun Hs0 H0 Hs H σ Q S q =>
  h Hs0 H0 Hs H σ _ S fun Hs1 H1 J ds g1' Y ⟨Iv, i0, step, fin⟩ D hD => by
    have S1 := S.grow g1'
    have HsD : Hs1 D = none := g1'.b.free hD
    have H0D : H0 D = none := SameT.free S1.gr.e hD
    -- before the turn: what the first source left, and more, and the set
    refine ⟨fun i m Hx => m = ds.length - i ∧ i ≤ ds.length ∧ ∃ Hs' zs, Grow Hs1 H1 Hs' Hx ∧ Hs' D = none ∧ Hx D = some (TxO P w D zs) ∧ Iv i zs, ⟨ds.length, by simp, Nat.zero_le _, Hs1, [], .hid g1'.b hD, HsD, upd_same, i0⟩, ?_⟩
    rintro i m Hx ⟨rfl, hi, Hs', zs, gx, nD, hDl, iv⟩
    by_cases hlt : i < ds.length
    · refine .inr ⟨Y.go i Hs' Hx gx.s gx.b hlt, fun H' => ∃ Hs'' zs, Grow Hs1 H1 Hs'' H' ∧ Hs'' D = none ∧ H' D = some (TxO P w D zs) ∧ Iv (i + 1) zs, fun H' p => ⟨ds.length - (i + 1), by omega, rfl, hlt, p⟩, fun x H'' hy => ?_⟩
      have hd : ds[i]? = some ds[i] := by simp [hlt]
      obtain ⟨Hs2, g2, rx⟩ := Y.yld i Hs' Hx ds[i] x H'' gx.s gx.b hd hy
      have n2 : Hs2 D = none := g2.n _ _ hDl nD
      refine step i ds[i] zs hd iv Hs0 H0 Hs2 H'' (wipe σ vs) x _ (((S1.grow gx).grow g2).wipe vs) rx fun σ2 γ2 S3 w3 ⟨sh2, h3⟩ => ⟨ext_of (by rw [w3 vs hj, wipe_wipe]), ?_⟩
      refine h3 Hs0 H0 Hs2 H'' σ2 _ S3 fun Hs3 H3 b g3 ⟨p1, p2⟩ => ?_
      have n3 : Hs3 D = none := g3.n _ _ (g2.e.ext hDl) n2
      have d3 : H3 D = some (TxO P w D zs) := g3.e.ext (g2.e.ext hDl)
      have g13 : Grow Hs1 H1 Hs3 H3 := (gx.trans g2).trans g3
      cases b with
      | false =>
        rw [if_neg Bool.false_ne_true]
        exact ⟨Hs3, zs, g13, n3, d3, p2 rfl⟩
      | true =>
        rw [if_pos rfl]
        refine p1 rfl Hs0 H0 Hs3 H3 σ2 _ (S3.grow g3) fun Hs4 H4 J1 es g4 Y1 ⟨Jv, j0, step1, fin1⟩ => ?_
        have n4 : Hs4 D = none := g4.n _ _ d3 n3
        have d4 : H4 D = some (TxO P w D zs) := g4.e.ext d3
        have S4d : Sl K Hs0 H0 Hs4 (L2.del H4 D) σ2 γ2 := ((S3.grow g3).grow g4).delH sh2 H0D n4 (txo_ne d4)
        have b14 : Grow Hs1 H1 Hs4 (L2.del H4 D) := (g13.trans g4).del hD n4 (txo_ne d4)
        refine ⟨fun j k Hx => k = es.length - j ∧ j ≤ es.length ∧ ∃ Hs' zs', Grow Hs4 (L2.del H4 D) Hs' Hx ∧ Hs' D = none ∧ Hx D = some (TxO P w D zs') ∧ Jv j zs', ⟨es.length, by simp, Nat.zero_le _, Hs4, zs, .undel g4.b n4, n4, d4, j0⟩, ?_⟩
        rintro j k Hx ⟨rfl, hjl, Hs5, zs', gy, n5, d5, jv⟩
        by_cases hlt1 : j < es.length
        · refine .inr ⟨Y1.go j Hs5 Hx gy.s gy.b hlt1, fun H' => ∃ Hs'' zs', Grow Hs4 (L2.del H4 D) Hs'' H' ∧ Hs'' D = none ∧ H' D = some (TxO P w D zs') ∧ Jv (j + 1) zs', fun H' p => ⟨es.length - (j + 1), by omega, rfl, hlt1, p⟩, fun x1 H6 hy1 => ?_⟩
          have he : es[j]? = some es[j] := by simp [hlt1]
          obtain ⟨Hs6, g6, rx1⟩ := Y1.yld j Hs5 Hx es[j] x1 H6 gy.s gy.b he hy1
          obtain ⟨sz, st1⟩ := step1 j es[j] zs' he jv
          have n6 : Hs6 D = none := g6.n _ _ d5 n5
          refine st1 Hs0 H0 Hs6 H6 (wipe σ2 vs1) x1 _ (((S4d.grow gy).grow g6).wipe vs1) rx1 fun σ3 γ3 S7 w7 h7 => ⟨ext_of (by rw [w7 vs1 hj1, wipe_wipe]), ?_⟩
          refine h7 Hs0 H0 Hs6 H6 σ3 _ S7 fun Hs7 H7 b g7 ⟨p1, p2⟩ => ?_
          have d7 : H7 D = some (TxO P w D zs') := g7.e.ext (g6.e.ext d5)
          have n7 : Hs7 D = none := g7.n _ _ (g6.e.ext d5) n6
          have g47 : Grow Hs4 (L2.del H4 D) Hs7 H7 := (gy.trans g6).trans g7
          cases b with
          | true =>
            rw [if_pos rfl]
            refine p1 rfl Hs0 H0 Hs7 H7 σ3 _ (S7.grow g7) fun Hs8 H8 y dy g8 r8 ⟨z, ez, p8⟩ => ?_
            subst ez
            cases r8
            have n8 : Hs8 D = none := g8.n _ _ d7 n7
            exact ⟨z, zs', rfl, g8.e.ext d7, sz, Hs8, more1 zs' z, (g47.trans g8).put n8 (txo_ne (g8.e.ext d7)), n8, upd_same, p8⟩
          | false =>
            rw [if_neg Bool.false_ne_true]
            exact ⟨Hs7, zs', g47, n7, d7, p2 rfl⟩
        · have e : j = es.length := by omega
          subst e
          exact .inl ⟨Y1.stop Hs5 Hx gy.s gy.b, Hs5, zs', b14.trans gy, n5, d5, fin1 zs' jv⟩
    · have e : i = ds.length := by omega
      subst e
      refine .inl ⟨Y.stop Hs' Hx gx.s gx.b, D, zs, rfl, hDl, fun ys p pm so nd hp => ?_⟩
      have np : Hs' p = none := gx.b.free hp
      have gz : Grow Hs H Hs' (upd Hx p (.lst (ys.map V.str))) := (g1'.trans gx).trans (.hid gx.b hp)
      refine q Hs' _ p (ys.map V.str) (ys.map .str) gz (SameT.free (g1'.trans gx).e hp) np upd_same ?_ (fin zs iv nd ys pm so)
      clear pm so gz
      induction ys with
      | nil => exact .nil
      | cons y ys ih => exact .cons (.str y) ih
end
end Z

/-! replace of written texts; a loop that turns at least once -/
namespace Z
open PySem PySem.Spec L2 StX RZ
variable [Tabs]
section
variable {K : PySem.W.Frag} {Hs0 H0 Hs H Hs' H' : Hp} {σ : L2.St} {γ : Gam} {tu : TS} {Φ : Out} {to : TE} {y z : Str}
theorem ew_replC {Ψ : D → Prop} (h : EW K to γ fun d => ∃ x : Str, d = .str x ∧ x.length + (x.length + 1) * z.length ≤ 16777216 ∧ Ψ (.str (Txt.replace x y z))) : EW K (CwR.tReplC to y z) γ Ψ := fun Hs0 H0 Hs H σ Q S q =>
  h Hs0 H0 Hs H σ _ S fun Hs' H' v d g r ⟨x, e, l, p⟩ => by
    subst e
    cases r
    exact ⟨x, rfl, l, q Hs' H' _ _ g (.str _) p⟩
theorem sw_forP {wi : TI} {g : TG} {js : List Nat} (h : IW K wi γ fun ds => 0 < ds.length ∧ ∃ I : Nat → Gam → Prop, I 0 γ ∧
    (∀ i d γ', ds[i]? = some d → I i γ' → GW K g js d γ' fun γ2 => SW K tu γ2 { nx := I (i + 1), rt := Φ.rt, bk := fun _ => False, ct := fun _ => False }) ∧ ∀ γ', I ds.length γ' → Φ.nx γ') : SW K (tForP wi g tu) γ Φ := fun Hs0 H0 Hs H σ E S kn kr kb kc =>
  h Hs0 H0 Hs H σ _ S fun Hs1 H1 J ds g1 Y ⟨pos, I, i0, step, fin⟩ => by
    refine ⟨fun i m σ' H' => m = ds.length - i ∧ i ≤ ds.length ∧ ∃ Hs' γ', Same Hs1 Hs' ∧ Sl K Hs0 H0 Hs' H' σ' γ' ∧ I i γ', ⟨ds.length, by simp, Nat.zero_le _, Hs1, γ, .refl _, S.grow g1, i0⟩, ?_⟩
    rintro i m σ' H' ⟨rfl, hi, Hs', γ', e', S', iv⟩
    by_cases hlt : i < ds.length
    · refine .inr ⟨Y.go i Hs' H' e' S'.b hlt, fun σ2 H2 => ∃ Hs2 γ2, Same Hs1 Hs2 ∧ Sl K Hs0 H0 Hs2 H2 σ2 γ2 ∧ I (i + 1) γ2, fun σ2 H2 ⟨a, b, c⟩ => ⟨ds.length - (i + 1), by omega, rfl, hlt, a, b, c⟩, fun x H'' hy => ?_⟩
      have hd : ds[i]? = some ds[i] := by simp [hlt]
      obtain ⟨Hs2, g2, rx⟩ := Y.yld i Hs' H' ds[i] x H'' e' S'.b hd hy
      have e2 := e'.trans g2.s
      refine step i ds[i] γ' hd iv Hs0 H0 Hs2 H'' σ' x _ (S'.grow g2) rx fun σ3 γ3 S3 _ h3 => ?_
      exact h3 Hs0 H0 Hs2 H'' σ3 _ S3 (fun Hs4 H4 σ4 γ4 e4 S4 q => ⟨Hs4, γ4, e2.trans e4, S4, q⟩) kr (fun _ _ _ _ _ _ z => z.elim) (fun _ _ _ _ _ _ z => z.elim)
    · have e : i = ds.length := by omega
      subst e
      exact .inl ⟨Y.stop Hs' H' e' S'.b, pos, kn Hs' H' σ' γ' (g1.s.trans e') S' (fin γ' iv)⟩
end
end Z

/-! a def that changes a dict of its caller's -/
namespace Z
open PySem PySem.Spec L2 StX RZ
variable [Tabs]
section
variable {K : PySem.W.Frag} {Hs0 H0 Hs H Hs' H' : Hp} {σ : L2.St} {γ : Gam} {p : Addr} {ta tb te : TE} {ts tz : TS} {tr : TA} {i j : Nat} {n : Nat}
/-! within the def -/
theorem ew_dgetA {Φ : D → Prop} {kds : List (Key × D)} (hg : γ[i]? = some (some (.ob (.dctA p kds)))) (h : EW K tb γ fun y => ∃ k d, y = kD k ∧ valD kds k = some d ∧ Φ d) : EW K (tDGet (tVar i) tb) γ Φ := fun Hs0 H0 Hs H σ Q S q => by
  obtain ⟨v, hv, a, o, rfl, h1, h2, _, kvs, rfl, h3⟩ := S.ok i _ hg
  refine ⟨.ref a, hv, h Hs0 H0 Hs H σ _ S fun Hs1 H1 v y g1 r1 ⟨k, d, e, hd, p⟩ => ?_⟩
  subst e
  have e := kD_is r1
  subst e
  rcases (RepK.mono g1.s h3).val (k := k) with ⟨z, _⟩ | ⟨v, d', z1, z2, z3⟩
  · rw [hd] at z; cases z
  · rw [hd] at z1; cases z1
    exact ⟨a, v, rfl, .inl ⟨kvs, k, .inl (g1.e.oho h2 trivial), rfl, z2.symm⟩, q _ _ _ _ g1 z3 p⟩
theorem sw_putA {Ω : Out} {kds : List (Key × D)} (hg : γ[i]? = some (some (.ob (.dctA p kds)))) (l : kds.length < sizeS) (h : EW K te γ fun d => EW K tb γ fun y => ∃ k, y = kD k ∧ Ω.nx (γ.set i (some (.ob (.dctA p (putD kds k d)))))) : SW K (sDPut (tVar i) tb te) γ Ω := fun Hs0 H0 Hs H σ E S kn kr _ _ => by
  obtain ⟨v, hv, a, o, rfl, h1, h2, ap, kvs, rfl, h3⟩ := S.ok i _ hg
  refine h Hs0 H0 Hs H σ _ S fun Hs1 H1 v1 d g1 r1 h' => ⟨.ref a, hv, h' Hs0 H0 Hs1 H1 σ _ (S.grow g1) fun Hs2 H2 w y g2 r2 ⟨k, e, q⟩ => ?_⟩
  subst e
  have e := kD_is r2
  subst e
  have g := g1.trans g2
  have ha : H2 a = some (.dK kvs) := g.e.oho h2 trivial
  refine ⟨a, _, rfl, .inl ⟨kvs, k, ha, rfl, by rw [h3.length]; exact Nat.lt_trans l (by decide), rfl⟩, ?_⟩
  exact kn Hs2 _ σ _ g.s ((S.grow g).putB (s' := .ob (.dctA p (putD kds k d))) i hg rfl hv rfl ⟨ap, _, rfl, (RepK.mono g.s h3).put (r1.mono g2.s)⟩) q
/-- statements up to a return; then the dict at p is told -/
def SWB (K : PySem.W.Frag) (p : Addr) (ts : TS) (γ : Gam) (Φ : D → List (Key × D) → Prop) : Prop := ∀ (Hs0 H0 Hs H : Hp) (σ : L2.St) (E : Ends), Sl K Hs0 H0 Hs H σ γ →
  (∀ Hs' H' v d kvs kds, Grow Hs0 H0 Hs' H' → Hs' p = none → H' p = some (.dK kvs) → RepK K Hs' kvs kds → Rep K Hs' v d → Φ d kds → E.rt v H') → ts E σ H
theorem swb_seq {Φ : D → List (Key × D) → Prop} (h : SW K ts γ { nx := fun γ1 => SWB K p tz γ1 Φ, rt := fun _ => False }) : SWB K p (tSeq ts tz) γ Φ := fun Hs0 H0 Hs H σ E S kr =>
  h Hs0 H0 Hs H σ { E with nx := tz E } S (fun Hs1 H1 σ1 γ1 _ S1 q => q Hs0 H0 Hs1 H1 σ1 E S1 kr) (fun _ _ _ _ _ _ z => z.elim) (fun _ _ _ _ _ _ z => z.elim) (fun _ _ _ _ _ _ z => z.elim)
theorem swb_retL {Φ : D → List (Key × D) → Prop} {ds : List D} {kds : List (Key × D)} (hj : γ[j]? = some (some (.ow ds))) (hi : γ[i]? = some (some (.ob (.dctA p kds)))) (h : Φ (.lst ds) kds) : SWB K p (tRet (tVar j)) γ Φ := fun Hs0 H0 Hs H σ E S kr => by
  have ne : j ≠ i := fun e => by rw [e, hi] at hj; cases hj
  obtain ⟨Hs1, e1, S1⟩ := S.freeze j hj
  obtain ⟨v, hv, a, o, rfl, h1, h2, rfl, kvs, rfl, h3⟩ := S1.ok i _ (by rw [List.getElem?_set_ne ne]; exact hi)
  obtain ⟨u, hu, r⟩ := S1.ok j _ (List.getElem?_set_self (List.getElem?_eq_some_iff.mp hj).1)
  exact ⟨u, hu, kr Hs1 H u _ kvs kds S1.gr h1 h2 h3 r h⟩
def spB (K : PySem.W.Frag) (n : Nat) (pre : List D → List (Key × D) → Prop) (post : List D → List (Key × D) → D → List (Key × D) → Prop) : Sp := fun vs H Q _ => ∃ Hs ws p ds kvs kds, vs = ws ++ [.ref p] ∧ TbOk Hs H ∧ Same Hs H ∧ RepL K Hs ws ds ∧ ds.length + 1 = n ∧
  Hs p = none ∧ H p = some (.dK kvs) ∧ RepK K Hs kvs kds ∧ pre ds kds ∧
  ∀ Hs' H' v d kvs' kds', Grow Hs (L2.del H p) Hs' H' → Hs' p = none → H' p = some (.dK kvs') → RepK K Hs' kvs' kds' → Rep K Hs' v d → post ds kds d kds' → Q v H'
def gamB (p : Addr) (n : Nat) (ds : List D) (kds : List (Key × D)) : Gam := (gam0 n ds).set ds.length (some (.ob (.dctA p kds)))
theorem start_set {N : List Str} {ws : List V} {x : V} (h : ws.length < N.length) : (L2.start N ws).set ws.length (some x) = L2.start N (ws ++ [x]) := by
  unfold L2.start
  rw [List.set_append_right _ _ (by rw [List.length_map]; exact Nat.le_refl _), List.length_map, Nat.sub_self, List.map_append, List.append_assoc]
  congr 1
  obtain ⟨k, hk⟩ : ∃ k, N.length - ws.length = k + 1 := ⟨N.length - ws.length - 1, by omega⟩
  rw [hk, List.length_append, show N.length - (ws.length + [x].length) = k by simp; omega]
  rfl
theorem sl_startB {N : List Str} {ws : List V} {ds : List D} {kvs : List (Key × V)} {kds : List (Key × D)} (tb : TbOk Hs H) (b : Same Hs H) (hs : Hs p = none) (hp : H p = some (.dK kvs)) (rk : RepK K Hs kvs kds) (r : RepL K Hs ws ds) (hn : ws.length < N.length) :
    Sl K Hs (L2.del H p) Hs H (L2.start N (ws ++ [.ref p])) (gamB p N.length ds kds) := by
  have nt : ∀ ps, H p ≠ some (.tbl ps) := fun ps z => by rw [hp] at z; cases z
  have bd : Same Hs (L2.del H p) := fun a o e => by rw [del_ne (ne_of_none e hs)]; exact b _ _ e
  have S0 := sl_start (N := N) (tb_del tb nt) bd r
  have S1 := S0.grow (Grow.undel b hs)
  have S2 := S1.ownB (s := .ob (.dctA p kds)) ws.length del_same hs hp rfl ⟨rfl, kvs, rfl, rk⟩ fun j t h1 ho h2 => by
    obtain ⟨v, hv, q⟩ := S0.ok j t h1
    obtain ⟨a, o, ea, n1, n2, _⟩ := (SlotOk.own ho).mp q
    rw [hv] at h2
    rw [ea] at h2
    cases h2
    rw [del_same] at n2
    cases n2
  rw [start_set hn] at S2
  unfold gamB
  rw [← r.length]
  exact S2
structure DfB (P : Program) (w : World) (K : PySem.W.Frag) (mg : Str → Option Value) (base : Heap) (x : Str) (k : Nat) (ps : List Str) (n : Nat) (pre : List D → List (Key × D) → Prop) (post : List D → List (Key × D) → D → List (Key × D) → Prop) : Prop where
  ex : ∃ f fd, mg x = some (.ref f) ∧ PySem.W.keepIn K (.ref f) = true ∧ Binds K fd ps [] ∧ FnOk P w K mg base CX0 k f fd ps (spB K n pre post) ∧ ∃ oc od osl, K.lookup f = some ⟨oc, od, .func fd, osl⟩
end
section
variable {P : Program} {w : World} {K : PySem.W.Frag} {mg : Str → Option Value} {base : Heap}
theorem df_mkB {x : Str} {params : Arguments} {body : List Stmt} {scope : Scope} {f : Addr} {fd : FuncData} {N ps : List Str} {k : Nat} {pre : List D → List (Key × D) → Prop} {post : List D → List (Key × D) → D → List (Key × D) → Prop} (F : FunD K x x params body scope [] [] f fd) (hm : mg x = some (.ref f)) (S : FnScope N ps scope)
    (hb : ∀ (kV doc pm : Value) (an : Option Addr) (cdv ct : Value) (us : List Value), us.length = ps.length → bindArgs (PySem.W.fnOf x x params body scope .none kV doc pm an cdv ct) ⟨us, []⟩ = pure (ps.zip us)) (hn : ps.length ≤ N.length)
    (hbody : ∀ (cdv : Value) (A : Around) (outer : List Env) (s : Shared) (H : Hp) (E : XK), Room k (A.deeper (PyProof.Rows.envOfC x scope s.heap.objs.size f cdv)) → ∀ (p : Addr) ds kds, ds.length + 1 = ps.length → pre ds kds →
      ∃ t, PSs (cxOf CX0 P w K mg base N x scope f cdv A outer s H E).nox body t ∧ SWB K p t (gamB p N.length ds kds) (post ds kds)) : DfB P w K mg base x (k + 1) ps ps.length pre post := by
  obtain ⟨oc, od, dV, kV, doc, pm, an, cdv, ct, osl, e1, lk, _⟩ := id F.ex
  refine ⟨f, fd, hm, F.kp, F.bindsN hb, F.ok S (fun vs H Q E h => ?_) (fun cdv A outer s H vs Q E hr h => ?_), oc, od, osl, lk⟩
  · obtain ⟨Hs, ws, p, ds, _, _, rfl, _, _, r, l, _⟩ := h
    rw [List.length_append, r.length]; exact l
  · obtain ⟨Hs, ws, p, ds, kvs, kds, rfl, tb, b, r, l, hs, hp, rk, pr, q⟩ := h
    obtain ⟨t, ht, hw⟩ := hbody cdv A outer s H E hr p ds kds l pr
    exact ⟨t, ht.nox, hw Hs _ Hs H _ _ (sl_startB tb b hs hp rk r (by rw [r.length]; omega)) fun Hs' H' v d kvs' kds' g n1 n2 r1 r2 ps => q Hs' H' v d kvs' kds' g n1 n2 r1 r2 ps⟩
theorem pe_dfB {X : Cx} (K : PySem.W.Frag) (hK : X.K = K) {x : Str} {k j : Nat} {ps : List Str} {n : Nat} {pre : List D → List (Key × D) → Prop} {post : List D → List (Key × D) → D → List (Key × D) → Prop} {p pos : Pos} {e : Expr} {es : List Expr} {t : TA} (g : DfB X.prog X.w K X.mg X.base x j ps n pre post) (hr : Room k X.A) (hj : j ≤ k) (hg : Gl X x)
    (ha : PA X (e :: es) t) (hdb : (x == ("__debug__" : Str)) = false := by decide) (he : starEach (e :: es) X.env = (false, eval e X.env) :: starEach es X.env := by rfl) (hpl : (backTo pos (starEach es X.env)).any (·.1) = false := by rfl) :
    PE X (.Call (.Name x p) (e :: es) [] pos) (tCall (spB K n pre post) [] E0 t) := by
  subst hK
  obtain ⟨f, fd, h1, h2, h3, h4, _⟩ := g.ex
  exact pe_call h4 (hr.mono hj) hg h1 h2 h3 .nil pass0 ha hdb he hpl
end
/-! the caller: an expression that changes what a slot holds -/
section
variable {K : PySem.W.Frag} {Hs0 H0 Hs H Hs' H' : Hp} {σ : L2.St} {γ : Gam} {te t1 t2 t3 : TE} {tr : TA} {i j n : Nat}
def EG (K : PySem.W.Frag) (te : TE) (γ : Gam) (Φ : D → Gam → Prop) : Prop := ∀ (Hs0 H0 Hs H : Hp) (σ : L2.St) (Q : VK), Sl K Hs0 H0 Hs H σ γ →
  (∀ Hs' H' v d γ', Same Hs Hs' → Sl K Hs0 H0 Hs' H' σ γ' → Rep K Hs' v d → Φ d γ' → Q v H') → te σ H Q
def AG (K : PySem.W.Frag) (tr : TA) (γ : Gam) (Φ : List D → Gam → Prop) : Prop := ∀ (Hs0 H0 Hs H : Hp) (σ : L2.St) (Q : List V → Hp → Prop), Sl K Hs0 H0 Hs H σ γ →
  (∀ Hs' H' vs ds γ', Same Hs Hs' → Sl K Hs0 H0 Hs' H' σ γ' → RepL K Hs' vs ds → Φ ds γ' → Q vs H') → tr σ H Q
theorem ag_of {Φ : List D → Gam → Prop} (h : AW K tr γ fun ds => Φ ds γ) : AG K tr γ Φ := fun Hs0 H0 Hs H σ Q S q => h Hs0 H0 Hs H σ Q S fun Hs' H' vs ds g r p => q Hs' H' vs ds γ g.s (S.grow g) r p
theorem ag_cons {Φ : List D → Gam → Prop} (h : EG K te γ fun d γ1 => AG K tr γ1 fun ds γ2 => Φ (d :: ds) γ2) : AG K (tCons te tr) γ Φ := fun Hs0 H0 Hs H σ Q S q =>
  h Hs0 H0 Hs H σ _ S fun Hs1 H1 v d γ1 e1 S1 r1 h1 => h1 Hs0 H0 Hs1 H1 σ _ S1 fun Hs2 H2 vs ds γ2 e2 S2 r2 p => q _ _ _ _ γ2 (e1.trans e2) S2 (.cons (r1.mono e2) r2) p
theorem eg_call {Φ : D → Gam → Prop} {pre : List D → Prop} {post : List D → D → Prop} {E : XK} (h : AG K tr γ fun ds γ1 => CallOk n pre post (fun d => Φ d γ1) ds) : EG K (tCall (spD K n pre post) [] E tr) γ Φ := fun Hs0 H0 Hs H σ Q S q =>
  h Hs0 H0 Hs H σ _ S fun Hs1 H1 vs ds γ1 e1 S1 r1 ⟨l, p, k⟩ => ⟨Hs1, ds, S1.tb, S1.b, by rw [List.append_nil]; exact r1, l, p, fun Hs2 H2 v d g2 r2 ps => q _ _ _ _ γ1 (e1.trans g2.s) (S1.grow g2) r2 (k d ps)⟩
theorem eg_cb {Φ : D → Gam → Prop} {r : List V → Hp → VK → Prop} (h : AG K tr γ fun ds γ1 => RWL K r ds fun d => Φ d γ1) : EG K (tCB r tr) γ Φ := fun Hs0 H0 Hs H σ Q S q =>
  h Hs0 H0 Hs H σ _ S fun Hs1 H1 vs ds γ1 e1 S1 r1 h1 => h1 Hs1 H1 vs Q S1.b r1 fun Hs2 H2 w d g2 r2 p => q _ _ _ _ γ1 (e1.trans g2.s) (S1.grow g2) r2 p
theorem sw_asgEG {Φ : Out} (h : EG K te γ fun d γ1 => Φ.nx (γ1.set j (some (.sh d)))) : SW K (tAsg te (gName j)) γ Φ := fun Hs0 H0 Hs H σ E S kn kr _ _ =>
  h Hs0 H0 Hs H σ _ S fun Hs' H' v d γ1 e S1 r p => kn Hs' H' _ _ e (S1.set j r) p
/-- three arguments and a dict of one's own -/
theorem eg_callB {Φ : D → Gam → Prop} {pre : List D → List (Key × D) → Prop} {post : List D → List (Key × D) → D → List (Key × D) → Prop} {E : XK} {kds : List (Key × D)} (hg : γ[i]? = some (some (.ob (.dct kds))))
    (h : EW K t1 γ fun d1 => EW K t2 γ fun d2 => EW K t3 γ fun d3 => 4 = n ∧ pre [d1, d2, d3] kds ∧ ∀ d kds', post [d1, d2, d3] kds d kds' → Φ d (γ.set i (some (.ob (.dct kds'))))) :
    EG K (tCall (spB K n pre post) [] E (tCons t1 (tCons t2 (tCons t3 (tCons (tVar i) tNil))))) γ Φ := fun Hs0 H0 Hs H σ Q S q => by
  refine h Hs0 H0 Hs H σ _ S fun Hs1 H1 v1 d1 g1 r1 h1 => h1 Hs0 H0 Hs1 H1 σ _ (S.grow g1) fun Hs2 H2 v2 d2 g2 r2 h2 => h2 Hs0 H0 Hs2 H2 σ _ ((S.grow g1).grow g2) fun Hs3 H3 v3 d3 g3 r3 ⟨l, pr, k⟩ => ?_
  have S3 := ((S.grow g1).grow g2).grow g3
  obtain ⟨v, hv, p, o, rfl, hs, hp, kvs, rfl, rk⟩ := S3.ok i _ hg
  refine ⟨.ref p, hv, Hs3, [v1, v2, v3], p, [d1, d2, d3], kvs, kds, rfl, S3.tb, S3.b, .cons (r1.mono (g2.trans g3).s) (.cons (r2.mono g3.s) (.cons r3 .nil)), l, hs, hp, rk, pr, fun Hs' H' u d kvs' kds' g n1 n2 rk' ru ps => ?_⟩
  -- the caller's slots, the dict at p as it was
  have gB : Grow Hs3 H3 Hs' (upd H' p (.dK kvs)) := by
    refine ⟨g.s, fun a o e => ?_, fun a o e => by rw [upd_ne (ne_of_none e n1)]; exact g.b a o e, fun a o e z => ?_, fun t => ?_⟩
    · by_cases q : a = p
      · subst q; rw [hp] at e; cases e; exact .inl upd_same
      · rw [upd_ne q]; exact g.e a o (by rw [del_ne q]; exact e)
    · by_cases q : a = p
      · rw [q]; exact n1
      · exact g.n a o (by rw [del_ne q]; exact e) z
    · have t2 := g.t (tb_del t fun ps z => by rw [hp] at z; cases z)
      exact fun P hP => by
        obtain ⟨⟨ps, q1, q2⟩, q3⟩ := t2 P hP
        exact ⟨⟨ps, by rw [upd_ne (fun z => by rw [z, n2] at q1; cases q1)]; exact q1, q2⟩, q3⟩
  have S4 := (S3.grow gB).putB (s' := .ob (.dct kds')) (o' := .dK kvs') i hg rfl hv rfl ⟨kvs', rfl, rk'⟩
  have e : upd (upd H' p (.dK kvs)) p (.dK kvs') = H' := by
    funext a
    by_cases q : a = p
    · rw [q, upd_same, n2]
    · rw [upd_ne q, upd_ne q]
  rw [e] at S4
  exact q Hs' H' u d _ (((g1.trans g2).trans g3).s.trans g.s) S4 ru (k d kds' ps)
end
end Z

/-! dict(d), d1 == d2 -/
namespace Z
open PySem PySem.Spec L2 StX RZ
variable [Tabs]
section
variable {K : PySem.W.Frag} {Hs0 H0 Hs H : Hp} {σ : L2.St} {γ : Gam} {te : TE} {i : Nat}
theorem sw_dcp {Ω : Out} (h : EW K te γ fun d => ∃ kds, d = .dct kds ∧ Ω.nx (γ.set i (some (.ob (.dct kds))))) : SW K (tAsg (tCB rDcp (tCons te tNil)) (gName i)) γ Ω := fun Hs0 H0 Hs H σ E S kn kr _ _ =>
  h Hs0 H0 Hs H σ _ S fun Hs1 H1 v d g1 r1 ⟨kds, e, q⟩ => by
    subst e
    cases r1 with
    | dct ha rk =>
      refine ⟨_, _, rfl, .inr ⟨_, g1.b _ _ ha⟩, fun p hp => ?_⟩
      have S1 := S.grow g1
      rename_i kvs
      have g : Grow Hs1 H1 Hs1 (upd H1 p (.dK kvs)) := .hid S1.b hp
      refine kn Hs1 _ _ _ g1.s ((S1.grow g).ownB (s := .ob (.dct kds)) i (SameT.free S1.gr.e hp) (S1.b.free hp) upd_same rfl ⟨kvs, rfl, rk⟩ fun j t h1 ho h2 => ?_) q
      obtain ⟨_, o, k2, _⟩ := S1.nos h1 ho h2
      rw [hp] at k2; cases k2
def toVs : D → V
  | .str z => .str z
  | _ => .non
theorem repk_strs : ∀ {es : List (Key × D)} {vs : List (Key × V)}, (∀ p ∈ es, ∃ z, p.2 = .str z) → RepK K H vs es → vs = es.map fun p => (p.1, toVs p.2)
  | [], _, _, .nil => rfl
  | (k, d) :: es, _, h, .cons r t => by
    obtain ⟨z, e⟩ := h _ List.mem_cons_self
    have e : d = .str z := e
    subst e
    cases r
    rw [List.map_cons, ← repk_strs (fun p hp => h p (List.mem_cons_of_mem _ hp)) t]
    rfl
theorem rw_eqDct {Φ : D → Prop} {es : List (Key × D)} (nd : (es.map (·.1)).Nodup) (st : ∀ p ∈ es, ∃ z, p.2 = .str z) (k : Φ (.bl true)) : RW2 K rEqDR (.dct es) (.dct es) Φ := fun Hs H v u Q b r1 r2 q => by
  cases r1 with
  | dct h1 k1 =>
    cases r2 with
    | dct h2 k2 =>
      have e1 := repk_strs st k1
      have e2 := repk_strs st k2
      subst e1 e2
      refine ⟨_, _, _, rfl, rfl, .inr ⟨_, b _ _ h1⟩, .inr ⟨_, b _ _ h2⟩, by rw [List.map_map]; exact nd, fun p hp => ?_, q Hs H _ _ (.refl b) (.bl true) k⟩
      obtain ⟨x, hx, rfl⟩ := List.mem_map.mp hp
      obtain ⟨z, e⟩ := st x hx
      show flatB (toVs x.2) = true
      rw [e]; rfl
end
end Z

/-! sorted of a tuple of whole numbers -/
namespace Z
open PySem PySem.Spec L2 StX RZ
variable [Tabs]
theorem rnl_sortIT {K : PySem.W.Frag} {ns : List Int} {Φ : List D → Prop} (k : ∀ ms : List Int, ms.Perm ns → ms.Pairwise (· ≤ ·) → Φ (ms.map .int)) : RNL K (rSortedIT K) [.tup (ns.map .int)] Φ := fun Hs H vs Q b r q => by
  cases r with
  | cons h r =>
    cases r
    cases h with
    | tup h r =>
      have e := r.ints; subst e
      exact ⟨_, ns, rfl, sameT b h, fun ms p hp hw hn => q Hs _ p _ _ (.hid b hn) hn (b.free hn) upd_same .ofInts (k ms hp hw)⟩
end Z

/-! defs that may raise, with keyword-only parameters -/
namespace Z
open PySem PySem.Spec L2 StX RZ
def tCallNS (n m : Nat) (sp : Sp) (gV : List V → List V → List V) (E : L2.St → XK) (t tk : TA) : TE := fun σ H Q => t σ H fun vs H1 => tk σ H1 fun zs H2 => vs.length = n ∧ zs.length = m ∧ sp (gV vs zs) H2 Q (E σ)
section
variable {X : Cx} {CX : CXT} {k n : Nat} {f : Addr} {fd : FuncData} {ps ks : List Str} {sp : Sp} {E : L2.St → XK} {x : Str} {p pos : Pos} {e : Expr} {es : List Expr} {kws : List Keyword} {t tk : TA} {g : List Value → List Value → List Value} {gV : List V → List V → List V}
theorem pe_callNS (F : FnOk X.prog X.w X.K X.mg X.base CX k f fd ps sp) (hr : Room k X.A) (hg : Gl X x) (hm : X.mg x = some (.ref f)) (hk : PySem.W.keepIn X.K (.ref f) = true) (hb : KBn X.K fd ps n ks g gV) (hx : ∀ σ, PassesAt CX X σ (E σ))
    (ha : PA X (e :: es) t) (hkw : PK X kws tk) (hall : (backToKw pos (keywordEach kws X.env)).all (·.1.isSome) = true := by rfl) (hks : (backToKw pos (keywordEach kws X.env)).filterMap (·.1) = ks := by rfl)
    (hdb : (x == ("__debug__" : Str)) = false := by decide) (he : Fst X e es := by rfl)
    (hpl : ((backTo pos (starEach (e :: es) X.env)).any (·.1) || (backToKw pos (keywordEach kws X.env)).any (·.1.isNone)) = false := by rfl) :
    PE X (.Call (.Name x p) (e :: es) kws pos) (tCallNS n ks.length sp gV E t tk) := by
  refine ⟨fun pins s σ H Q I h => wpAny_Call_Name_kw (ld_glob I hg hm (PySem.W.callWith_KW (h₀ := X.base) I.ok.mod.kin hk hall (thn (ha.run pos pins s σ H _ I h) fun us s1 ⟨vs, H1, I1, r, q⟩ => thn (hkw.run pos pins s1 σ H1 _ I1 q) fun ws s2 ⟨zs, H2, I2, rz, l1, l2, q2⟩ => ⟨I2.kIn, ?_⟩) hpl he) hdb)⟩
  rw [hks]
  refine wpAny_call (codeAny_mono (F.run X.A X.stack s2 H2 ⟨us, ks.zip ws⟩ (g us ws) (gV vs zs) Q (E σ) hr I2.env0 (hb.to s2 us ws I2.kIn (r.length.symm.trans l1) (rz.length.symm.trans l2)) (hb.rel r rz) q2) fun r s' hq => ?_)
  cases r with
  | error e => exact hx σ pins H2 s2 e s' I2 hq
  | ok fl => cases fl <;> first | exact I2.after hq | exact False.elim hq
end
variable [Tabs]
structure DfXk (P : Program) (w : World) (K : PySem.W.Frag) (mg : Str → Option Value) (base : Heap) (x : Str) (k : Nat) (ps : List Str) (n : Nat) (dvs : List V) (nk : Nat) (ks : List Str) (pre : List D → Prop) (post : List D → D → Prop) (xpost : List D → XD → Prop) : Prop where
  ex : ∃ f fd, mg x = some (.ref f) ∧ PySem.W.keepIn K (.ref f) = true ∧ (∃ ds, Vals dvs ds ∧ Binds K fd ps ds) ∧ (ks = [] ∨ ∃ g, KBn K fd ps nk ks g (fun vs zs => vs ++ zs)) ∧ FnOk P w K mg base (L2.CX P w) k f fd ps (spX K n pre post xpost)
section
variable {P : Program} {w : World} {K : PySem.W.Frag} {mg : Str → Option Value} {base : Heap}
theorem df_mkXk {x : Str} {params : Arguments} {body : List Stmt} {scope : Scope} {f : Addr} {fd : FuncData} {N ps : List Str} {k : Nat} {dvs : List V} {kws : List (Str × V)} {nk : Nat} {ks : List Str} {pre : List D → Prop} {post : List D → D → Prop} {xpost : List D → XD → Prop} (F : FunD K x x params body scope [] kws f fd) (hm : mg x = some (.ref f)) (S : FnScope N ps scope)
    (hd : ∃ ds, Vals dvs ds ∧ Binds K fd ps ds) (hk : ks = [] ∨ ∃ g, KBn K fd ps nk ks g (fun vs zs => vs ++ zs))
    (hbody : ∀ (cdv : Value) (A : Around) (outer : List Env) (s : Shared) (H : Hp) (E : XK), Room k (A.deeper (PyProof.Rows.envOfC x scope s.heap.objs.size f cdv)) → ∀ ds, ds.length = ps.length → pre ds →
      ∃ t, PSs (cxOf (L2.CX P w) P w K mg base N x scope f cdv A outer s H E) body t ∧ ∀ Hs0 H0, Wok K Hs0 H0 Hs0 (WD E) (fun x _ => xpost ds x) → SX K Hs0 H0 Hs0 t (gam0 N.length ds) { nx := fun _ => post ds .non, rt := post ds }) : DfXk P w K mg base x (k + 1) ps ps.length dvs nk ks pre post xpost := by
  refine ⟨f, fd, hm, F.kp, hd, hk, F.ok S (fun vs H Q E h => ?_) (fun cdv A outer s H vs Q E hr h => ?_)⟩
  · rcases h with ⟨Hs, ds, _, _, r, l, _⟩
    rw [r.length]; exact l
  · rcases h with ⟨Hs, ds, tb, b, r, l, p, q, qx⟩
    rcases hbody cdv A outer s H E hr ds l p with ⟨t, ht, hw⟩
    exact ⟨t, ht, hw Hs H (fun Hs' H' σ' γ' cls d x _ S' r' px => qx Hs' H' cls d x S'.gr r' px) Hs H _ _ (.refl _) (sl_start tb b r) (fun Hs' H' σ' γ' e S' p => q Hs' H' _ _ S'.gr .non p) (fun Hs' H' v d g r p => q Hs' H' v d g r p) (fun _ _ _ _ _ _ z => z.elim) (fun _ _ _ _ _ _ z => z.elim)⟩
end
section
variable {X : Cx} {x : Str} {k j n nk : Nat} {ps ks : List Str} {dvs : List V} {pre : List D → Prop} {post : List D → D → Prop} {xpost : List D → XD → Prop} {W : WX} {p pos : Pos} {e : Expr} {es : List Expr} {kws : List Keyword} {t tk' : TA}
theorem pe_dfXd (K : PySem.W.Frag) (h : X.K = K) (g : DfXk X.prog X.w K X.mg X.base x j ps n dvs nk ks pre post xpost) (hr : Room k X.A) (hj : j ≤ k) (hg : Gl X x) (tk : Takes X W) (ha : PA X (e :: es) t) (hdb : (x == ("__debug__" : Str)) = false := by decide) (he : Fst X e es := by rfl) (hpl : Pln X pos es := by rfl) :
    PE X (.Call (.Name x p) (e :: es) [] pos) (tCallSD (spX K n pre post xpost) dvs (WE W) t) := by
  subst h
  rcases g.ex with ⟨f, fd, h1, h2, ⟨ds, r, hb⟩, _, h4⟩
  exact pe_callSD h4 (hr.mono hj) hg h1 h2 hb r (fun σ => passAt tk σ) ha hdb he hpl
theorem pe_dfXn (K : PySem.W.Frag) (h : X.K = K) (g : DfXk X.prog X.w K X.mg X.base x j ps n dvs nk ks pre post xpost) (hne : ks ≠ []) (hr : Room k X.A) (hj : j ≤ k) (hg : Gl X x) (tk : Takes X W) (ha : PA X (e :: es) t) (hkw : PK X kws tk') (hall : (backToKw pos (keywordEach kws X.env)).all (·.1.isSome) = true := by rfl) (hks : (backToKw pos (keywordEach kws X.env)).filterMap (·.1) = ks := by rfl)
    (hdb : (x == ("__debug__" : Str)) = false := by decide) (he : Fst X e es := by rfl) (hpl : ((backTo pos (starEach (e :: es) X.env)).any (·.1) || (backToKw pos (keywordEach kws X.env)).any (·.1.isNone)) = false := by rfl) :
    PE X (.Call (.Name x p) (e :: es) kws pos) (tCallNS nk ks.length (spX K n pre post xpost) (fun vs zs => vs ++ zs) (WE W) t tk') := by
  subst h
  rcases g.ex with ⟨f, fd, h1, h2, _, h3, h4⟩
  rcases h3 with z | ⟨gg, kb⟩
  · exact absurd z hne
  · exact pe_callNS h4 (hr.mono hj) hg h1 h2 kb (fun σ => passAt tk σ) ha hkw hall hks hdb he hpl
end
section
variable {K : PySem.W.Frag} {Hs0 H0 Hb : Hp} {γ : Gam} {tr tk : TA} {n nk m : Nat} {dvs : List V} {pre : List D → Prop} {post : List D → D → Prop} {xpost : List D → XD → Prop} {Φ : D → Prop} {W : WX} {Ψ : XD → Gam → Prop}
theorem ex_callDx (pl : dvs.all plainV = true) (hW : Wok K Hs0 H0 Hb W Ψ) (h : AX K Hs0 H0 Hb tr γ fun ds => CallX n pre post xpost Φ (fun x => Ψ x γ) (ds ++ dvs.map ofV)) : EX K Hs0 H0 Hb (tCallSD (spX K n pre post xpost) dvs (WE W) tr) γ Φ := fun Hs H σ Q hb S q =>
  h Hs H σ _ hb S fun Hs1 H1 vs ds g1 r1 ⟨l, p, k, kx⟩ => ⟨Hs1, _, g1.t S.tb, g1.b, r1.append (rep_plain pl), l, p, fun Hs2 H2 v d g2 r2 ps => q _ _ _ _ (g1.trans g2) r2 (k d ps), fun Hs2 H2 cls d x g2 r2 ps => hW Hs2 H2 σ γ cls d x (hb.trans (g1.trans g2).s) (S.grow (g1.trans g2)) r2 (kx x ps)⟩
theorem ex_callNx (hW : Wok K Hs0 H0 Hb W Ψ) (h : AX K Hs0 H0 Hb tr γ fun ds => AX K Hs0 H0 Hb tk γ fun es => ds.length = nk ∧ es.length = m ∧ CallX n pre post xpost Φ (fun x => Ψ x γ) (ds ++ es)) : EX K Hs0 H0 Hb (tCallNS nk m (spX K n pre post xpost) (fun vs zs => vs ++ zs) (WE W) tr tk) γ Φ := fun Hs H σ Q hb S q =>
  h Hs H σ _ hb S fun Hs1 H1 vs ds g1 r1 h1 => h1 Hs1 H1 σ _ (hb.trans g1.s) (S.grow g1) fun Hs2 H2 zs es g2 r2 ⟨l1, l2, l, p, k, kx⟩ =>
    ⟨by rw [r1.length]; exact l1, by rw [r2.length]; exact l2, Hs2, ds ++ es, g2.t (g1.t S.tb), g2.b, (RepL.mono g2.s r1).append r2, l, p, fun Hs3 H3 v d g3 r3 ps => q _ _ _ _ ((g1.trans g2).trans g3) r3 (k d ps),
      fun Hs3 H3 cls d x g3 r3 ps => hW Hs3 H3 σ γ cls d x (hb.trans ((g1.trans g2).trans g3).s) (S.grow ((g1.trans g2).trans g3)) r3 (kx x ps)⟩
end
end Z

/-! list(range(a, b, c)); int of a truth value; a def that may raise, with keyword-only parameters, whose code object is known -/
namespace StX
open PySem PySem.Spec L2
section
variable {X : Cx} {a b c : Expr} {ta : TA} {p pos p' pos' : Pos}
def tRg3 (ta : TA) : L2.St → Hp → (Int → Int → Int → Nat → Hp → Prop) → Prop := fun σ H Q => ta σ H fun vs H1 => ∃ (i j c : Int) (n : Nat), vs = [.int i, .int j, .int c] ∧ RgC i j c n ∧ n ≤ 2 ^ 24 ∧ Q i j c n H1
def stepV (i c : Int) (n : Nat) : List V := (List.range n).map fun k : Nat => V.int (i + k * c)
def tLstRg3 (ta : TA) : TE := fun σ H Q => tRg3 ta σ H fun i j c n H1 => ∀ q, H1 q = none → Q (.ref q) (upd H1 q (.lst (stepV i c n)))
theorem vals_step {i c : Int} : ∀ {n : Nat} {acc : Array Value}, ItemsOf (fun k v => ∃ t, v = Value.int (i + k * c) t) acc n → Vals (stepV i c n) acc.toList := fun {n acc} h => by
  have one : ∀ (vs : List V) (us : List Value), vs.length = us.length → (∀ (k : Nat) (v : V) (u : Value), vs[k]? = some v → us[k]? = some u → RelV v u) → Vals vs us := by
    intro vs
    induction vs with
    | nil => intro us hl _; cases us with | nil => exact .nil | cons => cases hl
    | cons v vs ih =>
      intro us hl hh
      cases us with
      | nil => cases hl
      | cons u us => exact .cons (hh 0 v u rfl rfl) (ih us (by simpa using hl) fun k v' u' e1 e2 => hh (k + 1) v' u' (by simpa using e1) (by simpa using e2))
  refine one _ _ ?_ fun k v u e1 e2 => ?_
  · unfold stepV
    rw [List.length_map, List.length_range, Array.length_toList, h.1]
  · unfold stepV at e1
    rw [List.getElem?_map] at e1
    obtain ⟨j, hj, rfl⟩ := Option.map_eq_some_iff.mp e1
    obtain ⟨hl, hj⟩ := List.getElem?_eq_some_iff.mp hj
    rw [List.getElem_range] at hj
    subst hj
    exact h.2 k u (by rw [← Array.getElem?_toList]; exact e2)
theorem run_rg3 {pins : List (Addr × Obj)} {s : Shared} {σ : L2.St} {H : Hp} {Q : Int → Int → Int → Nat → Hp → Prop} (hg : Gl X "range") (hm : X.mg "range" = none) (ha : PA X [a, b, c] ta) (hs : starEach [a, b, c] X.env = (false, eval a X.env) :: starEach [b, c] X.env := by rfl) (hpl : (backTo pos (starEach [b, c] X.env)).any (·.1) = false := by rfl)
    (I : L2.Inv X pins σ H s) (h : tRg3 ta σ H Q) : wpAny (model X.prog X.w) X.A (eval (.Call (.Name "range" p) [a, b, c] [] pos) X.env)
      (fun x s' => ∃ (r : Addr) (i j c : Int) (t u v : Tok) (n : Nat) (H' : Hp), x = Value.ref r ∧ IsRange s'.heap r i j c t u v ∧ L2.Inv X pins σ H' s' ∧ RgC i j c n ∧ n ≤ 2 ^ 24 ∧ Q i j c n H') X.xe s := by
  refine PyProof.Rows.Call_ (ld_blt I hg hm PyProof.Rows.boot_range (PyProof.Rows.callWith_type1 (thn (ha.run pos pins s σ H _ I h) ?_) hs hpl) (by decide) (by decide)) rfl
  rintro us s1 ⟨vs, H1, I1, r1, i, j, c, n, rfl, ok, big, q⟩
  cases r1 with
  | cons r r1 =>
    cases r1 with
    | cons r' r1 =>
      cases r1 with
      | cons r'' r1 =>
        cases r1
        obtain ⟨t, rfl⟩ := r
        obtain ⟨t', rfl⟩ := r'
        obtain ⟨t'', rfl⟩ := r''
        exact call_range_3 ok.1 ⟨s1.heap.objs.size, i, j, c, t, t', t'', n, H1, rfl, IsRange.new s1.1 i j c t t' t'', Inv.kept I1 fun b u e => Heap.get?_push_of_some _ e, ok, big, q⟩ (.inl (PyProof.noPylong_small ok.2.1))
theorem pe_listRg3 (hc : X.calm = true) (hg : Gl X "list") (hm : X.mg "list" = none) (hg' : Gl X "range") (hm' : X.mg "range" = none) (ha : PA X [a, b, c] ta) (hs : starEach [a, b, c] X.env = (false, eval a X.env) :: starEach [b, c] X.env := by rfl) (hpl : (backTo pos' (starEach [b, c] X.env)).any (·.1) = false := by rfl)
    (na : starEach [.Call (.Name "range" p') [a, b, c] [] pos'] X.env = (false, eval (.Call (.Name "range" p') [a, b, c] [] pos') X.env) :: starEach [] X.env := by rfl) :
    PE X (.Call (.Name "list" p) [.Call (.Name "range" p') [a, b, c] [] pos'] [] pos) (tLstRg3 ta) where
  run := fun pins s σ H Q I h => by
    refine PyProof.Rows.Call_ (ld_blt I hg hm PyProof.Rows.boot_list (PyProof.Rows.callWith_type1 (PyProof.Rows.args_cons (thn (run_rg3 hg' hm' ha hs hpl I h) ?_) na) na rfl) (by decide) (by decide)) rfl
    rintro x s1 ⟨r, i, j, c, t, u, v, n, H1, rfl, hr, I1, ok, big, q⟩
    refine PyProof.Rows.args_nil ?_
    refine call_list_range (I1.ok.hd hc) hr ok.2.2.1 ok.2.2.2 big fun h' tk acc c' hk e' hi => ⟨.ref s1.heap.objs.size, upd H1 s1.heap.objs.size (.lst (stepV i c n)), ?_, rfl, q _ (HOk.fresh I1.hok (Nat.le_refl _))⟩
    refine Inv.laid I1 hk (Nat.le_refl _) ⟨?_, acc.toList, c', vals_step hi, ?_⟩
    · unfold stepV
      rw [List.length_map, List.length_range, sizeLine_eq]
      exact big
    · rw [Array.toArray_toList]; exact e'
end
end StX
namespace Z
open PySem PySem.Spec L2 StX RZ
variable [Tabs]
section
variable {K : PySem.W.Frag} {γ : Gam} {ta : TA}
theorem rep_step {H : Hp} (i c : Int) (n : Nat) : RepL K H (stepV i c n) ((List.range n).map fun k : Nat => .int (i + k * c)) := by
  unfold stepV
  induction List.range n with
  | nil => exact .nil
  | cons x xs ih => exact .cons (.int _) ih
theorem en_listRg3 {Φ : List D → Prop} (h : AW K ta γ fun ds => ∃ (i j c : Int) (n : Nat), ds = [.int i, .int j, .int c] ∧ RgC i j c n ∧ n ≤ sizeS ∧ Φ ((List.range n).map fun k : Nat => .int (i + k * c))) : EN K (tLstRg3 ta) γ Φ := fun Hs0 H0 Hs H σ Q S q =>
  h Hs0 H0 Hs H σ _ S fun Hs1 H1 vs ds g r ⟨i, j, c, n, e, ok, l, p⟩ => by
    subst e
    cases r with
    | cons r1 r =>
      cases r1
      cases r with
      | cons r1 r =>
        cases r1
        cases r with
        | cons r1 r =>
          cases r1; cases r
          have hs : n ≤ 1000000 := l
          exact ⟨i, j, c, n, rfl, ok, by omega, fun a ha => q Hs1 _ a _ _ (g.trans (.hid g.b ha)) (g.e.free ha) (g.b.free ha) upd_same (rep_step i c n) p⟩
theorem rwl_intB {Φ : D → Prop} {b : Bool} (k : Φ (.int (if b then 1 else 0))) : RWL K (fun xs H Q => (∃ i, xs = [.int i] ∧ Q (.int i) H) ∨ ∃ k, xs = [.bl k] ∧ Q (.int (if k then 1 else 0)) H) [.bl b] Φ := fun Hs H vs Q b r q => by
  cases r with
  | cons h r => cases h; cases r; exact .inr ⟨_, rfl, q _ _ _ _ (.refl b) (.int _) k⟩
end
section
variable {P : Program} {w : World} {K : PySem.W.Frag} {mg : Str → Option Value} {base : Heap}
theorem df_mkXkT {x : Str} {params : Arguments} {body : List Stmt} {scope : Scope} {fd : FuncData} {N ps : List Str} {k : Nat} {dvs : List V} {kws : List (Str × V)} {nk : Nat} {ks : List Str} {pre : List D → Prop} {post : List D → D → Prop} {xpost : List D → XD → Prop} (F : FunD K x x params body scope [] kws (He.fAd K (x, none)) fd) (hm : mg x = some (.ref (He.fAd K (x, none)))) (S : FnScope N ps scope)
    (hd : ∃ ds, Vals dvs ds ∧ Binds K fd ps ds) (hk : ks = [] ∨ ∃ g, KBn K fd ps nk ks g (fun vs zs => vs ++ zs))
    (hbody : ∀ (A : Around) (outer : List Env) (s : Shared) (H : Hp) (E : XK), Room k (A.deeper (PyProof.Rows.envOfC x scope s.heap.objs.size (He.fAd K (x, none)) (.ref (He.codeOf K (x, none))))) → ∀ ds, ds.length = ps.length → pre ds →
      ∃ t, PSs (cxOf (L2.CX P w) P w K mg base N x scope (He.fAd K (x, none)) (.ref (He.codeOf K (x, none))) A outer s H E) body t ∧ ∀ Hs0 H0, Wok K Hs0 H0 Hs0 (WD E) (fun x _ => xpost ds x) → SX K Hs0 H0 Hs0 t (gam0 N.length ds) { nx := fun _ => post ds .non, rt := post ds }) : DfXk P w K mg base x (k + 1) ps ps.length dvs nk ks pre post xpost := by
  have kp := F.kp
  obtain ⟨oc, od, dV, kV, doc, pm, an, cdv, ct, osl, rfl, lk, hcd, _, _⟩ := F.ex
  obtain ⟨c, rfl⟩ := He.codeIn_ref hcd
  have e : He.codeOf K (x, none) = c := He.codeOf_eq lk rfl
  subst e
  refine ⟨_, _, hm, kp, hd, hk, fn_of lk hcd S (fun vs H Q E h => ?_) (fun A outer s H vs Q E hr h => ?_)⟩
  · obtain ⟨Hs, ds, _, _, r, l, _⟩ := h
    rw [r.length]; exact l
  · obtain ⟨Hs, ds, tb, b, r, l, p, q, qx⟩ := h
    obtain ⟨t, ht, hw⟩ := hbody A outer s H E hr ds l p
    exact ⟨t, ht, hw Hs H (fun Hs' H' σ' γ' cls d x _ S' r' px => qx Hs' H' cls d x S'.gr r' px) Hs H _ _ (.refl _) (sl_start tb b r) (fun Hs' H' σ' γ' e S' p => q Hs' H' _ _ S'.gr .non p) (fun Hs' H' v d g r p => q Hs' H' v d g r p) (fun _ _ _ _ _ _ z => z.elim) (fun _ _ _ _ _ _ z => z.elim)⟩
end
end Z

/-! truth of any datum, of a list of one's own -/
namespace Z
open PySem PySem.Spec L2 StX
variable [Tabs]
def TruOk : D → Prop
  | .non => True
  | .bl _ => True
  | .int _ => True
  | .str z => z.length ≤ sizeS
  | .lst _ => True
  | .tup _ => True
  | _ => False
def truD : D → Bool
  | .non => false
  | .bl b => b
  | .int i => i != 0
  | .str z => (z.length : Int) != 0
  | .lst ds => !ds.isEmpty
  | .tup ds => !ds.isEmpty
  | _ => false
section
variable {K : PySem.W.Frag} {γ : Gam} {te : TE} {Φ : Bool → Prop}
theorem repL_empty {H : Hp} {vs : List V} {ds : List D} (r : RepL K H vs ds) : vs.isEmpty = ds.isEmpty := by cases r <;> rfl
theorem tw_tru (h : EW K te γ fun d => TruOk d ∧ Φ (truD d)) : TW K (tTru K te) γ Φ := fun Hs0 H0 Hs H σ Q S q =>
  h Hs0 H0 Hs H σ _ S fun Hs1 H1 v d g r ⟨ok, p⟩ => by
    have fin := q Hs1 H1 _ g p
    cases r with
    | non => exact ⟨_, rfl, fin⟩
    | bl b => exact ⟨_, rfl, fin⟩
    | int i => exact ⟨_, rfl, fin⟩
    | str z => exact ⟨_, ⟨sz_ok ok, rfl⟩, fin⟩
    | lst h rr => exact ⟨_, .inl ⟨_, .of (g.b _ _ h), by rw [repL_empty rr]; rfl⟩, fin⟩
    | tup h rr => exact ⟨_, .inr (.inl ⟨_, sameT g.b h, by rw [repL_empty rr]; rfl⟩), fin⟩
    | _ => exact ok.elim
theorem tw_truO {i : Nat} {ds : List D} (hg : γ[i]? = some (some (.ow ds))) (p : Φ (!ds.isEmpty)) : TW K (tTru K (tVar i)) γ Φ := fun Hs0 H0 Hs H σ Q S q => by
  obtain ⟨a, vs, hv, h1, h2, h3⟩ := own_at S hg
  exact ⟨.ref a, hv, _, .inl ⟨_, .of h2, by rw [repL_empty h3]⟩, q Hs H _ (.refl S.b) p⟩
end
end Z

/-! sum of a list or a tuple of numbers -/
namespace Z
open PySem PySem.Spec L2 StX PyProof.Rows
theorem pre_sum (ns : List Int) : ∀ n, n ≤ ns.length → preSum (fun i => ns.getD i 0) n = (ns.take n).sum
  | 0, _ => rfl
  | n + 1, h => by
    show preSum (fun i => ns.getD i 0) n + ns.getD n 0 = _
    rw [pre_sum ns n (by omega), List.take_add_one, List.sum_append, List.getD_eq_getElem?_getD, List.getElem?_eq_getElem (by omega)]
    simp
theorem intsAre_at : ∀ {us : List Value} {ns : List Int}, IntsAre us ns → us.length = ns.length ∧ ∀ (i : Nat) (v : Value), us[i]? = some v → ∃ t, v = .int (ns.getD i 0) t
  | _, _, .nil => ⟨rfl, fun i v h => by simp at h⟩
  | _, _, .cons n t r => by
    obtain ⟨l, h⟩ := intsAre_at r
    refine ⟨by simp [l], fun i v hv => ?_⟩
    cases i with
    | zero => simp at hv; exact ⟨t, by rw [← hv]; rfl⟩
    | succ i =>
      obtain ⟨t', e⟩ := h i v (by simpa using hv)
      exact ⟨t', by rw [e]; rfl⟩
variable [Tabs]
def rSumQ (K : PySem.W.Frag) : List V → Hp → VK → Prop := fun vs H Q => ∃ (k : Kd) (a : Addr) (ns : List Int), vs = [.ref a] ∧ k.Sq K H a (ns.map V.int) ∧ Q (.int ns.sum) H
theorem cr_sumQ {X : Cx} (K : PySem.W.Frag) (hK : X.K = K) (hc : X.calm = true) : CallR X (.builtin "sum") (rSumQ K) := by
  subst hK
  rintro pins s σ H vs us Q I r ⟨k, a, ns, rfl, sx, q⟩
  rw [Vals.ref1 r]
  obtain ⟨its, rv, px⟩ := Kd.src I sx
  obtain ⟨l, hint⟩ := intsAre_at (Vals.ints rv)
  have hh : X.A.in1.handled = none := I.ok.hd hc
  have lt := Kd.lt px
  refine call_sum_walkG ((Kd.begins a its.toArray k).iter _ _ _ _ _ _ px ?_)
  have kp : ∀ (b : Addr) (o : Obj), s.heap.get? b = some o → (s.heap.push (k.cell a)).get? b = some o := fun b o e => Heap.get?_push_of_some _ e
  have px2 : k.Has (s.heap.push (k.cell a)) a its.toArray := by
    cases k with
    | L => exact Heap.IsList.at px (kp a)
    | T => exact Heap.IsTuple.at px (kp a)
  have it2 : k.Itr (s.heap.push (k.cell a)) s.heap.objs.size a 0 := Kd.itr_new (Heap.get?_push_size _ Kd.cell_live)
  have ne : a ≠ s.heap.objs.size := Nat.ne_of_lt lt
  have W : Walks X.prog X.w X.A.in1 s.heap.objs.size [s.heap.objs.size, a] [s.heap.objs.size] its.toArray.size (fun i v => its.toArray[i]? = some v) fun i h => k.Itr h s.heap.objs.size a i ∧ k.Has h a its.toArray := by
    cases k with
    | L => exact Walks.list hh s.heap.objs.size a ne its.toArray
    | T => exact Walks.tuple hh s.heap.objs.size a ne its.toArray
  refine ⟨s.heap.objs.size, [s.heap.objs.size, a], [s.heap.objs.size], _, _, _, fun i => ns.getD i 0, rfl, W, ⟨it2, px2⟩, fun b hb => ?_, fun i v hv => hint i v (by simpa using hv), fun h' tk t' hk => ?_⟩
  · have sz : s.heap.objs.size < (s.heap.push (k.cell a)).objs.size := Heap.lt_size (Heap.get?_push_size _ Kd.cell_live)
    rcases List.mem_cons.mp hb with rfl | hb
    · exact sz
    · rw [List.mem_singleton.mp hb]
      exact Nat.lt_trans lt sz
  · have e : preSum (fun i => ns.getD i 0) its.toArray.size = ns.sum := by
      rw [show its.toArray.size = ns.length from l, pre_sum ns _ (Nat.le_refl _), List.take_length]
    rw [e]
    exact ⟨.int ns.sum, H, I.kept fun b o z => hk b o (fun m => by
      have := Heap.lt_size z
      rw [List.mem_singleton.mp m] at this
      exact Nat.lt_irrefl _ this) (kp b o z), ⟨t', rfl⟩, q⟩
section
variable {K : PySem.W.Frag} {Φ : D → Prop} {ns : List Int}
theorem rwl_sumQ {d : D} (h : Sqd (ns.map .int) d) (k : Φ (.int ns.sum)) : RWL K (rSumQ K) [d] Φ := fun Hs H vs Q b r q => by
  cases r with
  | cons h1 r =>
    cases r
    obtain ⟨kd, a, va, rfl, ra, fa⟩ := h.kd h1
    have e := ra.ints
    subst e
    exact ⟨kd, a, ns, rfl, fa _ b, q _ _ _ _ (.refl b) (.int _) k⟩
theorem rwl_sumL (k : Φ (.int ns.sum)) : RWL K (rSumQ K) [.lst (ns.map .int)] Φ := rwl_sumQ (.inl rfl) k
theorem rwl_sumT (k : Φ (.int ns.sum)) : RWL K (rSumQ K) [.tup (ns.map .int)] Φ := rwl_sumQ (.inr rfl) k
end
end Z

namespace Z
open PySem PySem.Spec L2 StX
variable [Tabs]
def top (i : Nat) : Stmt := PySem.Challenge.pw_twiceeach_k43_fewest_blocks_of_a_map.main.body.getD i (.Pass ⟨0, 0, 0, 0⟩)
def mth (s : Stmt) (j : Nat) : Stmt := (StX.clsBody s).getD j (.Pass ⟨0, 0, 0, 0⟩)
/-! ### texts as lists of signs -/
theorem len_tl (x : Str) : x.length = (TL.tl x).length := TL.len_tl x
theorem len_add (x y : Str) : (x ++ y).length = x.length + y.length := by rw [TL.len_tl, TL.tl_append, List.length_append, ← TL.len_tl, ← TL.len_tl]
theorem len_one (c : Nat) : (⟨#[c]⟩ : Str).length = 1 := rfl
theorem tl_one (c : Nat) : TL.tl ⟨#[c]⟩ = [c] := rfl
theorem ltS_one (c d : Nat) : ltS ⟨#[c]⟩ ⟨#[d]⟩ = decide (c < d) := by
  unfold ltS
  show decide ((([c] : List Nat)) < [d]) = decide (c < d)
  by_cases h : c < d
  · rw [decide_eq_true h, decide_eq_true]
    exact List.Lex.rel h
  · rw [decide_eq_false h, decide_eq_false]
    intro q
    cases q with
    | rel q => exact h q
    | cons q => cases q
theorem str_of (x : Str) : x = ⟨(TL.tl x).toArray⟩ := (TL.mk_tl x).symm
theorem one_of {x : Str} (h : x.length = 1) : ∃ c, x = ⟨#[c]⟩ := by
  rw [TL.len_tl] at h
  match e : TL.tl x, h with
  | [c], _ => exact ⟨c, by rw [str_of x, e]⟩
theorem inS_one (c : Nat) (z : Str) : inS ⟨#[c]⟩ z = decide (c ∈ TL.tl z) := PySem.StrLaws.found_one z c
theorem subAt_eqL (x y : Str) (i : Nat) : Builtin.Str.subAt x y i = (((TL.tl x).drop i).take y.length == TL.tl y) := PySem.StrLaws.subAt_eq x y i
theorem ends_one (x : Str) (c : Nat) : Txt.endswith x ⟨#[c]⟩ = decide ((TL.tl x).getLast? = some c) := by
  unfold Txt.endswith
  rw [subAt_eqL, len_one, len_tl x, tl_one]
  rcases List.eq_nil_or_concat (TL.tl x) with e | ⟨l, a, e⟩
  · rw [e]; rfl
  · rw [e]
    simp only [List.concat_eq_append, List.length_append, List.length_singleton, Nat.add_sub_cancel, List.getLast?_append, List.getLast?_singleton]
    rw [List.drop_left]
    by_cases h : a = c
    · subst h; simp
    · simp [h]
/-- z[:-1] -/
theorem tl_cut_last (x : Str) : TL.tl (cutS x none (some (-1))) = (TL.tl x).dropLast := by
  unfold cutS
  show (((TL.tl x).drop (HT.sIx x.length 0 none)).take (HT.sIx x.length x.length (some (-1)) - HT.sIx x.length 0 none)) = _
  have e : HT.sIx x.length x.length (some (-1)) = x.length - 1 := by
    show (if (-1 : Int) < 0 then ((-1) + (x.length : Int)).toNat else min ((-1 : Int)).toNat x.length) = x.length - 1
    rw [if_pos (by decide)]; omega
  rw [e]
  show ((TL.tl x).drop 0).take (x.length - 1 - 0) = _
  rw [List.drop_zero, List.dropLast_eq_take, len_tl]; rfl
theorem tl_cut_from (x : Str) (n : Nat) : TL.tl (cutS x (some (n : Int)) none) = (TL.tl x).drop n := by
  unfold cutS
  show (((TL.tl x).drop (HT.sIx x.length 0 (some (n : Int)))).take (x.length - HT.sIx x.length 0 (some (n : Int)))) = _
  have e : HT.sIx x.length 0 (some (n : Int)) = min n x.length := HT.sIx_nat _ _ _
  rw [e, len_tl]
  by_cases h : n ≤ (TL.tl x).length
  · rw [Nat.min_eq_left h, List.take_of_length_le (by rw [List.length_drop]; exact Nat.le_refl _)]
  · rw [Nat.min_eq_right (by omega), List.drop_length, List.drop_eq_nil_of_le (by omega)]; simp
theorem len_cut (z : Str) (lo hi : Option Int) : (cutS z lo hi).length ≤ z.length := cutS_length z lo hi
theorem ext_tl {x y : Str} (h : TL.tl x = TL.tl y) : x = y := TL.ext_tl h
theorem tl_cut_to (x : Str) (n : Nat) : TL.tl (cutS x none (some (n : Int))) = (TL.tl x).take n := by
  unfold cutS
  show (((TL.tl x).drop (HT.sIx x.length 0 none)).take (HT.sIx x.length x.length (some (n : Int)) - HT.sIx x.length 0 none)) = _
  have e : HT.sIx x.length x.length (some (n : Int)) = min n x.length := HT.sIx_nat _ _ _
  rw [e, show HT.sIx x.length 0 none = 0 from rfl, List.drop_zero, Nat.sub_zero, len_tl]
  by_cases h : n ≤ (TL.tl x).length
  · rw [Nat.min_eq_left h]
  · rw [Nat.min_eq_right (by omega), List.take_length, List.take_of_length_le (by omega)]
theorem join_len (ys : List Str) (L : Nat) (h : ∀ y ∈ ys, y.length ≤ L) : (Txt.join Str.empty ys).length ≤ ys.length * L := by
  rw [len_tl, TL.join_eq, TL.tl_join]
  have key : ∀ zs : List (List Nat), (∀ z ∈ zs, z.length ≤ L) → (TL.joinL [] zs).length ≤ zs.length * L := by
    intro zs
    induction zs with
    | nil => intro _; exact Nat.zero_le _
    | cons z zs ih =>
      intro hz
      have h1 := hz z List.mem_cons_self
      have h2 := ih fun w hw => hz w (List.mem_cons_of_mem _ hw)
      cases zs with
      | nil => show z.length ≤ (0 + 1) * L; omega
      | cons y r =>
        show (z ++ ([] ++ TL.joinL [] (y :: r))).length ≤ _
        rw [List.nil_append, List.length_append]
        have e : (z :: y :: r).length * L = L + (y :: r).length * L := by rw [List.length_cons (a := z), Nat.succ_mul]; omega
        rw [e]; omega
  have q := key (ys.map TL.tl) fun z hz => by
    obtain ⟨y, hy, rfl⟩ := List.mem_map.mp hz
    rw [← len_tl]; exact h y hy
  rw [List.length_map] at q
  exact q
theorem sum_len : ∀ (ys : List Str) (L : Nat), (∀ y ∈ ys, y.length ≤ L) → (ys.map (·.length)).sum ≤ ys.length * L
  | [], _, _ => Nat.zero_le _
  | y :: ys, L, h => by
    have h1 := h y List.mem_cons_self
    have h2 := sum_len ys L fun w hw => h w (List.mem_cons_of_mem _ hw)
    rw [List.map_cons, List.sum_cons, List.length_cons, Nat.succ_mul]; omega
/-- ''.join of some short texts -/
theorem rwm_joinE {K : PySem.W.Frag} {Φ : D → Prop} {ys : List Str} (L n : Nat) (hn : ys.length ≤ n) (hs : ∀ y ∈ ys, y.length ≤ L) (hnl : n * L ≤ 1000000) (k : ∀ z : Str, z.length ≤ n * L → Φ (.str z)) : RWM K (rJoinZ K) (.str Str.empty) [.lst (ys.map .str)] Φ := by
  have h1 : ys.length * L ≤ n * L := Nat.mul_le_mul_right _ hn
  refine rwm_joinL ?_ (k _ (Nat.le_trans (join_len ys L hs) h1))
  rw [show Str.empty.length = 0 from rfl, Nat.mul_zero, Nat.add_zero]
  exact Nat.le_trans (Nat.le_trans (sum_len ys L hs) h1) hnl
theorem mem_strs {xs : List Str} {d : D} (h : d ∈ xs.map D.str) : ∃ z, d = .str z ∧ z ∈ xs := by
  obtain ⟨z, hz, rfl⟩ := List.mem_map.mp h
  exact ⟨z, rfl, hz⟩
/-! ### the walk over data, one step -/
theorem ew_ci {K : PySem.W.Frag} {γ : Gam} {Φ : D → Prop} {i : Int} (k : Φ (.int i)) : EW K (tC (.int i)) γ Φ := ew_c rfl k
theorem ew_cs {K : PySem.W.Frag} {γ : Gam} {Φ : D → Prop} {i : Str} (k : Φ (.str i)) : EW K (tC (.str i)) γ Φ := ew_c rfl k
theorem ew_cb' {K : PySem.W.Frag} {γ : Gam} {Φ : D → Prop} {i : Bool} (k : Φ (.bl i)) : EW K (tC (.bl i)) γ Φ := ew_c rfl k
theorem ew_cn {K : PySem.W.Frag} {γ : Gam} {Φ : D → Prop} (k : Φ .non) : EW K (tC .non) γ Φ := ew_c rfl k
theorem ew_ct {K : PySem.W.Frag} {γ : Gam} {Φ : D → Prop} {n : String} (k : Φ (.ty n)) : EW K (tC (.ty n)) γ Φ := ew_c rfl k
theorem ew_ng {K : PySem.W.Frag} {γ : Gam} {Φ : D → Prop} {ta : TE} (h : EW K ta γ fun d => ∃ i, d = .int i ∧ Φ (.int (-i))) : EW K (tUn (rU fun i => .int (-i)) ta) γ Φ := ew_neg (h.mono fun d ⟨i, e, p⟩ => ⟨i, e, rfl, p⟩)
theorem signs_get {z : Str} {i : Nat} {d : D} (h : (signs z)[i]? = some d) : ∃ c, (TL.tl z)[i]? = some c ∧ d = .str ⟨#[c]⟩ := by
  unfold signs at h
  rw [List.getElem?_map] at h
  cases e : (TL.tl z)[i]? with
  | none => rw [show z.cps.toList[i]? = none from e] at h; cases h
  | some c => rw [show z.cps.toList[i]? = some c from e] at h; exact ⟨c, rfl, (Option.some.inj h).symm⟩
theorem signs_len (z : Str) : (signs z).length = (TL.tl z).length := by unfold signs; rw [List.length_map]
theorem take_map_succ {α β : Type} {l : List α} {i : Nat} {c : α} (f : α → β) (h : l[i]? = some c) : (l.take (i + 1)).map f = (l.take i).map f ++ [f c] := by
  rw [List.take_add_one, h]; simp
/-- 'a' <= e <= 'z' of one sign -/
theorem ew_between {K : PySem.W.Frag} {γ : Gam} {Φ : D → Prop} {te : TE} (a b : Nat) (h : EW K te γ fun d => ∃ c, d = .str ⟨#[c]⟩ ∧ Φ (.bl (decide (a ≤ c) && decide (c ≤ b)))) : EW K (tChain rLeS rLeS (tC (.str ⟨#[a]⟩)) te (tC (.str ⟨#[b]⟩))) γ Φ := by
  refine ew_chain (ew_cs (h.mono fun d q => ?_))
  obtain ⟨c, rfl, p⟩ := q
  refine rw_leS ⟨_, rfl, fun h1 => ?_, fun h1 => ?_⟩
  · refine ew_cs (rw_leS ?_)
    rw [ltS_one] at h1 ⊢
    have e : (!decide (b < c)) = (decide (a ≤ c) && decide (c ≤ b)) := by
      have h2 : ¬ c < a := by simpa using h1
      by_cases h3 : b < c <;> simp [h3] <;> omega
    rw [e]; exact p
  · rw [ltS_one] at h1
    have h2 : c < a := by simpa using h1
    have e : false = (decide (a ≤ c) && decide (c ≤ b)) := by simp; omega
    rw [e]; exact p


local macro_rules | `(tactic| walk_at "zl") => `(tactic| first | (show _ ≤ (1000000 : Nat); omega) | omega | decide | assumption | (show List.length _ ≤ (1000000 : Nat); simp only [List.length_cons, List.length_nil]; omega) | (show _ ≤ (1000000 : Nat); simp only [len_add, len_one]; omega))
set_option hygiene false in
local macro_rules | `(tactic| walk_at "eE") => `(tactic| first
  | with_reducible refine ew_ci ?_
  | with_reducible refine ew_cs ?_
  | with_reducible refine ew_cb' ?_
  | with_reducible refine ew_cn ?_
  | with_reducible refine ew_ct ?_
  | ((with_reducible refine' ew_var ?hg ?_); (case hg => rfl))
  | ((with_reducible show EW _ (tCB _ (tCons (tVar _) tNil)) _ _); (refine' ew_lenO ?hg ?_); (case hg => rfl))
  | ((with_reducible show EW _ (tOp (rIxL _) (tVar _) _) _ _); (refine' ew_ixO ?hg ?_); (case hg => rfl))
  | ((with_reducible show EW _ (tOp (rIn _ _) _ (tVar _)) _ _); (refine' ew_niO ?hg ?_); (case hg => rfl))
  | ((with_reducible show EW _ (tOp (rIn _ _) _ (tVar _)) _ _); (refine' ew_inO ?hg ?_); (case hg => rfl))
  | ((with_reducible show EW _ (tFld _ _ _) _ _); refine ew_fld ?_)
  | ((with_reducible show EW _ (tMeth _ _ _ _ _ _ _) _ _); refine ew_mD ?_)
  | with_reducible refine ew_op ?_
  | with_reducible refine ew_ng ?_
  | with_reducible refine ew_cb ?_
  | ((with_reducible show EW _ (tCall _ _ _ _) _ _); refine ew_call ?_)
  | with_reducible refine ew_chain ?_
  | with_reducible refine ew_if ?_
  | with_reducible refine ew_andV ?_
  | with_reducible refine ew_orV ?_
  | with_reducible refine ew_notV ?_
  | with_reducible refine ew_m0 ?_
  | with_reducible refine ew_m1 ?_
  | with_reducible refine ew_mS ?_
  | with_reducible refine ew_sl ?_
  | with_reducible refine ew_tup ?_
  | with_reducible refine ew_tcnt ?_
  | with_reducible refine ew_new (en_lst ?_)
  | with_reducible refine ew_joined ?_
  | ((with_reducible show EW _ (tRevL _ _) _ _); refine ew_new (en_revL ?_))
  | ((with_reducible show EW _ (tRevS _) _ _); refine ew_revS ?_))
set_option hygiene false in
local macro_rules | `(tactic| walk_at "eR") => `(tactic| first
  | ((with_reducible show RW2 _ (rI0 _) _ _ _); first
    | with_reducible refine rw_add ?_ | with_reducible refine rw_sub ?_ | with_reducible refine rw_lt ?_ | with_reducible refine rw_le ?_ | with_reducible refine rw_gt ?_ | with_reducible refine rw_ge ?_
    | refine rw_add ?_ | refine rw_sub ?_ | refine rw_lt ?_ | refine rw_le ?_ | refine rw_gt ?_ | refine rw_ge ?_)
  | ((with_reducible show RW2 _ (rI _ _) _ _ _); first
    | (refine rw_mod (by walk_at "zl") ?_)
    | (refine rw_fdiv (by exact ⟨by walk_at "zl", by walk_at "zl"⟩) ?_)
    | (refine rw_mul (by show (_ ∧ _) ∨ _; first | exact .inl ⟨by omega, by omega⟩ | exact .inr ⟨by omega, by omega⟩) ?_)
    | (refine rw_pow ⟨by decide, by decide, by decide⟩ ?_))
  | ((with_reducible show RW2 _ rEq _ _ _); first | refine rw_eqI ?_ | refine rw_eqS ?_ | refine rw_eqB ?_)
  | ((with_reducible show RW2 _ (rEqD _) _ _ _); refine rw_eqDD (by assumption) (by assumption) ?_)
  | ((with_reducible show RW2 _ (rNeD _) _ _ _); refine rw_neDD (by assumption) (by assumption) ?_)
  | ((with_reducible show RW2 _ rNe _ _ _); first | refine rw_neI ?_ | refine rw_neS ?_ | refine rw_neB ?_)
  | ((with_reducible show RW2 _ rLtS _ _ _); refine rw_ltS ?_)
  | ((with_reducible show RW2 _ rLeS _ _ _); refine rw_leS ?_)
  | ((with_reducible show RW2 _ rGtS _ _ _); refine rw_gtS ?_)
  | ((with_reducible show RW2 _ rGeS _ _ _); refine rw_geS ?_)
  | ((with_reducible show RW2 _ rInSt _ _ _); refine rw_inS ?_)
  | ((with_reducible show RW2 _ rNiSt _ _ _); refine rw_niS ?_)
  | ((with_reducible show RW2 _ rRepS _ _ _); refine rw_repS (by omega) (by omega) (by assumption) ?_)
  | ((with_reducible show RW2 _ rAddStr _ _ _); refine rw_addStr (by walk_at "zl") ?_)
  | ((with_reducible show RW2 _ (rIn _ _) _ _ _); first | refine rw_inL ?_ | refine rw_inT ?_ | refine rw_niL ?_ | refine rw_niT ?_)
  | ((with_reducible show RW2 _ (rIxL _) _ _ _); first
    | (refine' rw_ixL ?hg ?_; (case hg => assumption))
    | (refine' rw_ixC ?hg ?_; (case hg => assumption))
    | (refine rw_ixI (by omega) (by omega) (by assumption) ?_; intro nD n0D n1D))
  | ((with_reducible show RW2 _ (rIxT _) _ _ _); (refine' rw_ixT ?hg ?_; (case hg => assumption)))
  | ((with_reducible show RW2 _ rIxS _ _ _); (refine' rw_ixS (by walk_at "zl") ?hg ?_; (case hg => assumption)))
  | ((with_reducible show RW2 _ (rIx _) _ _ _); first | (refine' rw_ixQL ?hg ?_; (case hg => assumption)) | (refine' rw_ixQT ?hg ?_; (case hg => assumption)))
  | ((with_reducible show RW2 _ rCat _ _ _); refine rw2_new (rn_cat (by walk_at "zl") ?_))
  | ((with_reducible show RW2 _ (rCatF _) _ _ _); refine rw_catA (by walk_at "zl") ?_))
set_option hygiene false in
local macro_rules | `(tactic| walk_at "eL") => `(tactic| first
  | ((with_reducible show RWL _ (rIsi _) _ _); first | refine rwl_isi (b := true) rfl (by rfl) (.ty _) ?_ | refine rwl_isi (b := false) rfl (by rfl) (.ty _) ?_)
  | ((with_reducible show RWL _ (rLen _) _ _); first | refine rwl_lenL ?_ | refine rwl_lenT ?_ | refine rwl_lenC ?_ | refine rwl_lenS (by walk_at "zl") ?_)
  | ((with_reducible show RWL _ (rTupOf _) _ _); first | refine rwl_tupL ?_ | refine rwl_tupT ?_)
  | ((with_reducible show RWL _ (rListOf _) _ _); first | refine rwl_new (rnl_listL ?_) | refine rwl_new (rnl_listT ?_))
  | ((with_reducible show RWL _ (rAll _) _ _); refine rwl_all ?_)
  | ((with_reducible show RWL _ (rSum _) _ _); refine rwl_sum ?_)
  | refine rwl_int ?_ | refine rwl_abs ?_ | refine rwl_min2 ?_ | refine rwl_max2 ?_)
set_option hygiene false in
local macro_rules | `(tactic| walk_at "eO") => `(tactic| first
  | with_reducible refine aw_cons ?_
  | with_reducible refine aw_nil ?_
  | with_reducible refine tw_test ?_
  | with_reducible refine tw_B ?_
  | with_reducible refine tw_and ?_
  | with_reducible refine tw_or ?_
  | with_reducible refine tw_not ?_
  | with_reducible refine tw_yes ?_
  | with_reducible refine ow_none ?_
  | with_reducible refine ow_some ?_
  | ((with_reducible show IW _ (iList _ _) _ _); refine iw_list ?_)
  | ((with_reducible show IW _ (iTup _ _) _ _); refine iw_tup ?_)
  | with_reducible refine iw_range1 ?_
  | with_reducible refine iw_range2 ?_
  | with_reducible refine iw_str ?_
  | ((with_reducible show IW _ (iEnum _ _) _ _); refine iw_enum ?_)
  | with_reducible refine gw_name ?_
  | ((with_reducible show GW _ (gTup _ _ _) _ _ _ _); (refine' gw_tup ?hg ?_); (case hg => rfl))
  | ((with_reducible show GW _ (gTup _ _ _) _ (.tpl _) _ _); (refine' gw_tpl ?hg ?_); (case hg => rfl))
  | with_reducible refine gws_cons ?_
  | with_reducible refine gws_nil ?_
  | with_reducible refine jw_nil ?_
  | with_reducible refine jw_cons ?_
  | with_reducible refine en_cb ?_
  | with_reducible refine en_op ?_
  | with_reducible refine en_m1 ?_
  | with_reducible refine en_sl ?_
  | with_reducible refine en_lst ?_
  | ((with_reducible show EN _ (tRevL _ _) _ _); refine en_revL ?_)
  | ((with_reducible show SlW _ rSlS _ _ _ _); refine sl_S (by walk_at "zl") ?_)
  | ((with_reducible show SlW _ (rSlF _) _ _ _ _); refine sl_TA ?_)
  | ((with_reducible show SlW _ (rSlL _) _ _ _ _); first | (refine slw_new (sln_I (by assumption) ?_); intro msD hmD lmD) | refine slw_new (sln_L ?_))
  | ((with_reducible show SlN _ (rSlL _) _ _ _ _); refine sln_L ?_)
  | ((with_reducible show RWM _ rEnds _ _ _); refine rwm_ends ?_)
  | ((with_reducible show RWM _ rFind3 _ _ _); refine rwm_find3 ?_)
  | ((with_reducible show RWM _ rStarts _ _ _); refine rwm_starts ?_)
  | ((with_reducible show RNL _ (rListOf _) _ _); first | refine rnl_listL ?_ | refine rnl_listT ?_)
  | ((with_reducible show RN2 _ rCat _ _ _); refine rn_cat (by walk_at "zl") ?_)
  | ((with_reducible show _ ≤ sizeS ∧ _); refine ⟨by walk_at "zl", ?_⟩)
  | ((with_reducible show _ < sizeS ∧ _); refine ⟨by walk_at "zl", ?_⟩))
set_option hygiene false in
local macro_rules | `(tactic| walk_at "e1") => `(tactic| first
  | ((with_reducible show EW _ _ _ _); (walk_at "eE"))
  | ((with_reducible show RW2 _ _ _ _ _); (walk_at "eR"))
  | ((with_reducible show RWL _ _ _ _); (walk_at "eL"))
  | (walk_at "eO")
  | refine ⟨_, rfl, ?_⟩
  | ((with_reducible show ∃ _ _ _ _, _ = D.obj _ _ _ ∧ _); refine ⟨_, _, _, _, rfl, by assumption, by assumption, rfl, ?_⟩)
  | ((with_reducible show ∃ _ _, _ = D.obj _ _ _ ∧ _); refine ⟨_, _, rfl, by decide +kernel, ?_⟩)
  | ((with_reducible show ∃ _, atI _ _ = some _ ∧ _); refine ⟨_, by assumption, ?_⟩))
local macro_rules | `(tactic| walk_at "e") => `(tactic| repeat (walk_at "e1"))
local macro_rules | `(tactic| walk_at "T") => `(tactic| refine ⟨fun _ => ?_, fun q => by cases q⟩)
local macro_rules | `(tactic| walk_at "F") => `(tactic| refine ⟨(fun q => by cases q), fun _ => ?_⟩)


set_option hygiene false in
local macro_rules | `(tactic| walk_at "e1") => `(tactic| first
  | ((with_reducible show TW _ (tTru _ (tVar _)) _ _); (refine' tw_truO ?hg ?_); (case hg => rfl))
  | ((with_reducible show TW _ (tTru _ _) _ _); refine tw_tru ?_)
  | ((with_reducible show TruOk _ ∧ _); refine ⟨by first | trivial | (walk_at "zl"), ?_⟩)
  | ((with_reducible show IW _ (iEnumT _ _) _ _); refine iw_enumT ?_)
  | ((with_reducible show EN _ (tLstRg3 _) _ _); refine en_listRg3 ?_))
set_option hygiene false in
local macro_rules | `(tactic| walk_at "e1") => `(tactic| first
  | ((with_reducible show RWL _ (rSumQ _) _ _); first | refine rwl_sumL ?_ | refine rwl_sumT ?_)
  | ((with_reducible show RWL _ _ [.bl _] _); refine rwl_intB ?_)
  | ((with_reducible show RWL _ (rMin _) _ _); refine rwl_minL (by first | assumption | (walk_at "zl")) ?_))
set_option hygiene false in
local macro_rules | `(tactic| walk_at "e1") => `(tactic| first
  | ((with_reducible show RW2 _ (rIn _ _) (.int _) _ _); first | refine rw_inLI ?_ | refine rw_inTI ?_ | refine rw_niLI ?_ | refine rw_niTI ?_))

/-! ### the law's own helpers -/
def okD : Nat → D → Prop
  | 0, .tup _ => False
  | 0, .lst _ => False
  | n + 1, .tup ds => ds.length ≤ 100000 ∧ ∀ x ∈ ds, okD n x
  | n + 1, .lst ds => ds.length ≤ 100000 ∧ ∀ x ∈ ds, okD n x
  | _, .scr _ => False
  | _, .ty _ => False
  | _, .tpl _ => False
  | _, .obj _ _ _ => False
  | _, .hnd _ => False
  | _, .dct _ => False
  | _, _ => True
theorem ew_isN0 {K : PySem.W.Frag} {γ : Gam} {Φ : D → Prop} {te : TE} (h : EW K te γ fun d => d ≠ .non ∧ Φ (.bl false)) : EW K (tIsN te) γ Φ := ew_isN (h.mono fun d ⟨e, p⟩ => ⟨false, ⟨fun z => absurd z e, fun z => by cases z⟩, p⟩)
theorem ew_isN1 {K : PySem.W.Frag} {γ : Gam} {Φ : D → Prop} {te : TE} (h : EW K te γ fun d => d = .non ∧ Φ (.bl true)) : EW K (tIsN te) γ Φ := ew_isN (h.mono fun d ⟨e, p⟩ => ⟨true, ⟨fun _ => rfl, fun _ => e⟩, p⟩)
theorem sw_ifA {K : PySem.W.Frag} {γ : Gam} {t : TT} {ts tz : TS} {Φ : Out} (h : TW K t γ fun _ => True) (h1 : SW K ts γ Φ) (h2 : SW K tz γ Φ) : SW K (tIfS t ts tz) γ Φ := sw_if (h.mono fun _ _ => ⟨fun _ => h1, fun _ => h2⟩)
abbrev s__law_cell : Stmt := top 14
abbrev N__law_cell : List Str := ["_law_script", "_law_k"]
abbrev P__law_cell : List Str := ["_law_script", "_law_k"]
theorem sc__law_cell : FnScope N__law_cell P__law_cell (defScope s__law_cell) := ⟨rfl, rfl, rfl, by decide +kernel, rfl, by decide +kernel, by decide +kernel⟩
def pre__law_cell : List D → Prop := fun ds => ∃ (ns : List Int) (k : Nat), ds = [.scr ns, .int (k : Int)]
def post__law_cell : List D → D → Prop := fun ds d => ∃ n : Int, d = .int n
set_option maxHeartbeats 4000000 in
theorem df__law_cell {P : Program} {w : World} {K : PySem.W.Frag} {mg : Str → Option Value} {base : Heap} {fd : FuncData} {f : Addr} (F : FunD K "_law_cell" "_law_cell" (defArgs s__law_cell) (defBody s__law_cell) (defScope s__law_cell) [] [] f fd) (hm : mg "_law_cell" = some (.ref f)) (n_len : mg "len" = none) :
    Df P w K mg base "_law_cell" 1 P__law_cell 2 pre__law_cell post__law_cell := by
  refine df_mk F hm sc__law_cell (fun _ _ _ _ _ _ us hl => match us, hl with | [_, _], _ => rfl) fun cdv A outer s H E hr ds hl hp => ⟨_,
    (pss_cons (ps_if (pt_cmpR op_lt (pv 1) (pe_callB (call_lenK K rfl) (by rfl) n_len PySem.boot_len (pa_cons (pv 0) pa_nil)) (nomark _)) (pss_one (ps_ret (pe_ix (ix_listK K rfl) (pv 0) (pv 1) (fun _ _ => rfl)))) pss_nil)
    (pss_one (ps_ret pe_int))), ?_⟩
  obtain ⟨a0, a1, rfl⟩ : ∃ a0 a1, ds = [a0, a1] := match ds, hl with | [_, _], _ => ⟨_, _, rfl⟩
  obtain ⟨ns, k, e⟩ := hp
  cases e
  refine sw_seq (sw_if ?_)
  walk_at "e"
  refine ⟨fun h => ?_, fun h => ?_⟩
  · have h1 : k < ns.length := by simp at h; exact h
    have h2 : atI ns (k : Int) = some ns[k] := atI_nat (List.getElem?_eq_getElem h1)
    refine sw_ret ?_
    walk_at "e"
    exact ⟨_, rfl⟩
  · refine sw_next ?_
    refine sw_ret ?_
    walk_at "e"
    exact ⟨_, rfl⟩
abbrev s__law_draws : Stmt := top 15
abbrev N__law_draws : List Str := ["_law_cell_here", "_law_many", "_law_left", "_law_digits", "_law_mixed", "_law_draws_here", "_law_k"]
abbrev P__law_draws : List Str := ["_law_cell_here", "_law_many"]
theorem sc__law_draws : FnScope N__law_draws P__law_draws (defScope s__law_draws) := ⟨rfl, rfl, rfl, by decide +kernel, rfl, by decide +kernel, by decide +kernel⟩
def pre__law_draws : List D → Prop := fun ds => ∃ (c : Int) (m : Nat), ds = [.int c, .int (m : Int)] ∧ m ≤ 1000
def post__law_draws : List D → D → Prop := fun ds d => ∀ (c : Int) (m : Nat), ds = [.int c, .int (m : Int)] → ∃ ns : List Int, d = .lst (ns.map .int) ∧ ns.length = m ∧ ∀ n ∈ ns, 0 ≤ n ∧ n < 1000
set_option maxHeartbeats 4000000 in
theorem df__law_draws {P : Program} {w : World} {K : PySem.W.Frag} {mg : Str → Option Value} {base : Heap} {fd : FuncData} {f : Addr} (F : FunD K "_law_draws" "_law_draws" (defArgs s__law_draws) (defBody s__law_draws) (defScope s__law_draws) [] [] f fd) (hm : mg "_law_draws" = some (.ref f)) (n_abs : mg "abs" = none) (n_int : mg "int" = none) (n_range : mg "range" = none) :
    Df P w K mg base "_law_draws" 1 P__law_draws 2 pre__law_draws post__law_draws := by
  refine df_mk F hm sc__law_draws (fun _ _ _ _ _ _ us hl => match us, hl with | [_, _], _ => rfl) fun cdv A outer s H E hr ds hl hp => ⟨_,
    (pss_cons (ps_set (i := 2) sc__law_draws.nd rfl (by first | exact Or.inl rfl | exact Or.inr rfl) (pe_callB call_abs (by rfl) n_abs (by decide +kernel) (pa_cons (pv 0) pa_nil)))
    (pss_cons (ps_set (i := 3) sc__law_draws.nd rfl (by first | exact Or.inl rfl | exact Or.inr rfl) (pe_cmpR op_ge (pv 2) (pe_op op_pow pe_int pe_int) (nomark _)))
    (pss_cons (ps_set (i := 4) sc__law_draws.nd rfl (by first | exact Or.inl rfl | exact Or.inr rfl) (pe_op op_mod (pe_callTy call_int1 (by rfl) n_int (by decide +kernel) (pa_cons (pv 2) pa_nil)) pe_int))
    (pss_cons (ps_set (i := 5) sc__law_draws.nd rfl (by first | exact Or.inl rfl | exact Or.inr rfl) (pe_lst pa_nil))
    (pss_cons (ps_for PassesOwn.never rfl (pi_range1 (by rfl) n_range (pa_cons (pv 1) pa_nil)) (pg_name (i := 6) sc__law_draws.nd rfl (by first | exact Or.inl rfl | exact Or.inr rfl)) (pss_cons (ps_set (i := 4) sc__law_draws.nd rfl (by first | exact Or.inl rfl | exact Or.inr rfl) (pe_op op_mod (pe_callTy call_int1 (by rfl) n_int (by decide +kernel) (pa_cons (pe_op op_add (pe_op op_add (pe_op op_mul (pv 4) pe_int) (pe_op op_mul pe_int (pv 6))) pe_int) pa_nil)) pe_int))
    (pss_one (ps_if (PW.pt (pw_and (pt_val (pv 3)) (pw_and1 (pt_cmpR op_gt (pv 2) pe_int (nomark _))))) (pss_cons (ps_expr (pe_bmK K rfl PySem.F.plainAttrs_list PySem.F.slot_list_append PySem.F.type_list_append mt_append (pv 5) (pa_cons (pe_op op_mod (pe_callTy call_int1 (by rfl) n_int (by decide +kernel) (pa_cons (pv 2) pa_nil)) pe_int) pa_nil)))
    (pss_one (ps_set (i := 2) sc__law_draws.nd rfl (by first | exact Or.inl rfl | exact Or.inr rfl) (pe_op op_fdiv (pv 2) pe_int)))) (pss_one (ps_expr (pe_bmK K rfl PySem.F.plainAttrs_list PySem.F.slot_list_append PySem.F.type_list_append mt_append (pv 5) (pa_cons (pe_op op_mod (pe_op op_mod (pe_callTy call_int1 (by rfl) n_int (by decide +kernel) (pa_cons (pe_op op_add (pe_op op_add (pe_op op_mul (pv 4) (pv 4)) (pe_op op_mul pe_int (pv 4))) (pv 6)) pa_nil)) pe_int) pe_int) pa_nil))))))))
    (pss_one (ps_ret (pv 5)))))))), ?_⟩
  obtain ⟨a0, a1, rfl⟩ : ∃ a0 a1, ds = [a0, a1] := match ds, hl with | [_, _], _ => ⟨_, _, rfl⟩
  obtain ⟨c, m, e, hm2⟩ := hp
  cases e
  refine sw_seq (sw_asg ?_)
  walk_at "e"
  refine sw_seq (sw_asg ?_)
  walk_at "e"
  refine sw_seq (sw_asg ?_)
  walk_at "e"
  refine sw_seq (sw_asgN ?_)
  walk_at "e"
  refine sw_seq (sw_for (js := [6]) ?_)
  walk_at "e"
  refine ⟨by omega, by omega, fun i γ => ∃ (L x : Int) (b : Bool) (ns : List Int) (kv : Option Slot), 0 ≤ x ∧ x < 1000003 ∧ ns.length = i ∧ (∀ n ∈ ns, 0 ≤ n ∧ n < 1000) ∧ γ = [some (.sh (.int c)), some (.sh (.int (m : Int))), some (.sh (.int L)), some (.sh (.bl b)), some (.sh (.int x)), some (.ow (ns.map .int)), kv],
    ⟨_, _, _, [], none, Int.emod_nonneg _ (by decide), Int.emod_lt_of_pos _ (by decide), rfl, (fun _ h => by cases h), rfl⟩, ?_, ?_⟩
  · rintro i d γ hd ⟨L, x, b, ns, kv, hx0, hx1, hl1, hns, rfl⟩
    obtain ⟨hi, rfl⟩ := rng_get hd
    walk_at "e"
    refine sw_seq (sw_asg ?_)
    walk_at "e"
    have ap : ∀ y : Int, (∀ n ∈ ns ++ [y % 1000], 0 ≤ n ∧ n < 1000) := fun y n hn => by
      rcases List.mem_append.mp hn with h | h
      · exact hns n h
      · rw [List.mem_singleton.mp h]
        exact ⟨Int.emod_nonneg _ (by decide), Int.emod_lt_of_pos _ (by decide)⟩
    refine sw_ifA ?_ ?_ ?_
    · walk_at "e"
      refine ⟨fun h => ?_, fun h => trivial⟩
      walk_at "e"
      trivial
    · refine sw_seq (sw_app rfl (by rw [List.length_map, hl1]; show _ < (1000000 : Nat); omega) ?_)
      walk_at "e"
      refine sw_asg ?_
      walk_at "e"
      refine ⟨L / 1000, (x * 48271 + 13 * (0 + (i : Int)) + 11) % 1000003, b, ns ++ [L % 1000], some (.sh (.int (0 + (i : Int)))), Int.emod_nonneg _ (by decide), Int.emod_lt_of_pos _ (by decide), by rw [List.length_append, hl1]; rfl, ap _, ?_⟩
      rw [List.map_append]; rfl
    · refine sw_app rfl (by rw [List.length_map, hl1]; show _ < (1000000 : Nat); omega) ?_
      walk_at "e"
      refine ⟨L, (x * 48271 + 13 * (0 + (i : Int)) + 11) % 1000003, b, ns ++ [((((x * 48271 + 13 * (0 + (i : Int)) + 11) % 1000003) * ((x * 48271 + 13 * (0 + (i : Int)) + 11) % 1000003) + 7 * ((x * 48271 + 13 * (0 + (i : Int)) + 11) % 1000003) + (0 + (i : Int))) % 999983) % 1000], some (.sh (.int (0 + (i : Int)))), Int.emod_nonneg _ (by decide), Int.emod_lt_of_pos _ (by decide), by rw [List.length_append, hl1]; rfl, ap _, ?_⟩
      rw [List.map_append]; rfl
  · rintro γ ⟨L, x, b, ns, kv, hx0, hx1, hl1, hns, rfl⟩
    rw [rng_len] at hl1
    refine sw_frz 5 rfl ?_
    refine sw_ret ?_
    walk_at "e"
    intro c' m' e
    have e2 : m = m' := by injection e with a b; injection b with b1; injection b1 with b2; exact Int.ofNat.inj b2
    exact ⟨ns, rfl, by rw [hl1, ← e2]; rfl, hns⟩
theorem draw_at {ms : List Int} {m : Nat} (h : ms.length = m) (hd : ∀ n ∈ ms, 0 ≤ n ∧ n < 1000) (k : Nat) (hk : k < m) : ∃ n : Int, atI (ms.map D.int) (k : Int) = some (.int n) ∧ 0 ≤ n ∧ n < 1000 := by
  have hk' : k < ms.length := by omega
  refine ⟨ms[k], atI_nat ?_, hd _ (List.getElem_mem hk')⟩
  rw [List.getElem?_map, List.getElem?_eq_getElem hk']; rfl
theorem draw3 {ms : List Int} (h : ms.length = 3) (hd : ∀ n ∈ ms, 0 ≤ n ∧ n < 1000) : ∃ a b c : Int, ms.map D.int = [.int a, .int b, .int c] ∧ 0 ≤ a ∧ 0 ≤ b ∧ 0 ≤ c := by
  match ms, h with
  | [a, b, c], _ => exact ⟨a, b, c, rfl, (hd a (by simp)).1, (hd b (by simp)).1, (hd c (by simp)).1⟩

/-! ### exchanges: blocks are whole numbers, their sizes a rearrangement of 1, 2, .. -/
abbrev intsD (xs : List Int) : List D := xs.map .int
def exD (bs : List Int) : D := .obj "Exchange" ["blocks"] [.tup (intsD bs)]
def OkX (bs : List Int) : Prop := (bs.map Int.natAbs).Perm (List.range' 1 bs.length)
theorem OkX.at {bs : List Int} (h : OkX bs) {b : Int} (hb : b ∈ bs) : 1 ≤ b.natAbs ∧ b.natAbs ≤ bs.length := by
  have z := h.mem_iff.mp (List.mem_map_of_mem hb)
  rw [List.mem_range'_1] at z
  omega
theorem OkX.sorted {bs ms : List Int} (h : OkX bs) (p : ms.Perm (bs.map fun b => (b.natAbs : Int))) (s : ms.Pairwise (· ≤ ·)) : ms = (List.range bs.length).map fun i => ((1 + i : Nat) : Int) := by
  refine List.Perm.eq_of_pairwise (le := fun a b => decide (a ≤ b)) (fun a b _ _ h1 h2 => by simp at h1 h2; omega) (s.imp fun h => by simpa using h) ?_ (p.trans ?_)
  · rw [List.pairwise_map]
    exact List.pairwise_lt_range.imp fun h => by simp; omega
  · have z : bs.map (fun b => (b.natAbs : Int)) = (bs.map Int.natAbs).map fun n : Nat => (n : Int) := by rw [List.map_map]; rfl
    have y : (List.range bs.length).map (fun i => ((1 + i : Nat) : Int)) = (List.range' 1 bs.length).map fun n : Nat => (n : Int) := by
      rw [List.range'_eq_map_range, List.map_map]; rfl
    rw [z, y]
    exact h.map _
/-- a list or a tuple of these -/
def SeqD (ds : List D) (d : D) : Prop := d = .lst ds ∨ d = .tup ds
theorem rwl_tupQ {K : PySem.W.Frag} {Φ : D → Prop} {ds : List D} {d : D} (h : SeqD ds d) (k : Φ (.tup ds)) : RWL K (rTupOf K) [d] Φ := by
  rcases h with rfl | rfl
  · exact rwl_tupL k
  · exact rwl_tupT k
theorem rwl_lenQ {K : PySem.W.Frag} {Φ : D → Prop} {ds : List D} {d : D} (h : SeqD ds d) (k : Φ (.int ds.length)) : RWL K (rLen K) [d] Φ := by
  rcases h with rfl | rfl
  · exact rwl_lenL k
  · exact rwl_lenT k
theorem rw_ixQ {K : PySem.W.Frag} {Φ : D → Prop} {ds : List D} {d y : D} {i : Int} (h : SeqD ds d) (hi : atI ds i = some y) (k : Φ y) : RW2 K (rIx K) d (.int i) Φ := by
  rcases h with rfl | rfl
  · exact rw_ixQL hi k
  · exact rw_ixQT hi k
theorem en_listRg2 {K : PySem.W.Frag} {γ : Gam} {ta tb : TE} {Φ : List D → Prop} (h : EW K ta γ fun d => EW K tb γ fun e => ∃ a b : Nat, d = .int (a : Int) ∧ e = .int (b : Int) ∧ a ≤ b ∧ b ≤ sizeS ∧ Φ ((List.range (b - a)).map fun (i : Nat) => .int ((a + i : Nat) : Int))) : EN K (tLstRg (tRg2 ta tb)) γ Φ := fun Hs0 H0 Hs H σ Q S q =>
  h Hs0 H0 Hs H σ _ S fun Hs1 H1 v d g1 r1 h1 => h1 Hs0 H0 Hs1 H1 σ _ (S.grow g1) fun Hs2 H2 u e g2 r2 ⟨a, b, ed, ee, le, l, p⟩ => by
    subst ed ee
    cases r1
    cases r2
    have hb : b ≤ 1000000 := l
    refine ⟨(a : Int), (b : Int), rfl, rfl, ⟨by omega, by omega, by omega, by omega, by omega⟩, fun x hx => ?_⟩
    exact q Hs2 _ x _ _ ((g1.trans g2).trans (.hid g2.b hx)) (SameT.free (g1.trans g2).e hx) (g2.b.free hx) upd_same (rgL a b) p
theorem eq_ints (xs : List Int) : eqOk 1 (.lst (intsD xs)) := by
  intro d hd
  rcases List.mem_map.mp hd with ⟨x, _, rfl⟩
  trivial
theorem eq_intsT (xs : List Int) : eqOk 1 (.tup (intsD xs)) := by
  intro d hd
  rcases List.mem_map.mp hd with ⟨x, _, rfl⟩
  trivial
theorem abs_int (i : Int) : (if i < 0 then -i else i) = (i.natAbs : Int) := by split <;> omega
theorem intsD_inj {xs ys : List Int} (h : intsD xs = intsD ys) : xs = ys := by
  refine List.map_inj_right (fun a b e => ?_) |>.mp h
  exact D.int.inj e
theorem strsD_inj {xs ys : List Str} (h : xs.map D.str = ys.map D.str) : xs = ys := by
  refine List.map_inj_right (fun a b e => ?_) |>.mp h
  exact D.str.inj e
theorem SeqD_eq {xs ys : List D} {d : D} (h : SeqD xs d) (g : SeqD ys d) : xs = ys := by
  rcases h with rfl | rfl
  · rcases g with g | g <;> cases g <;> rfl
  · rcases g with g | g <;> cases g <;> rfl
theorem SeqD_inj {xs ys : List Int} {d : D} (h : SeqD (intsD xs) d) (g : SeqD (intsD ys) d) : xs = ys := intsD_inj (SeqD_eq h g)
theorem exD_inj {xs ys : List Int} (h : exD xs = exD ys) : xs = ys := by
  unfold exD at h
  injection h with _ _ h
  injection h with h
  injection h with h
  exact intsD_inj h
theorem EqD_ints (xs ys : List Int) : EqD (.tup (intsD xs)) (.tup (intsD ys)) = decide (xs = ys) := by
  unfold EqD
  show PyData.eqv (.tuple (pyL (intsD xs))) (.tuple (pyL (intsD ys))) = _
  rw [PyData.eqv]
  induction xs generalizing ys with
  | nil => cases ys <;> rfl
  | cons x xs ih =>
    cases ys with
    | nil => rfl
    | cons y ys =>
      have one : PyData.eqv (.int x) (.int y) = decide (x = y) := by
        rw [PyData.eqv]
        by_cases h : x = y <;> simp [h]
      show PyData.eqvAll (pyD (.int x) :: pyL (intsD xs)) (pyD (.int y) :: pyL (intsD ys)) = _
      rw [PyData.eqvAll, ih ys]
      show (PyData.eqv (.int x) (.int y) && _) = _
      rw [one]
      by_cases h : x = y <;> by_cases g : xs = ys <;> simp [h, g]
theorem cutD_from {β : Type} (f : β → D) (r : List β) (k : Nat) : cutD (r.map f) (some (k : Int)) none = (r.drop k).map f := by
  unfold cutD
  have e : HT.sIx (r.map f).length 0 (some (k : Int)) = min k r.length := by rw [HT.sIx_nat, List.length_map]
  show (((r.map f).drop (HT.sIx (r.map f).length 0 (some (k : Int)))).take ((r.map f).length - HT.sIx (r.map f).length 0 (some (k : Int)))) = _
  rw [e, List.length_map, ← List.map_drop, ← List.map_take]
  congr 1
  by_cases h : k ≤ r.length
  · rw [Nat.min_eq_left h]
    exact List.take_of_length_le (by rw [List.length_drop]; exact Nat.le_refl _)
  · rw [Nat.min_eq_right (by omega), List.drop_length, List.drop_eq_nil_of_le (by omega)]
    simp
/-- the text that a block puts -/
def movT (xs : List Str) (b : Int) : Str := if 0 < b then xs.getD (b.natAbs - 1) Str.empty else revS (xs.getD (b.natAbs - 1) Str.empty)
def movX (bs : List Int) (xs : List Str) : List Str := bs.map (movT xs)
theorem rev_len (z : Str) : (revS z).length = z.length := by
  show z.cps.toList.reverse.toArray.size = z.cps.size
  simp
theorem getD_mem {xs : List Str} {i : Nat} (h : i < xs.length) : xs.getD i Str.empty ∈ xs := by
  rw [List.getD_eq_getElem?_getD, List.getElem?_eq_getElem h]
  exact List.getElem_mem h
theorem at_strs {xs : List Str} {i : Nat} (h : i < xs.length) : atI (xs.map D.str) (i : Int) = some (.str (xs.getD i Str.empty)) := by
  refine atI_nat ?_
  rw [List.getElem?_map, List.getD_eq_getElem?_getD, List.getElem?_eq_getElem h]; rfl
theorem movX_len {bs : List Int} {xs : List Str} {L : Nat} (ok : OkX bs) (hl : xs.length = bs.length) (hx : ∀ x ∈ xs, x.length ≤ L) : ∀ y ∈ movX bs xs, y.length ≤ L := by
  intro y hy
  rcases List.mem_map.mp hy with ⟨b, hb, rfl⟩
  have z := ok.at hb
  have m := hx _ (getD_mem (xs := xs) (i := b.natAbs - 1) (by omega))
  unfold movT
  split
  · exact m
  · rw [rev_len]; exact m
def leanB (bs : List Int) : Bool := ((bs.zip (bs.drop 1)).map fun p => decide (p.2 ≠ p.1 + 1)).all id
theorem eqD_intsL (xs ys : List Int) : EqD (.lst (intsD xs)) (.lst (intsD ys)) = decide (xs = ys) := by
  have z := EqD_ints xs ys
  unfold EqD at z ⊢
  have e : PyData.eqv (pyD (.lst (intsD xs))) (pyD (.lst (intsD ys))) = PyData.eqv (pyD (.tup (intsD xs))) (pyD (.tup (intsD ys))) := by
    show PyData.eqv (.list (pyL (intsD xs))) (.list (pyL (intsD ys))) = PyData.eqv (.tuple (pyL (intsD xs))) (.tuple (pyL (intsD ys)))
    rw [PyData.eqv, PyData.eqv]
  rw [e]
  exact z
theorem OkX.of_range {bs : List Int} (p : ((List.range bs.length).map fun i => ((1 + i : Nat) : Int)).Perm (bs.map fun b => (b.natAbs : Int))) : OkX bs := by
  have z := (p.map Int.natAbs).symm
  have e1 : (bs.map fun b => (b.natAbs : Int)).map Int.natAbs = bs.map Int.natAbs := by rw [List.map_map]; rfl
  have e2 : ((List.range bs.length).map fun i => ((1 + i : Nat) : Int)).map Int.natAbs = List.range' 1 bs.length := by
    rw [List.map_map, List.range'_eq_map_range]
    exact List.map_congr_left fun i _ => by simp; omega
  rw [e1, e2] at z
  exact z
def badX (K : PySem.W.Frag) : XD := ⟨He.ga K "BadExchange", []⟩
def largeX (K : PySem.W.Frag) : XD := ⟨He.ga K "TooLarge", [("what", .str "blocks"), ("limit", .int 12)]⟩
abbrev si_TooLarge : Stmt := mth (top 4) 0
def xd_TooLarge : StX.SupD := ⟨"TooLarge", "TooLarge.__init__", defArgs si_TooLarge, defBody si_TooLarge, defScope si_TooLarge, ["what", "limit"]⟩
def preI_TooLarge : List D → Prop := fun ds => ∃ (z : Str) (n : Int), ds = [.str z, .int n] ∧ z.length ≤ 100 ∧ n.natAbs < 2 ^ 64
set_option maxHeartbeats 4000000 in
theorem rz_TooLarge {P : Program} {w : World} {K : PySem.W.Frag} {mg : Str → Option Value} {base : Heap} {file : Str} (e : StX.fnS K ("TooLarge", some "__init__") = xd_TooLarge.val) (c : xd_TooLarge.ok K file = true) (hfile : P.main.file = file) (hsup : mg "super" = none) (h3 : (P.main.scope.names.lookup ("super" : Str)).isSome = false)
    (hm : mg "TooLarge" = some (.ref (He.ga K "TooLarge"))) : RzC P w K mg base "TooLarge" 1 ["what", "limit"] preI_TooLarge := by
  obtain ⟨f, cda, cc, oc, kV, doc, pm, ct, od, an, osl, lk, hfi, hty, T, hnf, hE⟩ := StX.SupD.facts (ps := ["self", "what", "limit"]) e c hfile hsup (by decide +kernel) ⟨_, rfl, rfl⟩ h3
  refine ⟨f, _, hm, T.oex, hfi, hty, hE, hnf, ["self", "what", "limit"], .all (fun us hl => match us, hl with | [_, _, _], _ => rfl), StX.fn_supI (k := 0) (N := ["self", "what", "limit", "__class__"]) T lk (NdefX.nscope_by (by decide +kernel)) (fun vs H Q E h => ?_) (fun _ => rfl) _ (fun _ => rfl) fun A outer s H vs Q E hr h => ?_⟩
  · obtain ⟨a, ws, Hs, ds, rfl, _, _, _, _, r, l, _⟩ := h
    rw [List.length_cons, r.length, l]; rfl
  · obtain ⟨a, ws, Hs, ds, rfl, ha, hsa, tb, b, r, l, hp, q⟩ := h
    refine ⟨a, ws, rfl, ha, _, _, (pe_joinedZ (.cons pe_str (.cons (pe_fmt (pv 1)) (.cons pe_str (.cons (pe_fmt (pv 2)) .nil))))), (pss_cons (ps_ost (pv 0) (pv 1)) (pss_one (ps_ost (pv 0) (pv 2)))), ?_⟩
    obtain ⟨z, n, e, hz, hn⟩ := hp
    subst e
    cases r with
    | cons r1 r2 =>
      cases r1
      cases r2 with
      | cons r2 r3 =>
        cases r2; cases r3
        exact msg_run (.cons (part_c _) (.cons (part_s rfl hz (by decide)) (.cons (part_c _) (.cons (part_i rfl hn) .nil)))) (by decide) H _ fun v => ⟨rfl, ha, ost_2 T.oex ha rfl rfl rfl (hnf _ List.mem_cons_self) (hnf _ (List.mem_cons_of_mem _ List.mem_cons_self)) fun dx hd hne => q dx hd hne⟩
abbrev s_Exchange___init__ : Stmt := mth (top 7) 1
abbrev N_Exchange___init__ : List Str := ["self", "blocks", "made", "block"]
abbrev P_Exchange___init__ : List Str := ["self", "blocks"]
theorem sc_Exchange___init__ : FnScope N_Exchange___init__ P_Exchange___init__ (defScope s_Exchange___init__) := ⟨rfl, rfl, rfl, by decide +kernel, rfl, by decide +kernel, by decide +kernel⟩
def pre_Exchange___init__ : List D → Prop := fun ds => ∃ (bs : List Int) (d : D), ds = [d] ∧ SeqD (intsD bs) d ∧ bs.length ≤ 1000
def post_Exchange___init__ : List D → List Str → List D → Prop := fun ds ns fs => ∀ (bs : List Int) (d : D), ds = [d] → SeqD (intsD bs) d → OkX bs ∧ bs.length ≤ 12 ∧ ns = [("blocks" : Str)] ∧ fs = [.tup (intsD bs)]
def xpost_Exchange___init__ (K : PySem.W.Frag) : List D → XD → Prop := fun ds x => ∀ (bs : List Int) (d : D), ds = [d] → SeqD (intsD bs) d → (¬ OkX bs ∧ x = badX K) ∨ (OkX bs ∧ 12 < bs.length ∧ x = largeX K)
set_option maxHeartbeats 4000000 in
theorem df_Exchange___init__ {P : Program} {w : World} {K : PySem.W.Frag} {mg : Str → Option Value} {base : Heap} {fd : FuncData} {f : Addr} (F : FunD K "__init__" "Exchange.__init__" (defArgs s_Exchange___init__) (defBody s_Exchange___init__) (defScope s_Exchange___init__) [] [] f fd) (hm : Meth K (He.ga K "Exchange") "__init__" f) (n_abs : mg "abs" = none) (n_len : mg "len" = none) (n_list : mg "list" = none) (n_range : mg "range" = none) (n_sorted : mg "sorted" = none) (n_tuple : mg "tuple" = none) (m_BadExchange : mg "BadExchange" = some (.ref (He.ga K "BadExchange"))) (m_Exchange : mg "Exchange" = some (.ref (He.ga K "Exchange"))) (r_TooLarge : RzC P w K mg base "TooLarge" 1 ["what", "limit"] preI_TooLarge) (exm_TooLarge_TooLarge : PySem.W.exmOne K (.ref (He.ga K "TooLarge")) (.ref (He.ga K "TooLarge")) = some true) (exm_BadExchange_TooLarge : PySem.W.exmOne K (.ref (He.ga K "BadExchange")) (.ref (He.ga K "TooLarge")) = some false) (exm_BadExchange_BadExchange : PySem.W.exmOne K (.ref (He.ga K "BadExchange")) (.ref (He.ga K "BadExchange")) = some true) (kit_TooLarge_BadBook : PySem.W.kitOne K (.ref (He.ga K "TooLarge")) (.ref (He.ga K "BadBook")) = some true) (kit_TooLarge_BadExchange : PySem.W.kitOne K (.ref (He.ga K "TooLarge")) (.ref (He.ga K "BadExchange")) = some false) (kit_BadExchange_TwiceError : PySem.W.kitOne K (.ref (He.ga K "BadExchange")) (.ref (He.ga K "TwiceError")) = some true) (kit_BadExchange_BadBook : PySem.W.kitOne K (.ref (He.ga K "BadExchange")) (.ref (He.ga K "BadBook")) = some false) (kit_Exchange_Exchange : PySem.W.kitOne K (.ref (He.ga K "Exchange")) (.ref (He.ga K "Exchange")) = some true) (xc_BadExchange : excCB K (He.ga K "BadExchange") = true) (rz_BadExchange : StX.rz0B K "BadExchange" = true) (iso_Exchange : isoB K (He.ga K "Exchange") = true) (cls_Exchange : Cls K (He.ga K "Exchange")) (na_Exchange_blocks : NoAttr K (He.ga K "Exchange") "blocks") (cv_Exchange_MOST : CvI K (He.ga K "Exchange") "MOST" 12) (mk_Exchange : MkF K (He.ga K "Exchange")) :
    MkX P w K mg base "Exchange" 3 P_Exchange___init__ 1 pre_Exchange___init__ post_Exchange___init__ (xpost_Exchange___init__ K) := by
  refine mkx_mk F hm mk_Exchange sc_Exchange___init__ (by decide) (fun _ _ _ _ _ _ us hl => match us, hl with | [_, _], _ => rfl) fun cdv A outer s H E hr ds hl hp => ⟨_,
    (pss_cons (ps_set (i := 2) sc_Exchange___init__.nd rfl (by first | exact Or.inl rfl | exact Or.inr rfl) (pe_callTy (call_tupK K rfl) (by rfl) n_tuple (by decide +kernel) (pa_cons (pv 1) pa_nil)))
    (pss_cons (ps_if (pt_cmpR (op_neDK K rfl hr.units) (pe_callB (cr_sortedIK K rfl) (by rfl) n_sorted (by decide +kernel) (pa_cons (pe_lc (own := [("block", 3)]) rfl sc_Exchange___init__.nd (pi_tupK K rfl (pv 2)) (blkOk_by (N := N_Exchange___init__) (sc := defScope s_Exchange___init__) (by decide +kernel)) (fun _ _ _ _ _ => (pg_name (i := 3) sc_Exchange___init__.nd rfl (by first | exact Or.inl rfl | exact Or.inr rfl))) (fun _ _ _ _ _ => pts_nil) (fun _ _ _ _ _ => (pe_callB call_abs (by rfl) n_abs (by decide +kernel) (pa_cons (pv 3) pa_nil)))) pa_nil)) (pe_listRg (by rfl) (by rfl) n_list (prg_2 (by rfl) n_range pe_int (pe_op op_add (pe_callB (call_lenK K rfl) (by rfl) n_len PySem.boot_len (pa_cons (pv 2) pa_nil)) pe_int))) (nomark _)) (pss_one (ps_rz0 K rfl (rz0B_ok rz_BadExchange) m_BadExchange rfl (takes_of rfl rfl rfl rfl) (by rfl))) pss_nil)
    (pss_cons (ps_if (pt_cmpR op_gt (pe_callB (call_lenK K rfl) (by rfl) n_len PySem.boot_len (pa_cons (pv 2) pa_nil)) (pe_cvalK K rfl (pe_glob (v := .ref (He.ga K "Exchange")) (by rfl) m_Exchange rfl)) (nomark _)) (pss_one (ps_rz K rfl r_TooLarge rfl (takes_of rfl rfl rfl rfl) hr (by decide) (by rfl) (pa_cons pe_str (pa_cons (pe_cvalK K rfl (pe_glob (v := .ref (He.ga K "Exchange")) (by rfl) m_Exchange rfl)) pa_nil)))) pss_nil)
    (pss_one (ps_fldK K rfl (pv 0) (pv 2) rfl))))), fun Hs0 H0 x hW => ?_⟩
  obtain ⟨a1, rfl⟩ : ∃ a1, ds = [a1] := match ds, hl with | [_], _ => ⟨_, rfl⟩
  obtain ⟨bs, d, e, hd, few⟩ := hp
  cases e
  have one : ∀ (bs' : List Int) (d' : D), [a1] = [d'] → SeqD (intsD bs') d' → bs' = bs := fun bs' d' e hd' => by
    cases e
    exact SeqD_inj hd' hd
  refine sx_seqW (sw_asg ?_)
  walk_at "e"
  refine rwl_tupQ hd ?_
  refine sx_seq (sx_if ?_)
  refine tw_test (ew_op (ew_cb (aw_cons (ew_new (en_lcA (js := [3]) D.int D.int bs (fun b => (b.natAbs : Int)) (by simp) (by show _ ≤ (1000000 : Nat); omega) ?_)))))
  walk_at "e"
  refine ⟨rfl, fun b hb => gw_name ?_, ?_⟩
  · walk_at "e"
    exact congrArg D.int (abs_int b)
  refine aw_nil (rwl_new (rnl_sortI fun ms p srt => ?_))
  refine ew_new (en_listRg2 ?_)
  walk_at "e"
  refine ⟨1, bs.length + 1, rfl, ?_, by omega, by show _ ≤ (1000000 : Nat); omega, ?_⟩
  · rw [List.length_map]; rfl
  have e2 : (List.range (bs.length + 1 - 1)).map (fun (i : Nat) => D.int ((1 + i : Nat) : Int)) = intsD ((List.range bs.length).map fun i => ((1 + i : Nat) : Int)) := by
    rw [Nat.add_sub_cancel, intsD, List.map_map]; rfl
  rw [e2]
  refine rw_neDD (eq_ints _) (eq_ints _) ?_
  rw [eqD_intsL]
  refine ⟨_, rfl, fun h => ?_, fun h => sx_next ?_⟩
  · refine sx_raise0 hW ?_
    intro bs' d' e' hd'
    obtain rfl := one bs' d' e' hd'
    refine .inl ⟨fun ok => ?_, rfl⟩
    simp [ok.sorted p srt] at h
  have ok : OkX bs := by
    have z : ms = (List.range bs.length).map fun i => ((1 + i : Nat) : Int) := by simpa using h
    exact .of_range (z ▸ p)
  refine sx_seq (sx_if ?_)
  walk_at "e"
  refine ew_cval 12 cv_Exchange_MOST ?_
  walk_at "e"
  rw [List.length_map]
  refine ⟨fun h => ?_, fun h => sx_next ?_⟩
  · have big := of_decide_eq_true h
    refine sx_raise (by decide) hW (ax_of ?_)
    walk_at "e"
    refine ew_cval 12 cv_Exchange_MOST ?_
    walk_at "e"
    refine ⟨by simp, by simp, ⟨_, _, rfl, by decide, by decide⟩, ?_⟩
    intro bs' d' e' hd'
    obtain rfl := one bs' d' e' hd'
    exact .inr ⟨ok, by omega, rfl⟩
  · have small := of_decide_eq_false h
    refine sx_of (sw_fld (i := 0) rfl cls_Exchange na_Exchange_blocks (by simp) (by decide) ?_)
    walk_at "e"
    refine ⟨_, _, rfl, ?_⟩
    intro bs' d' e' hd'
    obtain rfl := one bs' d' e' hd'
    exact ⟨ok, by omega, rfl, rfl⟩

/-- a source: a rearrangement of 0, 1, .. -/
def Src (ns : List Int) : Prop := ns.Perm ((List.range ns.length).map fun i : Nat => (i : Int))
theorem Src.sorted {ns ms : List Int} (h : Src ns) (p : ms.Perm ns) (s : ms.Pairwise (· ≤ ·)) : ms = (List.range ns.length).map fun i : Nat => (i : Int) := by
  refine List.Perm.eq_of_pairwise (le := fun a b => decide (a ≤ b)) (fun a b _ _ h1 h2 => by simp at h1 h2; omega) (s.imp fun h => by simpa using h) ?_ (p.trans h)
  rw [List.pairwise_map]
  exact List.pairwise_lt_range.imp fun h => by simp; omega
theorem at_last {o : List Int} (h : o ≠ []) : atI (intsD o) (-1) = some (.int (o.getLastD 0)) := by
  rcases List.eq_nil_or_concat o with e | ⟨l, b, e⟩
  · exact absurd e h
  · subst e
    have n : (intsD (l.concat b)).length = l.length + 1 := by simp [intsD]
    unfold atI
    have z : ixN (intsD (l.concat b)).length (-1) = some l.length := by
      rw [n]
      unfold ixN
      simp
      omega
    rw [z]
    simp [intsD]
abbrev s_check_map : Stmt := top 9
abbrev N_check_map : List Str := ["source"]
abbrev P_check_map : List Str := ["source"]
theorem sc_check_map : FnScope N_check_map P_check_map (defScope s_check_map) := ⟨rfl, rfl, rfl, by decide +kernel, rfl, by decide +kernel, by decide +kernel⟩
def pre_check_map : List D → Prop := fun ds => ∃ ns : List Int, ds = [.tup (intsD ns)] ∧ ns.length ≤ 1000
def post_check_map : List D → D → Prop := fun ds d => ∀ ns : List Int, ds = [.tup (intsD ns)] → Src ns
def xpost_check_map (K : PySem.W.Frag) : List D → XD → Prop := fun ds x => ∀ ns : List Int, ds = [.tup (intsD ns)] → ¬ Src ns ∧ x = badX K
set_option maxHeartbeats 4000000 in
theorem df_check_map {P : Program} {w : World} {K : PySem.W.Frag} {mg : Str → Option Value} {base : Heap} {fd : FuncData} {f : Addr} (F : FunD K "check_map" "check_map" (defArgs s_check_map) (defBody s_check_map) (defScope s_check_map) [] [] f fd) (hm : mg "check_map" = some (.ref f)) (n_len : mg "len" = none) (n_list : mg "list" = none) (n_range : mg "range" = none) (n_sorted : mg "sorted" = none) (m_BadExchange : mg "BadExchange" = some (.ref (He.ga K "BadExchange"))) (exm_TooLarge_TooLarge : PySem.W.exmOne K (.ref (He.ga K "TooLarge")) (.ref (He.ga K "TooLarge")) = some true) (exm_BadExchange_TooLarge : PySem.W.exmOne K (.ref (He.ga K "BadExchange")) (.ref (He.ga K "TooLarge")) = some false) (exm_BadExchange_BadExchange : PySem.W.exmOne K (.ref (He.ga K "BadExchange")) (.ref (He.ga K "BadExchange")) = some true) (kit_TooLarge_BadBook : PySem.W.kitOne K (.ref (He.ga K "TooLarge")) (.ref (He.ga K "BadBook")) = some true) (kit_TooLarge_BadExchange : PySem.W.kitOne K (.ref (He.ga K "TooLarge")) (.ref (He.ga K "BadExchange")) = some false) (kit_BadExchange_TwiceError : PySem.W.kitOne K (.ref (He.ga K "BadExchange")) (.ref (He.ga K "TwiceError")) = some true) (kit_BadExchange_BadBook : PySem.W.kitOne K (.ref (He.ga K "BadExchange")) (.ref (He.ga K "BadBook")) = some false) (kit_Exchange_Exchange : PySem.W.kitOne K (.ref (He.ga K "Exchange")) (.ref (He.ga K "Exchange")) = some true) (xc_BadExchange : excCB K (He.ga K "BadExchange") = true) (rz_BadExchange : StX.rz0B K "BadExchange" = true) (iso_Exchange : isoB K (He.ga K "Exchange") = true) :
    DfX P w K mg base "check_map" 1 P_check_map 1 pre_check_map post_check_map (xpost_check_map K) := by
  refine df_mkX F hm sc_check_map (fun _ _ _ _ _ _ us hl => match us, hl with | [_], _ => rfl) fun cdv A outer s H E hr ds hl hp => ⟨_,
    (pss_one (ps_if (pt_cmpR (op_neDK K rfl hr.units) (pe_callB (cr_sortedIT K rfl) (by rfl) n_sorted (by decide +kernel) (pa_cons (pv 0) pa_nil)) (pe_listRg (by rfl) (by rfl) n_list (prg_1 (by rfl) n_range (pe_callB (call_lenK K rfl) (by rfl) n_len PySem.boot_len (pa_cons (pv 0) pa_nil)))) (nomark _)) (pss_one (ps_rz0 K rfl (rz0B_ok rz_BadExchange) m_BadExchange rfl (takes_of rfl rfl rfl rfl) (by rfl))) pss_nil)), fun Hs0 H0 hW => ?_⟩
  obtain ⟨a0, rfl⟩ : ∃ a0, ds = [a0] := match ds, hl with | [_], _ => ⟨_, rfl⟩
  obtain ⟨ns, e, hl⟩ := hp
  cases e
  refine sx_if (tw_test (ew_op (ew_cb (aw_cons ?_))))
  walk_at "e"
  refine rwl_new (rnl_sortIT fun ms p srt => ?_)
  refine ew_new (en_listRg ?_)
  walk_at "e"
  have one : ∀ ns' : List Int, [D.tup (intsD ns)] = [D.tup (intsD ns')] → ns' = ns := fun ns' e => by
    injection e with e _
    injection e with e
    exact (intsD_inj e).symm
  refine ⟨by rw [List.length_map]; show _ ≤ (1000000 : Nat); omega, ?_⟩
  have e2 : (List.range (intsD ns).length).map (fun i : Nat => D.int (i : Int)) = intsD ((List.range ns.length).map fun i : Nat => (i : Int)) := by
    rw [List.length_map, intsD, List.map_map]; rfl
  rw [e2]
  refine rw_neDD (eq_ints _) (eq_ints _) ?_
  rw [eqD_intsL]
  refine ⟨_, rfl, fun h => ?_, fun h => sx_next ?_⟩
  · refine sx_raise0 hW ?_
    intro ns' e'
    obtain rfl := one ns' e'
    exact ⟨fun ok => by simp [ok.sorted p srt] at h, rfl⟩
  · intro ns' e'
    obtain rfl := one ns' e'
    have z : ms = (List.range ns'.length).map fun i : Nat => (i : Int) := by simpa using h
    exact p.symm.trans (z ▸ .refl _)
abbrev s_goes_on : Stmt := top 10
abbrev N_goes_on : List Str := ["stretch", "entry", "steps", "step"]
abbrev P_goes_on : List Str := ["stretch", "entry", "steps"]
theorem sc_goes_on : FnScope N_goes_on P_goes_on (defScope s_goes_on) := ⟨rfl, rfl, rfl, by decide +kernel, rfl, by decide +kernel, by decide +kernel⟩
def pre_goes_on : List D → Prop := fun ds => ∃ (st : List Int) (e : Int) (sp : List Int), ds = [.lst (intsD st), .int e, .tup (intsD sp)] ∧ 1 ≤ st.length ∧ st.length ≤ 1000
def post_goes_on : List D → D → Prop := fun ds d => ∀ (st : List Int) (e : Int) (sp : List Int), ds = [.lst (intsD st), .int e, .tup (intsD sp)] → d = .bl (decide (e - st.getLastD 0 ∈ sp) && (decide (st.length = 1) || decide (e - st.getLastD 0 = st.getD 1 0 - st.getD 0 0)))
set_option maxHeartbeats 4000000 in
theorem df_goes_on {P : Program} {w : World} {K : PySem.W.Frag} {mg : Str → Option Value} {base : Heap} {fd : FuncData} {f : Addr} (F : FunD K "goes_on" "goes_on" (defArgs s_goes_on) (defBody s_goes_on) (defScope s_goes_on) [] [] f fd) (hm : mg "goes_on" = some (.ref f)) (n_len : mg "len" = none) :
    Df P w K mg base "goes_on" 1 P_goes_on 3 pre_goes_on post_goes_on := by
  refine df_mk F hm sc_goes_on (fun _ _ _ _ _ _ us hl => match us, hl with | [_, _, _], _ => rfl) fun cdv A outer s H E hr ds hl hp => ⟨_,
    (pss_cons (ps_set (i := 3) sc_goes_on.nd rfl (by first | exact Or.inl rfl | exact Or.inr rfl) (pe_op op_sub (pv 1) (pe_ix (ix_listK K rfl) (pv 0) (pe_un un_neg pe_int) (fun _ _ => rfl))))
    (pss_one (ps_ret (pe_and (pe_cmpR (op_inK K rfl) (pv 3) (pv 2) rfl) (pe_one (pe_or (pe_cmpR op_eq (pe_callB (call_lenK K rfl) (by rfl) n_len PySem.boot_len (pa_cons (pv 0) pa_nil)) pe_int (nomark _)) (pe_one (pe_cmpR op_eq (pv 3) (pe_op op_sub (pe_ix (ix_listK K rfl) (pv 0) pe_int (fun _ _ => rfl)) (pe_ix (ix_listK K rfl) (pv 0) pe_int (fun _ _ => rfl))) (nomark _))))))))), ?_⟩
  obtain ⟨a0, a1, a2, rfl⟩ : ∃ a0 a1 a2, ds = [a0, a1, a2] := match ds, hl with | [_, _, _], _ => ⟨_, _, _, rfl⟩
  obtain ⟨st, e, sp, e', h1, h2⟩ := hp
  cases e'
  have last : atI (st.map D.int) (-1) = some (.int (st.getLastD 0)) := by
    exact at_last (o := st) (fun z => by rw [z] at h1; simp at h1)
  have fin : ∀ b : Bool, b = (decide (e - st.getLastD 0 ∈ sp) && (decide (st.length = 1) || decide (e - st.getLastD 0 = st.getD 1 0 - st.getD 0 0))) → post_goes_on [D.lst (intsD st), D.int e, D.tup (intsD sp)] (.bl b) := fun b hb st' e' sp' q => by
    injection q with q1 q
    injection q with q2 q
    injection q with q3 _
    injection q1 with q1
    injection q2 with q2
    injection q3 with q3
    rw [← intsD_inj q1, ← q2, ← intsD_inj q3, hb]
  refine sw_seq (sw_asg ?_)
  walk_at "e"
  have at2 : st.length ≠ 1 → atI (st.map D.int) 1 = some (.int (st.getD 1 0)) ∧ atI (st.map D.int) 0 = some (.int (st.getD 0 0)) := fun z => by
    constructor
    · refine atI_nat (j := 1) ?_
      rw [List.getElem?_map, List.getD_eq_getElem?_getD, List.getElem?_eq_getElem (by omega)]; rfl
    · refine atI_nat (j := 0) ?_
      rw [List.getElem?_map, List.getD_eq_getElem?_getD, List.getElem?_eq_getElem (by omega)]; rfl
  refine sw_ret ?_
  walk_at "e"
  refine ⟨fun h => ?_, fun h => fin _ (by rw [h]; rfl)⟩
  walk_at "e"
  refine ⟨fun q => ?_, fun q => ?_⟩
  · have q : st.length = 1 := by
      have := of_decide_eq_true q
      rw [List.length_map] at this
      omega
    exact fin _ (by rw [h, decide_eq_true q]; rfl)
  · have q : ¬ st.length = 1 := by
      have := of_decide_eq_false q
      rw [List.length_map] at this
      omega
    obtain ⟨x1, x0⟩ := at2 q
    refine ew_op ?_
    walk_at "e"
    exact fin _ (by rw [h, decide_eq_false q]; rfl)

/-! ### runs of numbers: where one begins and how long it is -/
def runL (p : Nat × Nat) : List Nat := (List.range p.2).map (p.1 + ·)
def runsL (P : List (Nat × Nat)) : List Nat := P.flatMap runL
theorem runL_len (p : Nat × Nat) : (runL p).length = p.2 := by unfold runL; rw [List.length_map, List.length_range]
theorem runL_mem {p : Nat × Nat} {x : Nat} : x ∈ runL p ↔ p.1 ≤ x ∧ x < p.1 + p.2 := by
  unfold runL
  rw [List.mem_map]
  constructor
  · rintro ⟨k, hk, rfl⟩
    have := List.mem_range.mp hk
    omega
  · rintro ⟨h1, h2⟩
    exact ⟨x - p.1, List.mem_range.mpr (by omega), by omega⟩
theorem runsL_len (P : List (Nat × Nat)) : (runsL P).length = (P.map (·.2)).sum := by
  induction P with
  | nil => rfl
  | cons p P ih =>
    show (runL p ++ runsL P).length = _
    rw [List.length_append, runL_len, ih, List.map_cons, List.sum_cons]
/-- if the runs are all numbers in their order, each begins behind those before it -/
theorem run_begin {P : List (Nat × Nat)} {n i : Nat} {p : Nat × Nat} (h : runsL P = List.range n) (hi : P[i]? = some p) (hl : 0 < p.2) : p.1 = ((P.take i).map (·.2)).sum := by
  have hlt := (List.getElem?_eq_some_iff.mp hi).1
  have e : P = P.take i ++ p :: P.drop (i + 1) := by
    have := List.take_append_drop i P
    rw [List.drop_eq_getElem_cons hlt, (List.getElem?_eq_some_iff.mp hi).2] at this
    exact this.symm
  have e2 : runsL P = runsL (P.take i) ++ (runL p ++ runsL (P.drop (i + 1))) := by
    conv => lhs; rw [e]
    unfold runsL
    rw [List.flatMap_append, List.flatMap_cons]
  have at1 : (runsL P)[((P.take i).map (·.2)).sum]? = some p.1 := by
    rw [e2, ← runsL_len, List.getElem?_append_right (Nat.le_refl _), Nat.sub_self]
    unfold runL
    obtain ⟨k, hk⟩ : ∃ k, p.2 = k + 1 := ⟨p.2 - 1, by omega⟩
    rw [hk, List.range_succ_eq_map]
    simp
  rw [h] at at1
  obtain ⟨lt, e3⟩ := List.getElem?_eq_some_iff.mp at1
  rw [List.getElem_range] at e3
  exact e3.symm
theorem asc_range {L : List Nat} {n : Nat} (p : L.Perm (List.range n)) (s : L.Pairwise (· < ·)) : L = List.range n :=
  List.Perm.eq_of_pairwise (le := fun a b => decide (a ≤ b)) (fun a b _ _ h1 h2 => by simp at h1 h2; omega) (s.imp fun h => by simp; omega) (List.pairwise_lt_range.imp fun h => by simp; omega) p
/-- runs that share nothing, in the order of where they begin -/
theorem runs_asc : ∀ {P : List (Nat × Nat)}, (∀ p ∈ P, 0 < p.2) → (runsL P).Nodup → P.Pairwise (fun p q => p.1 ≤ q.1) → (runsL P).Pairwise (· < ·)
  | [], _, _, _ => .nil
  | p :: P, hl, nd, srt => by
    have nd' : (runL p ++ runsL P).Nodup := nd
    obtain ⟨n1, n2, n3⟩ := List.nodup_append.mp nd'
    obtain ⟨s1, s2⟩ := List.pairwise_cons.mp srt
    have ih := runs_asc (fun q hq => hl q (List.mem_cons_of_mem _ hq)) n2 s2
    show (runL p ++ runsL P).Pairwise (· < ·)
    refine List.pairwise_append.mpr ⟨?_, ih, fun a ha b hb => ?_⟩
    · unfold runL
      rw [List.pairwise_map]
      exact List.pairwise_lt_range.imp fun h => by omega
    · obtain ⟨q, hq, hb⟩ := List.mem_flatMap.mp hb
      have ra := runL_mem.mp ha
      have rb := runL_mem.mp hb
      have le := s1 q hq
      have lq := hl q (List.mem_cons_of_mem _ hq)
      have no : ¬ q.1 < p.1 + p.2 := fun z => n3 q.1 (runL_mem.mpr ⟨le, z⟩) q.1 (List.mem_flatMap.mpr ⟨q, hq, runL_mem.mpr ⟨Nat.le_refl _, by omega⟩⟩) rfl
      omega
/-! ### stretches -/
def goesS (sp st : List Int) (e : Int) : Bool := decide (e - st.getLastD 0 ∈ sp) && (decide (st.length = 1) || decide (e - st.getLastD 0 = st.getD 1 0 - st.getD 0 0))
def addS (sp : List Int) (L : List (List Int)) (e : Int) : List (List Int) := match L.getLast? with
  | some st => if goesS sp st e = true then L.dropLast ++ [st ++ [e]] else L ++ [[e]]
  | none => [[e]]
def stretch (sp src : List Int) : List (List Int) := src.foldl (addS sp) []
theorem addS_flat (sp : List Int) (L : List (List Int)) (e : Int) : (addS sp L e).flatten = L.flatten ++ [e] := by
  unfold addS
  rcases List.eq_nil_or_concat L with h | ⟨M, st, h⟩
  · subst h; rfl
  · subst h
    rw [List.concat_eq_append, show (M ++ [st]).getLast? = some st from by simp]
    dsimp only
    split
    · rw [List.dropLast_concat]
      simp
    · simp
theorem stretch_snoc (sp src : List Int) (e : Int) : stretch sp (src ++ [e]) = addS sp (stretch sp src) e := by
  unfold stretch
  rw [List.foldl_append]; rfl
theorem stretch_flat (sp src : List Int) : (stretch sp src).flatten = src := by
  have : ∀ (l : List Int) (L : List (List Int)), (l.foldl (addS sp) L).flatten = L.flatten ++ l := fun l => by
    induction l with
    | nil => intro L; simp
    | cons e l ih =>
      intro L
      rw [List.foldl_cons, ih, addS_flat]
      simp
  have h := this src []
  simpa [stretch] using h
theorem addS_ne {sp : List Int} {L : List (List Int)} {e : Int} (h : ∀ st ∈ L, st ≠ []) : ∀ st ∈ addS sp L e, st ≠ [] := by
  unfold addS
  rcases List.eq_nil_or_concat L with q | ⟨M, s0, q⟩
  · subst q
    intro st hs
    rw [List.mem_singleton.mp hs]; simp
  · subst q
    rw [List.concat_eq_append, show (M ++ [s0]).getLast? = some s0 from by simp]
    rw [List.concat_eq_append] at h
    dsimp only
    intro st hs
    split at hs
    · rw [List.dropLast_concat] at hs
      rcases List.mem_append.mp hs with hs | hs
      · exact h st (List.mem_append_left _ hs)
      · rw [List.mem_singleton.mp hs]; simp
    · rcases List.mem_append.mp hs with hs | hs
      · exact h st hs
      · rw [List.mem_singleton.mp hs]; simp
theorem stretch_ne (sp src : List Int) : ∀ st ∈ stretch sp src, st ≠ [] := by
  have : ∀ (l : List Int) (L : List (List Int)), (∀ st ∈ L, st ≠ []) → ∀ st ∈ l.foldl (addS sp) L, st ≠ [] := fun l => by
    induction l with
    | nil => intro L h; exact h
    | cons e l ih => intro L h; exact ih _ (addS_ne h)
  exact this src [] fun st h => by cases h
/-- a run that rises by one, or falls by one -/
def upL (a : Int) (n : Nat) : List Int := (List.range n).map fun i : Nat => a + i
def dnL (a : Int) (n : Nat) : List Int := (List.range n).map fun i : Nat => a - i
theorem upL_snoc (a : Int) (n : Nat) : upL a n ++ [a + n] = upL a (n + 1) := by unfold upL; rw [List.range_succ, List.map_append]; rfl
theorem dnL_snoc (a : Int) (n : Nat) : dnL a n ++ [a - n] = dnL a (n + 1) := by unfold dnL; rw [List.range_succ, List.map_append]; rfl
theorem upL_last (a : Int) (n : Nat) : (upL a (n + 1)).getLastD 0 = a + n := by rw [← upL_snoc]; simp
theorem dnL_last (a : Int) (n : Nat) : (dnL a (n + 1)).getLastD 0 = a - n := by rw [← dnL_snoc]; simp
def RunS (st : List Int) : Prop := ∃ a n, st = upL a (n + 1) ∨ (1 ≤ n ∧ st = dnL a (n + 1))
theorem runS_add {sp st : List Int} {e : Int} (hs : ∀ d ∈ sp, d = 1 ∨ d = -1) (g : RunS st) (h : goesS sp st e = true) : RunS (st ++ [e]) := by
  unfold goesS at h
  rw [Bool.and_eq_true, Bool.or_eq_true, decide_eq_true_eq, decide_eq_true_eq, decide_eq_true_eq] at h
  obtain ⟨h1, h2⟩ := h
  obtain ⟨a, n, rfl | ⟨hn, rfl⟩⟩ := g
  · rw [upL_last] at h1 h2
    cases n with
    | zero =>
      rcases hs _ h1 with q | q
      · refine ⟨a, 1, .inl ?_⟩
        rw [← upL_snoc a 1, show e = a + (1 : Nat) by omega]
      · refine ⟨a, 1, .inr ⟨Nat.le_refl _, ?_⟩⟩
        rw [← dnL_snoc a 1, show e = a - (1 : Nat) by omega]
        simp [upL, dnL]
    | succ n =>
      have l : (upL a (n + 1 + 1)).length = n + 2 := by unfold upL; rw [List.length_map, List.length_range]
      have d1 : (upL a (n + 1 + 1)).getD 1 0 - (upL a (n + 1 + 1)).getD 0 0 = 1 := by
        unfold upL
        rw [List.getD_eq_getElem?_getD, List.getD_eq_getElem?_getD, List.getElem?_map, List.getElem?_map, List.getElem?_range (by omega), List.getElem?_range (by omega)]
        simp; omega
      refine ⟨a, n + 2, .inl ?_⟩
      rw [← upL_snoc a (n + 2)]
      rcases h2 with q | q
      · omega
      · rw [d1] at q
        rw [show e = a + ((n + 2 : Nat) : Int) by omega]
  · rw [dnL_last] at h1 h2
    obtain ⟨n, rfl⟩ : ∃ k, n = k + 1 := ⟨n - 1, by omega⟩
    have l : (dnL a (n + 1 + 1)).length = n + 2 := by unfold dnL; rw [List.length_map, List.length_range]
    have d1 : (dnL a (n + 1 + 1)).getD 1 0 - (dnL a (n + 1 + 1)).getD 0 0 = -1 := by
      unfold dnL
      rw [List.getD_eq_getElem?_getD, List.getD_eq_getElem?_getD, List.getElem?_map, List.getElem?_map, List.getElem?_range (by omega), List.getElem?_range (by omega)]
      simp; omega
    refine ⟨a, n + 2, .inr ⟨by omega, ?_⟩⟩
    rw [← dnL_snoc a (n + 2)]
    rcases h2 with q | q
    · omega
    · rw [d1] at q
      rw [show e = a - ((n + 2 : Nat) : Int) by omega]
theorem runS_one (e : Int) : RunS [e] := ⟨e, 0, .inl (by simp [upL])⟩
theorem stretch_run {sp : List Int} (hs : ∀ d ∈ sp, d = 1 ∨ d = -1) (src : List Int) : ∀ st ∈ stretch sp src, RunS st := by
  have one : ∀ (L : List (List Int)) (e : Int), (∀ st ∈ L, RunS st) → ∀ st ∈ addS sp L e, RunS st := fun L e h => by
    unfold addS
    rcases List.eq_nil_or_concat L with q | ⟨M, s0, q⟩
    · subst q
      intro st h2
      rw [List.mem_singleton.mp h2]; exact runS_one e
    · subst q
      rw [List.concat_eq_append, show (M ++ [s0]).getLast? = some s0 from by simp]
      rw [List.concat_eq_append] at h
      dsimp only
      intro st h2
      split at h2
      · rename_i g
        rw [List.dropLast_concat] at h2
        rcases List.mem_append.mp h2 with h2 | h2
        · exact h st (List.mem_append_left _ h2)
        · rw [List.mem_singleton.mp h2]; exact runS_add hs (h s0 (List.mem_append_right _ (List.mem_singleton.mpr rfl))) g
      · rcases List.mem_append.mp h2 with h2 | h2
        · exact h st h2
        · rw [List.mem_singleton.mp h2]; exact runS_one e
  have : ∀ (l : List Int) (L : List (List Int)), (∀ st ∈ L, RunS st) → ∀ st ∈ l.foldl (addS sp) L, RunS st := fun l => by
    induction l with
    | nil => intro L h; exact h
    | cons e l ih => intro L h; exact ih _ (one L e h)
  exact this src [] fun st h => by cases h
/-- where nothing comes twice, a run goes on just where the step is allowed -/
theorem goes_nd {sp st : List Int} {e : Int} (hs : ∀ d ∈ sp, d = 1 ∨ d = -1) (g : RunS st) (ne : e ∉ st) : goesS sp st e = decide (e - st.getLastD 0 ∈ sp) := by
  unfold goesS
  by_cases h : e - st.getLastD 0 ∈ sp
  · rw [decide_eq_true h, Bool.true_and, Bool.or_eq_true, decide_eq_true_eq, decide_eq_true_eq]
    obtain ⟨a, n, rfl | ⟨hn, rfl⟩⟩ := g
    · cases n with
      | zero => exact .inl (by simp [upL])
      | succ n =>
        refine .inr ?_
        have d1 : (upL a (n + 1 + 1)).getD 1 0 - (upL a (n + 1 + 1)).getD 0 0 = 1 := by
          unfold upL
          rw [List.getD_eq_getElem?_getD, List.getD_eq_getElem?_getD, List.getElem?_map, List.getElem?_map, List.getElem?_range (by omega), List.getElem?_range (by omega)]
          simp; omega
        rw [d1]
        rcases hs _ h with q | q
        · exact q
        · rw [upL_last] at q
          refine absurd ?_ ne
          unfold upL
          exact List.mem_map.mpr ⟨n, List.mem_range.mpr (by omega), by omega⟩
    · obtain ⟨n, rfl⟩ : ∃ k, n = k + 1 := ⟨n - 1, by omega⟩
      refine .inr ?_
      have d1 : (dnL a (n + 1 + 1)).getD 1 0 - (dnL a (n + 1 + 1)).getD 0 0 = -1 := by
        unfold dnL
        rw [List.getD_eq_getElem?_getD, List.getD_eq_getElem?_getD, List.getElem?_map, List.getElem?_map, List.getElem?_range (by omega), List.getElem?_range (by omega)]
        simp; omega
      rw [d1]
      rcases hs _ h with q | q
      · rw [dnL_last] at q
        refine absurd ?_ ne
        unfold dnL
        exact List.mem_map.mpr ⟨n, List.mem_range.mpr (by omega), by omega⟩
      · exact q
  · rw [decide_eq_false h, Bool.false_and]
/-- how many stretches there are, one number more -/
theorem stretch_more {sp src : List Int} {e : Int} (hs : ∀ d ∈ sp, d = 1 ∨ d = -1) (nd : (src ++ [e]).Nodup) :
    (stretch sp (src ++ [e])).length = (stretch sp src).length + if src = [] ∨ e - src.getLastD 0 ∉ sp then 1 else 0 := by
  have fl := stretch_flat sp src
  have run := stretch_run hs src
  have nz := stretch_ne sp src
  rw [stretch_snoc]
  unfold addS
  rcases List.eq_nil_or_concat (stretch sp src) with q | ⟨M, s0, q⟩
  · rw [q] at fl ⊢
    have : src = [] := fl.symm
    rw [if_pos (.inl this)]; rfl
  · rw [List.concat_eq_append] at q
    rw [q] at fl run nz ⊢
    rw [show (M ++ [s0]).getLast? = some s0 from by simp]
    dsimp only
    have g := run s0 (List.mem_append_right _ (List.mem_singleton.mpr rfl))
    have n0 := nz s0 (List.mem_append_right _ (List.mem_singleton.mpr rfl))
    rw [List.flatten_append, List.flatten_singleton] at fl
    have ne : e ∉ s0 := fun h => by
      obtain ⟨_, _, n3⟩ := List.nodup_append.mp nd
      exact n3 e (by rw [← fl]; exact List.mem_append_right _ h) e (List.mem_singleton.mpr rfl) rfl
    have la : src.getLastD 0 = s0.getLastD 0 := by
      rw [← fl]
      rcases List.eq_nil_or_concat s0 with z | ⟨l, y, z⟩
      · exact absurd z n0
      · rw [z, List.concat_eq_append, ← List.append_assoc]; simp
    have sn : src ≠ [] := fun z => by
      rw [z] at fl
      exact n0 (List.append_eq_nil_iff.mp fl).2
    rw [goes_nd hs g ne, la]
    by_cases h : e - s0.getLastD 0 ∈ sp
    · rw [decide_eq_true h, if_pos rfl, if_neg (fun z => z.elim sn fun z => z h), List.dropLast_concat]
      simp
    · rw [decide_eq_false h, if_neg (by decide), if_pos (.inr h)]
      simp

/-! ### the pieces of a place map -/
def dnS (st : List Int) : Bool := decide (st.getLastD 0 < st.getD 0 0)
def loS (st : List Int) : Int := if dnS st then st.getLastD 0 else st.getD 0 0
def rnS (beg len : Nat) (up : Bool) : List Int := (List.range len).map fun k => if up then ((beg + k : Nat) : Int) else ((beg + len - 1 - k : Nat) : Int)
def pmS (bs : List Int) (ls : List Nat) : List Int := bs.flatMap fun b => rnS ((ls.take (b.natAbs - 1)).sum) (ls.getD (b.natAbs - 1) 0) (decide (0 < b))
theorem upL_dn (a : Int) (n : Nat) : dnS (upL a (n + 1)) = false ∧ loS (upL a (n + 1)) = a := by
  have d : dnS (upL a (n + 1)) = false := by
    unfold dnS
    rw [upL_last]
    have : (upL a (n + 1)).getD 0 0 = a := by unfold upL; simp [List.range_succ_eq_map]
    rw [this]
    exact decide_eq_false (by omega)
  refine ⟨d, ?_⟩
  unfold loS
  rw [d]
  unfold upL; simp [List.range_succ_eq_map]
theorem dnL_dn (a : Int) {n : Nat} (h : 1 ≤ n) : dnS (dnL a (n + 1)) = true ∧ loS (dnL a (n + 1)) = a - n := by
  have d : dnS (dnL a (n + 1)) = true := by
    unfold dnS
    rw [dnL_last]
    have : (dnL a (n + 1)).getD 0 0 = a := by unfold dnL; simp [List.range_succ_eq_map]
    rw [this]
    exact decide_eq_true (by omega)
  refine ⟨d, ?_⟩
  unfold loS
  rw [d, if_pos rfl, dnL_last]
theorem runS_lo {st : List Int} (g : RunS st) : loS st ∈ st := by
  obtain ⟨a, n, rfl | ⟨hn, rfl⟩⟩ := g
  · rw [(upL_dn a n).2]; unfold upL; exact List.mem_map.mpr ⟨0, List.mem_range.mpr (by omega), by simp⟩
  · rw [(dnL_dn a hn).2]; unfold dnL; exact List.mem_map.mpr ⟨n, List.mem_range.mpr (by omega), rfl⟩
theorem runS_le {st : List Int} (g : RunS st) : ∀ x ∈ st, loS st ≤ x := by
  obtain ⟨a, n, rfl | ⟨hn, rfl⟩⟩ := g
  · rw [(upL_dn a n).2]; unfold upL; intro x hx; obtain ⟨k, _, rfl⟩ := List.mem_map.mp hx; omega
  · rw [(dnL_dn a hn).2]; unfold dnL; intro x hx; obtain ⟨k, hk, rfl⟩ := List.mem_map.mp hx; have := List.mem_range.mp hk; omega
/-- a stretch is told by where its numbers begin, how many they are and whether they fall -/
theorem runS_eq {st : List Int} (g : RunS st) (h : ∀ x ∈ st, 0 ≤ x) : st = rnS (loS st).toNat st.length (!dnS st) := by
  have h0 := h _ (runS_lo g)
  obtain ⟨a, n, rfl | ⟨hn, rfl⟩⟩ := g
  · rw [(upL_dn a n).1]; rw [(upL_dn a n).2] at h0 ⊢
    have e : (upL a (n + 1)).length = n + 1 := by simp [upL]
    rw [e]
    unfold upL rnS
    refine List.map_congr_left fun k hk => ?_
    simp
    omega
  · rw [(dnL_dn a hn).1]; rw [(dnL_dn a hn).2] at h0 ⊢
    have e : (dnL a (n + 1)).length = n + 1 := by simp [dnL]
    rw [e]
    unfold dnL rnS
    refine List.map_congr_left fun k hk => ?_
    have := List.mem_range.mp hk
    simp
    omega
theorem rnS_perm (beg len : Nat) (up : Bool) : (rnS beg len up).Perm ((runL (beg, len)).map fun n : Nat => (n : Int)) := by
  cases up
  · have : rnS beg len false = ((runL (beg, len)).map fun n : Nat => (n : Int)).reverse := by
      apply List.ext_getElem
      · simp [rnS, runL]
      · intro i h1 h2
        simp [rnS, runL] at h1 h2 ⊢
        omega
    rw [this]; exact List.reverse_perm _
  · have : rnS beg len true = ((runL (beg, len)).map fun n : Nat => (n : Int)) := by
      unfold rnS runL
      rw [List.map_map]; rfl
    rw [this]
/-- what the stretches of a source are -/
structure Pcs (L : List (List Int)) (n : Nat) (P : List (Nat × Nat)) : Prop where
  run : ∀ st ∈ L, RunS st ∧ st ≠ [] ∧ ∀ x ∈ st, 0 ≤ x
  perm : P.Perm (L.map fun st => ((loS st).toNat, st.length))
  whole : runsL P = List.range n
theorem perm_flatMap {α β : Type} {f g : α → List β} : ∀ {l : List α}, (∀ a ∈ l, (f a).Perm (g a)) → (l.flatMap f).Perm (l.flatMap g)
  | [], _ => .refl _
  | a :: l, h => by
    rw [List.flatMap_cons, List.flatMap_cons]
    exact (h a List.mem_cons_self).append (perm_flatMap fun b hb => h b (List.mem_cons_of_mem _ hb))
theorem perm_flat {α β : Type} (f : α → List β) {l m : List α} (h : l.Perm m) : (l.flatMap f).Perm (m.flatMap f) := h.flatMap_right f
theorem pcs_of {src sp : List Int} {P : List (Nat × Nat)} (hs : ∀ d ∈ sp, d = 1 ∨ d = -1) (h : Src src) (p : P.Perm ((stretch sp src).map fun st => ((loS st).toNat, st.length))) (srt : P.Pairwise fun p q => p.1 ≤ q.1) : Pcs (stretch sp src) src.length P := by
  have fl := stretch_flat sp src
  have pos : ∀ x ∈ src, 0 ≤ x := fun x hx => by
    obtain ⟨k, _, rfl⟩ := List.mem_map.mp (h.mem_iff.mp hx)
    omega
  have run : ∀ st ∈ stretch sp src, RunS st ∧ st ≠ [] ∧ ∀ x ∈ st, 0 ≤ x := fun st hst => ⟨stretch_run hs src st hst, stretch_ne sp src st hst, fun x hx => pos x (by rw [← fl]; exact List.mem_flatten.mpr ⟨st, hst, hx⟩)⟩
  refine ⟨run, p, ?_⟩
  have q1 : (runsL P).Perm (((stretch sp src).map fun st => ((loS st).toNat, st.length)).flatMap runL) := perm_flat runL p
  have q2 : ((runsL P).map fun n : Nat => (n : Int)).Perm src := by
    refine (q1.map _).trans ?_
    rw [List.flatMap_map, List.map_flatMap]
    conv => rhs; rw [← fl]
    rw [← List.flatMap_id]
    refine perm_flatMap fun st hst => ?_
    obtain ⟨a, _, c⟩ := run st hst
    have := (rnS_perm (loS st).toNat st.length (!dnS st)).symm
    rw [← runS_eq a c] at this
    exact this
  have q3 : (runsL P).Perm (List.range src.length) := by
    have := (q2.trans h).map Int.toNat
    rw [List.map_map, List.map_map] at this
    have e1 : (Int.toNat ∘ fun n : Nat => (n : Int)) = id := by funext n; simp
    rw [e1, List.map_id, List.map_id] at this
    exact this
  have pos2 : ∀ p ∈ P, 0 < p.2 := fun q hq => by
    obtain ⟨st, hst, rfl⟩ := List.mem_map.mp (p.mem_iff.mp hq)
    exact List.length_pos_iff.mpr (run st hst).2.1
  exact asc_range q3 (runs_asc pos2 (q3.nodup_iff.mpr List.nodup_range) srt)
section
variable {L : List (List Int)} {n : Nat} {P : List (Nat × Nat)}
theorem Pcs.len (h : Pcs L n P) : P.length = L.length := by rw [h.perm.length_eq, List.length_map]
theorem Pcs.pos (h : Pcs L n P) : ∀ p ∈ P, 0 < p.2 := fun q hq => by
  obtain ⟨st, hst, rfl⟩ := List.mem_map.mp (h.perm.mem_iff.mp hq)
  exact List.length_pos_iff.mpr (h.run st hst).2.1
theorem Pcs.sum (h : Pcs L n P) : (P.map (·.2)).sum = n := by
  rw [← runsL_len, h.whole, List.length_range]
theorem Pcs.beg (h : Pcs L n P) {i : Nat} {p : Nat × Nat} (hi : P[i]? = some p) : p.1 = ((P.take i).map (·.2)).sum := run_begin h.whole hi (h.pos p (List.mem_of_getElem? hi))
theorem Pcs.nd (h : Pcs L n P) : (P.map (·.1)).Nodup := by
  have hs : (P.map (·.1)).Pairwise (· < ·) := by
    rw [List.pairwise_iff_getElem]
    intro i j hi hj hij
    rw [List.length_map] at hi hj
    rw [List.getElem_map, List.getElem_map]
    have b1 := h.beg (List.getElem?_eq_getElem hi)
    have b2 := h.beg (List.getElem?_eq_getElem hj)
    have b3 := h.pos _ (List.getElem_mem hi)
    have e : P.take j = P.take i ++ P[i] :: (P.take j).drop (i + 1) := by
      have := List.take_append_drop i (P.take j)
      rw [List.take_take, Nat.min_eq_left (by omega), List.drop_eq_getElem_cons (by rw [List.length_take]; omega)] at this
      rw [List.getElem_take] at this
      exact this.symm
    rw [b1, b2, e, List.map_append, List.sum_append, List.map_cons, List.sum_cons]
    omega
  exact hs.imp fun h => by omega
/-- the number of the piece that a stretch is -/
def numS (P : List (Nat × Nat)) (st : List Int) : Nat := (P.map (·.1)).idxOf (loS st).toNat
theorem Pcs.num (h : Pcs L n P) {st : List Int} (hst : st ∈ L) : P[numS P st]? = some ((loS st).toNat, st.length) := by
  have m : ((loS st).toNat, st.length) ∈ P := h.perm.mem_iff.mpr (List.mem_map.mpr ⟨st, hst, rfl⟩)
  obtain ⟨i, hi⟩ := List.mem_iff_getElem?.mp m
  have lt := (List.getElem?_eq_some_iff.mp hi).1
  have e : numS P st = i := by
    unfold numS
    have : (P.map (·.1))[i]'(by rw [List.length_map]; exact lt) = (loS st).toNat := by
      rw [List.getElem_map, (List.getElem?_eq_some_iff.mp hi).2]
    rw [← this]
    exact h.nd.idxOf_getElem i (by rw [List.length_map]; exact lt)
  rw [e]; exact hi
def blkS (P : List (Nat × Nat)) (st : List Int) : Int := if dnS st then -((numS P st + 1 : Nat) : Int) else ((numS P st + 1 : Nat) : Int)
theorem blkS_abs (st : List Int) : (blkS P st).natAbs = numS P st + 1 := by unfold blkS; split <;> omega
theorem blkS_pos (st : List Int) : decide (0 < blkS P st) = !dnS st := by
  unfold blkS
  cases dnS st
  · simp
  · simp; omega
theorem Pcs.okx (h : Pcs L n P) : OkX (L.map (blkS P)) := by
  unfold OkX
  have e : (L.map (blkS P)).map Int.natAbs = (L.map fun st => ((loS st).toNat, st.length)).map fun p => (P.map (·.1)).idxOf p.1 + 1 := by
    rw [List.map_map, List.map_map]
    exact List.map_congr_left fun st _ => blkS_abs st
  have e2 : P.map (fun p => (P.map (·.1)).idxOf p.1 + 1) = List.range' 1 P.length := by
    apply List.ext_getElem
    · simp
    · intro i h1 h2
      rw [List.length_map] at h1
      rw [List.getElem_map, List.getElem_range']
      have : (P.map (·.1)).idxOf ((P.map (·.1))[i]'(by rw [List.length_map]; exact h1)) = i := h.nd.idxOf_getElem i (by rw [List.length_map]; exact h1)
      rw [List.getElem_map] at this
      rw [this]; omega
  rw [e, List.length_map, ← h.len, ← e2]
  exact (h.perm.map _).symm
theorem Pcs.back (h : Pcs L n P) : pmS (L.map (blkS P)) (P.map (·.2)) = L.flatten := by
  unfold pmS
  rw [List.flatMap_map, ← List.flatMap_id]
  have : ∀ (l : List (List Int)), (∀ st ∈ l, st ∈ L) → (l.flatMap fun st => rnS (((P.map (·.2)).take ((blkS P st).natAbs - 1)).sum) ((P.map (·.2)).getD ((blkS P st).natAbs - 1) 0) (decide (0 < blkS P st))) = l.flatMap id := by
    intro l
    induction l with
    | nil => intro _; rfl
    | cons st l ih =>
      intro hl
      rw [List.flatMap_cons, List.flatMap_cons, ih fun s hs => hl s (List.mem_cons_of_mem _ hs)]
      congr 1
      have hst := hl st List.mem_cons_self
      have g := h.num hst
      rw [blkS_abs, blkS_pos, Nat.add_sub_cancel, List.getD_eq_getElem?_getD, List.getElem?_map, g, ← List.map_take, ← h.beg g]
      exact (runS_eq (h.run st hst).1 (h.run st hst).2.2).symm
  exact this L fun _ h => h
/-- a block that turns is longer than one -/
theorem Pcs.turned (h : Pcs L n P) {st : List Int} (hst : st ∈ L) (hd : blkS P st < 0) : 2 ≤ st.length := by
  have d : dnS st = true := by
    have := blkS_pos (P := P) st
    rw [decide_eq_false (by omega)] at this
    cases e : dnS st with
    | true => rfl
    | false => rw [e] at this; cases this
  obtain ⟨a, k, rfl | ⟨hn, rfl⟩⟩ := (h.run st hst).1
  · rw [(upL_dn a k).1] at d; cases d
  · simp [dnL]; omega
end
/-! ### sources -/
theorem Src.lt {ns : List Int} (h : Src ns) {x : Int} (hx : x ∈ ns) : 0 ≤ x ∧ x < ns.length := by
  obtain ⟨k, hk, rfl⟩ := List.mem_map.mp (h.mem_iff.mp hx)
  have := List.mem_range.mp hk
  omega
theorem Src.nodup {ns : List Int} (h : Src ns) : ns.Nodup := by
  refine h.nodup_iff.mpr ?_
  rw [List.Nodup, List.pairwise_map]
  exact List.nodup_range.imp fun h => by omega
theorem src_nil : Src [] := .refl _
/-- the last number put anywhere -/
theorem Src.ins {ns : List Int} (h : Src ns) (k : Nat) : Src (ns.take k ++ [(ns.length : Int)] ++ ns.drop k) := by
  unfold Src
  have e : (ns.take k ++ [(ns.length : Int)] ++ ns.drop k).length = ns.length + 1 := by simp; omega
  rw [e, List.range_succ, List.map_append]
  have p : (ns.take k ++ [(ns.length : Int)] ++ ns.drop k).Perm (ns ++ [(ns.length : Int)]) := by
    rw [List.append_assoc]
    refine (List.Perm.append_left _ List.perm_append_comm).trans ?_
    rw [← List.append_assoc, List.take_append_drop]
  exact p.trans (h.append (.refl _))
theorem src_rev (n : Nat) : Src ((List.range n).map fun i : Nat => (i : Int)).reverse := by
  unfold Src
  rw [List.length_reverse, List.length_map, List.length_range]
  exact List.reverse_perm _
/-- all runs of lengths, one behind the other -/
theorem runs_whole (ls : List Nat) : ∀ k, k ≤ ls.length → (List.range k).flatMap (fun p => runL ((ls.take p).sum, ls.getD p 0)) = List.range (ls.take k).sum := by
  intro k
  induction k with
  | zero => intro _; simp
  | succ k ih =>
    intro hk
    rw [List.range_succ, List.flatMap_append, ih (by omega), List.flatMap_singleton]
    have e : (ls.take (k + 1)).sum = (ls.take k).sum + ls.getD k 0 := by
      rw [List.take_add_one, List.sum_append, List.getD_eq_getElem?_getD, List.getElem?_eq_getElem (by omega)]
      simp
    rw [e, List.range_add]
    rfl
theorem pmS_perm (bs : List Int) (ls : List Nat) : (pmS bs ls).Perm (((bs.map fun b => b.natAbs - 1).flatMap fun p => runL ((ls.take p).sum, ls.getD p 0)).map fun n : Nat => (n : Int)) := by
  unfold pmS
  rw [List.flatMap_map, List.map_flatMap]
  exact perm_flatMap fun b _ => rnS_perm _ _ _
theorem pmS_src {bs : List Int} {ls : List Nat} (ok : OkX bs) (h : ls.length = bs.length) : Src (pmS bs ls) ∧ (pmS bs ls).length = ls.sum := by
  have p : (bs.map fun b => b.natAbs - 1).Perm (List.range bs.length) := by
    have := ok.map fun n => n - 1
    rw [List.map_map] at this
    refine this.trans (.of_eq ?_)
    rw [List.range'_eq_map_range, List.map_map]
    refine List.ext_getElem (by simp) fun i h1 h2 => by simp
  have q := (pmS_perm bs ls).trans ((perm_flat (fun p => runL ((ls.take p).sum, ls.getD p 0)) p).map _)
  rw [runs_whole ls _ (Nat.le_of_eq h.symm), ← h, List.take_length] at q
  have l : (pmS bs ls).length = ls.sum := by rw [q.length_eq]; simp
  refine ⟨?_, l⟩
  unfold Src
  rw [l]; exact q
/-! ### what is no source -/
theorem no_big {ns : List Int} {x : Int} (hx : x ∈ ns) (h : (ns.length : Int) ≤ x) : ¬ Src ns := fun g => by
  have := g.lt hx
  omega
theorem no_neg {ns : List Int} {x : Int} (hx : x ∈ ns) (h : x < 0) : ¬ Src ns := fun g => by
  have := g.lt hx
  omega
theorem no_twice {ns : List Int} {k : Nat} {x : Int} (hx : x ∈ ns) : ¬ Src (ns.take k ++ [x] ++ ns.drop k) := fun g => by
  have p : (ns.take k ++ [x] ++ ns.drop k).Perm (ns ++ [x]) := by
    rw [List.append_assoc]
    refine (List.Perm.append_left _ List.perm_append_comm).trans ?_
    rw [← List.append_assoc, List.take_append_drop]
  have n := p.nodup_iff.mp g.nodup
  exact (List.nodup_append.mp n).2.2 x hx x (List.mem_singleton.mpr rfl) rfl
theorem no_less {ns : List Int} (h : Src ns) {k : Nat} (hk : k < ns.length) (ne : ns[k] < (ns.length : Int) - 1) : ¬ Src (ns.take k ++ ns.drop (k + 1)) := by
  have m : ((ns.length - 1 : Nat) : Int) ∈ ns := h.mem_iff.mpr (List.mem_map.mpr ⟨ns.length - 1, List.mem_range.mpr (by omega), rfl⟩)
  have e : ns = ns.take k ++ ns[k] :: ns.drop (k + 1) := by
    rw [← List.drop_eq_getElem_cons hk, List.take_append_drop]
  have l : (ns.take k ++ ns.drop (k + 1)).length = ns.length - 1 := by simp; omega
  refine no_big (x := ((ns.length - 1 : Nat) : Int)) ?_ (by rw [l]; omega)
  rw [e] at m
  rcases List.mem_append.mp m with m | m
  · have := List.mem_append_left (ns.drop (k + 1)) m
    have e2 : (ns.take k ++ ns[k] :: ns.drop (k + 1)).length = ns.length := by rw [← e]
    rw [e2] at this
    exact this
  · rcases List.mem_cons.mp m with m | m
    · have e2 : (ns.take k ++ ns[k] :: ns.drop (k + 1)).length = ns.length := by rw [← e]
      rw [e2] at m
      omega
    · have := List.mem_append_right (ns.take k) m
      have e2 : (ns.take k ++ ns[k] :: ns.drop (k + 1)).length = ns.length := by rw [← e]
      rw [e2] at this
      exact this
/-! ### few numbers: nothing takes fewer blocks -/
def rngI (m : Nat) : List Int := (List.range (2 * m + 1)).map fun (i : Nat) => -(m : Int) + (i : Int)
def goesA (t : Bool) (o : List Int) (b : Int) : Bool := !decide (b = 0) && ((decide (0 < b) || t) && (!decide (b ∈ o) && !decide (-b ∈ o)))
def allO (m : Nat) (t : Bool) : Nat → List (List Int)
  | 0 => [[]]
  | k + 1 => (allO m t k).flatMap fun o => (rngI m).filterMap fun b => if goesA t o b then some (o ++ [b]) else none
def allC (n m : Nat) : Nat → List (List Nat)
  | 0 => [[]]
  | k + 1 => (allC n m k).flatMap fun p => (List.range (n - p.sum)).filterMap fun s => if k + 1 < m || decide (p.sum + (s + 1) = n) then some (p ++ [s + 1]) else none
def cutsC (n m : Nat) : List (List Nat) := if m = 0 then (if n = 0 then [[]] else []) else allC n m m
def stpB (t : Bool) : List Int := if t then [1, -1] else [1]
def allL (n : Nat) : Nat → List (List Int)
  | 0 => [[]]
  | k + 1 => (allL n k).flatMap fun o => (List.range n).map fun i : Nat => (i : Int) :: o
theorem allL_mem (n : Nat) : ∀ (ns : List Int), (∀ x ∈ ns, 0 ≤ x ∧ x < n) → ns ∈ allL n ns.length
  | [], _ => List.mem_singleton.mpr rfl
  | x :: ns, h => by
    refine List.mem_flatMap.mpr ⟨ns, allL_mem n ns fun y hy => h y (List.mem_cons_of_mem _ hy), List.mem_map.mpr ⟨x.toNat, List.mem_range.mpr ?_, ?_⟩⟩
    · have := h x List.mem_cons_self; omega
    · have := h x List.mem_cons_self
      rw [Int.toNat_of_nonneg this.1]
def fewB (src : List Int) (t : Bool) : Bool := (List.range (stretch (stpB t) src).length).all fun m => (allO m t m).all fun b => (cutsC src.length m).all fun l => !decide (pmS b l = src)
def nodB : List Int → Bool
  | [] => true
  | x :: r => !r.contains x && nodB r
theorem nodB_of : ∀ {ns : List Int}, ns.Nodup → nodB ns = true
  | [], _ => rfl
  | x :: r, h => by
    obtain ⟨h1, h2⟩ := List.nodup_cons.mp h
    unfold nodB
    rw [nodB_of h2]
    simp [h1]
theorem few_all : ∀ n, n ≤ 4 → ∀ t : Bool, (allL n n).all (fun src => !nodB src || fewB src t) = true := by decide +kernel
theorem few_no {src : List Int} (h : Src src) (hn : src.length ≤ 4) {t : Bool} {m : Nat} (hm : m < (stretch (stpB t) src).length) {b : List Int} (hb : b ∈ allO m t m) {l : List Nat} (hl : l ∈ cutsC src.length m) : pmS b l ≠ src := fun e => by
  have z := List.all_eq_true.mp (few_all src.length hn t) src (allL_mem _ _ fun x hx => h.lt hx)
  rw [nodB_of h.nodup] at z
  have z : fewB src t = true := by simpa using z
  unfold fewB at z
  have z := List.all_eq_true.mp (List.all_eq_true.mp (List.all_eq_true.mp z m (List.mem_range.mpr hm)) b hb) l hl
  rw [e] at z
  simp at z
theorem stretch_le (sp : List Int) (src : List Int) : (stretch sp src).length ≤ src.length := by
  have fl := stretch_flat sp src
  have nz := stretch_ne sp src
  have : ∀ L : List (List Int), (∀ st ∈ L, st ≠ []) → L.length ≤ L.flatten.length := by
    intro L
    induction L with
    | nil => intro _; simp
    | cons a L ih =>
      intro h
      have := ih fun s hs => h s (List.mem_cons_of_mem _ hs)
      have p := List.length_pos_iff.mpr (h a List.mem_cons_self)
      rw [List.length_cons, List.flatten_cons, List.length_append]
      omega
  have := this _ nz
  rw [fl] at this
  exact this

/-! ### a list of lists that nobody else has -/
structure OwnL (H0 Hs H : Hp) (P : Addr) (cs : List (Addr × List Int)) : Prop where
  p0 : H0 P = none
  ps : Hs P = none
  pH : H P = some (.lst (cs.map fun c => .ref c.1))
  cs0 : ∀ c ∈ cs, H0 c.1 = none ∧ Hs c.1 = none ∧ H c.1 = some (.lst (c.2.map V.int))
  nd : (cs.map (·.1)).Nodup
  nP : ∀ c ∈ cs, c.1 ≠ P
theorem OwnL.grow {H0 Hs H Hs' H' : Hp} {P : Addr} {cs : List (Addr × List Int)} (h : OwnL H0 Hs H P cs) (g : Grow Hs H Hs' H') : OwnL H0 Hs' H' P cs :=
  ⟨h.p0, g.n _ _ h.pH h.ps, g.e.lst h.pH, fun c hc => let ⟨a, b, d⟩ := h.cs0 c hc; ⟨a, g.n _ _ d b, g.e.lst d⟩, h.nd, h.nP⟩
/-- one more list -/
theorem OwnL.more {H0 Hs H : Hp} {P q : Addr} {cs : List (Addr × List Int)} {st : List Int} (h : OwnL H0 Hs H P cs) (q0 : H0 q = none) (qs : Hs q = none) (hq : H q = none) :
    OwnL H0 Hs (upd (upd H q (.lst (st.map V.int))) P (.lst (cs.map (fun c => .ref c.1) ++ [.ref q]))) P (cs ++ [(q, st)]) := by
  have nq : q ≠ P := fun e => by have := h.pH; rw [← e, hq] at this; cases this
  have nc : ∀ c ∈ cs, c.1 ≠ q := fun c hc e => by have := (h.cs0 c hc).2.2; rw [e, hq] at this; cases this
  refine ⟨h.p0, h.ps, by rw [upd_same, List.map_append]; rfl, fun c hc => ?_, ?_, fun c hc => ?_⟩
  · rcases List.mem_append.mp hc with hc | hc
    · obtain ⟨a, b, d⟩ := h.cs0 c hc
      exact ⟨a, b, by rw [upd_ne (h.nP c hc), upd_ne (nc c hc)]; exact d⟩
    · rw [List.mem_singleton.mp hc]
      exact ⟨q0, qs, by rw [upd_ne nq, upd_same]⟩
  · rw [List.map_append, List.nodup_append]
    refine ⟨h.nd, by simp, fun a ha b hb e => ?_⟩
    obtain ⟨c, hc, rfl⟩ := List.mem_map.mp ha
    rw [List.map_singleton, List.mem_singleton] at hb
    exact nc c hc (e.trans hb)
  · rcases List.mem_append.mp hc with hc | hc
    · exact h.nP c hc
    · rw [List.mem_singleton.mp hc]; exact nq
/-- the last list is longer -/
theorem OwnL.last {H0 Hs H : Hp} {P : Addr} {cs : List (Addr × List Int)} {c : Addr × List Int} (h : OwnL H0 Hs H P (cs ++ [c])) (e : Int) :
    OwnL H0 Hs (upd H c.1 (.lst (c.2.map V.int ++ [.int e]))) P (cs ++ [(c.1, c.2 ++ [e])]) := by
  have nc : ∀ d ∈ cs, d.1 ≠ c.1 := fun d hd z => by
    have := h.nd
    rw [List.map_append, List.nodup_append] at this
    exact this.2.2 d.1 (List.mem_map_of_mem hd) c.1 (by simp) z
  have mc : c ∈ cs ++ [c] := by simp
  refine ⟨h.p0, h.ps, ?_, fun d hd => ?_, ?_, fun d hd => ?_⟩
  · rw [upd_ne (Ne.symm (h.nP c mc)), h.pH]
    simp
  · rcases List.mem_append.mp hd with hd | hd
    · obtain ⟨a, b, z⟩ := h.cs0 d (List.mem_append_left _ hd)
      exact ⟨a, b, by rw [upd_ne (nc d hd)]; exact z⟩
    · rw [List.mem_singleton.mp hd]
      obtain ⟨a, b, z⟩ := h.cs0 c mc
      exact ⟨a, b, by rw [upd_same, List.map_append]; rfl⟩
  · have := h.nd
    rw [List.map_append] at this ⊢
    exact this
  · rcases List.mem_append.mp hd with hd | hd
    · exact h.nP d (List.mem_append_left _ hd)
    · rw [List.mem_singleton.mp hd]; exact h.nP c mc
/-- all of it becomes a datum -/
theorem OwnL.share {K : PySem.W.Frag} {Hs0 H0 Hs H : Hp} {σ : L2.St} {γ : Gam} {P : Addr} {cs : List (Addr × List Int)} (hγ : ShG γ) (h : OwnL H0 Hs H P cs) (S : Sl K Hs0 H0 Hs H σ γ) :
    ∃ Hb, Same Hs Hb ∧ Sl K Hs0 H0 Hb H σ γ ∧ Rep K Hb (.ref P) (.lst (cs.map fun c => .lst (intsD c.2))) := by
  have key : ∀ (ds : List (Addr × List Int)) (Ha : Hp), (∀ c ∈ ds, c ∈ cs) → Sl K Hs0 H0 Ha H σ γ → Ha P = none → (∀ c ∈ cs, Ha c.1 = none ∨ Ha c.1 = some (.lst (c.2.map V.int))) →
      ∃ Hb, Same Ha Hb ∧ Sl K Hs0 H0 Hb H σ γ ∧ Hb P = none ∧ ∀ c ∈ ds, Hb c.1 = some (.lst (c.2.map V.int)) := by
    intro ds
    induction ds with
    | nil => intro Ha _ Sa hp _; exact ⟨Ha, .refl _, Sa, hp, fun _ h => by cases h⟩
    | cons c ds ih =>
      intro Ha hm Sa hp hor
      have hc := hm c List.mem_cons_self
      obtain ⟨a1, a2, a3⟩ := h.cs0 c hc
      have nP : P ≠ c.1 := Ne.symm (h.nP c hc)
      rcases hor c hc with hn | hs
      · have Sb := Sa.shareF hγ a1 hn a3 (fun ps z => by cases z)
        obtain ⟨Hb, b1, b2, b3, b4⟩ := ih (upd Ha c.1 (.lst (c.2.map V.int))) (fun d hd => hm d (List.mem_cons_of_mem _ hd)) Sb (by rw [upd_ne nP]; exact hp) fun d hd => by
          by_cases hdc : d.1 = c.1
          · right
            rw [hdc, upd_same]
            have := (h.cs0 d hd).2.2
            rw [hdc, a3] at this
            exact this
          · rw [upd_ne hdc]; exact hor d hd
        refine ⟨Hb, (sameNew hn).trans b1, b2, b3, fun d hd => ?_⟩
        rcases List.mem_cons.mp hd with rfl | hd
        · exact b1 _ _ upd_same
        · exact b4 d hd
      · obtain ⟨Hb, b1, b2, b3, b4⟩ := ih Ha (fun d hd => hm d (List.mem_cons_of_mem _ hd)) Sa hp hor
        refine ⟨Hb, b1, b2, b3, fun d hd => ?_⟩
        rcases List.mem_cons.mp hd with rfl | hd
        · exact b1 _ _ hs
        · exact b4 d hd
  obtain ⟨Hb, b1, b2, b3, b4⟩ := key cs Hs (fun _ h => h) S h.ps fun c hc => .inl (h.cs0 c hc).2.1
  refine ⟨upd Hb P (.lst (cs.map fun c => .ref c.1)), b1.trans (sameNew b3), b2.shareF hγ h.p0 b3 h.pH (fun ps z => by cases z), .lst upd_same ?_⟩
  have : ∀ ds : List (Addr × List Int), (∀ c ∈ ds, c ∈ cs) → RepL K (upd Hb P (.lst (cs.map fun c => .ref c.1))) (ds.map fun c => .ref c.1) (ds.map fun c => .lst (intsD c.2)) := by
    intro ds
    induction ds with
    | nil => intro _; exact .nil
    | cons c ds ih =>
      intro hm
      refine .cons (.lst (vs := c.2.map V.int) ?_ .ofInts) (ih fun d hd => hm d (List.mem_cons_of_mem _ hd))
      have hc := hm c List.mem_cons_self
      rw [upd_ne (h.nP c hc)]
      exact b4 c hc
  exact this cs fun _ h => h
theorem at_lastR (M : List (Addr × List Int)) (c : Addr × List Int) : atI ((M ++ [c]).map fun c => V.ref c.1) (-1) = some (V.ref c.1) := by
  unfold atI
  have z : ixN ((M ++ [c]).map fun c => V.ref c.1).length (-1) = some M.length := by
    unfold ixN
    simp
    omega
  rw [z]
  simp
theorem addS_snoc (sp : List Int) (M : List (List Int)) (st : List Int) (e : Int) : addS sp (M ++ [st]) e = if goesS sp st e = true then M ++ [st ++ [e]] else M ++ [st] ++ [[e]] := by
  unfold addS
  rw [show (M ++ [st]).getLast? = some st from by simp]
  dsimp only
  rw [List.dropLast_concat]
abbrev s_stretches : Stmt := top 11
abbrev N_stretches : List Str := ["source", "steps", "found", "entry"]
abbrev P_stretches : List Str := ["source", "steps"]
theorem sc_stretches : FnScope N_stretches P_stretches (defScope s_stretches) := ⟨rfl, rfl, rfl, by decide +kernel, rfl, by decide +kernel, by decide +kernel⟩
def pre_stretches : List D → Prop := fun ds => ∃ (src sp : List Int), ds = [.tup (intsD src), .tup (intsD sp)] ∧ src.length ≤ 1000
def post_stretches : List D → D → Prop := fun ds d => ∀ (src sp : List Int), ds = [.tup (intsD src), .tup (intsD sp)] → d = .lst ((stretch sp src).map fun st => .lst (intsD st))
set_option maxHeartbeats 4000000 in
theorem df_stretches {P : Program} {w : World} {K : PySem.W.Frag} {mg : Str → Option Value} {base : Heap} {fd : FuncData} {f : Addr} (F : FunD K "stretches" "stretches" (defArgs s_stretches) (defBody s_stretches) (defScope s_stretches) [] [] f fd) (hm : mg "stretches" = some (.ref f)) (g_goes_on : Df P w K mg base "goes_on" 1 P_goes_on 3 pre_goes_on post_goes_on) :
    Df P w K mg base "stretches" 2 P_stretches 2 pre_stretches post_stretches := by
  refine df_mk F hm sc_stretches (fun _ _ _ _ _ _ us hl => match us, hl with | [_, _], _ => rfl) fun cdv A outer s H E hr ds hl hp => ⟨_,
    (pss_cons (ps_set (i := 2) sc_stretches.nd rfl (by first | exact Or.inl rfl | exact Or.inr rfl) (pe_lst pa_nil))
    (pss_cons (ps_for PassesOwn.never rfl (pi_tupK K rfl (pv 0)) (pg_name (i := 3) sc_stretches.nd rfl (by first | exact Or.inl rfl | exact Or.inr rfl)) (pss_one (ps_if (PW.pt (pw_and (pt_truthK K rfl (pv 2) (by intro _; rfl)) (pw_and1 (pt_val (pe_dfK K rfl g_goes_on hr (by decide) (by rfl) (pa_cons (pe_ix (ix_listK K rfl) (pv 2) (pe_un un_neg pe_int) (fun _ _ => rfl)) (pa_cons (pv 3) (pa_cons (pv 1) pa_nil)))))))) (pss_one (ps_expr (pe_bmK K rfl PySem.F.plainAttrs_list PySem.F.slot_list_append PySem.F.type_list_append mt_append (pe_ix (ix_listK K rfl) (pv 2) (pe_un un_neg pe_int) (fun _ _ => rfl)) (pa_cons (pv 3) pa_nil)))) (pss_one (ps_expr (pe_bmK K rfl PySem.F.plainAttrs_list PySem.F.slot_list_append PySem.F.type_list_append mt_append (pv 2) (pa_cons (pe_lst (pa_cons (pv 3) pa_nil)) pa_nil)))))))
    (pss_one (ps_ret (pv 2))))), ?_⟩
  obtain ⟨a0, a1, rfl⟩ : ∃ a0 a1, ds = [a0, a1] := match ds, hl with | [_, _], _ => ⟨_, _, rfl⟩
  obtain ⟨src, sp, e, hl⟩ := hp
  cases e
  refine sw_seq (sw_asgN ?_)
  walk_at "e"
  intro Hs0 H0 Hs H σ E S kn kr kb kc
  obtain ⟨vP, hvP, P', vs0, rfl, hP1, hP2, rP⟩ := S.ok 2 _ rfl
  cases rP
  have hP0 := S.fr 2 _ P' rfl rfl hvP
  have hσ : ∃ a b c, σ = [a, b, some (.ref P'), c] := by
    have hl := S.len
    match σ, hl, hvP with
    | [a, b, x, c], _, h => cases h; exact ⟨a, b, c, rfl⟩
  obtain ⟨pa, pb, px, rfl⟩ := hσ
  have S1 : Sl K Hs0 H0 Hs H [pa, pb, some (.ref P'), none] [some (.sh (.tup (intsD src))), some (.sh (.tup (intsD sp))), none, none] := (S.drop 2 (some (.ref P'))).drop 3 none
  have S1' : Sl K Hs0 H0 Hs H [pa, pb, some (.ref P'), px] [some (.sh (.tup (intsD src))), some (.sh (.tup (intsD sp))), none, none] := S.drop 2 (some (.ref P'))
  have shG : ShG [some (.sh (.tup (intsD src))), some (.sh (.tup (intsD sp))), none, none] := fun i s h => by
    match i, h with
    | 0, h => cases h; exact ⟨_, rfl⟩
    | 1, h => cases h; exact ⟨_, rfl⟩
    | 2, h => cases h
    | 3, h => cases h
    | i + 4, h => simp at h
  have hi : IW K (iTup K (tVar 0)) [some (.sh (.tup (intsD src))), some (.sh (.tup (intsD sp))), none, none] (fun ds => ds = intsD src) := by
    refine iw_tup ?_
    exact ew_var (d := .tup (intsD src)) rfl ⟨_, rfl, rfl⟩
  refine for_raw (E := { E with nx := fun σ' H' => tRet (tVar 2) E σ' H' }) hi S1' fun Hs1 H1 ds g1 hds => ?_
  subst hds
  refine ⟨fun i Hs' H' σ' => Same Hs1 Hs' ∧ ∃ (cs : List (Addr × List Int)) (x : Option V), σ' = [pa, pb, some (.ref P'), x] ∧ Sl K Hs0 H0 Hs' H' [pa, pb, some (.ref P'), none] [some (.sh (.tup (intsD src))), some (.sh (.tup (intsD sp))), none, none] ∧ OwnL H0 Hs' H' P' cs ∧ cs.map (·.2) = stretch sp (src.take i) ∧ cs.length ≤ i ∧ (∀ c ∈ cs, c.2.length ≤ i ∧ 1 ≤ c.2.length), ?_, ?_, ?_, ?_⟩
  · exact ⟨.refl _, [], px, rfl, S1.grow g1, OwnL.grow (cs := []) ⟨hP0, hP1, hP2, (fun _ h => by cases h), .nil, (fun _ h => by cases h)⟩ g1, rfl, Nat.le_refl _, fun _ h => by cases h⟩
  · rintro i Hs' H' σ' ⟨e1, cs, x, rfl, S2, _⟩
    exact ⟨e1, S2.b⟩
  · rintro i d Hs' H' σ' Hs2 H2 x hd ⟨e1, cs, x1, rfl, S2, ow, hst, hlen, hlens⟩ g2 rx
    rw [List.getElem?_map] at hd
    obtain ⟨e, he, rfl⟩ := Option.map_eq_some_iff.mp hd
    cases rx
    have hi : i < src.length := (List.getElem?_eq_some_iff.mp he).1
    have nxt : stretch sp (src.take (i + 1)) = addS sp (stretch sp (src.take i)) e := by
      rw [List.take_add_one, he]
      exact stretch_snoc _ _ _
    rw [← hst] at nxt
    have S3 := S2.grow g2
    have ow3 := ow.grow g2
    have other : ∀ (Hs4 H4 : Hp), Same Hs2 Hs4 → Sl K Hs0 H0 Hs4 H4 [pa, pb, some (.ref P'), none] [some (.sh (.tup (intsD src))), some (.sh (.tup (intsD sp))), none, none] → OwnL H0 Hs4 H4 P' cs → addS sp (cs.map (·.2)) e = cs.map (·.2) ++ [[e]] →
        ∀ (N : L2.St → Hp → Prop), (∀ σ4 H5, (∃ Hs5, Same Hs1 Hs5 ∧ ∃ (cs : List (Addr × List Int)) (x : Option V), σ4 = [pa, pb, some (.ref P'), x] ∧ Sl K Hs0 H0 Hs5 H5 [pa, pb, some (.ref P'), none] [some (.sh (.tup (intsD src))), some (.sh (.tup (intsD sp))), none, none] ∧ OwnL H0 Hs5 H5 P' cs ∧ cs.map (·.2) = stretch sp (src.take (i + 1)) ∧ cs.length ≤ i + 1 ∧ (∀ c ∈ cs, c.2.length ≤ i + 1 ∧ 1 ≤ c.2.length)) → N σ4 H5) →
        (tBM K "list" rAppend (tVar 2) (tCons (tLst (tCons (tVar 3) tNil)) tNil)) [pa, pb, some (.ref P'), some (.int e)] H4 (fun _ H5 => N [pa, pb, some (.ref P'), some (.int e)] H5) := by
      intro Hs4 H4 same S4 ow4 hadd N hN
      refine ⟨.ref P', rfl, .inl ⟨rfl, _, .of ow4.pH⟩, .int e, rfl, by show (1 : Nat) ≤ sizeLine; rw [sizeLine_eq]; decide, fun q hq => ⟨P', cs.map (fun c => .ref c.1), .ref q, rfl, rfl, ?_, ?_, hN _ _ ?_⟩⟩
      · have nq : P' ≠ q := fun z => by have := ow4.pH; rw [z, hq] at this; cases this
        rw [upd_ne nq]; exact ow4.pH
      · rw [List.length_map, sizeLine_eq]; omega
      · have h0 := SameT.free S4.gr.e hq
        have hs := S4.b.free hq
        have nq : P' ≠ q := fun z => by have := ow4.pH; rw [z, hq] at this; cases this
        have ow5 := ow4.more (st := [e]) h0 hs hq
        refine ⟨Hs4, (e1.trans g2.s).trans same, cs ++ [(q, [e])], _, rfl, ?_, ow5, ?_, ?_, ?_⟩
        · exact (S4.updF (o := .lst [.int e]) shG h0 hs (fun ps z => by rw [hq] at z; cases z)).updF (a := P') (o := .lst (cs.map (fun c => .ref c.1) ++ [.ref q])) shG hP0 ow4.ps (fun ps z => by rw [upd_ne nq, ow4.pH] at z; cases z)
        · rw [nxt, hadd, List.map_append]; rfl
        · rw [List.length_append]; simp; omega
        · intro c hc
          rcases List.mem_append.mp hc with hc | hc
          · have := hlens c hc; omega
          · rw [List.mem_singleton.mp hc]; simp
    rcases List.eq_nil_or_concat cs with z | ⟨M, c, z⟩
    · subst z
      refine ⟨.ref P', rfl, false, .inl ⟨[], .of ow3.pH, rfl⟩, ?_⟩
      exact other Hs2 H2 (.refl _) S3 ow3 rfl _ fun _ _ h => h
    · rw [List.concat_eq_append] at z
      subst z
      have mc : c ∈ M ++ [c] := by simp
      obtain ⟨c0, cS, cH⟩ := ow3.cs0 c mc
      obtain ⟨k1, k2⟩ := hlens c mc
      refine ⟨.ref P', rfl, true, .inl ⟨_, .of ow3.pH, by rw [List.map_append]; cases M <;> rfl⟩, ?_⟩
      obtain ⟨vb, hvb, rb⟩ := S3.ok 1 _ rfl
      have Sx := S3.shareF shG c0 cS cH (fun ps z => by cases z)
      refine ⟨.ref P', rfl, 1, rfl, P', _, -1, .ref c.1, rfl, rfl, .of ow3.pH, at_lastR M c, .int e, rfl, vb, hvb, upd Hs2 c.1 (.lst (c.2.map V.int)), [.lst (intsD c.2), .int e, .tup (intsD sp)], Sx.tb, Sx.b, .cons (.lst upd_same .ofInts) (.cons (.int e) (.cons (Rep.mono (sameNew cS) rb) .nil)), rfl, ⟨c.2, e, sp, rfl, k2, by omega⟩, fun Hs3 H3 v d g3 r3 hd3 => ?_⟩
      have hd3 : d = .bl (goesS sp c.2 e) := hd3 c.2 e sp rfl
      subst hd3
      cases r3
      have g4 : Grow Hs2 H2 (del Hs3 c.1) H3 := grow_thaw cS cH (fun _ => Sx.tb) g3
      have S4 := S3.grow g4
      have ow4 := ow3.grow g4
      obtain ⟨c0', cS', cH'⟩ := ow4.cs0 c mc
      have ads := addS_snoc sp (M.map (·.2)) c.2 e
      have em : (M ++ [c]).map (·.2) = M.map (·.2) ++ [c.2] := by rw [List.map_append]; rfl
      refine ⟨_, rfl, ?_⟩
      cases hb : goesS sp c.2 e with
      | true =>
        rw [hb, if_pos rfl] at ads
        refine ⟨.ref P', rfl, 1, rfl, P', _, -1, .ref c.1, rfl, rfl, .of ow4.pH, at_lastR M c, .inl ⟨rfl, _, .of cH'⟩, .int e, rfl, c.1, _, .int e, rfl, rfl, cH', by rw [List.length_map, sizeLine_eq]; omega, ?_⟩
        refine ⟨del Hs3 c.1, (e1.trans g2.s).trans g4.s, M ++ [(c.1, c.2 ++ [e])], _, rfl, S4.updF (a := c.1) (o := .lst (c.2.map V.int ++ [.int e])) shG c0 cS' (fun ps z => by rw [cH'] at z; cases z), ow4.last e, ?_, ?_, ?_⟩
        · rw [nxt, em, ads, List.map_append]; rfl
        · rw [List.length_append] at hlen ⊢
          simp at hlen ⊢
          omega
        · intro b hb
          rcases List.mem_append.mp hb with hb | hb
          · have := hlens b (List.mem_append_left _ hb); omega
          · rw [List.mem_singleton.mp hb]
            simp
            omega
      | false =>
        rw [hb, if_neg Bool.false_ne_true] at ads
        exact other _ H3 g4.s S4 ow4 (by rw [em]; exact ads) _ fun _ _ h => h
  · rintro Hs' H' σ' ⟨e1, cs, x, rfl, S2, ow, hst, _⟩
    rw [List.length_map, List.take_length] at hst
    obtain ⟨Hb, b1, b2, b3⟩ := ow.share shG S2
    refine ⟨.ref P', rfl, kr Hb H' _ _ b2.gr b3 ?_⟩
    intro src' sp' e
    injection e with q1 e
    injection e with q2 _
    injection q1 with q1
    injection q2 with q2
    rw [← intsD_inj q1, ← intsD_inj q2, ← hst, List.map_map]
    rfl

abbrev nD (n : Nat) : D := .int (n : Int)
def pcD (p : Nat × Nat) : D := pairD ((p.1 : Int), (p.2 : Int))
/-- the dict of the numbers of the first so many pieces -/
def numK (P : List (Nat × Nat)) (i : Nat) : List (Key × D) := (List.range i).map fun k => (.inl ((P.getD k (0, 0)).1 : Int), nD (k + 1))
theorem numK_succ (P : List (Nat × Nat)) (i : Nat) : numK P (i + 1) = numK P i ++ [(.inl ((P.getD i (0, 0)).1 : Int), nD (i + 1))] := by
  unfold numK
  rw [List.range_succ, List.map_append]; rfl
theorem getD_fst {P : List (Nat × Nat)} {k : Nat} (h : k < P.length) : (P.getD k (0, 0)).1 = (P.map (·.1))[k]'(by rw [List.length_map]; exact h) := by
  rw [List.getD_eq_getElem?_getD, List.getElem?_eq_getElem h, List.getElem_map]; rfl
theorem numK_put {P : List (Nat × Nat)} (nd : (P.map (·.1)).Nodup) {i : Nat} (hi : i < P.length) : putD (numK P i) (.inl ((P.getD i (0, 0)).1 : Int)) (nD (i + 1)) = numK P (i + 1) := by
  rw [numK_succ]
  unfold putD
  rw [if_neg]
  intro h
  obtain ⟨kv, hkv, e⟩ := List.any_eq_true.mp h
  obtain ⟨k, hk, rfl⟩ := List.mem_map.mp hkv
  have hk := List.mem_range.mp hk
  have e := Int.ofNat.inj (Sum.inl.inj (of_decide_eq_true e))
  rw [getD_fst (by omega), getD_fst hi] at e
  have := (List.getElem_inj nd).mp e
  omega
theorem numK_val {P : List (Nat × Nat)} (nd : (P.map (·.1)).Nodup) {i j : Nat} {p : Nat × Nat} (hj : P[j]? = some p) (hi : j < i) (hiP : i ≤ P.length) : valD (numK P i) (.inl (p.1 : Int)) = some (nD (j + 1)) := by
  have hl := (List.getElem?_eq_some_iff.mp hj).1
  have ep : (P.getD j (0, 0)).1 = p.1 := by rw [List.getD_eq_getElem?_getD, hj]; rfl
  have key : ∀ k, k < i → (decide ((Sum.inl ((P.getD k (0, 0)).1 : Int) : Key) = .inl (p.1 : Int)) = true ↔ k = j) := fun k hk => by
    rw [decide_eq_true_eq]
    constructor
    · intro e
      have e := Int.ofNat.inj (Sum.inl.inj e)
      rw [← ep, getD_fst (by omega), getD_fst hl] at e
      exact (List.getElem_inj nd).mp e
    · rintro rfl
      rw [ep]
  unfold valD numK
  rw [List.find?_map]
  have : (List.range i).find? ((fun kv : Key × D => decide (kv.1 = .inl (p.1 : Int))) ∘ fun k => ((.inl ((P.getD k (0, 0)).1 : Int), nD (k + 1)) : Key × D)) = some j := by
    rw [List.find?_eq_some_iff_getElem]
    refine ⟨(key j hi).mpr rfl, j, by rw [List.length_range]; exact hi, by rw [List.getElem_range], fun m hm => ?_⟩
    have hm2 : (List.range i)[m]'(by rw [List.length_range]; omega) = m := List.getElem_range _
    rw [hm2]
    have ne : ¬ m = j := by omega
    have := fun z => ne ((key m (by omega)).mp z)
    simpa using this
  rw [this]; rfl
theorem at_headS {st : List Int} (h : st ≠ []) : atI (intsD st) 0 = some (.int (st.getD 0 0)) := by
  refine atI_nat (j := 0) ?_
  have : 0 < st.length := List.length_pos_iff.mpr h
  rw [List.getElem?_map, List.getD_eq_getElem?_getD, List.getElem?_eq_getElem this]; rfl
theorem stpB_one (b : Bool) : ∀ d ∈ stpB b, d = 1 ∨ d = -1 := by cases b <;> simp [stpB]
def blocksD (b : Bool) (src : List Int) (P : List (Nat × Nat)) : D := .tup [exD ((stretch (stpB b) src).map (blkS P)), .tup ((P.map (·.2)).map nD)]
abbrev kG_blocks_of : Nat := 0
abbrev s_blocks_of : Stmt := top 12
abbrev N_blocks_of : List Str := ["source", "turned", "found", "pieces", "number", "blocks", "at", "least", "_", "stretch", "length"]
abbrev P_blocks_of : List Str := ["source", "turned"]
theorem sc_blocks_of : FnScope N_blocks_of P_blocks_of (defScope s_blocks_of) := ⟨rfl, rfl, rfl, by decide +kernel, rfl, by decide +kernel, by decide +kernel⟩
def pre_blocks_of : List D → Prop := fun ds => ∃ (src : List Int) (b : Bool), ds = [.tup (intsD src), .bl b] ∧ src.length ≤ 1000
def post_blocks_of : List D → D → Prop := fun ds d => ∀ (src : List Int) (b : Bool), ds = [.tup (intsD src), .bl b] → Src src ∧ (stretch (stpB b) src).length ≤ 12 ∧ ∃ P, Pcs (stretch (stpB b) src) src.length P ∧ d = blocksD b src P
def xpost_blocks_of (K : PySem.W.Frag) : List D → XD → Prop := fun ds x => ∀ (src : List Int) (b : Bool), ds = [.tup (intsD src), .bl b] → (¬ Src src ∧ x = badX K) ∨ (Src src ∧ 12 < (stretch (stpB b) src).length ∧ x = largeX K)
set_option maxHeartbeats 4000000 in
theorem df_blocks_of {P : Program} {w : World} {K : PySem.W.Frag} {mg : Str → Option Value} {base : Heap} {fd : FuncData} (F : FunD K "blocks_of" "blocks_of" (defArgs s_blocks_of) (defBody s_blocks_of) (defScope s_blocks_of) [] [("turned", V.bl false)] (He.fAd K ("blocks_of", none)) fd) (hm : mg "blocks_of" = some (.ref (He.fAd K ("blocks_of", none)))) (TB : TBof K mg base "blocks_of") (hT : Tof K "blocks_of" ∈ Tabs.T) (n_enumerate : mg "enumerate" = none) (n_len : mg "len" = none) (n_min : mg "min" = none) (n_sorted : mg "sorted" = none) (n_tuple : mg "tuple" = none) (m_Exchange : mg "Exchange" = some (.ref (He.ga K "Exchange"))) (exm_TooLarge_TooLarge : PySem.W.exmOne K (.ref (He.ga K "TooLarge")) (.ref (He.ga K "TooLarge")) = some true) (exm_BadExchange_TooLarge : PySem.W.exmOne K (.ref (He.ga K "BadExchange")) (.ref (He.ga K "TooLarge")) = some false) (exm_BadExchange_BadExchange : PySem.W.exmOne K (.ref (He.ga K "BadExchange")) (.ref (He.ga K "BadExchange")) = some true) (kit_TooLarge_BadBook : PySem.W.kitOne K (.ref (He.ga K "TooLarge")) (.ref (He.ga K "BadBook")) = some true) (kit_TooLarge_BadExchange : PySem.W.kitOne K (.ref (He.ga K "TooLarge")) (.ref (He.ga K "BadExchange")) = some false) (kit_BadExchange_TwiceError : PySem.W.kitOne K (.ref (He.ga K "BadExchange")) (.ref (He.ga K "TwiceError")) = some true) (kit_BadExchange_BadBook : PySem.W.kitOne K (.ref (He.ga K "BadExchange")) (.ref (He.ga K "BadBook")) = some false) (kit_Exchange_Exchange : PySem.W.kitOne K (.ref (He.ga K "Exchange")) (.ref (He.ga K "Exchange")) = some true) (xc_BadExchange : excCB K (He.ga K "BadExchange") = true) (rz_BadExchange : StX.rz0B K "BadExchange" = true) (iso_Exchange : isoB K (He.ga K "Exchange") = true) (g_check_map : DfX P w K mg base "check_map" 1 P_check_map 1 pre_check_map post_check_map (xpost_check_map K)) (g_stretches : Df P w K mg base "stretches" 2 P_stretches 2 pre_stretches post_stretches) (g_Exchange___init__ : MkX P w K mg base "Exchange" 3 P_Exchange___init__ 1 pre_Exchange___init__ post_Exchange___init__ (xpost_Exchange___init__ K)) :
    DfXk P w K mg base "blocks_of" 5 P_blocks_of 2 ([V.bl false] : List V) 1 (["turned"] : List Str) pre_blocks_of post_blocks_of (xpost_blocks_of K) := by
  refine df_mkXkT F hm sc_blocks_of (F.binds0 1 (by simp) rfl fun D doc pm an cdv ct us ks h1 h2 => match us, h1, ks, h2 with | [_], _, [_], _ => ⟨_, _, _, _, _, _, rfl, rfl, rfl⟩) (.inr (kbn_all F (by simp) fun D doc pm an cdv ct us ws h1 h2 => match us, h1, ws, h2 with | [_], _, [_], _ => rfl)) fun A outer s H E hr ds hl hp => ⟨_,
    (pss_cons (ps_expr (pe_dfX K rfl g_check_map hr (by decide) (by rfl) (takes_of rfl rfl rfl rfl) (pa_cons (pv 0) pa_nil)))
    (pss_cons (ps_set (i := 2) sc_blocks_of.nd rfl (by first | exact Or.inl rfl | exact Or.inr rfl) (pe_dfK K rfl g_stretches hr (by decide) (by rfl) (pa_cons (pv 0) (pa_cons (pe_ifExp (pt_truthK K rfl (pv 1) (by intro _; rfl)) (pe_tupF (pa_cons pe_int (pa_cons (pe_un un_neg pe_int) pa_nil))) (pe_tupF (pa_cons pe_int pa_nil))) pa_nil))))
    (pss_cons (ps_set (i := 3) sc_blocks_of.nd rfl (by first | exact Or.inl rfl | exact Or.inr rfl) (pe_callB (cr_srtPOK K rfl) (by rfl) n_sorted (by decide +kernel) (pa_cons (pe_lc (own := [("stretch", 9)]) rfl sc_blocks_of.nd (pi_listK K rfl (pv 2)) (blkOk_by (N := N_blocks_of) (sc := defScope s_blocks_of) (by decide +kernel)) (fun _ _ _ _ _ => (pg_name (i := 9) sc_blocks_of.nd rfl (by first | exact Or.inl rfl | exact Or.inr rfl))) (fun _ _ _ _ _ => pts_nil) (fun _ _ _ _ _ => (pe_tupF (pa_cons (pe_callB (cr_minK K rfl rfl) (by rfl) n_min (by decide +kernel) (pa_cons (pv 9) pa_nil)) (pa_cons (pe_callB (call_lenK K rfl) (by rfl) n_len PySem.boot_len (pa_cons (pv 9) pa_nil)) pa_nil))))) pa_nil)))
    (pss_cons (ps_set (i := 4) sc_blocks_of.nd rfl (by first | exact Or.inl rfl | exact Or.inr rfl) (pe_dc (own := [("at", 6), ("least", 7), ("_", 8)]) rfl sc_blocks_of.nd (pi_enumK K rfl (by rfl) n_enumerate (pa_cons (pv 3) pa_nil)) (blkOk_by (N := N_blocks_of) (sc := defScope s_blocks_of) (by decide +kernel)) (fun _ _ _ _ _ => (pg_tupK K rfl (n := 2) rfl (pgs_cons (pg_name (i := 6) sc_blocks_of.nd rfl (by first | exact Or.inl rfl | exact Or.inr rfl)) (pgs_cons (pg_tupK K rfl (n := 2) rfl (pgs_cons (pg_name (i := 7) sc_blocks_of.nd rfl (by first | exact Or.inl rfl | exact Or.inr rfl)) (pgs_cons (pg_name (i := 8) sc_blocks_of.nd rfl (by first | exact Or.inl rfl | exact Or.inr rfl)) pgs_nil))) pgs_nil)))) (fun _ _ _ _ _ => pts_nil) (fun _ _ _ _ _ => (pv 7)) (fun _ _ _ _ _ => (pe_op op_add (pv 6) pe_int))))
    (pss_cons (ps_lockF (ps_setLc (i := 5) (own := [("stretch", 9)]) rfl sc_blocks_of.nd rfl rfl (sw_true rfl rfl rfl (by decide +kernel)) (pi_listK K rfl (pv 2)) (blkOk_by (N := N_blocks_of) (sc := defScope s_blocks_of) (by decide +kernel)) (fun _ _ _ _ _ => (pg_name (i := 9) sc_blocks_of.nd rfl (by first | exact Or.inl rfl | exact Or.inr rfl))) (fun _ _ _ _ _ => pts_nil) (fun _ _ _ _ _ => (pe_ifExp (pt_cmpR op_lt (pe_ix (ix_listK K rfl) (pv 9) (pe_un un_neg pe_int) (fun _ _ => rfl)) (pe_ix (ix_listK K rfl) (pv 9) pe_int (fun _ _ => rfl)) (nomark _)) (pe_un un_neg (pe_dgetK hr.units (pv 4) (pe_ix (ix_listK K rfl) (pv 9) (pe_un un_neg pe_int) (fun _ _ => rfl)) (fun _ _ => rfl))) (pe_dgetK hr.units (pv 4) (pe_ix (ix_listK K rfl) (pv 9) pe_int (fun _ _ => rfl)) (fun _ _ => rfl))))))
    (pss_one (ps_ret (pe_tupF (pa_cons (pe_mkXK K rfl g_Exchange___init__ hr (by decide) (by rfl) m_Exchange (takes_of rfl rfl rfl rfl) (pa_cons (pv 5) pa_nil)) (pa_cons (pe_tupGF (pgen_gx (k := kG_blocks_of) (own := [("_", 8), ("length", 10)]) (hr.mono (by decide)) rfl sc_blocks_of.nd TB rfl ⟨blkOk_by (N := N_blocks_of) (sc := defScope s_blocks_of) (by decide +kernel), rfl, by decide +kernel, rfl⟩ (pi_listK K rfl (pv 3)) (fun _ _ _ _ _ _ _ _ hr2 => (pg_tupK K rfl (n := 2) rfl (pgs_cons (pg_name (i := 8) sc_blocks_of.nd rfl (by first | exact Or.inl rfl | exact Or.inr rfl)) (pgs_cons (pg_name (i := 10) sc_blocks_of.nd rfl (by first | exact Or.inl rfl | exact Or.inr rfl)) pgs_nil)))) (fun _ _ _ _ _ _ _ _ hr2 => pts_nil) (fun _ _ _ _ _ _ _ _ hr2 => (pv 10)) (by intro _; rfl)) (hr.mono (by decide)) (by rfl) n_tuple (by decide +kernel)) pa_nil)))))))))), fun Hs0 H0 hW => ?_⟩
  obtain ⟨a0, a1, rfl⟩ : ∃ a0 a1, ds = [a0, a1] := match ds, hl with | [_, _], _ => ⟨_, _, rfl⟩
  obtain ⟨src, b, e, few⟩ := hp
  cases e
  have one : ∀ (src' : List Int) (b' : Bool), [D.tup (intsD src), D.bl b] = [D.tup (intsD src'), D.bl b'] → src' = src ∧ b' = b := fun src' b' e => by
    injection e with e1 e
    injection e with e2 _
    injection e1 with e1
    injection e2 with e2
    exact ⟨(intsD_inj e1).symm, e2.symm⟩
  refine sx_seq (sx_drop (ex_call hW (ax_of ?_)))
  walk_at "e"
  refine call_x rfl ⟨src, rfl, few⟩ (fun d hd => ?_) fun x hx => ?_
  rotate_left
  · obtain ⟨no, rfl⟩ := hx src rfl
    intro src' b' e'
    obtain ⟨rfl, rfl⟩ := one _ _ e'
    exact .inl ⟨no, rfl⟩
  have sr := hd src rfl
  refine sx_seqW (sw_asg (ew_call (aw_cons (ew_var rfl (aw_cons (EW.mono (Φ := fun d => d = .tup (intsD (stpB b))) ?_ ?_))))))
  · refine ew_if ?_
    walk_at "e"
    refine ⟨fun h => ?_, fun h => ?_⟩
    · have h : b = true := h
      walk_at "e"
      rw [h]; rfl
    · have h : b = false := h
      walk_at "e"
      rw [h]; rfl
  rintro d rfl
  walk_at "e"
  refine call_ok rfl ⟨src, stpB b, rfl, few⟩ fun d hd => ?_
  obtain rfl := hd src (stpB b) rfl
  have run := fun st hst => stretch_run (stpB_one b) src st hst
  have nz := stretch_ne (stpB b) src
  have many := stretch_le (stpB b) src
  generalize hL : stretch (stpB b) src = L at *
  refine sx_seqW (sw_asg (ew_cb (aw_cons (ew_new (en_lcA (js := [9]) (fun st : List Int => .lst (intsD st)) pairD L (fun st => (loS st, (st.length : Int))) (by simp) (by show _ ≤ (1000000 : Nat); omega) ?_)))))
  walk_at "e"
  refine ⟨rfl, fun st hst => ?_, ?_⟩
  · walk_at "e"
    refine rwl_minL (List.length_pos_iff.mpr (nz st hst)) fun m m1 m2 => ?_
    walk_at "e"
    have g := run st hst
    have e1 : m = loS st := by
      have a := m2 _ (runS_lo g)
      have b := runS_le g _ m1
      omega
    rw [List.length_map, e1]; rfl
  refine aw_nil (rwl_new (rnl_sortPO fun qs qp srt => ?_))
  have pos : ∀ st ∈ L, 0 ≤ loS st := fun st hst => by
    have m : loS st ∈ src := by
      rw [← stretch_flat (stpB b) src, hL]
      exact List.mem_flatten.mpr ⟨st, hst, runS_lo (run st hst)⟩
    exact (sr.lt m).1
  obtain ⟨P, rfl, hPp, hPs⟩ : ∃ P : List (Nat × Nat), qs = P.map (fun p => ((p.1 : Int), (p.2 : Int))) ∧ P.Perm (L.map fun st => ((loS st).toNat, st.length)) ∧ P.Pairwise fun p q => p.1 ≤ q.1 := by
    refine ⟨qs.map fun q => (q.1.toNat, q.2.toNat), ?_, ?_, ?_⟩
    · rw [List.map_map]
      conv => lhs; rw [← List.map_id qs]
      refine List.map_congr_left fun q hq => ?_
      obtain ⟨st, hst, rfl⟩ := List.mem_map.mp (qp.mem_iff.mp hq)
      have := pos st hst
      simp; omega
    · have := qp.map fun q : Int × Int => (q.1.toNat, q.2.toNat)
      rw [List.map_map] at this
      exact this
    · rw [List.pairwise_map]
      refine srt.imp fun h => ?_
      omega
  have pc : Pcs L src.length P := by
    rw [← hL]
    exact pcs_of (stpB_one b) sr (by rw [hL]; exact hPp) hPs
  have ePD : (P.map (fun p : Nat × Nat => ((p.1 : Int), (p.2 : Int)))).map pairD = P.map pcD := by rw [List.map_map]; rfl
  rw [ePD]
  have lP := pc.len
  refine sx_seqW (sw_asgDc (js := [6] ++ (([7] ++ ([8] ++ [])) ++ [])) (by simp) ?_)
  walk_at "e"
  refine ⟨fun i acc => acc = numK P i, rfl, ?_, ?_⟩
  · rintro i d acc hd rfl
    obtain ⟨x, hx, rfl⟩ := enumD_get hd
    rw [List.getElem?_map] at hx
    obtain ⟨p, hp, rfl⟩ := Option.map_eq_some_iff.mp hx
    have hi := (List.getElem?_eq_some_iff.mp hp).1
    refine ⟨by unfold numK; rw [List.length_map, List.length_range]; show _ < (1000000 : Nat); omega, ?_⟩
    walk_at "e"
    unfold pcD pairD
    walk_at "e"
    walk_at "T"
    walk_at "e"
    refine ⟨.inl (p.1 : Int), rfl, ?_⟩
    have z := numK_put pc.nd hi
    rw [show P.getD i (0, 0) = p by rw [List.getD_eq_getElem?_getD, hp]; rfl] at z
    exact z
  rintro acc rfl
  rw [enumD_len, List.length_map]
  refine sx_seqW (sw_lockD 4 rfl (sw_lock0 (sw_asgN (en_lcA (js := [9]) (fun st : List Int => .lst (intsD st)) D.int L (blkS P) (by simp) (by show _ ≤ (1000000 : Nat); omega) ?_))))
  walk_at "e"
  refine ⟨rfl, fun st hst => ?_, ?_⟩
  · have a1 := at_last (nz st hst)
    have a0 := at_headS (nz st hst)
    have num := pc.num hst
    have val := numK_val (i := P.length) pc.nd num (List.getElem?_eq_some_iff.mp num).1 (Nat.le_refl _)
    have lo := Int.toNat_of_nonneg (pos st hst)
    dsimp only at val
    rw [lo] at val
    walk_at "e"
    refine ⟨fun h => ?_, fun h => ?_⟩
    · have e1 : loS st = st.getLastD 0 := by unfold loS; rw [show dnS st = true from h]; rfl
      rw [e1] at val
      walk_at "e"
      refine ew_dget ?_
      walk_at "e"
      refine ⟨.inl _, _, rfl, val, ?_⟩
      walk_at "e"
      unfold blkS
      rw [show dnS st = true from h]; rfl
    · have e1 : loS st = st.getD 0 0 := by unfold loS; rw [show dnS st = false from h]; rfl
      rw [e1] at val
      refine ew_dget ?_
      walk_at "e"
      refine ⟨.inl _, _, rfl, val, ?_⟩
      unfold blkS
      rw [show dnS st = false from h]; rfl
  refine sx_frz 5 rfl (sx_ret (ex_tup (ax_cons (ex_mkX hW (ax_of ?_)))))
  walk_at "e"
  refine ⟨rfl, ⟨L.map (blkS P), _, rfl, .inl rfl, by rw [List.length_map]; omega⟩, fun ns fs p => ?_, fun x p => ?_⟩
  rotate_left
  · rcases p _ _ rfl (.inl rfl) with ⟨no, _⟩ | ⟨_, big, rfl⟩
    · exact absurd pc.okx no
    · intro src' b' e'
      obtain ⟨rfl, rfl⟩ := one _ _ e'
      rw [List.length_map] at big
      exact .inr ⟨sr, by rw [hL]; exact big, rfl⟩
  obtain ⟨_, le, rfl, rfl⟩ := p _ _ rfl (.inl rfl)
  rw [List.length_map] at le
  refine ax_of (aw_cons (ew_gxA pcD nD (fun p => p.2) hT (js := [8] ++ ([10] ++ [])) (by simp) ?_))
  walk_at "e"
  refine ⟨P, by show _ ≤ (1000000 : Nat); omega, rfl, fun p _ => ?_, ?_⟩
  · unfold pcD pairD
    walk_at "e"
    rfl
  walk_at "e"
  intro src' b' e'
  obtain ⟨rfl, rfl⟩ := one _ _ e'
  rw [hL]
  refine ⟨sr, le, P, pc, ?_⟩
  unfold blocksD
  rw [hL]; rfl

abbrev oD (o : List Int) : D := .tup (intsD o)
theorem atO {o : List Int} {k : Nat} (h : k < o.length) : atI (intsD o) (k : Int) = some (.int (o.getD k 0)) := by
  refine atI_nat ?_
  rw [List.getElem?_map, List.getD_eq_getElem?_getD, List.getElem?_eq_getElem h]; rfl
theorem atN {o : List Nat} {k : Nat} (h : k < o.length) : atI (o.map nD) (k : Int) = some (nD (o.getD k 0)) := by
  refine atI_nat ?_
  rw [List.getElem?_map, List.getD_eq_getElem?_getD, List.getElem?_eq_getElem h]; rfl
theorem oD_inj {xs ys : List Int} (h : oD xs = oD ys) : xs = ys := by
  injection h with h
  exact intsD_inj h
theorem nsD_inj {xs ys : List Nat} (h : xs.map nD = ys.map nD) : xs = ys := by
  refine List.map_inj_right (fun a b e => ?_) |>.mp h
  exact Int.ofNat.inj (D.int.inj e)
theorem SeqD_nats {xs ys : List Nat} {d : D} (h : SeqD (xs.map nD) d) (g : SeqD (ys.map nD) d) : xs = ys := nsD_inj (SeqD_eq h g)
theorem okX_nil : OkX [] := .refl _
theorem OkX.ins {bs : List Int} (h : OkX bs) (k : Nat) {b : Int} (hb : b.natAbs = bs.length + 1) : OkX (bs.take k ++ [b] ++ bs.drop k) := by
  unfold OkX
  have e : (bs.take k ++ [b] ++ bs.drop k).length = bs.length + 1 := by simp; omega
  rw [e, List.range'_concat]
  have p : (bs.take k ++ [b] ++ bs.drop k).Perm (bs ++ [b]) := by
    rw [List.append_assoc]
    refine (List.Perm.append_left _ List.perm_append_comm).trans ?_
    rw [← List.append_assoc, List.take_append_drop]
  refine (p.map _).trans ?_
  rw [List.map_append]
  refine h.append ?_
  simp only [List.map_cons, List.map_nil, hb]
  rw [show 1 + 1 * bs.length = bs.length + 1 by omega]
abbrev s__law_blocks : Stmt := top 16
abbrev N__law_blocks : List Str := ["_law_cell_here", "_law_many", "_law_signed", "_law_order", "_law_k", "_law_draw", "_law_block"]
abbrev P__law_blocks : List Str := ["_law_cell_here", "_law_many", "_law_signed"]
theorem sc__law_blocks : FnScope N__law_blocks P__law_blocks (defScope s__law_blocks) := ⟨rfl, rfl, rfl, by decide +kernel, rfl, by decide +kernel, by decide +kernel⟩
def pre__law_blocks : List D → Prop := fun ds => ∃ (ns : List Int) (m : Nat) (t : Bool), ds = [.lst (ns.map .int), .int (m : Int), .bl t] ∧ ns.length = m ∧ m ≤ 13 ∧ ∀ n ∈ ns, 0 ≤ n
def post__law_blocks : List D → D → Prop := fun ds e => ∀ (c : D) (m : Nat) (t : D), ds = [c, .int (m : Int), t] → ∃ bs : List Int, e = oD bs ∧ OkX bs ∧ bs.length = m
set_option maxHeartbeats 4000000 in
theorem df__law_blocks {P : Program} {w : World} {K : PySem.W.Frag} {mg : Str → Option Value} {base : Heap} {fd : FuncData} {f : Addr} (F : FunD K "_law_blocks" "_law_blocks" (defArgs s__law_blocks) (defBody s__law_blocks) (defScope s__law_blocks) [] [] f fd) (hm : mg "_law_blocks" = some (.ref f)) (n_int : mg "int" = none) (n_range : mg "range" = none) (n_tuple : mg "tuple" = none) :
    Df P w K mg base "_law_blocks" 1 P__law_blocks 3 pre__law_blocks post__law_blocks := by
  refine df_mk F hm sc__law_blocks (fun _ _ _ _ _ _ us hl => match us, hl with | [_, _, _], _ => rfl) fun cdv A outer s H E hr ds hl hp => ⟨_,
    (pss_cons (ps_set (i := 3) sc__law_blocks.nd rfl (by first | exact Or.inl rfl | exact Or.inr rfl) (pe_lst pa_nil))
    (pss_cons (ps_for PassesOwn.never rfl (pi_range1 (by rfl) n_range (pa_cons (pv 1) pa_nil)) (pg_name (i := 4) sc__law_blocks.nd rfl (by first | exact Or.inl rfl | exact Or.inr rfl)) (pss_cons (ps_set (i := 5) sc__law_blocks.nd rfl (by first | exact Or.inl rfl | exact Or.inr rfl) (pe_ix (ix_listK K rfl) (pv 0) (pv 4) (fun _ _ => rfl)))
    (pss_cons (ps_set (i := 6) sc__law_blocks.nd rfl (by first | exact Or.inl rfl | exact Or.inr rfl) (pe_op op_add (pv 4) pe_int))
    (pss_cons (ps_if (PW.pt (pw_and (pt_val (pv 2)) (pw_and1 (pt_cmpR op_eq (pe_op op_mod (pe_callTy call_int1 (by rfl) n_int (by decide +kernel) (pa_cons (pe_op op_fdiv (pv 5) pe_int) pa_nil)) pe_int) pe_int (nomark _))))) (pss_one (ps_set (i := 6) sc__law_blocks.nd rfl (by first | exact Or.inl rfl | exact Or.inr rfl) (pe_op op_sub pe_int (pv 6)))) pss_nil)
    (pss_one (ps_expr (pe_bmK K rfl PySem.F.plainAttrs_list PySem.F.slot_list_insert PySem.F.type_list_insert mt_insZ (pv 3) (pa_cons (pe_op op_mod (pe_callTy call_int1 (by rfl) n_int (by decide +kernel) (pa_cons (pv 5) pa_nil)) (pe_op op_add (pv 4) pe_int)) (pa_cons (pv 6) pa_nil)))))))))
    (pss_one (ps_ret (pe_callTy (call_tupK K rfl) (by rfl) n_tuple (by decide +kernel) (pa_cons (pv 3) pa_nil)))))), ?_⟩
  obtain ⟨a0, a1, a2, rfl⟩ : ∃ a0 a1 a2, ds = [a0, a1, a2] := match ds, hl with | [_, _, _], _ => ⟨_, _, _, rfl⟩
  obtain ⟨ns, m, t, e, hl1, hm, hn⟩ := hp
  cases e
  refine sw_seq (sw_asgN ?_)
  walk_at "e"
  refine sw_seq (sw_for (js := [4]) ?_)
  walk_at "e"
  refine ⟨by omega, by omega, fun i γ => ∃ (bs : List Int) (kv dv bv : Option Slot), OkX bs ∧ bs.length = i ∧ γ = [some (.sh (.lst (ns.map .int))), some (.sh (.int (m : Int))), some (.sh (.bl t)), some (.ow (intsD bs)), kv, dv, bv], ⟨[], none, none, none, okX_nil, rfl, rfl⟩, ?_, ?_⟩
  · rintro i d γ hd ⟨bs, kv, dv, bv, ok, hb, rfl⟩
    obtain ⟨hi, rfl⟩ := rng_get hd
    have hi : i < m := by simpa using hi
    have hx : 0 ≤ ns.getD i 0 := by
      rw [List.getD_eq_getElem?_getD, List.getElem?_eq_getElem (by omega)]
      exact hn _ (List.getElem_mem _)
    walk_at "e"
    refine sw_seq (sw_asg ?_)
    walk_at "e"
    rw [Int.zero_add]
    refine rw_ixL (atO (o := ns) (by omega)) ?_
    generalize ns.getD i 0 = x at hx
    refine sw_seq (sw_asg ?_)
    walk_at "e"
    refine sw_seqP (fun γ => ∃ b : Int, b.natAbs = i + 1 ∧ γ = [some (.sh (.lst (ns.map .int))), some (.sh (.int (m : Int))), some (.sh (.bl t)), some (.ow (intsD bs)), some (.sh (.int (i : Int))), some (.sh (.int x)), some (.sh (.int b))]) ?_ ?_
    · refine sw_ifA2 ?_ ?_ ?_
      · refine tw_and ?_
        walk_at "e"
        refine ⟨fun h => ?_, fun h => trivial⟩
        walk_at "e"
        trivial
      · refine sw_asg ?_
        walk_at "e"
        exact ⟨_, by omega, rfl⟩
      · refine sw_next ?_
        exact ⟨_, by omega, rfl⟩
    · rintro γ1 ⟨b, hba, rfl⟩
      have small : (intsD bs).length < sizeS := by
        rw [List.length_map]
        show _ < (1000000 : Nat)
        omega
      refine sw_insert rfl small ?_
      walk_at "e"
      have h0 := Int.emod_nonneg x (show (i : Int) + 1 ≠ 0 by omega)
      have h1 := Int.emod_lt_of_pos x (show 0 < (i : Int) + 1 by omega)
      refine ⟨(x % ((i : Int) + 1)).toNat, by rw [Int.toNat_of_nonneg h0], by rw [List.length_map]; omega, ?_⟩
      walk_at "e"
      refine ⟨_, some (.sh (.int (i : Int))), some (.sh (.int x)), some (.sh (.int b)), ok.ins (x % ((i : Int) + 1)).toNat (b := b) (by omega), by simp; omega, ?_⟩
      simp [intsD, List.map_take, List.map_drop]
  · rintro γ ⟨bs, kv, dv, bv, ok, hb, rfl⟩
    rw [rng_len] at hb
    refine sw_frz 3 rfl (sw_ret ?_)
    walk_at "e"
    intro c m' t' e
    injection e with _ e
    injection e with e _
    injection e with e
    exact ⟨bs, rfl, ok, by omega⟩
def begS (ls : List Nat) (i : Nat) : List Nat := (List.range i).map fun k => (ls.take k).sum
theorem begS_succ (ls : List Nat) (i : Nat) : (begS ls (i + 1)).map nD = (begS ls i).map nD ++ [nD (ls.take i).sum] := by
  unfold begS
  rw [List.range_succ, List.map_append, List.map_append]; rfl
theorem begS_at {ls : List Nat} {k m : Nat} (h : k < m) : (begS ls m).getD k 0 = (ls.take k).sum := by
  unfold begS
  rw [List.getD_eq_getElem?_getD, List.getElem?_map, List.getElem?_range h]; rfl
theorem sum_take_succ {ls : List Nat} {i : Nat} (h : i < ls.length) : (ls.take (i + 1)).sum = (ls.take i).sum + ls.getD i 0 := by
  rw [List.take_add_one, List.sum_append, List.getD_eq_getElem?_getD, List.getElem?_eq_getElem h]
  simp
theorem rnS_len (a n : Nat) (u : Bool) : (rnS a n u).length = n := by unfold rnS; rw [List.length_map, List.length_range]
theorem rnS_take {a n j : Nat} {u : Bool} (h : j < n) : (rnS a n u).take (j + 1) = (rnS a n u).take j ++ [if u then ((a + j : Nat) : Int) else ((a + n - 1 - j : Nat) : Int)] := by
  rw [List.take_add_one]
  congr 1
  unfold rnS
  rw [List.getElem?_map, List.getElem?_range h]; rfl
theorem pmS_snoc {bs : List Int} {ls : List Nat} {i : Nat} {b : Int} (h : bs[i]? = some b) : pmS (bs.take (i + 1)) ls = pmS (bs.take i) ls ++ rnS ((ls.take (b.natAbs - 1)).sum) (ls.getD (b.natAbs - 1) 0) (decide (0 < b)) := by
  rw [List.take_add_one, h]
  unfold pmS
  rw [List.flatMap_append]
  simp
theorem pmS_small {ls : List Nat} (hl : ∀ l ∈ ls, l ≤ 1000) : ∀ bs : List Int, (pmS bs ls).length ≤ bs.length * 1000
  | [] => Nat.le_refl _
  | b :: bs => by
    have ih := pmS_small hl bs
    have one : ls.getD (b.natAbs - 1) 0 ≤ 1000 := by
      rw [List.getD_eq_getElem?_getD]
      cases e : ls[b.natAbs - 1]? with
      | none => simp
      | some l => exact hl l (List.mem_of_getElem? e)
    show (rnS _ _ _ ++ pmS bs ls).length ≤ _
    rw [List.length_append, rnS_len, List.length_cons]
    omega
theorem rw_ixSeq {K : PySem.W.Frag} {Φ : D → Prop} {ds : List D} {d y : D} {i : Int} (h : SeqD ds d) (hi : atI ds i = some y) (k : Φ y) : RW2 K (rIx K) d (.int i) Φ := rw_ixQ h hi k
abbrev s__law_place_map : Stmt := top 17
abbrev N__law_place_map : List Str := ["_law_blocks_here", "_law_lengths", "_law_begins", "_law_at", "_law_length", "_law_out", "_law_block", "_law_piece", "_law_k"]
abbrev P__law_place_map : List Str := ["_law_blocks_here", "_law_lengths"]
theorem sc__law_place_map : FnScope N__law_place_map P__law_place_map (defScope s__law_place_map) := ⟨rfl, rfl, rfl, by decide +kernel, rfl, by decide +kernel, by decide +kernel⟩
def pre__law_place_map : List D → Prop := fun ds => ∃ (bs : List Int) (ls : List Nat) (d : D), ds = [oD bs, d] ∧ SeqD (ls.map nD) d ∧ (∀ b ∈ bs, 1 ≤ b.natAbs ∧ b.natAbs ≤ ls.length) ∧ bs.length ≤ 100 ∧ ls.length ≤ 1000 ∧ ∀ l ∈ ls, l ≤ 1000
def post__law_place_map : List D → D → Prop := fun ds e => ∀ (bs : List Int) (ls : List Nat) (d : D), ds = [oD bs, d] → SeqD (ls.map nD) d → e = oD (pmS bs ls)
set_option maxHeartbeats 4000000 in
theorem df__law_place_map {P : Program} {w : World} {K : PySem.W.Frag} {mg : Str → Option Value} {base : Heap} {fd : FuncData} {f : Addr} (F : FunD K "_law_place_map" "_law_place_map" (defArgs s__law_place_map) (defBody s__law_place_map) (defScope s__law_place_map) [] [] f fd) (hm : mg "_law_place_map" = some (.ref f)) (n_abs : mg "abs" = none) (n_range : mg "range" = none) (n_tuple : mg "tuple" = none) :
    Df P w K mg base "_law_place_map" 1 P__law_place_map 2 pre__law_place_map post__law_place_map := by
  refine df_mk F hm sc__law_place_map (fun _ _ _ _ _ _ us hl => match us, hl with | [_, _], _ => rfl) fun cdv A outer s H E hr ds hl hp => ⟨_,
    (pss_cons (ps_set (i := 2) sc__law_place_map.nd rfl (by first | exact Or.inl rfl | exact Or.inr rfl) (pe_lst pa_nil))
    (pss_cons (ps_set (i := 3) sc__law_place_map.nd rfl (by first | exact Or.inl rfl | exact Or.inr rfl) pe_int)
    (pss_cons (ps_for PassesOwn.never rfl (pi_seqQ K rfl (pv 1)) (pg_name (i := 4) sc__law_place_map.nd rfl (by first | exact Or.inl rfl | exact Or.inr rfl)) (pss_cons (ps_expr (pe_bmK K rfl PySem.F.plainAttrs_list PySem.F.slot_list_append PySem.F.type_list_append mt_append (pv 2) (pa_cons (pv 3) pa_nil)))
    (pss_one (ps_set (i := 3) sc__law_place_map.nd rfl (by first | exact Or.inl rfl | exact Or.inr rfl) (pe_op op_add (pv 3) (pv 4))))))
    (pss_cons (ps_set (i := 5) sc__law_place_map.nd rfl (by first | exact Or.inl rfl | exact Or.inr rfl) (pe_lst pa_nil))
    (pss_cons (ps_for PassesOwn.never rfl (pi_tupK K rfl (pv 0)) (pg_name (i := 6) sc__law_place_map.nd rfl (by first | exact Or.inl rfl | exact Or.inr rfl)) (pss_cons (ps_set (i := 7) sc__law_place_map.nd rfl (by first | exact Or.inl rfl | exact Or.inr rfl) (pe_op op_sub (pe_callB call_abs (by rfl) n_abs (by decide +kernel) (pa_cons (pv 6) pa_nil)) pe_int))
    (pss_one (ps_for PassesOwn.never rfl (pi_range1 (by rfl) n_range (pa_cons (pe_ix (ix_seqK K rfl) (pv 1) (pv 7) (fun _ _ => rfl)) pa_nil)) (pg_name (i := 8) sc__law_place_map.nd rfl (by first | exact Or.inl rfl | exact Or.inr rfl)) (pss_one (ps_if (pt_cmpR op_gt (pv 6) pe_int (nomark _)) (pss_one (ps_expr (pe_bmK K rfl PySem.F.plainAttrs_list PySem.F.slot_list_append PySem.F.type_list_append mt_append (pv 5) (pa_cons (pe_op op_add (pe_ix (ix_listK K rfl) (pv 2) (pv 7) (fun _ _ => rfl)) (pv 8)) pa_nil)))) (pss_one (ps_expr (pe_bmK K rfl PySem.F.plainAttrs_list PySem.F.slot_list_append PySem.F.type_list_append mt_append (pv 5) (pa_cons (pe_op op_sub (pe_op op_sub (pe_op op_add (pe_ix (ix_listK K rfl) (pv 2) (pv 7) (fun _ _ => rfl)) (pe_ix (ix_seqK K rfl) (pv 1) (pv 7) (fun _ _ => rfl))) pe_int) (pv 8)) pa_nil))))))))))
    (pss_one (ps_ret (pe_callTy (call_tupK K rfl) (by rfl) n_tuple (by decide +kernel) (pa_cons (pv 5) pa_nil))))))))), ?_⟩
  obtain ⟨a0, a1, rfl⟩ : ∃ a0 a1, ds = [a0, a1] := match ds, hl with | [_, _], _ => ⟨_, _, rfl⟩
  obtain ⟨bs, ls, d, e, hd, hb, bfew, lfew, hls⟩ := hp
  cases e
  refine sw_seq (sw_asgN ?_)
  walk_at "e"
  refine sw_seq (sw_asg ?_)
  walk_at "e"
  refine sw_seqP (fun γ => ∃ a : Option D, γ = [some (.sh (oD bs)), some (.sh a1), some (.ow ((begS ls ls.length).map nD)), some (.sh (nD ls.sum)), a.map Slot.sh, none, none, none, none]) (sw_for (js := [4]) ?_) ?_
  · refine iw_seqQ ?_
    walk_at "e"
    refine ⟨ls.map nD, hd, fun i γ => ∃ a : Option D, γ = [some (.sh (oD bs)), some (.sh a1), some (.ow ((begS ls i).map nD)), some (.sh (nD (ls.take i).sum)), a.map Slot.sh, none, none, none, none], ⟨none, rfl⟩, ?_, ?_⟩
    · rintro i d γ hi ⟨a, rfl⟩
      rw [List.getElem?_map] at hi
      obtain ⟨l, hl, rfl⟩ := Option.map_eq_some_iff.mp hi
      have lt := (List.getElem?_eq_some_iff.mp hl).1
      walk_at "e"
      refine sw_seq (sw_app rfl (by unfold begS; rw [List.length_map, List.length_map, List.length_range]; show _ < (1000000 : Nat); omega) ?_)
      walk_at "e"
      refine sw_asg ?_
      walk_at "e"
      refine ⟨some (nD l), ?_⟩
      rw [begS_succ, sum_take_succ lt, List.getD_eq_getElem?_getD, hl]
      rfl
    · rintro γ ⟨a, rfl⟩
      rw [List.length_map, List.take_length]
      exact ⟨a, rfl⟩
  rintro γ ⟨a, rfl⟩
  refine sw_frz 2 rfl (sw_seq (sw_asgN ?_))
  walk_at "e"
  refine sw_seqP (fun γ => ∃ a b c d : Option D, γ = [some (.sh (oD bs)), some (.sh a1), some (.sh (.lst ((begS ls ls.length).map nD))), some (.sh (nD ls.sum)), a.map Slot.sh, some (.ow (intsD (pmS bs ls))), b.map Slot.sh, c.map Slot.sh, d.map Slot.sh]) (sw_for (js := [6]) ?_) ?_
  · walk_at "e"
    refine ⟨fun i γ => ∃ b c d : Option D, γ = [some (.sh (oD bs)), some (.sh a1), some (.sh (.lst ((begS ls ls.length).map nD))), some (.sh (nD ls.sum)), a.map Slot.sh, some (.ow (intsD (pmS (bs.take i) ls))), b.map Slot.sh, c.map Slot.sh, d.map Slot.sh], ⟨none, none, none, rfl⟩, ?_, ?_⟩
    · rintro i d γ hi ⟨b', c', d', rfl⟩
      rw [List.getElem?_map] at hi
      obtain ⟨b, hbi, rfl⟩ := Option.map_eq_some_iff.mp hi
      obtain ⟨b1, b2⟩ := hb b (List.mem_of_getElem? hbi)
      have ltb := (List.getElem?_eq_some_iff.mp hbi).1
      walk_at "e"
      refine sw_seq (sw_asg ?_)
      walk_at "e"
      rw [abs_int, show ((b.natAbs : Int) - 1) = ((b.natAbs - 1 : Nat) : Int) by omega]
      have sn := pmS_snoc (ls := ls) hbi
      have bg := begS_at (ls := ls) (k := b.natAbs - 1) (m := ls.length) (by omega)
      have a_l := atN (o := ls) (k := b.natAbs - 1) (by omega)
      have a_b := atN (o := begS ls ls.length) (k := b.natAbs - 1) (by unfold begS; rw [List.length_map, List.length_range]; omega)
      rw [bg] at a_b
      have l1 : ls.getD (b.natAbs - 1) 0 ≤ 1000 := by
        rw [List.getD_eq_getElem?_getD, List.getElem?_eq_getElem (by omega)]
        exact hls _ (List.getElem_mem _)
      have sm := pmS_small hls (bs.take i)
      rw [List.length_take] at sm
      generalize ls.getD (b.natAbs - 1) 0 = n at *
      generalize (ls.take (b.natAbs - 1)).sum = g at *
      generalize b.natAbs - 1 = p at *
      refine sw_for (js := [8]) ?_
      walk_at "e"
      refine rw_ixSeq hd a_l ?_
      walk_at "e"
      refine ⟨by omega, by omega, fun j γ => ∃ d : Option D, γ = [some (.sh (oD bs)), some (.sh a1), some (.sh (.lst ((begS ls ls.length).map nD))), some (.sh (nD ls.sum)), a.map Slot.sh, some (.ow (intsD (pmS (bs.take i) ls ++ (rnS g n (decide (0 < b))).take j))), some (.sh (.int b)), some (.sh (nD p)), d.map Slot.sh], ⟨d', by simp⟩, ?_, ?_⟩
      · rintro j d γ hj ⟨d', rfl⟩
        obtain ⟨lj, rfl⟩ := rng_get hj
        have lj : j < n := by simpa using lj
        have sj := rnS_take (a := g) (u := decide (0 < b)) lj
        have small : (intsD (pmS (bs.take i) ls ++ (rnS g n (decide (0 < b))).take j)).length < sizeS := by
          rw [List.length_map, List.length_append, List.length_take, rnS_len]
          show _ < (1000000 : Nat)
          omega
        walk_at "e"
        refine sw_if ?_
        walk_at "e"
        refine ⟨fun h => ?_, fun h => ?_⟩
        · refine sw_app rfl small ?_
          walk_at "e"
          refine ⟨some (.int (0 + (j : Int))), ?_⟩
          rw [sj, h, ← List.append_assoc, if_pos rfl]
          simp [intsD]
        · refine sw_app rfl small ?_
          walk_at "e"
          refine rw_ixSeq hd a_l ?_
          walk_at "e"
          refine ⟨some (.int (0 + (j : Int))), ?_⟩
          rw [sj, h, ← List.append_assoc, if_neg Bool.false_ne_true, show ((g + n - 1 - j : Nat) : Int) = (g : Int) + n - 1 - (0 + j) by omega]
          simp [intsD]
      · rintro γ ⟨d', rfl⟩
        rw [rng_len, show ((n : Int)).toNat = (rnS g n (decide (0 < b))).length by rw [rnS_len]; simp, List.take_length, ← sn]
        exact ⟨some _, some _, d', rfl⟩
    · rintro γ ⟨b', c', d', rfl⟩
      rw [List.length_map, List.take_length]
      exact ⟨a, b', c', d', rfl⟩
  rintro γ ⟨a, b, c, d, rfl⟩
  refine sw_frz 5 rfl (sw_ret ?_)
  walk_at "e"
  intro bs' ls' d' e hd'
  injection e with e1 e
  injection e with e2 _
  subst e2
  rw [oD_inj e1, SeqD_nats hd hd']

def pD (p : List Nat) : D := .tup (p.map nD)
theorem all_cut : ∀ n, n ≤ 8 → ∀ m, m ≤ 8 → ∀ k, k ≤ m → (allC n m k).length < 1000 ∧ (allC n m k).all (fun p => decide (p.length = k) && decide (p.sum ≤ n)) = true := by decide +kernel
theorem nsum_cast (p : List Nat) : (p.map fun n : Nat => (n : Int)).sum = ((p.sum : Nat) : Int) := by
  induction p with
  | nil => rfl
  | cons x p ih => rw [List.map_cons, List.sum_cons, List.sum_cons, ih]; omega
abbrev s__law_cuttings : Stmt := top 18
abbrev N__law_cuttings : List Str := ["_law_length", "_law_many", "_law_found", "_law_k", "_law_longer", "_law_parts", "_law_size"]
abbrev P__law_cuttings : List Str := ["_law_length", "_law_many"]
theorem sc__law_cuttings : FnScope N__law_cuttings P__law_cuttings (defScope s__law_cuttings) := ⟨rfl, rfl, rfl, by decide +kernel, rfl, by decide +kernel, by decide +kernel⟩
def pre__law_cuttings : List D → Prop := fun ds => ∃ n m : Nat, ds = [nD n, nD m] ∧ n ≤ 8 ∧ m ≤ 8
def post__law_cuttings : List D → D → Prop := fun ds e => ∀ n m : Nat, ds = [nD n, nD m] → e = .lst ((cutsC n m).map pD)
set_option maxHeartbeats 4000000 in
theorem df__law_cuttings {P : Program} {w : World} {K : PySem.W.Frag} {mg : Str → Option Value} {base : Heap} {fd : FuncData} {f : Addr} (F : FunD K "_law_cuttings" "_law_cuttings" (defArgs s__law_cuttings) (defBody s__law_cuttings) (defScope s__law_cuttings) [] [] f fd) (hm : mg "_law_cuttings" = some (.ref f)) (n_int : mg "int" = none) (n_list : mg "list" = none) (n_range : mg "range" = none) (n_sum : mg "sum" = none) :
    Df P w K mg base "_law_cuttings" 1 P__law_cuttings 2 pre__law_cuttings post__law_cuttings := by
  refine df_mk F hm sc__law_cuttings (fun _ _ _ _ _ _ us hl => match us, hl with | [_, _], _ => rfl) fun cdv A outer s H E hr ds hl hp => ⟨_,
    (pss_cons (ps_if (pt_cmpR op_eq (pv 1) pe_int (nomark _)) (pss_one (ps_ret (pe_op op_rep (pe_lst (pa_cons (pe_tupF pa_nil) pa_nil)) (pe_callTy call_int1 (by rfl) n_int (by decide +kernel) (pa_cons (pe_cmpR op_eq (pv 0) pe_int (nomark _)) pa_nil))))) pss_nil)
    (pss_cons (ps_set (i := 2) sc__law_cuttings.nd rfl (by first | exact Or.inl rfl | exact Or.inr rfl) (pe_lst (pa_cons (pe_tupF pa_nil) pa_nil)))
    (pss_cons (ps_for PassesOwn.never rfl (pi_range1 (by rfl) n_range (pa_cons (pv 1) pa_nil)) (pg_name (i := 3) sc__law_cuttings.nd rfl (by first | exact Or.inl rfl | exact Or.inr rfl)) (pss_cons (ps_set (i := 4) sc__law_cuttings.nd rfl (by first | exact Or.inl rfl | exact Or.inr rfl) (pe_lst pa_nil))
    (pss_cons (ps_for PassesOwn.never rfl (pi_listK K rfl (pe_callTy (call_listK K rfl) (by rfl) n_list (by decide +kernel) (pa_cons (pv 2) pa_nil))) (pg_name (i := 5) sc__law_cuttings.nd rfl (by first | exact Or.inl rfl | exact Or.inr rfl)) (pss_one (ps_for PassesOwn.never rfl (pi_range2 (by rfl) n_range (pa_cons pe_int (pa_cons (pe_op op_add (pe_op op_sub (pv 0) (pe_callB (cr_sumQ K rfl rfl) (by rfl) n_sum (by decide +kernel) (pa_cons (pv 5) pa_nil))) pe_int) pa_nil))) (pg_name (i := 6) sc__law_cuttings.nd rfl (by first | exact Or.inl rfl | exact Or.inr rfl)) (pss_one (ps_if (PW.pt (pw_or (pt_cmpR op_lt (pv 3) (pe_op op_sub (pv 1) pe_int) (nomark _)) (pw_or1 (pt_cmpR op_eq (pe_op op_add (pe_callB (cr_sumQ K rfl rfl) (by rfl) n_sum (by decide +kernel) (pa_cons (pv 5) pa_nil)) (pv 6)) (pv 0) (nomark _))))) (pss_one (ps_expr (pe_bmK K rfl PySem.F.plainAttrs_list PySem.F.slot_list_append PySem.F.type_list_append mt_append (pv 4) (pa_cons (pe_op (op_catK K rfl) (pv 5) (pe_tupF (pa_cons (pv 6) pa_nil))) pa_nil)))) pss_nil)))))
    (pss_one (ps_set (i := 2) sc__law_cuttings.nd rfl (by first | exact Or.inl rfl | exact Or.inr rfl) (pv 4))))))
    (pss_one (ps_ret (pv 2)))))), ?_⟩
  obtain ⟨a0, a1, rfl⟩ : ∃ a0 a1, ds = [a0, a1] := match ds, hl with | [_, _], _ => ⟨_, _, rfl⟩
  obtain ⟨n, m, e, hn, hm⟩ := hp
  cases e
  have fin : ∀ e : D, e = .lst ((cutsC n m).map pD) → post__law_cuttings [nD n, nD m] e := by
    intro e he n' m' q
    injection q with q1 q
    injection q with q2 _
    injection q1 with q1
    injection q2 with q2
    rw [he, Int.ofNat.inj q1, Int.ofNat.inj q2]
  refine sw_seq (sw_if ?_)
  walk_at "e"
  refine ⟨fun h => ?_, fun h => sw_next ?_⟩
  · have m0 : m = 0 := by
      have := of_decide_eq_true h
      omega
    refine sw_ret ?_
    walk_at "e"
    refine rw2_new (rn_rep (by split <;> omega) (by split <;> omega) (by split <;> (show _ ≤ (1000000 : Nat); simp)) ?_)
    rw [times_one]
    refine fin _ ?_
    unfold cutsC
    rw [if_pos m0]
    by_cases n0 : n = 0
    · rw [n0]; rfl
    · rw [if_neg n0, decide_eq_false (by omega)]; rfl
  have m1 : m ≠ 0 := by
    have := of_decide_eq_false h
    omega
  refine sw_seq (sw_asgN ?_)
  walk_at "e"
  refine sw_frz 2 rfl (sw_seq (sw_for (js := [3]) ?_))
  walk_at "e"
  refine ⟨by omega, by omega, fun i γ => ∃ a b c d : Option D, γ = [some (.sh (nD n)), some (.sh (nD m)), some (.sh (.lst ((allC n m i).map pD))), a.map Slot.sh, b.map Slot.sh, c.map Slot.sh, d.map Slot.sh], ⟨none, none, none, none, rfl⟩, ?_, ?_⟩
  · rintro i d γ hd ⟨a, b, c, d', rfl⟩
    obtain ⟨hi, rfl⟩ := rng_get hd
    have hi : i < m := by omega
    walk_at "e"
    refine sw_seq (sw_asgN ?_)
    walk_at "e"
    let F : List Nat → List (List Nat) := fun p => (List.range (n - p.sum)).filterMap fun s => if i + 1 < m || decide (p.sum + (s + 1) = n) then some (p ++ [s + 1]) else none
    have whole : allC n m (i + 1) = (allC n m i).flatMap F := rfl
    have small := (all_cut n hn m hm (i + 1) (by omega)).1
    rw [whole] at small
    refine sw_seqP (fun γ => ∃ c d : Option D, γ = [some (.sh (nD n)), some (.sh (nD m)), some (.sh (.lst ((allC n m i).map pD))), some (.sh (.int (0 + (i : Int)))), some (.ow ((allC n m (i + 1)).map pD)), c.map Slot.sh, d.map Slot.sh]) (sw_for (js := [5]) ?_) ?_
    · refine iw_list ?_
      walk_at "e"
      refine ⟨fun j γ => ∃ c d : Option D, γ = [some (.sh (nD n)), some (.sh (nD m)), some (.sh (.lst ((allC n m i).map pD))), some (.sh (.int (0 + (i : Int)))), some (.ow ((((allC n m i).take j).flatMap F).map pD)), c.map Slot.sh, d.map Slot.sh], ⟨c, d', rfl⟩, ?_, ?_⟩
      · rintro j d γ hd ⟨c, d', rfl⟩
        rw [List.getElem?_map] at hd
        rcases Option.map_eq_some_iff.mp hd with ⟨p, hp, rfl⟩
        have ltj : j < (allC n m i).length := (List.getElem?_eq_some_iff.mp hp).1
        have next : ((allC n m i).take (j + 1)).flatMap F = ((allC n m i).take j).flatMap F ++ F p := by
          rw [List.take_add_one, hp, List.flatMap_append]; simp
        have part : (((allC n m i).take (j + 1)).flatMap F).length ≤ ((allC n m i).flatMap F).length := by
          have z : (allC n m i).flatMap F = ((allC n m i).take (j + 1)).flatMap F ++ ((allC n m i).drop (j + 1)).flatMap F := by rw [← List.flatMap_append, List.take_append_drop]
          rw [z, List.length_append]; omega
        have pq : p.length = i ∧ p.sum ≤ n := by
          have z := List.all_eq_true.mp (all_cut n hn m hm i (by omega)).2 p (List.mem_of_getElem? hp)
          simpa using z
        obtain ⟨pl, ps⟩ := pq
        have hsum : (intsD (p.map fun n : Nat => (n : Int))) = p.map nD := by unfold intsD; rw [List.map_map]; rfl
        walk_at "e"
        refine sw_for (js := [6]) ?_
        walk_at "e"
        unfold pD
        rw [← hsum]
        walk_at "e"
        rw [nsum_cast, hsum]
        refine ⟨_, _, rfl, by omega, ?_⟩
        have src : rng 1 ((n : Int) - (p.sum : Nat) + 1 - 1).toNat = (List.range (n - p.sum)).map fun s => nD (s + 1) := by
          unfold rng
          rw [show ((n : Int) - (p.sum : Nat) + 1 - 1).toNat = n - p.sum by omega]
          exact List.map_congr_left fun s _ => congrArg D.int (by omega)
        rw [src]
        let f : Nat → Option (List Nat) := fun s => if i + 1 < m || decide (p.sum + (s + 1) = n) then some (p ++ [s + 1]) else none
        refine ⟨fun q γ => ∃ c d : Option D, γ = [some (.sh (nD n)), some (.sh (nD m)), some (.sh (.lst ((allC n m i).map pD))), some (.sh (.int (0 + (i : Int)))), some (.ow ((((allC n m i).take j).flatMap F ++ ((List.range (n - p.sum)).take q).filterMap f).map pD)), some (.sh (pD p)), d.map Slot.sh], ⟨c, d', by simp [pD]⟩, ?_, ?_⟩
        · rintro q d γ hd ⟨c, d', rfl⟩
          rw [List.getElem?_map] at hd
          rcases Option.map_eq_some_iff.mp hd with ⟨s, hs, rfl⟩
          have ltq : q < (List.range (n - p.sum)).length := (List.getElem?_eq_some_iff.mp hs).1
          have nextq : ((List.range (n - p.sum)).take (q + 1)).filterMap f = ((List.range (n - p.sum)).take q).filterMap f ++ (f s).toList := by
            rw [List.take_add_one, hs, List.filterMap_append]
            cases e : f s with
            | none => simp [e]
            | some y => simp [e]
          have lenq : ((((allC n m i).take j).flatMap F ++ ((List.range (n - p.sum)).take q).filterMap f).map pD).length < sizeS := by
            have z : F p = ((List.range (n - p.sum)).take q).filterMap f ++ ((List.range (n - p.sum)).drop q).filterMap f := by rw [← List.filterMap_append, List.take_append_drop]
            rw [next, z, List.length_append, List.length_append] at part
            rw [List.length_map, List.length_append]
            show _ < (1000000 : Nat)
            omega
          refine gw_name ?_
          refine sw_if (tw_orT (B := decide (i + 1 < m)) (C := decide (p.sum + (s + 1) = n)) ?_ ?_ ?_)
          · walk_at "e"
            exact decide_eq_decide.mpr (by omega)
          · walk_at "e"
            unfold pD
            rw [← hsum]
            walk_at "e"
            rw [nsum_cast]
            refine decide_eq_decide.mpr ⟨fun h => ?_, fun h => ?_⟩
            · exact Int.ofNat.inj h
            · exact congrArg Int.ofNat h
          refine ⟨fun h => ?_, fun h => sw_next ⟨c, some (nD (s + 1)), ?_⟩⟩
          · have e : f s = some (p ++ [s + 1]) := if_pos h
            have e3 : ((List.range (n - p.sum)).take (q + 1)).filterMap f = ((List.range (n - p.sum)).take q).filterMap f ++ [p ++ [s + 1]] := by rw [nextq, e]; rfl
            refine sw_app rfl lenq ?_
            walk_at "e"
            unfold pD
            refine rw_catA ?_ ⟨c, some (nD (s + 1)), ?_⟩
            · show _ ≤ (1000000 : Nat)
              rw [List.length_map]
              simp only [List.length_cons, List.length_nil]
              omega
            · rw [e3, ← List.append_assoc, List.map_append (l₂ := [p ++ [s + 1]])]
              have z : [p ++ [s + 1]].map pD = [.tup (p.map nD ++ [nD (s + 1)])] := by simp [pD]
              unfold pD at z
              rw [z]
              rfl
          · have e : f s = none := if_neg (by rw [show (decide (i + 1 < m) || decide (p.sum + (s + 1) = n)) = false from h]; exact Bool.false_ne_true)
            have e3 : ((List.range (n - p.sum)).take (q + 1)).filterMap f = ((List.range (n - p.sum)).take q).filterMap f := by rw [nextq, e]; simp
            rw [e3]
            rfl
        · rintro γ ⟨c, d', rfl⟩
          rw [List.length_map, List.take_length]
          refine ⟨some (pD p), d', ?_⟩
          rw [next]
          rfl
      · rintro γ ⟨c, d', rfl⟩
        rw [List.length_map, List.take_length]
        exact ⟨c, d', rfl⟩
    · rintro γ ⟨c, d', rfl⟩
      refine sw_frz 4 rfl (sw_asg ?_)
      walk_at "e"
      exact ⟨some _, some _, c, d', rfl⟩
  · rintro γ ⟨a, b, c, d', rfl⟩
    rw [rng_len]
    refine sw_ret ?_
    walk_at "e"
    refine fin _ ?_
    unfold cutsC
    rw [if_neg m1]
    simp

def okM (m : Nat) (t : Bool) : Prop := m ≤ 5 ∧ (t = true → m ≤ 3)
theorem all_small : ∀ m, m ≤ 5 → ∀ t : Bool, (t = true → m ≤ 3) → ∀ k, k ≤ m → (allO m t k).length < 1000 ∧ (allO m t k).all (fun o => decide (o.length = k)) = true := by decide +kernel
abbrev s__law_orders : Stmt := top 19
abbrev N__law_orders : List Str := ["_law_many", "_law_signed", "_law_found", "_law_k", "_law_longer", "_law_order", "_law_block"]
abbrev P__law_orders : List Str := ["_law_many", "_law_signed"]
theorem sc__law_orders : FnScope N__law_orders P__law_orders (defScope s__law_orders) := ⟨rfl, rfl, rfl, by decide +kernel, rfl, by decide +kernel, by decide +kernel⟩
def pre__law_orders : List D → Prop := fun ds => ∃ (m : Nat) (t : Bool), ds = [nD m, .bl t] ∧ okM m t
def post__law_orders : List D → D → Prop := fun ds e => ∀ (m : Nat) (t : Bool), ds = [nD m, .bl t] → e = .lst ((allO m t m).map oD)
set_option maxHeartbeats 4000000 in
theorem df__law_orders {P : Program} {w : World} {K : PySem.W.Frag} {mg : Str → Option Value} {base : Heap} {fd : FuncData} {f : Addr} (F : FunD K "_law_orders" "_law_orders" (defArgs s__law_orders) (defBody s__law_orders) (defScope s__law_orders) [] [] f fd) (hm : mg "_law_orders" = some (.ref f)) (n_list : mg "list" = none) (n_range : mg "range" = none) :
    Df P w K mg base "_law_orders" 1 P__law_orders 2 pre__law_orders post__law_orders := by
  refine df_mk F hm sc__law_orders (fun _ _ _ _ _ _ us hl => match us, hl with | [_, _], _ => rfl) fun cdv A outer s H E hr ds hl hp => ⟨_,
    (pss_cons (ps_set (i := 2) sc__law_orders.nd rfl (by first | exact Or.inl rfl | exact Or.inr rfl) (pe_lst (pa_cons (pe_tupF pa_nil) pa_nil)))
    (pss_cons (ps_for PassesOwn.never rfl (pi_range1 (by rfl) n_range (pa_cons (pv 0) pa_nil)) (pg_name (i := 3) sc__law_orders.nd rfl (by first | exact Or.inl rfl | exact Or.inr rfl)) (pss_cons (ps_set (i := 4) sc__law_orders.nd rfl (by first | exact Or.inl rfl | exact Or.inr rfl) (pe_lst pa_nil))
    (pss_cons (ps_for PassesOwn.never rfl (pi_listK K rfl (pe_callTy (call_listK K rfl) (by rfl) n_list (by decide +kernel) (pa_cons (pv 2) pa_nil))) (pg_name (i := 5) sc__law_orders.nd rfl (by first | exact Or.inl rfl | exact Or.inr rfl)) (pss_one (ps_for PassesOwn.never rfl (pi_range2 (by rfl) n_range (pa_cons (pe_op op_sub pe_int (pv 0)) (pa_cons (pe_op op_add (pv 0) pe_int) pa_nil))) (pg_name (i := 6) sc__law_orders.nd rfl (by first | exact Or.inl rfl | exact Or.inr rfl)) (pss_one (ps_if (PW.pt (pw_and (pt_cmpR op_ne (pv 6) pe_int (nomark _)) (pw_and (PW.pt (pw_or (pt_cmpR op_gt (pv 6) pe_int (nomark _)) (pw_or1 (pt_val (pv 1))))) (pw_and (pt_cmpR (op_niK K rfl) (pv 6) (pv 5) rfl) (pw_and1 (pt_cmpR (op_niK K rfl) (pe_op op_sub pe_int (pv 6)) (pv 5) rfl)))))) (pss_one (ps_expr (pe_bmK K rfl PySem.F.plainAttrs_list PySem.F.slot_list_append PySem.F.type_list_append mt_append (pv 4) (pa_cons (pe_op (op_catK K rfl) (pv 5) (pe_tupF (pa_cons (pv 6) pa_nil))) pa_nil)))) pss_nil)))))
    (pss_one (ps_set (i := 2) sc__law_orders.nd rfl (by first | exact Or.inl rfl | exact Or.inr rfl) (pv 4))))))
    (pss_one (ps_ret (pv 2))))), ?_⟩
  obtain ⟨a0, a1, rfl⟩ : ∃ a0 a1, ds = [a0, a1] := match ds, hl with | [_, _], _ => ⟨_, _, rfl⟩
  obtain ⟨m, t, e, hm, ht⟩ := hp
  cases e
  refine sw_seq (sw_asgN ?_)
  walk_at "e"
  refine sw_frz 2 rfl (sw_seq (sw_for (js := [3]) ?_))
  have gb : m ≤ 5 := hm
  walk_at "e"
  refine ⟨by omega, by omega, fun i γ => ∃ a b c d : Option D, γ = [some (.sh (nD m)), some (.sh (.bl t)), some (.sh (.lst ((allO m t i).map oD))), a.map Slot.sh, b.map Slot.sh, c.map Slot.sh, d.map Slot.sh], ⟨none, none, none, none, rfl⟩, ?_, ?_⟩
  · rintro i d γ hd ⟨a, b, c, d', rfl⟩
    obtain ⟨hi, rfl⟩ := rng_get hd
    have hi : i < m := by omega
    walk_at "e"
    refine sw_seq (sw_asgN ?_)
    walk_at "e"
    let F : List Int → List (List Int) := fun o => (rngI m).filterMap fun b => if goesA t o b then some (o ++ [b]) else none
    have whole : allO m t (i + 1) = (allO m t i).flatMap F := rfl
    have small := (all_small m hm t ht (i + 1) (by omega)).1
    rw [whole] at small
    refine sw_seqP (fun γ => ∃ a c d : Option D, γ = [some (.sh (nD m)), some (.sh (.bl t)), some (.sh (.lst ((allO m t i).map oD))), a.map Slot.sh, some (.ow ((allO m t (i + 1)).map oD)), c.map Slot.sh, d.map Slot.sh]) (sw_for (js := [5]) ?_) ?_
    · refine iw_list ?_
      walk_at "e"
      refine ⟨fun j γ => ∃ a c d : Option D, γ = [some (.sh (nD m)), some (.sh (.bl t)), some (.sh (.lst ((allO m t i).map oD))), a.map Slot.sh, some (.ow ((((allO m t i).take j).flatMap F).map oD)), c.map Slot.sh, d.map Slot.sh], ⟨some _, c, d', rfl⟩, ?_, ?_⟩
      · rintro j d γ hd ⟨a, c, d', rfl⟩
        rw [List.getElem?_map] at hd
        rcases Option.map_eq_some_iff.mp hd with ⟨o, ho, rfl⟩
        have ltj : j < (allO m t i).length := (List.getElem?_eq_some_iff.mp ho).1
        have next : ((allO m t i).take (j + 1)).flatMap F = ((allO m t i).take j).flatMap F ++ F o := by
          rw [List.take_add_one, ho, List.flatMap_append]; simp
        have part : (((allO m t i).take (j + 1)).flatMap F).length ≤ ((allO m t i).flatMap F).length := by
          have z : (allO m t i).flatMap F = ((allO m t i).take (j + 1)).flatMap F ++ ((allO m t i).drop (j + 1)).flatMap F := by rw [← List.flatMap_append, List.take_append_drop]
          rw [z, List.length_append]; omega
        have len : o.length ≤ 10 := by
          have z := List.all_eq_true.mp (all_small m hm t ht i (by omega)).2 o (List.mem_of_getElem? ho)
          have z := of_decide_eq_true z
          omega
        walk_at "e"
        refine sw_for (js := [6]) ?_
        walk_at "e"
        refine ⟨_, _, rfl, by omega, ?_⟩
        have src : rng (0 - (m : Int)) ((m : Int) + 1 - (0 - (m : Int))).toNat = (rngI m).map D.int := by
          unfold rng rngI
          rw [List.map_map, show ((m : Int) + 1 - (0 - (m : Int))).toNat = 2 * m + 1 by omega, show 0 - (m : Int) = -(m : Int) by omega]
          rfl
        rw [src]
        let f : Int → Option (List Int) := fun b => if goesA t o b then some (o ++ [b]) else none
        refine ⟨fun q γ => ∃ a c d : Option D, γ = [some (.sh (nD m)), some (.sh (.bl t)), some (.sh (.lst ((allO m t i).map oD))), a.map Slot.sh, some (.ow ((((allO m t i).take j).flatMap F ++ ((rngI m).take q).filterMap f).map oD)), some (.sh (oD o)), d.map Slot.sh], ⟨a, c, d', by simp⟩, ?_, ?_⟩
        · rintro q d γ hd ⟨a, c, d', rfl⟩
          rw [List.getElem?_map] at hd
          rcases Option.map_eq_some_iff.mp hd with ⟨b, hb, rfl⟩
          have ltq : q < (rngI m).length := (List.getElem?_eq_some_iff.mp hb).1
          have nextq : ((rngI m).take (q + 1)).filterMap f = ((rngI m).take q).filterMap f ++ (f b).toList := by
            rw [List.take_add_one, hb, List.filterMap_append]
            cases e : f b with
            | none => simp [e]
            | some y => simp [e]
          have lenq : ((((allO m t i).take j).flatMap F ++ ((rngI m).take q).filterMap f).map oD).length < sizeS := by
            have z : F o = ((rngI m).take q).filterMap f ++ ((rngI m).drop q).filterMap f := by rw [← List.filterMap_append, List.take_append_drop]
            rw [next, z, List.length_append, List.length_append] at part
            rw [List.length_map, List.length_append]
            show _ < (1000000 : Nat)
            omega
          refine gw_name ?_
          refine sw_if (tw_andT (B := !decide (b = 0)) (C := (decide (0 < b) || t) && (!decide (b ∈ o) && !decide (-b ∈ o))) ?_ (tw_andT (B := decide (0 < b) || t) (C := !decide (b ∈ o) && !decide (-b ∈ o)) (tw_orT (B := decide (0 < b)) (C := t) ?_ ?_ rfl) (tw_andT (B := !decide (b ∈ o)) (C := !decide (-b ∈ o)) ?_ ?_ rfl) rfl) ?_)
          · walk_at "e"
            rfl
          · walk_at "e"
            rfl
          · walk_at "e"
            rfl
          · walk_at "e"
            rfl
          · walk_at "e"
            rw [show 0 - b = -b by omega]
          refine ⟨fun h => ?_, fun h => sw_next ⟨a, c, some (.int b), ?_⟩⟩
          · have e : f b = some (o ++ [b]) := if_pos h
            have e3 : ((rngI m).take (q + 1)).filterMap f = ((rngI m).take q).filterMap f ++ [o ++ [b]] := by rw [nextq, e]; rfl
            refine sw_app rfl lenq ?_
            walk_at "e"
            refine rw_catA ?_ ⟨a, c, some (.int b), ?_⟩
            · show _ ≤ (1000000 : Nat)
              rw [List.length_map]
              simp only [List.length_cons, List.length_nil]
              omega
            · rw [e3, ← List.append_assoc, List.map_append (l₂ := [o ++ [b]])]
              have z : [o ++ [b]].map oD = [.tup (intsD o ++ [.int b])] := by simp [intsD]
              rw [z]
              rfl
          · have e : f b = none := if_neg (by rw [show goesA t o b = false from h]; exact Bool.false_ne_true)
            have e3 : ((rngI m).take (q + 1)).filterMap f = ((rngI m).take q).filterMap f := by rw [nextq, e]; simp
            rw [e3]
            rfl
        · rintro γ ⟨a, c, d', rfl⟩
          rw [List.length_map, List.take_length]
          refine ⟨a, some (oD o), d', ?_⟩
          rw [next]
          rfl
      · rintro γ ⟨a, c, d', rfl⟩
        rw [List.length_map, List.take_length]
        exact ⟨a, c, d', rfl⟩
    · rintro γ ⟨a, c, d', rfl⟩
      refine sw_frz 4 rfl (sw_asg ?_)
      walk_at "e"
      exact ⟨a, some _, c, d', rfl⟩
  · rintro γ ⟨a, b, c, d', rfl⟩
    rw [rng_len]
    refine sw_ret ?_
    walk_at "e"
    intro m' t' e
    injection e with e1 e
    injection e with e2 _
    injection e1 with e1
    injection e2 with e2
    have e1 : m = m' := Int.ofNat.inj e1
    subst e1 e2
    rfl

theorem take_more {sp src : List Int} (hs : ∀ d ∈ sp, d = 1 ∨ d = -1) (nd : src.Nodup) {k : Nat} (h1 : 1 ≤ k) (hk : k < src.length) :
    (stretch sp (src.take (k + 1))).length = (stretch sp (src.take k)).length + if src.getD k 0 - src.getD (k - 1) 0 ∉ sp then 1 else 0 := by
  have e : src.take (k + 1) = src.take k ++ [src.getD k 0] := by
    rw [List.take_add_one, List.getD_eq_getElem?_getD, List.getElem?_eq_getElem hk]; rfl
  have nd2 : (src.take k ++ [src.getD k 0]).Nodup := by
    rw [← e]
    exact List.Sublist.nodup (List.take_sublist _ _) nd
  have ne : src.take k ≠ [] := fun z => by
    have := congrArg List.length z
    rw [List.length_take, List.length_nil] at this
    omega
  have la : (src.take k).getLastD 0 = src.getD (k - 1) 0 := by
    have l : (src.take k).length = k := by rw [List.length_take]; omega
    rw [List.getLastD_eq_getLast?, List.getLast?_eq_getElem?, l, List.getElem?_take, if_pos (by omega), List.getD_eq_getElem?_getD]
  rw [e, stretch_more hs nd2, la]
  by_cases h : src.getD k 0 - src.getD (k - 1) 0 ∈ sp
  · rw [if_neg (fun z => z.elim ne fun z => z h), if_neg (fun z => z h)]
  · rw [if_pos (.inr h), if_pos h]
theorem stpB_mem (t : Bool) (d : Int) : d ∈ stpB t ↔ (d = 1 ∨ (t = true ∧ d = -1)) := by cases t <;> simp [stpB]
abbrev s__law_free_map : Stmt := top 20
abbrev N__law_free_map : List Str := ["_law_draws_here", "_law_order", "_law_k"]
abbrev P__law_free_map : List Str := ["_law_draws_here"]
theorem sc__law_free_map : FnScope N__law_free_map P__law_free_map (defScope s__law_free_map) := ⟨rfl, rfl, rfl, by decide +kernel, rfl, by decide +kernel, by decide +kernel⟩
def pre__law_free_map : List D → Prop := fun ds => ∃ (ns : List Int), ds = [.lst (ns.map .int)] ∧ ns.length ≤ 100 ∧ ∀ n ∈ ns, 0 ≤ n
def post__law_free_map : List D → D → Prop := fun ds e => ∀ (ns : List Int), ds = [.lst (ns.map .int)] → ∃ src : List Int, e = oD src ∧ Src src ∧ src.length = ns.length
set_option maxHeartbeats 4000000 in
theorem df__law_free_map {P : Program} {w : World} {K : PySem.W.Frag} {mg : Str → Option Value} {base : Heap} {fd : FuncData} {f : Addr} (F : FunD K "_law_free_map" "_law_free_map" (defArgs s__law_free_map) (defBody s__law_free_map) (defScope s__law_free_map) [] [] f fd) (hm : mg "_law_free_map" = some (.ref f)) (n_int : mg "int" = none) (n_len : mg "len" = none) (n_range : mg "range" = none) (n_tuple : mg "tuple" = none) :
    Df P w K mg base "_law_free_map" 1 P__law_free_map 1 pre__law_free_map post__law_free_map := by
  refine df_mk F hm sc__law_free_map (fun _ _ _ _ _ _ us hl => match us, hl with | [_], _ => rfl) fun cdv A outer s H E hr ds hl hp => ⟨_,
    (pss_cons (ps_set (i := 1) sc__law_free_map.nd rfl (by first | exact Or.inl rfl | exact Or.inr rfl) (pe_lst pa_nil))
    (pss_cons (ps_for PassesOwn.never rfl (pi_range1 (by rfl) n_range (pa_cons (pe_callB (call_lenK K rfl) (by rfl) n_len PySem.boot_len (pa_cons (pv 0) pa_nil)) pa_nil)) (pg_name (i := 2) sc__law_free_map.nd rfl (by first | exact Or.inl rfl | exact Or.inr rfl)) (pss_one (ps_expr (pe_bmK K rfl PySem.F.plainAttrs_list PySem.F.slot_list_insert PySem.F.type_list_insert mt_insZ (pv 1) (pa_cons (pe_op op_mod (pe_callTy call_int1 (by rfl) n_int (by decide +kernel) (pa_cons (pe_ix (ix_listK K rfl) (pv 0) (pv 2) (fun _ _ => rfl)) pa_nil)) (pe_op op_add (pv 2) pe_int)) (pa_cons (pv 2) pa_nil))))))
    (pss_one (ps_ret (pe_callTy (call_tupK K rfl) (by rfl) n_tuple (by decide +kernel) (pa_cons (pv 1) pa_nil)))))), ?_⟩
  obtain ⟨a0, rfl⟩ : ∃ a0, ds = [a0] := match ds, hl with | [_], _ => ⟨_, rfl⟩
  obtain ⟨ns, e, hm, hn⟩ := hp
  cases e
  refine sw_seq (sw_asgN ?_)
  walk_at "e"
  refine sw_seq (sw_for (js := [2]) ?_)
  walk_at "e"
  rw [List.length_map]
  refine ⟨by omega, by omega, fun i γ => ∃ (src : List Int) (kv : Option Slot), Src src ∧ src.length = i ∧ γ = [some (.sh (.lst (ns.map .int))), some (.ow (intsD src)), kv], ⟨[], none, src_nil, rfl, rfl⟩, ?_, ?_⟩
  · rintro i d γ hd ⟨src, kv, sr, hl2, rfl⟩
    obtain ⟨hi, rfl⟩ := rng_get hd
    have hi : i < ns.length := by omega
    have hx : 0 ≤ ns.getD i 0 := by
      rw [List.getD_eq_getElem?_getD, List.getElem?_eq_getElem hi]
      exact hn _ (List.getElem_mem _)
    have at1 := atO hi
    have small : (intsD src).length < sizeS := by
      rw [List.length_map]
      show _ < (1000000 : Nat)
      omega
    walk_at "e"
    refine sw_insert rfl small ?_
    walk_at "e"
    rw [Int.zero_add]
    refine rw_ixL at1 ?_
    generalize ns.getD i 0 = x at hx
    walk_at "e"
    have h0 := Int.emod_nonneg x (show (i : Int) + 1 ≠ 0 by omega)
    have h1 := Int.emod_lt_of_pos x (show 0 < (i : Int) + 1 by omega)
    refine ⟨(x % ((i : Int) + 1)).toNat, by rw [Int.toNat_of_nonneg h0], by rw [List.length_map]; omega, ?_⟩
    walk_at "e"
    have sr2 := sr.ins (x % ((i : Int) + 1)).toNat
    rw [hl2] at sr2
    refine ⟨_, some (.sh (.int (i : Int))), sr2, by simp; omega, ?_⟩
    simp [intsD, List.map_take, List.map_drop]
  · rintro γ ⟨src, kv, sr, hl2, rfl⟩
    rw [rng_len] at hl2
    refine sw_frz 1 rfl (sw_ret ?_)
    walk_at "e"
    intro ns' e
    injection e with e _
    injection e with e
    have e := congrArg List.length e
    rw [List.length_map, List.length_map] at e
    exact ⟨src, rfl, sr, by omega⟩
abbrev s__law_stretches : Stmt := top 21
abbrev N__law_stretches : List Str := ["_law_source", "_law_falling", "_law_many", "_law_k", "_law_step"]
abbrev P__law_stretches : List Str := ["_law_source", "_law_falling"]
theorem sc__law_stretches : FnScope N__law_stretches P__law_stretches (defScope s__law_stretches) := ⟨rfl, rfl, rfl, by decide +kernel, rfl, by decide +kernel, by decide +kernel⟩
def pre__law_stretches : List D → Prop := fun ds => ∃ (src : List Int) (t : Bool), ds = [oD src, .bl t] ∧ Src src ∧ src.length ≤ 1000
def post__law_stretches : List D → D → Prop := fun ds e => ∀ (src : List Int) (t : Bool), ds = [oD src, .bl t] → e = nD (stretch (stpB t) src).length
set_option maxHeartbeats 4000000 in
theorem df__law_stretches {P : Program} {w : World} {K : PySem.W.Frag} {mg : Str → Option Value} {base : Heap} {fd : FuncData} {f : Addr} (F : FunD K "_law_stretches" "_law_stretches" (defArgs s__law_stretches) (defBody s__law_stretches) (defScope s__law_stretches) [] [] f fd) (hm : mg "_law_stretches" = some (.ref f)) (n_len : mg "len" = none) (n_min : mg "min" = none) (n_range : mg "range" = none) :
    Df P w K mg base "_law_stretches" 1 P__law_stretches 2 pre__law_stretches post__law_stretches := by
  refine df_mk F hm sc__law_stretches (fun _ _ _ _ _ _ us hl => match us, hl with | [_, _], _ => rfl) fun cdv A outer s H E hr ds hl hp => ⟨_,
    (pss_cons (ps_set (i := 2) sc__law_stretches.nd rfl (by first | exact Or.inl rfl | exact Or.inr rfl) (pe_callB (call_min2 rfl) (by rfl) n_min (by decide +kernel) (pa_cons (pe_callB (call_lenK K rfl) (by rfl) n_len PySem.boot_len (pa_cons (pv 0) pa_nil)) (pa_cons pe_int pa_nil))))
    (pss_cons (ps_for PassesOwn.never rfl (pi_range2 (by rfl) n_range (pa_cons pe_int (pa_cons (pe_callB (call_lenK K rfl) (by rfl) n_len PySem.boot_len (pa_cons (pv 0) pa_nil)) pa_nil))) (pg_name (i := 3) sc__law_stretches.nd rfl (by first | exact Or.inl rfl | exact Or.inr rfl)) (pss_cons (ps_set (i := 4) sc__law_stretches.nd rfl (by first | exact Or.inl rfl | exact Or.inr rfl) (pe_op op_sub (pe_ix (ix_tupK K rfl) (pv 0) (pv 3) (fun _ _ => rfl)) (pe_ix (ix_tupK K rfl) (pv 0) (pe_op op_sub (pv 3) pe_int) (fun _ _ => rfl))))
    (pss_one (ps_if (PW.pt (pw_and (pt_cmpR op_ne (pv 4) pe_int (nomark _)) (pw_and1 (pt_not (PW.pt (pw_and (pt_val (pv 1)) (pw_and1 (pt_cmpR op_eq (pv 4) (pe_op op_sub pe_int pe_int) (nomark _))))))))) (pss_one (ps_set (i := 2) sc__law_stretches.nd rfl (by first | exact Or.inl rfl | exact Or.inr rfl) (pe_op op_add (pv 2) pe_int))) pss_nil))))
    (pss_one (ps_ret (pv 2))))), ?_⟩
  obtain ⟨a0, a1, rfl⟩ : ∃ a0 a1, ds = [a0, a1] := match ds, hl with | [_, _], _ => ⟨_, _, rfl⟩
  obtain ⟨src, t, e, sr, few⟩ := hp
  cases e
  refine sw_seq (sw_asg ?_)
  walk_at "e"
  rw [List.length_map]
  have st0 : (if (1 : Int) < (src.length : Int) then (1 : Int) else (src.length : Int)) = ((stretch (stpB t) (src.take 1)).length : Int) := by
    match src with
    | [] => rfl
    | [x] => rfl
    | x :: y :: r =>
      rw [if_pos (by simp only [List.length_cons]; omega)]
      rfl
  rw [st0]
  refine sw_seq (sw_for (js := [3]) ?_)
  walk_at "e"
  rw [List.length_map]
  refine ⟨_, _, rfl, by omega, fun i γ => ∃ a b : Option D, γ = [some (.sh (oD src)), some (.sh (.bl t)), some (.sh (nD (stretch (stpB t) (src.take (i + 1))).length)), a.map Slot.sh, b.map Slot.sh], ⟨none, none, rfl⟩, ?_, ?_⟩
  · rintro i d γ hd ⟨a, b, rfl⟩
    obtain ⟨hi, rfl⟩ := rng_get hd
    have hi : i + 1 < src.length := by omega
    have tm := take_more (stpB_one t) sr.nodup (k := i + 1) (by omega) hi
    have a1 := atO hi
    have a0 := atO (o := src) (k := i) (by omega)
    rw [Nat.add_sub_cancel] at tm
    walk_at "e"
    refine sw_seq (sw_asg ?_)
    walk_at "e"
    rw [show (1 : Int) + i = ((i + 1 : Nat) : Int) by omega]
    refine rw_ixT a1 ?_
    walk_at "e"
    rw [show ((i + 1 : Nat) : Int) - 1 = (i : Int) by omega]
    refine rw_ixT a0 ?_
    walk_at "e"
    generalize src.getD (i + 1) 0 = x at *
    generalize src.getD i 0 = y at *
    refine sw_if (tw_andT (B := !decide (x - y = 1)) (C := !(t && decide (x - y = -1))) ?_ ?_ ?_)
    · walk_at "e"
      rfl
    · walk_at "e"
      cases t
      · refine ⟨(fun z => by cases z), fun _ => rfl⟩
      · refine ⟨fun _ => ?_, (fun z => by cases z)⟩
        walk_at "e"
        rfl
    have test : (!decide (x - y = 1) && !(t && decide (x - y = -1))) = !decide (x - y ∈ stpB t) := by
      by_cases h1 : x - y = 1 <;> by_cases h2 : x - y = -1 <;> cases t <;> simp [stpB, h1, h2]
    rw [test]
    refine ⟨fun h => ?_, fun h => sw_next ?_⟩
    · rw [if_pos (fun z => by rw [decide_eq_true z] at h; cases h)] at tm
      refine sw_asg ?_
      walk_at "e"
      refine ⟨some (.int ((i + 1 : Nat) : Int)), some (.int (x - y)), ?_⟩
      rw [tm]
      rfl
    · rw [if_neg (fun z => by rw [decide_eq_false z] at h; cases h)] at tm
      refine ⟨some (.int ((i + 1 : Nat) : Int)), some (.int (x - y)), ?_⟩
      rw [tm]
      rfl
  · rintro γ ⟨a, b, rfl⟩
    rw [rng_len]
    refine sw_ret ?_
    walk_at "e"
    intro src' t' e
    injection e with e1 e
    injection e with e2 _
    injection e2 with e2
    rw [← oD_inj e1, ← e2, List.take_of_length_le (by omega)]

def wayB (way : Nat) : Bool := decide (way = 2)
def largeT : D := .tup [.str "large", .str "blocks", .int 12, .bl true]
def badT : D := .tup [.str "bad", .bl true]
abbrev s__law_told : Stmt := top 22
abbrev N__law_told : List Str := ["_law_source", "_law_way", "_law_found", "e"]
abbrev P__law_told : List Str := ["_law_source", "_law_way"]
theorem sc__law_told : FnScope N__law_told P__law_told (defScope s__law_told) := ⟨rfl, rfl, rfl, by decide +kernel, rfl, by decide +kernel, by decide +kernel⟩
def pre__law_told : List D → Prop := fun ds => ∃ (src : List Int) (way : Nat), ds = [oD src, nD way] ∧ src.length ≤ 1000 ∧ way ≤ 2
def post__law_told : List D → D → Prop := fun ds e => ∀ (src : List Int) (way : Nat), ds = [oD src, nD way] → (Src src → (stretch (stpB (wayB way)) src).length ≤ 12 → ∃ P, Pcs (stretch (stpB (wayB way)) src) src.length P ∧ e = blocksD (wayB way) src P) ∧ (Src src → 12 < (stretch (stpB (wayB way)) src).length → e = largeT) ∧ (¬ Src src → e = badT)
set_option maxHeartbeats 4000000 in
theorem df__law_told {P : Program} {w : World} {K : PySem.W.Frag} {mg : Str → Option Value} {base : Heap} {fd : FuncData} {f : Addr} (F : FunD K "_law_told" "_law_told" (defArgs s__law_told) (defBody s__law_told) (defScope s__law_told) [] [] f fd) (hm : mg "_law_told" = some (.ref f)) (n_isinstance : mg "isinstance" = none) (m_BadBook : mg "BadBook" = some (.ref (He.ga K "BadBook"))) (m_BadExchange : mg "BadExchange" = some (.ref (He.ga K "BadExchange"))) (m_TooLarge : mg "TooLarge" = some (.ref (He.ga K "TooLarge"))) (m_TwiceError : mg "TwiceError" = some (.ref (He.ga K "TwiceError"))) (r_TooLarge : RzC P w K mg base "TooLarge" 1 ["what", "limit"] preI_TooLarge) (exm_TooLarge_TooLarge : PySem.W.exmOne K (.ref (He.ga K "TooLarge")) (.ref (He.ga K "TooLarge")) = some true) (exm_BadExchange_TooLarge : PySem.W.exmOne K (.ref (He.ga K "BadExchange")) (.ref (He.ga K "TooLarge")) = some false) (exm_BadExchange_BadExchange : PySem.W.exmOne K (.ref (He.ga K "BadExchange")) (.ref (He.ga K "BadExchange")) = some true) (kit_TooLarge_BadBook : PySem.W.kitOne K (.ref (He.ga K "TooLarge")) (.ref (He.ga K "BadBook")) = some true) (kit_TooLarge_BadExchange : PySem.W.kitOne K (.ref (He.ga K "TooLarge")) (.ref (He.ga K "BadExchange")) = some false) (kit_BadExchange_TwiceError : PySem.W.kitOne K (.ref (He.ga K "BadExchange")) (.ref (He.ga K "TwiceError")) = some true) (kit_BadExchange_BadBook : PySem.W.kitOne K (.ref (He.ga K "BadExchange")) (.ref (He.ga K "BadBook")) = some false) (kit_Exchange_Exchange : PySem.W.kitOne K (.ref (He.ga K "Exchange")) (.ref (He.ga K "Exchange")) = some true) (xc_BadExchange : excCB K (He.ga K "BadExchange") = true) (rz_BadExchange : StX.rz0B K "BadExchange" = true) (iso_Exchange : isoB K (He.ga K "Exchange") = true) (g_blocks_of : DfXk P w K mg base "blocks_of" 5 P_blocks_of 2 ([V.bl false] : List V) 1 (["turned"] : List Str) pre_blocks_of post_blocks_of (xpost_blocks_of K)) :
    Df P w K mg base "_law_told" 6 P__law_told 2 pre__law_told post__law_told := by
  refine df_mk F hm sc__law_told (fun _ _ _ _ _ _ us hl => match us, hl with | [_, _], _ => rfl) fun cdv A outer s H E hr ds hl hp => ⟨_,
    (pss_cons (ps_tryCl K rfl rfl rfl (fun W pn xe tk po => (pss_one (ps_if (pt_cmpR op_eq (pv 1) pe_int (nomark _)) (pss_one (ps_set (i := 2) sc__law_told.nd rfl (by first | exact Or.inl rfl | exact Or.inr rfl) (pe_dfXd K rfl g_blocks_of hr (by decide) (by rfl) tk (pa_cons (pv 0) pa_nil)))) (pss_one (ps_if (pt_cmpR op_eq (pv 1) pe_int (nomark _)) (pss_one (ps_set (i := 2) sc__law_told.nd rfl (by first | exact Or.inl rfl | exact Or.inr rfl) (pe_dfXn K rfl g_blocks_of (by decide) hr (by decide) (by rfl) tk (pa_cons (pv 0) pa_nil) (pk_cons pe_bl pk_nil)))) (pss_one (ps_set (i := 2) sc__law_told.nd rfl (by first | exact Or.inl rfl | exact Or.inr rfl) (pe_dfXn K rfl g_blocks_of (by decide) hr (by decide) (by rfl) tk (pa_cons (pv 0) pa_nil) (pk_cons pe_bl pk_nil))))))))) (hdlC_as (i := 3) rfl sc__law_told.nd rfl rfl ⟨by rfl, by decide, .inl m_TooLarge⟩ (fun a oe cls d pn hz hf => (pss_one (ps_ret (pe_tupF (pa_cons pe_str (pa_cons (pe_xf (C := He.ga K "TooLarge") (xfC_of r_TooLarge.exc) (r_TooLarge.no "what" (by simp)) hz hf (pv 3)) (pa_cons (pe_xf (C := He.ga K "TooLarge") (xfC_of r_TooLarge.exc) (r_TooLarge.no "limit" (by simp)) hz hf (pv 3)) (pa_cons (pe_and (pe_isE K rfl hz hf (by rfl) n_isinstance (by decide +kernel) (pa_cons (pv 3) (pa_cons (pe_glob (v := .ref (He.ga K "BadBook")) (by rfl) m_BadBook rfl) pa_nil))) (pe_one (pe_not (pe_isE K rfl hz hf (by rfl) n_isinstance (by decide +kernel) (pa_cons (pv 3) (pa_cons (pe_glob (v := .ref (He.ga K "BadExchange")) (by rfl) m_BadExchange rfl) pa_nil)))))) pa_nil)))))))) (hdlC_as (i := 3) rfl sc__law_told.nd rfl rfl ⟨by rfl, by decide, .inl m_BadExchange⟩ (fun a oe cls d pn hz hf => (pss_one (ps_ret (pe_tupF (pa_cons pe_str (pa_cons (pe_and (pe_isE K rfl hz hf (by rfl) n_isinstance (by decide +kernel) (pa_cons (pv 3) (pa_cons (pe_glob (v := .ref (He.ga K "TwiceError")) (by rfl) m_TwiceError rfl) pa_nil))) (pe_one (pe_not (pe_isE K rfl hz hf (by rfl) n_isinstance (by decide +kernel) (pa_cons (pv 3) (pa_cons (pe_glob (v := .ref (He.ga K "BadBook")) (by rfl) m_BadBook rfl) pa_nil)))))) pa_nil)))))) (hdlC_nil rfl rfl takes0))))
    (pss_one (ps_ret (pv 2)))), ?_⟩
  obtain ⟨a0, a1, rfl⟩ : ∃ a0 a1, ds = [a0, a1] := match ds, hl with | [_, _], _ => ⟨_, _, rfl⟩
  obtain ⟨src, way, e, few, hw⟩ := hp
  cases e
  have one : ∀ (src' : List Int) (way' : Nat), [oD src, nD way] = [oD src', nD way'] → src' = src ∧ way' = way := fun src' way' e => by
    injection e with e1 e
    injection e with e2 _
    injection e2 with e2
    exact ⟨(oD_inj e1).symm, (Int.ofNat.inj e2).symm⟩
  refine sw_seqP (fun γ => Src src ∧ (stretch (stpB (wayB way)) src).length ≤ 12 ∧ ∃ P x, Pcs (stretch (stpB (wayB way)) src) src.length P ∧ γ = [some (.sh (oD src)), some (.sh (nD way)), some (.sh (blocksD (wayB way) src P)), x]) (sw_ofX fun Hs0 H0 => sx_tryCl wok_no fun W' Hb' hb hW => ?_) ?_
  · have done : ∀ (t : Bool) (d : D), t = wayB way → post_blocks_of [oD src, .bl t] d → Src src ∧ (stretch (stpB (wayB way)) src).length ≤ 12 ∧ ∃ P x, Pcs (stretch (stpB (wayB way)) src) src.length P ∧ [some (Slot.sh (oD src)), some (.sh (nD way)), some (.sh d), none] = [some (.sh (oD src)), some (.sh (nD way)), some (.sh (blocksD (wayB way) src P)), x] := by
      rintro t d rfl h
      obtain ⟨a, b, P, c, rfl⟩ := h src (wayB way) rfl
      exact ⟨a, b, P, none, c, rfl⟩
    refine (fun (Ψ : XD → Gam → Prop) (hW : Wok K Hs0 H0 Hb' W' Ψ) (bad : ∀ (t : Bool) (x : XD), t = wayB way → xpost_blocks_of K [oD src, .bl t] x → Ψ x [some (.sh (oD src)), some (.sh (nD way)), none, none]) => ?_) _ hW ?_
    · refine sx_if ?_
      walk_at "e"
      refine ⟨fun h => ?_, fun h => ?_⟩
      · have hb : false = wayB way := by
          have := of_decide_eq_true h
          unfold wayB
          exact (decide_eq_false (by omega)).symm
        refine sx_asg (ex_callDx rfl hW (ax_of ?_))
        walk_at "e"
        exact call_x rfl ⟨src, false, rfl, few⟩ (fun d hd => done false d hb hd) fun x hx => bad false x hb hx
      refine sx_if ?_
      walk_at "e"
      refine ⟨fun h2 => ?_, fun h2 => ?_⟩
      · have hb : false = wayB way := by
          have := of_decide_eq_true h2
          unfold wayB
          exact (decide_eq_false (by omega)).symm
        refine sx_asg (ex_callNx hW (ax_of ?_))
        walk_at "e"
        refine ax_of ?_
        walk_at "e"
        exact ⟨rfl, rfl, call_x rfl ⟨src, false, rfl, few⟩ (fun d hd => done false d hb hd) fun x hx => bad false x hb hx⟩
      · have hb : true = wayB way := by
          have h := of_decide_eq_false h
          have h2 := of_decide_eq_false h2
          unfold wayB
          exact (decide_eq_true (by omega)).symm
        refine sx_asg (ex_callNx hW (ax_of ?_))
        walk_at "e"
        refine ax_of ?_
        walk_at "e"
        exact ⟨rfl, rfl, call_x rfl ⟨src, true, rfl, few⟩ (fun d hd => done true d hb hd) fun x hx => bad true x hb hx⟩
    · rintro t x rfl hx
      rcases hx src (wayB way) rfl with ⟨no, rfl⟩ | ⟨sr, big, rfl⟩
      · refine ⟨false, exm_BadExchange_TooLarge, (fun h => by cases h), fun _ => ⟨true, exm_BadExchange_BadExchange, fun _ a d => ?_, (fun h => by cases h)⟩⟩
        refine sx_of (sw_ret ?_)
        walk_at "e"
        refine ew_isE rfl (excCB_ok xc_BadExchange) (fun _ h => h) kit_BadExchange_TwiceError ?_
        walk_at "e"
        refine ⟨fun _ => ?_, (fun h => by cases h)⟩
        refine ew_notV ?_
        refine ew_isE rfl (excCB_ok xc_BadExchange) (fun _ h => h) kit_BadExchange_BadBook ?_
        walk_at "e"
        intro src' way' e
        obtain ⟨rfl, rfl⟩ := one _ _ e
        exact ⟨fun z => absurd z no, fun z => absurd z no, fun _ => rfl⟩
      · refine ⟨true, exm_TooLarge_TooLarge, fun _ a d => ?_, (fun h => by cases h)⟩
        refine sx_of (sw_ret (ew_tup (aw_cons ?_)))
        walk_at "e"
        refine ew_xf rfl rfl (aw_cons (ew_xf rfl rfl ?_))
        walk_at "e"
        refine ew_isE rfl r_TooLarge.exc (fun _ h => h) kit_TooLarge_BadBook ?_
        walk_at "e"
        refine ⟨fun _ => ?_, (fun h => by cases h)⟩
        refine ew_notV ?_
        refine ew_isE rfl r_TooLarge.exc (fun _ h => h) kit_TooLarge_BadExchange ?_
        walk_at "e"
        intro src' way' e
        obtain ⟨rfl, rfl⟩ := one _ _ e
        exact ⟨fun _ z => by omega, fun _ _ => rfl, fun z => absurd sr z⟩
  rintro γ ⟨sr, le, P, x, pc, rfl⟩
  refine sw_ret ?_
  walk_at "e"
  intro src' way' e
  obtain ⟨rfl, rfl⟩ := one _ _ e
  exact ⟨fun _ _ => ⟨P, pc, rfl⟩, fun _ z => by omega, fun z => absurd sr z⟩

theorem natsD (ls : List Nat) : ls.map nD = intsD (ls.map fun n : Nat => (n : Int)) := by unfold intsD; rw [List.map_map]; rfl
theorem stretch_inv {sp src : List Int} {Q : List Int → Prop} (h1 : ∀ e, Q [e]) (h2 : ∀ st e, Q st → goesS sp st e = true → Q (st ++ [e])) : ∀ st ∈ stretch sp src, Q st := by
  have one : ∀ (L : List (List Int)) (e : Int), (∀ st ∈ L, Q st) → ∀ st ∈ addS sp L e, Q st := fun L e h => by
    rcases List.eq_nil_or_concat L with q | ⟨M, s0, q⟩
    · subst q
      intro st h2
      rw [List.mem_singleton.mp h2]; exact h1 e
    · subst q
      rw [List.concat_eq_append] at h ⊢
      rw [addS_snoc]
      intro st hst
      split at hst
      · rename_i g
        rcases List.mem_append.mp hst with hst | hst
        · exact h st (List.mem_append_left _ hst)
        · rw [List.mem_singleton.mp hst]; exact h2 _ _ (h s0 (by simp)) g
      · rcases List.mem_append.mp hst with hst | hst
        · exact h st hst
        · rw [List.mem_singleton.mp hst]; exact h1 e
  have : ∀ (l : List Int) (L : List (List Int)), (∀ st ∈ L, Q st) → ∀ st ∈ l.foldl (addS sp) L, Q st := fun l => by
    induction l with
    | nil => intro L h; exact h
    | cons e l ih => intro L h; exact ih _ (one L e h)
  exact this src [] fun st h => by cases h
/-- without turning, stretches rise -/
theorem stretch_up (src : List Int) : ∀ st ∈ stretch (stpB false) src, dnS st = false := by
  have key : ∀ st ∈ stretch (stpB false) src, ∃ a n, st = upL a (n + 1) := stretch_inv (fun e => ⟨e, 0, by simp [upL]⟩) fun st e ⟨a, n, hs⟩ g => by
    subst hs
    refine ⟨a, n + 1, ?_⟩
    have g1 : e - (upL a (n + 1)).getLastD 0 ∈ stpB false := by
      unfold goesS at g
      rw [Bool.and_eq_true] at g
      exact of_decide_eq_true g.1
    rw [upL_last] at g1
    have g2 : e - (a + n) = 1 := by simpa [stpB] using g1
    rw [← upL_snoc a (n + 1), show e = a + ((n + 1 : Nat) : Int) by omega]
  intro st hst
  obtain ⟨a, n, rfl⟩ := key st hst
  exact (upL_dn a n).1
/-- the sizes of the blocks, sorted -/
theorem exD_blocks (bs : List Int) : exD bs = .obj "Exchange" ["blocks"] [.tup (intsD bs)] := rfl
abbrev s__law_is_row : Stmt := top 23
abbrev N__law_is_row : List Str := ["_law_actual", "_law_number"]
abbrev P__law_is_row : List Str := ["_law_actual"]
theorem sc__law_is_row : FnScope N__law_is_row P__law_is_row (defScope s__law_is_row) := ⟨rfl, rfl, rfl, by decide +kernel, rfl, by decide +kernel, by decide +kernel⟩
def pre__law_is_row : List D → Prop := fun ds => ∃ bs : List Int, ds = [.tup (intsD bs)] ∧ bs.length ≤ 1000
def post__law_is_row : List D → D → Prop := fun ds e => e = .bl true
set_option maxHeartbeats 4000000 in
theorem df__law_is_row {P : Program} {w : World} {K : PySem.W.Frag} {mg : Str → Option Value} {base : Heap} {fd : FuncData} {f : Addr} (F : FunD K "_law_is_row" "_law_is_row" (defArgs s__law_is_row) (defBody s__law_is_row) (defScope s__law_is_row) [] [] f fd) (hm : mg "_law_is_row" = some (.ref f)) (n_bool : mg "bool" = none) (n_int : mg "int" = none) (n_isinstance : mg "isinstance" = none) (n_tuple : mg "tuple" = none) :
    Df P w K mg base "_law_is_row" 1 P__law_is_row 1 pre__law_is_row post__law_is_row := by
  refine df_mk F hm sc__law_is_row (fun _ _ _ _ _ _ us hl => match us, hl with | [_], _ => rfl) fun cdv A outer s H E hr ds hl hp => ⟨_,
    (pss_cons (ps_if (pt_not (pt_val (pe_callB (call_isiK K rfl) (by rfl) n_isinstance (by decide +kernel) (pa_cons (pv 0) (pa_cons (pe_bltn (v := .ty "tuple") (by rfl) n_tuple (by decide +kernel) rfl) pa_nil))))) (pss_one (ps_ret pe_bl)) pss_nil)
    (pss_cons (ps_for PassesOwn.never rfl (pi_tupK K rfl (pv 0)) (pg_name (i := 1) sc__law_is_row.nd rfl (by first | exact Or.inl rfl | exact Or.inr rfl)) (pss_one (ps_if (PW.pt (pw_or (pt_not (pt_val (pe_callB (call_isiK K rfl) (by rfl) n_isinstance (by decide +kernel) (pa_cons (pv 1) (pa_cons (pe_bltn (v := .ty "int") (by rfl) n_int (by decide +kernel) rfl) pa_nil))))) (pw_or1 (pt_val (pe_callB (call_isiK K rfl) (by rfl) n_isinstance (by decide +kernel) (pa_cons (pv 1) (pa_cons (pe_bltn (v := .ty "bool") (by rfl) n_bool (by decide +kernel) rfl) pa_nil))))))) (pss_one (ps_ret pe_bl)) pss_nil)))
    (pss_one (ps_ret pe_bl)))), ?_⟩
  obtain ⟨a0, rfl⟩ : ∃ a0, ds = [a0] := match ds, hl with | [_], _ => ⟨_, rfl⟩
  obtain ⟨bs, e, few⟩ := hp
  cases e
  refine sw_seq (sw_if ?_)
  walk_at "e"
  refine ⟨(fun h => by cases h), fun _ => sw_next ?_⟩
  refine sw_seq (sw_for (js := [1]) ?_)
  walk_at "e"
  refine ⟨fun i γ => ∃ kv : Option Slot, γ = [some (.sh (.tup (intsD bs))), kv], ⟨none, rfl⟩, ?_, ?_⟩
  · rintro i d γ hd ⟨kv, rfl⟩
    rw [List.getElem?_map] at hd
    obtain ⟨b, hb, rfl⟩ := Option.map_eq_some_iff.mp hd
    walk_at "e"
    refine sw_if ?_
    walk_at "e"
    refine ⟨(fun h => by cases h), fun _ => ?_⟩
    walk_at "e"
    exact ⟨(fun h => by cases h), fun _ => sw_next ⟨_, rfl⟩⟩
  · rintro γ ⟨kv, rfl⟩
    refine sw_ret ?_
    walk_at "e"
    rfl
abbrev s__law_has_map : Stmt := top 24
abbrev N__law_has_map : List Str := ["_law_found", "_law_source", "_law_falling", "_law_blocks_here", "_law_lengths", "_law_block"]
abbrev P__law_has_map : List Str := ["_law_found", "_law_source", "_law_falling"]
theorem sc__law_has_map : FnScope N__law_has_map P__law_has_map (defScope s__law_has_map) := ⟨rfl, rfl, rfl, by decide +kernel, rfl, by decide +kernel, by decide +kernel⟩
def pre__law_has_map : List D → Prop := fun ds => ∃ (src : List Int) (t : Bool) (P : List (Nat × Nat)), ds = [blocksD t src P, oD src, .bl t] ∧ Src src ∧ src.length ≤ 1000 ∧ Pcs (stretch (stpB t) src) src.length P ∧ (stretch (stpB t) src).length ≤ 12
def post__law_has_map : List D → D → Prop := fun ds e => e = .bl true
set_option maxHeartbeats 4000000 in
theorem df__law_has_map {P : Program} {w : World} {K : PySem.W.Frag} {mg : Str → Option Value} {base : Heap} {fd : FuncData} {f : Addr} (F : FunD K "_law_has_map" "_law_has_map" (defArgs s__law_has_map) (defBody s__law_has_map) (defScope s__law_has_map) [] [] f fd) (hm : mg "_law_has_map" = some (.ref f)) (n_abs : mg "abs" = none) (n_isinstance : mg "isinstance" = none) (n_len : mg "len" = none) (n_list : mg "list" = none) (n_range : mg "range" = none) (n_sorted : mg "sorted" = none) (n_sum : mg "sum" = none) (n_tuple : mg "tuple" = none) (m_Exchange : mg "Exchange" = some (.ref (He.ga K "Exchange"))) (exm_TooLarge_TooLarge : PySem.W.exmOne K (.ref (He.ga K "TooLarge")) (.ref (He.ga K "TooLarge")) = some true) (exm_BadExchange_TooLarge : PySem.W.exmOne K (.ref (He.ga K "BadExchange")) (.ref (He.ga K "TooLarge")) = some false) (exm_BadExchange_BadExchange : PySem.W.exmOne K (.ref (He.ga K "BadExchange")) (.ref (He.ga K "BadExchange")) = some true) (kit_TooLarge_BadBook : PySem.W.kitOne K (.ref (He.ga K "TooLarge")) (.ref (He.ga K "BadBook")) = some true) (kit_TooLarge_BadExchange : PySem.W.kitOne K (.ref (He.ga K "TooLarge")) (.ref (He.ga K "BadExchange")) = some false) (kit_BadExchange_TwiceError : PySem.W.kitOne K (.ref (He.ga K "BadExchange")) (.ref (He.ga K "TwiceError")) = some true) (kit_BadExchange_BadBook : PySem.W.kitOne K (.ref (He.ga K "BadExchange")) (.ref (He.ga K "BadBook")) = some false) (kit_Exchange_Exchange : PySem.W.kitOne K (.ref (He.ga K "Exchange")) (.ref (He.ga K "Exchange")) = some true) (xc_BadExchange : excCB K (He.ga K "BadExchange") = true) (rz_BadExchange : StX.rz0B K "BadExchange" = true) (iso_Exchange : isoB K (He.ga K "Exchange") = true) (g__law_is_row : Df P w K mg base "_law_is_row" 1 P__law_is_row 1 pre__law_is_row post__law_is_row) (g__law_place_map : Df P w K mg base "_law_place_map" 1 P__law_place_map 2 pre__law_place_map post__law_place_map) (g__law_stretches : Df P w K mg base "_law_stretches" 1 P__law_stretches 2 pre__law_stretches post__law_stretches) (cls_Exchange : Cls K (He.ga K "Exchange")) (na_Exchange_blocks : NoAttr K (He.ga K "Exchange") "blocks") :
    Df P w K mg base "_law_has_map" 2 P__law_has_map 3 pre__law_has_map post__law_has_map := by
  refine df_mk F hm sc__law_has_map (fun _ _ _ _ _ _ us hl => match us, hl with | [_, _, _], _ => rfl) fun cdv A outer s H E hr ds hl hp => ⟨_,
    (pss_cons (ps_if (PW.pt (pw_or (pt_not (pt_val (pe_callB (call_isiK K rfl) (by rfl) n_isinstance (by decide +kernel) (pa_cons (pv 0) (pa_cons (pe_bltn (v := .ty "tuple") (by rfl) n_tuple (by decide +kernel) rfl) pa_nil))))) (pw_or (pt_cmpR op_ne (pe_callB (call_lenK K rfl) (by rfl) n_len PySem.boot_len (pa_cons (pv 0) pa_nil)) pe_int (nomark _)) (pw_or1 (pt_not (pt_val (pe_callB (call_isiK K rfl) (by rfl) n_isinstance (by decide +kernel) (pa_cons (pe_ix (ix_tupK K rfl) (pv 0) pe_int (fun _ _ => rfl)) (pa_cons (pe_glob (v := .ref (He.ga K "Exchange")) (by rfl) m_Exchange rfl) pa_nil))))))))) (pss_one (ps_ret pe_bl)) pss_nil)
    (pss_cons (ps_set (i := 3) sc__law_has_map.nd rfl (by first | exact Or.inl rfl | exact Or.inr rfl) (pe_fldK K rfl (pe_ix (ix_tupK K rfl) (pv 0) pe_int (fun _ _ => rfl)) rfl))
    (pss_cons (ps_set (i := 4) sc__law_has_map.nd rfl (by first | exact Or.inl rfl | exact Or.inr rfl) (pe_ix (ix_tupK K rfl) (pv 0) pe_int (fun _ _ => rfl)))
    (pss_cons (ps_if (PW.pt (pw_or (pt_not (pt_val (pe_dfK K rfl g__law_is_row hr (by decide) (by rfl) (pa_cons (pv 3) pa_nil)))) (pw_or (pt_not (pt_val (pe_dfK K rfl g__law_is_row hr (by decide) (by rfl) (pa_cons (pv 4) pa_nil)))) (pw_or1 (pt_cmpR op_ne (pe_callB (call_lenK K rfl) (by rfl) n_len PySem.boot_len (pa_cons (pv 3) pa_nil)) (pe_callB (call_lenK K rfl) (by rfl) n_len PySem.boot_len (pa_cons (pv 4) pa_nil)) (nomark _)))))) (pss_one (ps_ret pe_bl)) pss_nil)
    (pss_cons (ps_if (pt_cmpR (op_neDK K rfl hr.units) (pe_callB (cr_sortedIK K rfl) (by rfl) n_sorted (by decide +kernel) (pa_cons (pe_lc (own := [("_law_block", 5)]) rfl sc__law_has_map.nd (pi_tupK K rfl (pv 3)) (blkOk_by (N := N__law_has_map) (sc := defScope s__law_has_map) (by decide +kernel)) (fun _ _ _ _ _ => (pg_name (i := 5) sc__law_has_map.nd rfl (by first | exact Or.inl rfl | exact Or.inr rfl))) (fun _ _ _ _ _ => pts_nil) (fun _ _ _ _ _ => (pe_callB call_abs (by rfl) n_abs (by decide +kernel) (pa_cons (pv 5) pa_nil)))) pa_nil)) (pe_listRg (by rfl) (by rfl) n_list (prg_2 (by rfl) n_range pe_int (pe_op op_add (pe_callB (call_lenK K rfl) (by rfl) n_len PySem.boot_len (pa_cons (pv 3) pa_nil)) pe_int))) (nomark _)) (pss_one (ps_ret pe_bl)) pss_nil)
    (pss_cons (ps_if (PW.pt (pw_or (pt_cmpR op_ne (pe_callB (cr_sumQ K rfl rfl) (by rfl) n_sum (by decide +kernel) (pa_cons (pv 4) pa_nil)) (pe_callB (call_lenK K rfl) (by rfl) n_len PySem.boot_len (pa_cons (pv 1) pa_nil)) (nomark _)) (pw_or1 (pt_cmpR op_ne (pe_callB (call_lenK K rfl) (by rfl) n_len PySem.boot_len (pa_cons (pv 3) pa_nil)) (pe_dfK K rfl g__law_stretches hr (by decide) (by rfl) (pa_cons (pv 1) (pa_cons (pv 2) pa_nil))) (nomark _))))) (pss_one (ps_ret pe_bl)) pss_nil)
    (pss_cons (ps_for PassesOwn.never rfl (pi_tupK K rfl (pv 3)) (pg_name (i := 5) sc__law_has_map.nd rfl (by first | exact Or.inl rfl | exact Or.inr rfl)) (pss_one (ps_if (PW.pt (pw_or (pt_cmpR op_lt (pe_ix (ix_tupK K rfl) (pv 4) (pe_op op_sub (pe_callB call_abs (by rfl) n_abs (by decide +kernel) (pa_cons (pv 5) pa_nil)) pe_int) (fun _ _ => rfl)) pe_int (nomark _)) (pw_or1 (PW.pt (pw_and (pt_cmpR op_lt (pv 5) pe_int (nomark _)) (pw_and1 (PW.pt (pw_or (pt_not (pt_val (pv 2))) (pw_or1 (pt_cmpR op_eq (pe_ix (ix_tupK K rfl) (pv 4) (pe_op op_sub (pe_callB call_abs (by rfl) n_abs (by decide +kernel) (pa_cons (pv 5) pa_nil)) pe_int) (fun _ _ => rfl)) pe_int (nomark _))))))))))) (pss_one (ps_ret pe_bl)) pss_nil)))
    (pss_one (ps_ret (pe_cmpR (op_eqDK K rfl hr.units) (pe_dfK K rfl g__law_place_map hr (by decide) (by rfl) (pa_cons (pv 3) (pa_cons (pv 4) pa_nil))) (pv 1) (nomark _))))))))))), ?_⟩
  obtain ⟨a0, a1, a2, rfl⟩ : ∃ a0 a1 a2, ds = [a0, a1, a2] := match ds, hl with | [_, _, _], _ => ⟨_, _, _, rfl⟩
  obtain ⟨src, t, P, e, sr, few, pc, le⟩ := hp
  cases e
  have fl := stretch_flat (stpB t) src
  have back := pc.back
  rw [fl] at back
  have okx := pc.okx
  have sum := pc.sum
  have turned := fun st hst => pc.turned (st := st) hst
  have num := fun st hst => pc.num (st := st) hst
  have pos := pc.pos
  have lP := pc.len
  have run := pc.run
  have up : t = false → ∀ st ∈ stretch (stpB t) src, 0 < blkS P st := by
    rintro rfl st hst
    unfold blkS
    rw [stretch_up src st hst, if_neg Bool.false_ne_true]
    omega
  have cnt : post__law_stretches [oD src, .bl t] (nD (stretch (stpB t) src).length) := fun src' t' e => by
    injection e with e1 e
    injection e with e2 _
    injection e2 with e2
    rw [oD_inj e1, e2]
  unfold blocksD
  generalize hL : stretch (stpB t) src = L at *
  have at0 : atI [exD (L.map (blkS P)), D.tup ((P.map (·.2)).map nD)] 0 = some (exD (L.map (blkS P))) := rfl
  have at1 : atI [exD (L.map (blkS P)), D.tup ((P.map (·.2)).map nD)] 1 = some (D.tup ((P.map (·.2)).map nD)) := rfl
  refine sw_seq (sw_if ?_)
  walk_at "e"
  refine ⟨(fun h => by cases h), fun _ => ?_⟩
  walk_at "e"
  refine ⟨(fun h => by cases h), fun _ => ?_⟩
  walk_at "e"
  refine ew_ch ?_
  walk_at "e"
  refine rwl_isiO (isoB_ok iso_Exchange) kit_Exchange_Exchange ?_
  walk_at "e"
  refine ⟨(fun h => by cases h), fun _ => sw_next ?_⟩
  refine sw_seq (sw_asg ?_)
  walk_at "e"
  refine sw_seq (sw_asg ?_)
  walk_at "e"
  rw [natsD]
  have lb : (L.map (blkS P)).length = L.length := List.length_map _
  refine sw_seq (sw_if ?_)
  walk_at "e"
  refine call_ok rfl ⟨L.map (blkS P), rfl, by omega⟩ fun d hd => ?_
  obtain rfl := hd
  walk_at "e"
  refine ⟨(fun h => by cases h), fun _ => ?_⟩
  walk_at "e"
  refine call_ok rfl ⟨_, rfl, by rw [List.length_map, List.length_map]; omega⟩ fun d hd => ?_
  obtain rfl := hd
  walk_at "e"
  refine ⟨(fun h => by cases h), fun _ => ?_⟩
  walk_at "e"
  refine ⟨fun h => ?_, fun _ => sw_next ?_⟩
  · exfalso
    simp [lP] at h
  refine sw_seq (sw_if ?_)
  refine tw_test (ew_op (ew_cb (aw_cons (ew_new (en_lcA (js := [5]) D.int D.int (L.map (blkS P)) (fun b => (b.natAbs : Int)) (by simp) (by show _ ≤ (1000000 : Nat); omega) ?_)))))
  walk_at "e"
  refine ⟨rfl, fun b hb => gw_name ?_, ?_⟩
  · walk_at "e"
    exact congrArg D.int (abs_int b)
  refine aw_nil (rwl_new (rnl_sortI fun ms p srt => ?_))
  refine ew_new (en_listRg2 ?_)
  walk_at "e"
  refine ⟨1, L.length + 1, rfl, by rw [List.length_map, lb]; rfl, by omega, by show _ ≤ (1000000 : Nat); omega, ?_⟩
  have e2 : (List.range (L.length + 1 - 1)).map (fun (i : Nat) => D.int ((1 + i : Nat) : Int)) = intsD ((List.range L.length).map fun i => ((1 + i : Nat) : Int)) := by
    rw [Nat.add_sub_cancel, intsD, List.map_map]; rfl
  rw [e2]
  refine rw_neDD (eq_ints _) (eq_ints _) ?_
  rw [eqD_intsL]
  refine ⟨_, rfl, fun h => ?_, fun h => sw_next ?_⟩
  · exfalso
    have := okx.sorted p srt
    rw [lb] at this
    simp [this] at h
  refine sw_seq (sw_if ?_)
  walk_at "e"
  rw [nsum_cast, sum]
  refine ⟨fun h => ?_, fun _ => ?_⟩
  · exfalso
    simp at h
  walk_at "e"
  refine call_ok rfl ⟨src, t, rfl, sr, few⟩ fun d hd => ?_
  have hd := hd src t rfl
  rw [hL] at hd
  subst hd
  walk_at "e"
  refine ⟨fun h => ?_, fun _ => sw_next ?_⟩
  · exfalso
    simp at h
  refine sw_seqP (fun γ => ∃ b : Option D, γ = [some (.sh (.tup [exD (L.map (blkS P)), .tup (intsD ((P.map (·.2)).map fun n : Nat => (n : Int)))])), some (.sh (oD src)), some (.sh (.bl t)), some (.sh (oD (L.map (blkS P)))), some (.sh (oD ((P.map (·.2)).map fun n : Nat => (n : Int)))), b.map Slot.sh]) (sw_for (js := [5]) ?_) ?_
  · walk_at "e"
    refine ⟨fun i γ => ∃ b : Option D, γ = [some (.sh (.tup [exD (L.map (blkS P)), .tup (intsD ((P.map (·.2)).map fun n : Nat => (n : Int)))])), some (.sh (oD src)), some (.sh (.bl t)), some (.sh (oD (L.map (blkS P)))), some (.sh (oD ((P.map (·.2)).map fun n : Nat => (n : Int)))), b.map Slot.sh], ⟨none, rfl⟩, ?_, ?_⟩
    · rintro i d γ hd ⟨b, rfl⟩
      rw [List.getElem?_map, List.getElem?_map] at hd
      obtain ⟨b', hb', rfl⟩ := Option.map_eq_some_iff.mp hd
      obtain ⟨st, hst, rfl⟩ := Option.map_eq_some_iff.mp hb'
      have hst := List.mem_of_getElem? hst
      have nm := num st hst
      have lt := (List.getElem?_eq_some_iff.mp nm).1
      have al := atO (o := (P.map (·.2)).map fun n : Nat => (n : Int)) (k := numS P st) (by rw [List.length_map, List.length_map]; exact lt)
      have ev : ((P.map (·.2)).map fun n : Nat => (n : Int)).getD (numS P st) 0 = (st.length : Int) := by
        rw [List.getD_eq_getElem?_getD, List.getElem?_map, List.getElem?_map, nm]; rfl
      rw [ev] at al
      have ab := blkS_abs (P := P) st
      have p1 := List.length_pos_iff.mpr (run st hst).2.1
      have tn := turned st hst
      have u := fun e => up e st hst
      generalize blkS P st = bk at *
      walk_at "e"
      refine sw_if ?_
      walk_at "e"
      rw [abs_int, ab, show ((numS P st + 1 : Nat) : Int) - 1 = (numS P st : Nat) by omega]
      refine rw_ixT al ?_
      walk_at "e"
      refine ⟨fun h => ?_, fun _ => ?_⟩
      · exfalso
        have := of_decide_eq_true h
        omega
      walk_at "e"
      refine ⟨fun h => ?_, fun _ => (by
        refine ⟨(fun z => by cases z), fun _ => sw_next ?_⟩
        exact ⟨some (.int bk), rfl⟩)⟩
      have neg := of_decide_eq_true h
      walk_at "e"
      refine ⟨fun h2 => ?_, fun _ => ?_⟩
      · exfalso
        have := u (by simpa using h2)
        omega
      walk_at "e"
      rw [abs_int, ab, show ((numS P st + 1 : Nat) : Int) - 1 = (numS P st : Nat) by omega]
      refine rw_ixT al ?_
      walk_at "e"
      refine ⟨fun h2 => ?_, fun _ => (by
        refine sw_next ?_
        exact ⟨some (.int bk), rfl⟩)⟩
      exfalso
      have h2 := of_decide_eq_true h2
      have := tn neg
      omega
    · rintro γ ⟨b, rfl⟩
      exact ⟨b, rfl⟩
  rintro γ ⟨b, rfl⟩
  refine sw_ret ?_
  walk_at "e"
  refine call_ok rfl ⟨L.map (blkS P), P.map (·.2), _, rfl, .inr (congrArg D.tup (natsD _).symm), fun b hb => ?_, by omega, by rw [List.length_map]; omega, fun l hl => ?_⟩ fun d hd => ?_
  · have := okx.at hb
    rw [lb] at this
    rw [List.length_map]
    omega
  · have : l ≤ (P.map (·.2)).sum := by
      have key : ∀ (xs : List Nat), l ∈ xs → l ≤ xs.sum := fun xs => by
        induction xs with
        | nil => intro h; cases h
        | cons x xs ih =>
          intro h
          rw [List.sum_cons]
          rcases List.mem_cons.mp h with rfl | h
          · omega
          · have := ih h; omega
      exact key _ hl
    omega
  have hd := hd (L.map (blkS P)) (P.map (·.2)) _ rfl (.inr (congrArg D.tup (natsD _).symm))
  subst hd
  rw [back]
  walk_at "e"
  refine rw_eqDD (eq_intsT _) (eq_intsT _) ?_
  have e : EqD (oD src) (oD src) = true := by
    rw [EqD_ints]
    exact decide_eq_true rfl
  rw [e]
  rfl

theorem one_way {src src' : List Int} {way way' : Nat} (e : [oD src, nD way] = [oD src', nD way']) : src' = src ∧ way' = way := by
  injection e with e1 e
  injection e with e2 _
  injection e2 with e2
  exact ⟨(oD_inj e1).symm, (Int.ofNat.inj e2).symm⟩
theorem okM_small {m n : Nat} (h : m < n) (hn : n ≤ 4) (t : Bool) : okM m t := ⟨by omega, fun _ => by omega⟩
theorem allO_ok {m : Nat} (hm : m ≤ 3) (t : Bool) : ∀ o ∈ allO m t m, o.length = m ∧ ∀ b ∈ o, 1 ≤ b.natAbs ∧ b.natAbs ≤ m := by
  have : ∀ m, m ≤ 3 → ∀ t : Bool, (allO m t m).all (fun o => decide (o.length = m) && o.all fun b => decide (1 ≤ b.natAbs) && decide (b.natAbs ≤ m)) = true := by decide +kernel
  intro o ho
  have z := List.all_eq_true.mp (this m hm t) o ho
  rw [Bool.and_eq_true, List.all_eq_true] at z
  refine ⟨of_decide_eq_true z.1, fun b hb => ?_⟩
  have z := z.2 b hb
  rw [Bool.and_eq_true] at z
  exact ⟨of_decide_eq_true z.1, of_decide_eq_true z.2⟩
theorem cutsC_ok {n m : Nat} (hn : n ≤ 8) (hm : m ≤ 8) : ∀ l ∈ cutsC n m, l.length = m ∧ l.sum ≤ n := by
  intro l hl
  unfold cutsC at hl
  by_cases h : m = 0
  · rw [if_pos h] at hl
    by_cases h0 : n = 0
    · rw [if_pos h0] at hl
      rw [List.mem_singleton.mp hl, h]; simp
    · rw [if_neg h0] at hl; cases hl
  · rw [if_neg h] at hl
    have z := List.all_eq_true.mp (all_cut n hn m hm m (Nat.le_refl _)).2 l hl
    simpa using z
theorem le_sum {l : Nat} : ∀ {xs : List Nat}, l ∈ xs → l ≤ xs.sum
  | x :: xs, h => by
    rw [List.sum_cons]
    rcases List.mem_cons.mp h with rfl | h
    · omega
    · have := le_sum h; omega
theorem eqT_large : eqOk 1 largeT := by
  intro d hd
  simp only [List.mem_cons, List.not_mem_nil, or_false] at hd
  rcases hd with rfl | rfl | rfl | rfl
  · show PyData.strOk _ = true
    decide +kernel
  · show PyData.strOk _ = true
    decide +kernel
  · trivial
  · trivial
theorem eqT_bad : eqOk 1 badT := by
  intro d hd
  simp only [List.mem_cons, List.not_mem_nil, or_false] at hd
  rcases hd with rfl | rfl
  · show PyData.strOk _ = true
    decide +kernel
  · trivial
abbrev s__law_good_answer : Stmt := top 25
abbrev N__law_good_answer : List Str := ["_law_source", "_law_way", "_law_many", "_law_found", "_law_fewer", "_law_blocks_here", "_law_lengths"]
abbrev P__law_good_answer : List Str := ["_law_source", "_law_way"]
theorem sc__law_good_answer : FnScope N__law_good_answer P__law_good_answer (defScope s__law_good_answer) := ⟨rfl, rfl, rfl, by decide +kernel, rfl, by decide +kernel, by decide +kernel⟩
def pre__law_good_answer : List D → Prop := fun ds => ∃ (src : List Int) (way : Nat), ds = [oD src, nD way] ∧ Src src ∧ src.length ≤ 1000 ∧ way ≤ 2
def post__law_good_answer : List D → D → Prop := fun ds e => e = .bl true
set_option maxHeartbeats 4000000 in
theorem df__law_good_answer {P : Program} {w : World} {K : PySem.W.Frag} {mg : Str → Option Value} {base : Heap} {fd : FuncData} {f : Addr} (F : FunD K "_law_good_answer" "_law_good_answer" (defArgs s__law_good_answer) (defBody s__law_good_answer) (defScope s__law_good_answer) [] [] f fd) (hm : mg "_law_good_answer" = some (.ref f)) (n_len : mg "len" = none) (n_range : mg "range" = none) (g__law_cuttings : Df P w K mg base "_law_cuttings" 1 P__law_cuttings 2 pre__law_cuttings post__law_cuttings) (g__law_has_map : Df P w K mg base "_law_has_map" 2 P__law_has_map 3 pre__law_has_map post__law_has_map) (g__law_orders : Df P w K mg base "_law_orders" 1 P__law_orders 2 pre__law_orders post__law_orders) (g__law_place_map : Df P w K mg base "_law_place_map" 1 P__law_place_map 2 pre__law_place_map post__law_place_map) (g__law_stretches : Df P w K mg base "_law_stretches" 1 P__law_stretches 2 pre__law_stretches post__law_stretches) (g__law_told : Df P w K mg base "_law_told" 6 P__law_told 2 pre__law_told post__law_told) :
    Df P w K mg base "_law_good_answer" 7 P__law_good_answer 2 pre__law_good_answer post__law_good_answer := by
  refine df_mk F hm sc__law_good_answer (fun _ _ _ _ _ _ us hl => match us, hl with | [_, _], _ => rfl) fun cdv A outer s H E hr ds hl hp => ⟨_,
    (pss_cons (ps_set (i := 2) sc__law_good_answer.nd rfl (by first | exact Or.inl rfl | exact Or.inr rfl) (pe_dfK K rfl g__law_stretches hr (by decide) (by rfl) (pa_cons (pv 0) (pa_cons (pe_cmpR op_eq (pv 1) pe_int (nomark _)) pa_nil))))
    (pss_cons (ps_set (i := 3) sc__law_good_answer.nd rfl (by first | exact Or.inl rfl | exact Or.inr rfl) (pe_dfK K rfl g__law_told hr (by decide) (by rfl) (pa_cons (pv 0) (pa_cons (pv 1) pa_nil))))
    (pss_cons (ps_if (pt_cmpR op_gt (pv 2) pe_int (nomark _)) (pss_one (ps_ret (pe_cmpR (op_eqDK K rfl hr.units) (pv 3) (pe_tupF (pa_cons pe_str (pa_cons pe_str (pa_cons pe_int (pa_cons pe_bl pa_nil))))) (nomark _)))) pss_nil)
    (pss_cons (ps_if (pt_not (pt_val (pe_dfK K rfl g__law_has_map hr (by decide) (by rfl) (pa_cons (pv 3) (pa_cons (pv 0) (pa_cons (pe_cmpR op_eq (pv 1) pe_int (nomark _)) pa_nil)))))) (pss_one (ps_ret pe_bl)) pss_nil)
    (pss_cons (ps_if (pt_cmpR op_gt (pe_callB (call_lenK K rfl) (by rfl) n_len PySem.boot_len (pa_cons (pv 0) pa_nil)) pe_int (nomark _)) (pss_one (ps_ret pe_bl)) pss_nil)
    (pss_cons (ps_for PassesOwn.never rfl (pi_range1 (by rfl) n_range (pa_cons (pv 2) pa_nil)) (pg_name (i := 4) sc__law_good_answer.nd rfl (by first | exact Or.inl rfl | exact Or.inr rfl)) (pss_one (ps_for PassesOwn.never rfl (pi_listK K rfl (pe_dfK K rfl g__law_orders hr (by decide) (by rfl) (pa_cons (pv 4) (pa_cons (pe_cmpR op_eq (pv 1) pe_int (nomark _)) pa_nil)))) (pg_name (i := 5) sc__law_good_answer.nd rfl (by first | exact Or.inl rfl | exact Or.inr rfl)) (pss_one (ps_for PassesOwn.never rfl (pi_listK K rfl (pe_dfK K rfl g__law_cuttings hr (by decide) (by rfl) (pa_cons (pe_callB (call_lenK K rfl) (by rfl) n_len PySem.boot_len (pa_cons (pv 0) pa_nil)) (pa_cons (pv 4) pa_nil)))) (pg_name (i := 6) sc__law_good_answer.nd rfl (by first | exact Or.inl rfl | exact Or.inr rfl)) (pss_one (ps_if (pt_cmpR (op_eqDK K rfl hr.units) (pe_dfK K rfl g__law_place_map hr (by decide) (by rfl) (pa_cons (pv 5) (pa_cons (pv 6) pa_nil))) (pv 0) (nomark _)) (pss_one (ps_ret pe_bl)) pss_nil)))))))
    (pss_one (ps_ret pe_bl)))))))), ?_⟩
  obtain ⟨a0, a1, rfl⟩ : ∃ a0 a1, ds = [a0, a1] := match ds, hl with | [_, _], _ => ⟨_, _, rfl⟩
  obtain ⟨src, way, e, sr, few, hw⟩ := hp
  cases e
  refine sw_seq (sw_asg ?_)
  walk_at "e"
  have wb : decide ((way : Int) = 2) = wayB way := decide_eq_decide.mpr (by omega)
  rw [wb]
  refine call_ok rfl ⟨src, wayB way, rfl, sr, few⟩ fun d hd => ?_
  obtain rfl := hd src (wayB way) rfl
  refine sw_seq (sw_asg ?_)
  walk_at "e"
  refine call_ok rfl ⟨src, way, rfl, few, hw⟩ fun d hd => ?_
  obtain ⟨h1, h2, _⟩ := hd src way rfl
  refine sw_seq (sw_if ?_)
  walk_at "e"
  refine ⟨fun h => ?_, fun h => sw_next ?_⟩
  · have big : 12 < (stretch (stpB (wayB way)) src).length := by
      have := of_decide_eq_true h
      omega
    obtain rfl := h2 sr big
    refine sw_ret ?_
    walk_at "e"
    refine rw_eqDD eqT_large eqT_large ?_
    rw [show (D.tup [D.str "large", D.str "blocks", D.int 12, D.bl true]) = largeT from rfl, EqD_refl eqT_large]
    rfl
  have small : (stretch (stpB (wayB way)) src).length ≤ 12 := by
    have := of_decide_eq_false h
    omega
  obtain ⟨P, pc, rfl⟩ := h1 sr small
  refine sw_seq (sw_if ?_)
  walk_at "e"
  rw [wb]
  refine call_ok rfl ⟨src, wayB way, P, rfl, sr, few, pc, small⟩ fun d hd => ?_
  obtain rfl := hd
  walk_at "e"
  refine ⟨(fun h => by cases h), fun _ => sw_next ?_⟩
  refine sw_seq (sw_if ?_)
  walk_at "e"
  rw [List.length_map]
  refine ⟨fun h => ?_, fun h => sw_next ?_⟩
  · refine sw_ret ?_
    walk_at "e"
    rfl
  have n4 : src.length ≤ 4 := by
    have := of_decide_eq_false h
    omega
  have m4 := Nat.le_trans (stretch_le (stpB (wayB way)) src) n4
  let Inv : Gam → Prop := fun γ => ∃ a b c : Option D, γ = [some (.sh (oD src)), some (.sh (nD way)), some (.sh (nD (stretch (stpB (wayB way)) src).length)), some (.sh (blocksD (wayB way) src P)), a.map Slot.sh, b.map Slot.sh, c.map Slot.sh]
  refine sw_seqP Inv (sw_for (js := [4]) ?_) ?_
  · walk_at "e"
    refine ⟨by omega, by omega, fun _ γ => Inv γ, ⟨none, none, none, rfl⟩, ?_, fun γ h => h⟩
    rintro i d γ hd ⟨a, b, c, rfl⟩
    obtain ⟨hi, rfl⟩ := rng_get hd
    have hi : i < (stretch (stpB (wayB way)) src).length := by omega
    walk_at "e"
    refine sw_for (js := [5]) ?_
    refine iw_list ?_
    walk_at "e"
    rw [Int.zero_add, wb]
    refine call_ok rfl ⟨i, wayB way, rfl, okM_small hi m4 _⟩ fun d hd => ?_
    obtain rfl := hd i (wayB way) rfl
    refine ⟨_, rfl, fun _ γ => ∃ b c : Option D, γ = [some (.sh (oD src)), some (.sh (nD way)), some (.sh (nD (stretch (stpB (wayB way)) src).length)), some (.sh (blocksD (wayB way) src P)), some (.sh (nD i)), b.map Slot.sh, c.map Slot.sh], ⟨b, c, rfl⟩, ?_, fun γ ⟨b, c, h⟩ => ⟨some (nD i), b, c, h⟩⟩
    rintro j d γ hd ⟨b, c, rfl⟩
    rw [List.getElem?_map] at hd
    obtain ⟨o, ho, rfl⟩ := Option.map_eq_some_iff.mp hd
    have ho := List.mem_of_getElem? ho
    obtain ⟨ol, ob⟩ := allO_ok (by omega) _ o ho
    walk_at "e"
    refine sw_for (js := [6]) ?_
    refine iw_list ?_
    walk_at "e"
    rw [List.length_map]
    refine call_ok rfl ⟨src.length, i, rfl, by omega, by omega⟩ fun d hd => ?_
    obtain rfl := hd src.length i rfl
    refine ⟨_, rfl, fun _ γ => ∃ c : Option D, γ = [some (.sh (oD src)), some (.sh (nD way)), some (.sh (nD (stretch (stpB (wayB way)) src).length)), some (.sh (blocksD (wayB way) src P)), some (.sh (nD i)), some (.sh (oD o)), c.map Slot.sh], ⟨c, rfl⟩, ?_, fun γ ⟨c, h⟩ => ⟨some (oD o), c, h⟩⟩
    rintro q d γ hd ⟨c, rfl⟩
    rw [List.getElem?_map] at hd
    obtain ⟨l, hl, rfl⟩ := Option.map_eq_some_iff.mp hd
    have hl := List.mem_of_getElem? hl
    obtain ⟨ll, ls⟩ := cutsC_ok (by omega) (by omega) l hl
    have no := few_no sr n4 hi ho hl
    walk_at "e"
    refine sw_if ?_
    walk_at "e"
    refine call_ok rfl ⟨o, l, _, rfl, .inr rfl, fun b hb => by have := ob b hb; omega, by omega, by omega, fun x hx => by have := le_sum hx; omega⟩ fun d hd => ?_
    obtain rfl := hd o l _ rfl (.inr rfl)
    walk_at "e"
    refine rw_eqDD (eq_intsT _) (eq_intsT _) ?_
    rw [EqD_ints, decide_eq_false no]
    walk_at "e"
    refine ⟨(fun h => by cases h), fun _ => (by
      refine sw_next ?_
      exact ⟨some (pD l), rfl⟩)⟩
  rintro γ ⟨a, b, c, rfl⟩
  refine sw_ret ?_
  walk_at "e"
  rfl

theorem cut_to (r : List Int) (k : Nat) : cutD (intsD r) none (some (k : Int)) = intsD (r.take k) := by
  unfold cutD intsD
  have e : HT.sIx (r.map D.int).length (r.map D.int).length (some (k : Int)) = min k r.length := by rw [HT.sIx_nat, List.length_map]
  show (((r.map D.int).drop 0).take (HT.sIx (r.map D.int).length (r.map D.int).length (some (k : Int)) - 0)) = _
  rw [e, List.drop_zero, Nat.sub_zero, ← List.map_take]
  congr 1
  by_cases h : k ≤ r.length
  · rw [Nat.min_eq_left h]
  · rw [Nat.min_eq_right (by omega), List.take_of_length_le (by omega : r.length ≤ k), List.take_of_length_le (Nat.le_refl _)]
theorem cut_from (r : List Int) (k : Nat) : cutD (intsD r) (some (k : Int)) none = intsD (r.drop k) := cutD_from D.int r k
abbrev s__law_faulty_map : Stmt := top 26
abbrev N__law_faulty_map : List Str := ["_law_source", "_law_draws_here", "_law_many", "_law_at", "_law_form"]
abbrev P__law_faulty_map : List Str := ["_law_source", "_law_draws_here"]
theorem sc__law_faulty_map : FnScope N__law_faulty_map P__law_faulty_map (defScope s__law_faulty_map) := ⟨rfl, rfl, rfl, by decide +kernel, rfl, by decide +kernel, by decide +kernel⟩
def pre__law_faulty_map : List D → Prop := fun ds => ∃ (src ns : List Int), ds = [oD src, .lst (ns.map .int)] ∧ Src src ∧ src.length ≤ 900 ∧ ns.length = 3 ∧ ∀ n ∈ ns, 0 ≤ n ∧ n < 1000
def post__law_faulty_map : List D → D → Prop := fun ds e => ∃ bad : List Int, e = oD bad ∧ ¬ Src bad ∧ bad.length ≤ 1000
set_option maxHeartbeats 4000000 in
theorem df__law_faulty_map {P : Program} {w : World} {K : PySem.W.Frag} {mg : Str → Option Value} {base : Heap} {fd : FuncData} {f : Addr} (F : FunD K "_law_faulty_map" "_law_faulty_map" (defArgs s__law_faulty_map) (defBody s__law_faulty_map) (defScope s__law_faulty_map) [] [] f fd) (hm : mg "_law_faulty_map" = some (.ref f)) (n_int : mg "int" = none) (n_len : mg "len" = none) :
    Df P w K mg base "_law_faulty_map" 1 P__law_faulty_map 2 pre__law_faulty_map post__law_faulty_map := by
  refine df_mk F hm sc__law_faulty_map (fun _ _ _ _ _ _ us hl => match us, hl with | [_, _], _ => rfl) fun cdv A outer s H E hr ds hl hp => ⟨_,
    (pss_cons (ps_set (i := 2) sc__law_faulty_map.nd rfl (by first | exact Or.inl rfl | exact Or.inr rfl) (pe_callB (call_lenK K rfl) (by rfl) n_len PySem.boot_len (pa_cons (pv 0) pa_nil)))
    (pss_cons (ps_if (pt_cmpR op_eq (pv 2) pe_int (nomark _)) (pss_one (ps_ret (pe_tupF (pa_cons (pe_op op_add pe_int (pe_op op_mod (pe_callTy call_int1 (by rfl) n_int (by decide +kernel) (pa_cons (pe_ix (ix_listK K rfl) (pv 1) pe_int (fun _ _ => rfl)) pa_nil)) pe_int)) pa_nil)))) pss_nil)
    (pss_cons (ps_set (i := 3) sc__law_faulty_map.nd rfl (by first | exact Or.inl rfl | exact Or.inr rfl) (pe_op op_mod (pe_callTy call_int1 (by rfl) n_int (by decide +kernel) (pa_cons (pe_ix (ix_listK K rfl) (pv 1) pe_int (fun _ _ => rfl)) pa_nil)) (pv 2)))
    (pss_cons (ps_set (i := 4) sc__law_faulty_map.nd rfl (by first | exact Or.inl rfl | exact Or.inr rfl) (pe_op op_mod (pe_callTy call_int1 (by rfl) n_int (by decide +kernel) (pa_cons (pe_ix (ix_listK K rfl) (pv 1) pe_int (fun _ _ => rfl)) pa_nil)) pe_int))
    (pss_cons (ps_if (pt_cmpR op_eq (pv 4) pe_int (nomark _)) (pss_one (ps_ret (pe_op (op_catK K rfl) (pe_op (op_catK K rfl) (pe_slice (sl_tupK K rfl) (pv 0) po_none (po_some (pv 3))) (pe_tupF (pa_cons (pe_op op_add (pv 2) (pe_op op_mod (pe_callTy call_int1 (by rfl) n_int (by decide +kernel) (pa_cons (pe_ix (ix_listK K rfl) (pv 1) pe_int (fun _ _ => rfl)) pa_nil)) pe_int)) pa_nil))) (pe_slice (sl_tupK K rfl) (pv 0) (po_some (pe_op op_add (pv 3) pe_int)) po_none)))) pss_nil)
    (pss_cons (ps_if (pt_cmpR op_eq (pv 4) pe_int (nomark _)) (pss_one (ps_ret (pe_op (op_catK K rfl) (pe_op (op_catK K rfl) (pe_slice (sl_tupK K rfl) (pv 0) po_none (po_some (pv 3))) (pe_tupF (pa_cons (pe_op op_sub (pe_op op_sub pe_int pe_int) (pe_op op_mod (pe_callTy call_int1 (by rfl) n_int (by decide +kernel) (pa_cons (pe_ix (ix_listK K rfl) (pv 1) pe_int (fun _ _ => rfl)) pa_nil)) pe_int)) pa_nil))) (pe_slice (sl_tupK K rfl) (pv 0) (po_some (pe_op op_add (pv 3) pe_int)) po_none)))) pss_nil)
    (pss_cons (ps_if (pt_cmpR op_eq (pv 4) pe_int (nomark _)) (pss_one (ps_ret (pe_op (op_catK K rfl) (pe_op (op_catK K rfl) (pe_slice (sl_tupK K rfl) (pv 0) po_none (po_some (pv 3))) (pe_tupF (pa_cons (pe_ix (ix_tupK K rfl) (pv 0) (pe_op op_mod (pe_callTy call_int1 (by rfl) n_int (by decide +kernel) (pa_cons (pe_ix (ix_listK K rfl) (pv 1) pe_int (fun _ _ => rfl)) pa_nil)) (pv 2)) (fun _ _ => rfl)) pa_nil))) (pe_slice (sl_tupK K rfl) (pv 0) (po_some (pv 3)) po_none)))) pss_nil)
    (pss_cons (ps_if (PW.pt (pw_and (pt_cmpR op_eq (pv 4) pe_int (nomark _)) (pw_and1 (pt_cmpR op_lt (pe_ix (ix_tupK K rfl) (pv 0) (pv 3) (fun _ _ => rfl)) (pe_op op_sub (pv 2) pe_int) (nomark _))))) (pss_one (ps_ret (pe_op (op_catK K rfl) (pe_slice (sl_tupK K rfl) (pv 0) po_none (po_some (pv 3))) (pe_slice (sl_tupK K rfl) (pv 0) (po_some (pe_op op_add (pv 3) pe_int)) po_none)))) pss_nil)
    (pss_one (ps_ret (pe_op (op_catK K rfl) (pv 0) (pe_tupF (pa_cons (pe_op op_add (pv 2) pe_int) pa_nil))))))))))))), ?_⟩
  obtain ⟨a0, a1, rfl⟩ : ∃ a0 a1, ds = [a0, a1] := match ds, hl with | [_, _], _ => ⟨_, _, rfl⟩
  obtain ⟨src, ns, e, sr, few, l3, hns⟩ := hp
  cases e
  obtain ⟨x0, x1, x2, e, p0, p1, p2⟩ := draw3 l3 hns
  have g0 : atI (ns.map D.int) 0 = some (.int x0) := by rw [e]; rfl
  have g1 : atI (ns.map D.int) 1 = some (.int x1) := by rw [e]; rfl
  have g2 : atI (ns.map D.int) 2 = some (.int x2) := by rw [e]; rfl
  refine sw_seq (sw_asg ?_)
  walk_at "e"
  rw [List.length_map]
  refine sw_seq (sw_if ?_)
  walk_at "e"
  refine ⟨fun h => ?_, fun h => sw_next ?_⟩
  · refine sw_ret ?_
    walk_at "e"
    refine ⟨[1 + x0 % 3], rfl, no_big (x := 1 + x0 % 3) (by simp) ?_, by simp⟩
    have := Int.emod_nonneg x0 (show (3 : Int) ≠ 0 by decide)
    simp only [List.length_cons, List.length_nil]
    omega
  have n0 : 0 < src.length := by
    have := of_decide_eq_false h
    omega
  have a0 := Int.emod_nonneg x1 (show (src.length : Int) ≠ 0 by omega)
  have a1 := Int.emod_lt_of_pos x1 (show 0 < (src.length : Int) by omega)
  refine sw_seq (sw_asg ?_)
  walk_at "e"
  obtain ⟨at', hat⟩ : ∃ k : Nat, x1 % (src.length : Int) = (k : Int) := ⟨(x1 % (src.length : Int)).toNat, by omega⟩
  rw [hat]
  have lt : at' < src.length := by omega
  have asrc := atO lt
  refine sw_seq (sw_asg ?_)
  walk_at "e"
  refine sw_seq (sw_if ?_)
  walk_at "e"
  have tl : (src.take at').length = at' := by rw [List.length_take]; omega
  have dl : (src.drop (at' + 1)).length = src.length - (at' + 1) := List.length_drop
  have dl2 : (src.drop at').length = src.length - at' := List.length_drop
  have m0 := Int.emod_nonneg x2 (show (3 : Int) ≠ 0 by decide)
  have z1 : ((src.take at').map D.int).length + 1 ≤ sizeS := by rw [List.length_map]; show _ ≤ (1000000 : Nat); omega
  have z2 : ∀ y : Int, ((src.take at').map D.int ++ [D.int y]).length + ((src.drop (at' + 1)).map D.int).length ≤ sizeS := fun y => by rw [List.length_append, List.length_map, List.length_map]; simp only [List.length_cons, List.length_nil]; show _ ≤ (1000000 : Nat); omega
  have z3 : ∀ y : Int, ((src.take at').map D.int ++ [D.int y]).length + ((src.drop at').map D.int).length ≤ sizeS := fun y => by rw [List.length_append, List.length_map, List.length_map]; simp only [List.length_cons, List.length_nil]; show _ ≤ (1000000 : Nat); omega
  have z4 : ((src.take at').map D.int).length + ((src.drop (at' + 1)).map D.int).length ≤ sizeS := by rw [List.length_map, List.length_map]; show _ ≤ (1000000 : Nat); omega
  have len3 : ∀ y : Int, (src.take at' ++ [y] ++ src.drop (at' + 1)).length = src.length := fun y => by simp; omega
  have up1 : (at' : Int) + 1 = ((at' + 1 : Nat) : Int) := by omega
  refine ⟨fun _ => ?_, fun _ => sw_next ?_⟩
  · refine sw_ret ?_
    walk_at "e"
    rw [cut_to]
    refine rw_catA z1 ?_
    walk_at "e"
    rw [up1, cut_from]
    refine rw_catA (z2 _) ?_
    refine ⟨src.take at' ++ [(src.length : Int) + x2 % 3] ++ src.drop (at' + 1), by simp [intsD], no_big (x := (src.length : Int) + x2 % 3) (by simp) ?_, ?_⟩
    · rw [len3]; omega
    · rw [len3]; omega
  refine sw_seq (sw_if ?_)
  walk_at "e"
  refine ⟨fun _ => ?_, fun _ => sw_next ?_⟩
  · refine sw_ret ?_
    walk_at "e"
    rw [cut_to]
    refine rw_catA z1 ?_
    walk_at "e"
    rw [up1, cut_from]
    refine rw_catA (z2 _) ?_
    refine ⟨src.take at' ++ [0 - 1 - x2 % 3] ++ src.drop (at' + 1), by simp [intsD], no_neg (x := 0 - 1 - x2 % 3) (by simp) (by omega), ?_⟩
    rw [len3]; omega
  refine sw_seq (sw_if ?_)
  walk_at "e"
  refine ⟨fun _ => ?_, fun _ => sw_next ?_⟩
  · refine sw_ret ?_
    walk_at "e"
    rw [cut_to]
    have b0 := Int.emod_nonneg x2 (show (src.length : Int) ≠ 0 by omega)
    have b1 := Int.emod_lt_of_pos x2 (show 0 < (src.length : Int) by omega)
    obtain ⟨j, hj⟩ : ∃ k : Nat, x2 % (src.length : Int) = (k : Int) := ⟨(x2 % (src.length : Int)).toNat, by omega⟩
    rw [hj]
    have jl : j < src.length := by omega
    refine rw_ixT (atO jl) ?_
    walk_at "e"
    rw [cut_from]
    refine rw_catA (z3 _) ?_
    have mem : src.getD j 0 ∈ src := by
      rw [List.getD_eq_getElem?_getD, List.getElem?_eq_getElem jl]
      exact List.getElem_mem _
    refine ⟨src.take at' ++ [src.getD j 0] ++ src.drop at', by simp [intsD], no_twice mem, ?_⟩
    simp; omega
  refine sw_seq (sw_if ?_)
  walk_at "e"
  have gd : src.getD at' 0 = src[at'] := by rw [List.getD_eq_getElem?_getD, List.getElem?_eq_getElem lt]; rfl
  have last : ∃ bad : List Int, D.tup (intsD src ++ [D.int ((src.length : Int) + 1)]) = oD bad ∧ ¬ Src bad ∧ bad.length ≤ 1000 := by
    refine ⟨src ++ [(src.length : Int) + 1], by simp [intsD], no_big (x := (src.length : Int) + 1) (by simp) ?_, by simp; omega⟩
    rw [List.length_append]; simp
  have zl : (src.map D.int).length + 1 ≤ sizeS := by rw [List.length_map]; show _ ≤ (1000000 : Nat); omega
  refine ⟨fun _ => ?_, fun _ => ?_⟩
  · walk_at "e"
    refine ⟨fun h3 => ?_, fun _ => sw_next ?_⟩
    · refine sw_ret ?_
      walk_at "e"
      rw [cut_to]
      walk_at "e"
      rw [up1, cut_from]
      refine rw_catA z4 ?_
      refine ⟨src.take at' ++ src.drop (at' + 1), by simp [intsD], no_less sr lt (by rw [← gd]; exact of_decide_eq_true h3), ?_⟩
      simp; omega
    · refine sw_ret ?_
      walk_at "e"
      first | exact last | (refine rw_catA zl ?_; exact last)
  · refine ⟨(fun h => by cases h), fun _ => sw_next (sw_ret ?_)⟩
    walk_at "e"
    first | exact last | (refine rw_catA zl ?_; exact last)

theorem parted_ok : ∀ k, k < 6 → Src (((List.range ((10 + k + 1) / 2)).map fun i : Nat => (0 : Int) + i * 2) ++ (List.range ((10 + k) / 2)).map fun i : Nat => (1 : Int) + i * 2) := by
  intro k hk
  have : k = 0 ∨ k = 1 ∨ k = 2 ∨ k = 3 ∨ k = 4 ∨ k = 5 := by omega
  rcases this with rfl | rfl | rfl | rfl | rfl | rfl <;> (unfold Src; decide +kernel)
theorem rg_a : ∀ k, k < 6 → RgC 0 ((10 + k : Nat) : Int) 2 ((10 + k + 1) / 2) ∧ RgC 1 ((10 + k : Nat) : Int) 2 ((10 + k) / 2) := by
  intro k hk
  have : k = 0 ∨ k = 1 ∨ k = 2 ∨ k = 3 ∨ k = 4 ∨ k = 5 := by omega
  rcases this with rfl | rfl | rfl | rfl | rfl | rfl <;> exact ⟨⟨by decide, by decide, by decide, by decide⟩, by decide, by decide, by decide, by decide⟩
theorem emodN (x : Int) {m : Nat} (hm : 0 < m) : ∃ k : Nat, x % (m : Int) = (k : Int) ∧ k < m := by
  have h0 := Int.emod_nonneg x (show (m : Int) ≠ 0 by omega)
  have h1 := Int.emod_lt_of_pos x (show 0 < (m : Int) by omega)
  exact ⟨(x % (m : Int)).toNat, by omega, by omega⟩
theorem cut_mid (ms : List Int) (h : ms.length = 15) : cutD (ms.map D.int) (some 7) (some 10) = ((ms.drop 7).take 3).map D.int := by
  unfold cutD
  have e1 : HT.sIx (ms.map D.int).length 0 (some 7) = 7 := by rw [show (some (7 : Int)) = some ((7 : Nat) : Int) from rfl, HT.sIx_nat, List.length_map]; omega
  have e2 : HT.sIx (ms.map D.int).length (ms.map D.int).length (some 10) = 10 := by rw [show (some (10 : Int)) = some ((10 : Nat) : Int) from rfl, HT.sIx_nat, List.length_map]; omega
  rw [e1, e2, ← List.map_drop, ← List.map_take]
abbrev s_law : Stmt := top 27
abbrev N_law : List Str := ["_law_script", "_law_draws_here", "_law_many", "_law_blocks_here", "_law_lengths", "_law_free", "_law_small", "_law_descending", "_law_size", "_law_parted", "_law_sources", "_law_source", "_law_way", "_law_faulty", "_law_at", "_law_draw"]
abbrev P_law : List Str := ["_law_script"]
theorem sc_law : FnScope N_law P_law (defScope s_law) := ⟨rfl, rfl, rfl, by decide +kernel, rfl, by decide +kernel, by decide +kernel⟩
def pre_law : List D → Prop := fun ds => ∃ ns : List Int, ds = [.scr ns] ∧ ns.length ≤ 63
def post_law : List D → D → Prop := fun ds d => d = .bl true
set_option maxHeartbeats 4000000 in
theorem df_law {P : Program} {w : World} {K : PySem.W.Frag} {mg : Str → Option Value} {base : Heap} {fd : FuncData} {f : Addr} (F : FunD K "law" "law" (defArgs s_law) (defBody s_law) (defScope s_law) [] [] f fd) (hm : mg "law" = some (.ref f)) (n_int : mg "int" = none) (n_len : mg "len" = none) (n_list : mg "list" = none) (n_range : mg "range" = none) (n_tuple : mg "tuple" = none) (g__law_blocks : Df P w K mg base "_law_blocks" 1 P__law_blocks 3 pre__law_blocks post__law_blocks) (g__law_cell : Df P w K mg base "_law_cell" 1 P__law_cell 2 pre__law_cell post__law_cell) (g__law_draws : Df P w K mg base "_law_draws" 1 P__law_draws 2 pre__law_draws post__law_draws) (g__law_faulty_map : Df P w K mg base "_law_faulty_map" 1 P__law_faulty_map 2 pre__law_faulty_map post__law_faulty_map) (g__law_free_map : Df P w K mg base "_law_free_map" 1 P__law_free_map 1 pre__law_free_map post__law_free_map) (g__law_good_answer : Df P w K mg base "_law_good_answer" 7 P__law_good_answer 2 pre__law_good_answer post__law_good_answer) (g__law_place_map : Df P w K mg base "_law_place_map" 1 P__law_place_map 2 pre__law_place_map post__law_place_map) (g__law_told : Df P w K mg base "_law_told" 6 P__law_told 2 pre__law_told post__law_told) :
    Df P w K mg base "law" 8 P_law 1 pre_law post_law := by
  refine df_mk F hm sc_law (fun _ _ _ _ _ _ us hl => match us, hl with | [_], _ => rfl) fun cdv A outer s H E hr ds hl hp => ⟨_,
    (pss_cons (ps_set (i := 1) sc_law.nd rfl (by first | exact Or.inl rfl | exact Or.inr rfl) (pe_dfK K rfl g__law_draws hr (by decide) (by rfl) (pa_cons (pe_dfK K rfl g__law_cell hr (by decide) (by rfl) (pa_cons (pv 0) (pa_cons pe_int pa_nil))) (pa_cons pe_int pa_nil))))
    (pss_cons (ps_set (i := 2) sc_law.nd rfl (by first | exact Or.inl rfl | exact Or.inr rfl) (pe_op op_mod (pe_callTy call_int1 (by rfl) n_int (by decide +kernel) (pa_cons (pe_ix (ix_listK K rfl) (pv 1) pe_int (fun _ _ => rfl)) pa_nil)) pe_int))
    (pss_cons (ps_set (i := 3) sc_law.nd rfl (by first | exact Or.inl rfl | exact Or.inr rfl) (pe_dfK K rfl g__law_blocks hr (by decide) (by rfl) (pa_cons (pe_dfK K rfl g__law_draws hr (by decide) (by rfl) (pa_cons (pe_dfK K rfl g__law_cell hr (by decide) (by rfl) (pa_cons (pv 0) (pa_cons pe_int pa_nil))) (pa_cons (pv 2) pa_nil))) (pa_cons (pv 2) (pa_cons (pe_cmpR op_gt (pe_op op_mod (pe_callTy call_int1 (by rfl) n_int (by decide +kernel) (pa_cons (pe_ix (ix_listK K rfl) (pv 1) pe_int (fun _ _ => rfl)) pa_nil)) pe_int) pe_int (nomark _)) pa_nil)))))
    (pss_cons (ps_setLc (i := 4) (own := [("_law_draw", 15)]) rfl sc_law.nd rfl rfl (sw_true rfl rfl rfl (by decide +kernel)) (pi_listK K rfl (pe_dfK K rfl g__law_draws hr (by decide) (by rfl) (pa_cons (pe_op op_add (pe_dfK K rfl g__law_cell hr (by decide) (by rfl) (pa_cons (pv 0) (pa_cons pe_int pa_nil))) pe_int) (pa_cons (pv 2) pa_nil)))) (blkOk_by (N := N_law) (sc := defScope s_law) (by decide +kernel)) (fun _ _ _ _ _ => (pg_name (i := 15) sc_law.nd rfl (by first | exact Or.inl rfl | exact Or.inr rfl))) (fun _ _ _ _ _ => pts_nil) (fun _ _ _ _ _ => (pe_op op_mod (pe_callTy call_int1 (by rfl) n_int (by decide +kernel) (pa_cons (pv 15) pa_nil)) pe_int)))
    (pss_cons (ps_if (pt_cmpR op_eq (pe_op op_mod (pe_callTy call_int1 (by rfl) n_int (by decide +kernel) (pa_cons (pe_ix (ix_listK K rfl) (pv 1) pe_int (fun _ _ => rfl)) pa_nil)) pe_int) pe_int (nomark _)) (pss_one (ps_setLc (i := 4) (own := [("_law_draw", 15)]) rfl sc_law.nd rfl rfl (sw_true rfl rfl rfl (by decide +kernel)) (pi_listK K rfl (pe_dfK K rfl g__law_draws hr (by decide) (by rfl) (pa_cons (pe_op op_add (pe_dfK K rfl g__law_cell hr (by decide) (by rfl) (pa_cons (pv 0) (pa_cons pe_int pa_nil))) pe_int) (pa_cons (pv 2) pa_nil)))) (blkOk_by (N := N_law) (sc := defScope s_law) (by decide +kernel)) (fun _ _ _ _ _ => (pg_name (i := 15) sc_law.nd rfl (by first | exact Or.inl rfl | exact Or.inr rfl))) (fun _ _ _ _ _ => pts_nil) (fun _ _ _ _ _ => (pe_op op_mod (pe_callTy call_int1 (by rfl) n_int (by decide +kernel) (pa_cons (pv 15) pa_nil)) pe_int)))) pss_nil)
    (pss_cons (ps_set (i := 5) sc_law.nd rfl (by first | exact Or.inl rfl | exact Or.inr rfl) (pe_dfK K rfl g__law_free_map hr (by decide) (by rfl) (pa_cons (pe_dfK K rfl g__law_draws hr (by decide) (by rfl) (pa_cons (pe_op op_add (pe_dfK K rfl g__law_cell hr (by decide) (by rfl) (pa_cons (pv 0) (pa_cons pe_int pa_nil))) pe_int) (pa_cons (pe_op op_mod (pe_callTy call_int1 (by rfl) n_int (by decide +kernel) (pa_cons (pe_ix (ix_listK K rfl) (pv 1) pe_int (fun _ _ => rfl)) pa_nil)) pe_int) pa_nil))) pa_nil)))
    (pss_cons (ps_set (i := 6) sc_law.nd rfl (by first | exact Or.inl rfl | exact Or.inr rfl) (pe_dfK K rfl g__law_free_map hr (by decide) (by rfl) (pa_cons (pe_dfK K rfl g__law_draws hr (by decide) (by rfl) (pa_cons (pe_op op_add (pe_dfK K rfl g__law_cell hr (by decide) (by rfl) (pa_cons (pv 0) (pa_cons pe_int pa_nil))) pe_int) (pa_cons (pe_op op_mod (pe_callTy call_int1 (by rfl) n_int (by decide +kernel) (pa_cons (pe_ix (ix_listK K rfl) (pv 1) pe_int (fun _ _ => rfl)) pa_nil)) pe_int) pa_nil))) pa_nil)))
    (pss_cons (ps_set (i := 7) sc_law.nd rfl (by first | exact Or.inl rfl | exact Or.inr rfl) (pe_callTy (call_tupK K rfl) (by rfl) n_tuple (by decide +kernel) (pa_cons (pe_revLK K rfl (pe_listRg (by rfl) (by rfl) n_list (prg_1 (by rfl) n_range (pe_op op_add pe_int (pe_op op_mod (pe_callTy call_int1 (by rfl) n_int (by decide +kernel) (pa_cons (pe_ix (ix_listK K rfl) (pv 1) pe_int (fun _ _ => rfl)) pa_nil)) pe_int))))) pa_nil)))
    (pss_cons (ps_set (i := 8) sc_law.nd rfl (by first | exact Or.inl rfl | exact Or.inr rfl) (pe_op op_add pe_int (pe_op op_mod (pe_callTy call_int1 (by rfl) n_int (by decide +kernel) (pa_cons (pe_ix (ix_listK K rfl) (pv 1) pe_int (fun _ _ => rfl)) pa_nil)) pe_int)))
    (pss_cons (ps_set (i := 9) sc_law.nd rfl (by first | exact Or.inl rfl | exact Or.inr rfl) (pe_callTy (call_tupK K rfl) (by rfl) n_tuple (by decide +kernel) (pa_cons (pe_op op_cat (pe_listRg3 (by rfl) (by rfl) n_list (by rfl) n_range (pa_cons pe_int (pa_cons (pv 8) (pa_cons pe_int pa_nil)))) (pe_listRg3 (by rfl) (by rfl) n_list (by rfl) n_range (pa_cons pe_int (pa_cons (pv 8) (pa_cons pe_int pa_nil))))) pa_nil)))
    (pss_cons (ps_set (i := 10) sc_law.nd rfl (by first | exact Or.inl rfl | exact Or.inr rfl) (pe_lst (pa_cons (pe_dfK K rfl g__law_place_map hr (by decide) (by rfl) (pa_cons (pv 3) (pa_cons (pv 4) pa_nil))) (pa_cons (pv 5) (pa_cons (pv 6) (pa_cons (pv 7) (pa_cons (pv 9) pa_nil)))))))
    (pss_cons (ps_for PassesOwn.never rfl (pi_listK K rfl (pv 10)) (pg_name (i := 11) sc_law.nd rfl (by first | exact Or.inl rfl | exact Or.inr rfl)) (pss_one (ps_for PassesOwn.never rfl (pi_range1 (by rfl) n_range (pa_cons pe_int pa_nil)) (pg_name (i := 12) sc_law.nd rfl (by first | exact Or.inl rfl | exact Or.inr rfl)) (pss_one (ps_if (pt_not (pt_val (pe_dfK K rfl g__law_good_answer hr (by decide) (by rfl) (pa_cons (pv 11) (pa_cons (pv 12) pa_nil))))) (pss_one (ps_ret pe_bl)) pss_nil)))))
    (pss_cons (ps_for PassesOwn.never rfl (pi_listK K rfl (pv 10)) (pg_name (i := 11) sc_law.nd rfl (by first | exact Or.inl rfl | exact Or.inr rfl)) (pss_cons (ps_set (i := 13) sc_law.nd rfl (by first | exact Or.inl rfl | exact Or.inr rfl) (pe_dfK K rfl g__law_faulty_map hr (by decide) (by rfl) (pa_cons (pv 11) (pa_cons (pe_slice (sl_listK K rfl) (pv 1) (po_some pe_int) (po_some pe_int)) pa_nil))))
    (pss_one (ps_for PassesOwn.never rfl (pi_range1 (by rfl) n_range (pa_cons pe_int pa_nil)) (pg_name (i := 12) sc_law.nd rfl (by first | exact Or.inl rfl | exact Or.inr rfl)) (pss_one (ps_if (pt_cmpR (op_neDK K rfl hr.units) (pe_dfK K rfl g__law_told hr (by decide) (by rfl) (pa_cons (pv 13) (pa_cons (pv 12) pa_nil))) (pe_tupF (pa_cons pe_str (pa_cons pe_bl pa_nil))) (nomark _)) (pss_one (ps_ret pe_bl)) pss_nil))))))
    (pss_cons (ps_set (i := 14) sc_law.nd rfl (by first | exact Or.inl rfl | exact Or.inr rfl) (pe_op op_mod (pe_callTy call_int1 (by rfl) n_int (by decide +kernel) (pa_cons (pe_ix (ix_listK K rfl) (pv 1) pe_int (fun _ _ => rfl)) pa_nil)) (pe_callB (call_lenK K rfl) (by rfl) n_len PySem.boot_len (pa_cons (pv 10) pa_nil))))
    (pss_one (ps_ret (pe_dfK K rfl g__law_good_answer hr (by decide) (by rfl) (pa_cons (pe_ix (ix_listK K rfl) (pv 10) (pv 14) (fun _ _ => rfl)) (pa_cons (pe_op op_mod (pe_callTy call_int1 (by rfl) n_int (by decide +kernel) (pa_cons (pe_ix (ix_listK K rfl) (pv 1) pe_int (fun _ _ => rfl)) pa_nil)) pe_int) pa_nil))))))))))))))))))), ?_⟩
  obtain ⟨a0, rfl⟩ : ∃ a0, ds = [a0] := match ds, hl with | [_], _ => ⟨_, rfl⟩
  obtain ⟨ns, e, hns⟩ := hp
  cases e
  refine sw_seq (sw_asg ?_)
  walk_at "e"
  refine call_ok rfl ⟨ns, 0, rfl⟩ fun d hd => ?_
  obtain ⟨c0, rfl⟩ := hd
  walk_at "e"
  refine call_ok rfl ⟨_, 15, rfl, by decide⟩ fun d hd => ?_
  obtain ⟨ms, rfl, hl, hdr⟩ := hd _ 15 rfl
  have dr := fun k => draw_at hl hdr k
  obtain ⟨m0, g0, a0, _⟩ := dr 0 (by decide)
  obtain ⟨m1, g1, a1, _⟩ := dr 1 (by decide)
  obtain ⟨m2, g2, a2, _⟩ := dr 2 (by decide)
  obtain ⟨m3, g3, a3, _⟩ := dr 3 (by decide)
  obtain ⟨m4, g4, a4, _⟩ := dr 4 (by decide)
  obtain ⟨m5, g5, a5, _⟩ := dr 5 (by decide)
  obtain ⟨m6, g6, a6, _⟩ := dr 6 (by decide)
  obtain ⟨m10, g10, a10, _⟩ := dr 10 (by decide)
  obtain ⟨m11, g11, a11, _⟩ := dr 11 (by decide)
  refine sw_seq (sw_asg ?_)
  walk_at "e"
  obtain ⟨many, em, lm⟩ := emodN m0 (m := 7) (by decide)
  rw [show m0 % 7 = (many : Int) from em]
  refine sw_seq (sw_asg ?_)
  walk_at "e"
  refine call_ok rfl ⟨ns, 1, rfl⟩ fun d hd => ?_
  obtain ⟨c1, rfl⟩ := hd
  walk_at "e"
  refine call_ok rfl ⟨_, many, rfl, by omega⟩ fun d hd => ?_
  obtain ⟨fs, rfl, hlf, hdf⟩ := hd _ many rfl
  walk_at "e"
  refine call_ok rfl ⟨fs, many, _, rfl, hlf, by omega, fun n h => (hdf n h).1⟩ fun d hd => ?_
  obtain ⟨bs, rfl, okb, hlb⟩ := hd _ many _ rfl
  refine sw_seqP (fun γ => ∃ ls : List Nat, ls.length = many ∧ (∀ l ∈ ls, l ≤ 40) ∧ γ = [some (.sh (.scr ns)), some (.sh (.lst (ms.map .int))), some (.sh (nD many)), some (.sh (oD bs)), some (.ow (ls.map nD)), none, none, none, none, none, none, none, none, none, none, none]) ?_ ?_
  · skip
    refine sw_asgN (en_lcE (js := [15]) D.int nD (fun x : Int => (x % 5).toNat) (by simp) ?_)
    refine iw_list ?_
    walk_at "e"
    refine call_ok rfl ⟨ns, 2, rfl⟩ fun d hd => ?_
    obtain ⟨c2, rfl⟩ := hd
    walk_at "e"
    refine call_ok rfl ⟨_, many, rfl, by omega⟩ fun d hd => ?_
    obtain ⟨fs, rfl, hlf, hdf⟩ := hd _ many rfl
    refine ⟨_, rfl, fs, by show _ ≤ (1000000 : Nat); omega, rfl, fun x hx => gw_name ?_, ?_⟩
    · walk_at "e"
      exact congrArg D.int (Int.toNat_of_nonneg (Int.emod_nonneg x (by decide))).symm
    · refine ⟨fs.map fun x => (x % 5).toNat, by rw [List.length_map]; exact hlf, fun l hl => ?_, rfl⟩
      obtain ⟨x, _, rfl⟩ := List.mem_map.mp hl
      omega
  rintro γ ⟨ls0, hls0, bls0, rfl⟩
  refine sw_seqP (fun γ => ∃ ls : List Nat, ls.length = many ∧ (∀ l ∈ ls, l ≤ 40) ∧ γ = [some (.sh (.scr ns)), some (.sh (.lst (ms.map .int))), some (.sh (nD many)), some (.sh (oD bs)), some (.ow (ls.map nD)), none, none, none, none, none, none, none, none, none, none, none]) ?_ ?_
  · refine sw_if ?_
    walk_at "e"
    refine ⟨fun _ => ?_, fun _ => sw_next ⟨ls0, hls0, bls0, rfl⟩⟩
    refine sw_asgN (en_lcE (js := [15]) D.int nD (fun x : Int => (x % 41).toNat) (by simp) ?_)
    refine iw_list ?_
    walk_at "e"
    refine call_ok rfl ⟨ns, 2, rfl⟩ fun d hd => ?_
    obtain ⟨c2, rfl⟩ := hd
    walk_at "e"
    refine call_ok rfl ⟨_, many, rfl, by omega⟩ fun d hd => ?_
    obtain ⟨fs, rfl, hlf, hdf⟩ := hd _ many rfl
    refine ⟨_, rfl, fs, by show _ ≤ (1000000 : Nat); omega, rfl, fun x hx => gw_name ?_, ?_⟩
    · walk_at "e"
      exact congrArg D.int (Int.toNat_of_nonneg (Int.emod_nonneg x (by decide))).symm
    · refine ⟨fs.map fun x => (x % 41).toNat, by rw [List.length_map]; exact hlf, fun l hl => ?_, rfl⟩
      obtain ⟨x, _, rfl⟩ := List.mem_map.mp hl
      omega
  rintro γ ⟨ls, hls, bls, rfl⟩
  refine sw_frz 4 rfl ?_
  refine sw_seq (sw_asg ?_)
  walk_at "e"
  refine call_ok rfl ⟨ns, 3, rfl⟩ fun d hd => ?_
  obtain ⟨c3, rfl⟩ := hd
  walk_at "e"
  obtain ⟨n3, e3, l3⟩ := emodN m3 (m := 15) (by decide)
  rw [show m3 % 15 = (n3 : Int) from e3]
  refine call_ok rfl ⟨_, n3, rfl, by omega⟩ fun d hd => ?_
  obtain ⟨fs3, rfl, hl3, hd3⟩ := hd _ n3 rfl
  walk_at "e"
  refine call_ok rfl ⟨fs3, rfl, by omega, fun n h => (hd3 n h).1⟩ fun d hd => ?_
  obtain ⟨sA, rfl, srA, lA⟩ := hd fs3 rfl
  refine sw_seq (sw_asg ?_)
  walk_at "e"
  refine call_ok rfl ⟨ns, 4, rfl⟩ fun d hd => ?_
  obtain ⟨c4, rfl⟩ := hd
  walk_at "e"
  obtain ⟨n4, e4, l4⟩ := emodN m4 (m := 5) (by decide)
  rw [show m4 % 5 = (n4 : Int) from e4]
  refine call_ok rfl ⟨_, n4, rfl, by omega⟩ fun d hd => ?_
  obtain ⟨fs4, rfl, hl4, hd4⟩ := hd _ n4 rfl
  walk_at "e"
  refine call_ok rfl ⟨fs4, rfl, by omega, fun n h => (hd4 n h).1⟩ fun d hd => ?_
  obtain ⟨sB, rfl, srB, lB⟩ := hd fs4 rfl
  refine sw_seq (sw_asg ?_)
  walk_at "e"
  refine ew_new (en_listRg ?_)
  walk_at "e"
  obtain ⟨n5, e5, l5⟩ := emodN m5 (m := 4) (by decide)
  rw [show m5 % 4 = (n5 : Int) from e5]
  refine ⟨11 + n5, rfl, by show _ ≤ (1000000 : Nat); omega, ?_⟩
  walk_at "e"
  have eD : ((List.range (11 + n5)).map fun i : Nat => D.int (i : Int)).reverse = intsD ((List.range (11 + n5)).map fun i : Nat => (i : Int)).reverse := by
    unfold intsD
    rw [List.map_reverse, List.map_map]; rfl
  rw [eD]
  have srC := src_rev (11 + n5)
  have lC : ((List.range (11 + n5)).map fun i : Nat => (i : Int)).reverse.length ≤ 14 := by
    rw [List.length_reverse, List.length_map, List.length_range]; omega
  generalize ((List.range (11 + n5)).map fun i : Nat => (i : Int)).reverse = sC at srC lC
  refine sw_seq (sw_asg ?_)
  walk_at "e"
  obtain ⟨n6, e6, l6⟩ := emodN m6 (m := 6) (by decide)
  rw [show m6 % 6 = (n6 : Int) from e6, show (10 : Int) + (n6 : Int) = ((10 + n6 : Nat) : Int) by omega]
  obtain ⟨rga, rgb⟩ := rg_a n6 l6
  refine sw_seq (sw_asg ?_)
  walk_at "e"
  refine ew_new (en_listRg3 ?_)
  walk_at "e"
  refine ⟨0, _, 2, _, rfl, rga, by show _ ≤ (1000000 : Nat); omega, ?_⟩
  walk_at "e"
  refine ew_new (en_listRg3 ?_)
  walk_at "e"
  refine ⟨1, _, 2, _, rfl, rgb, by show _ ≤ (1000000 : Nat); omega, ?_⟩
  walk_at "e"
  refine rw2_new (rn_cat (by rw [List.length_map, List.length_map, List.length_range, List.length_range]; show _ ≤ (1000000 : Nat); omega) ?_)
  walk_at "e"
  have eP : ((List.range ((10 + n6 + 1) / 2)).map fun k : Nat => D.int (0 + (k : Int) * 2)) ++ ((List.range ((10 + n6) / 2)).map fun k : Nat => D.int (1 + (k : Int) * 2)) = intsD (((List.range ((10 + n6 + 1) / 2)).map fun i : Nat => (0 : Int) + i * 2) ++ (List.range ((10 + n6) / 2)).map fun i : Nat => (1 : Int) + i * 2) := by
    unfold intsD
    rw [List.map_append, List.map_map, List.map_map]; rfl
  rw [eP]
  have srP := parted_ok n6 l6
  have lP : (((List.range ((10 + n6 + 1) / 2)).map fun i : Nat => (0 : Int) + i * 2) ++ (List.range ((10 + n6) / 2)).map fun i : Nat => (1 : Int) + i * 2).length ≤ 20 := by
    rw [List.length_append, List.length_map, List.length_map, List.length_range, List.length_range]; omega
  generalize ((List.range ((10 + n6 + 1) / 2)).map fun i : Nat => (0 : Int) + i * 2) ++ ((List.range ((10 + n6) / 2)).map fun i : Nat => (1 : Int) + i * 2) = sP at srP lP
  have okb2 : ∀ b ∈ bs, 1 ≤ b.natAbs ∧ b.natAbs ≤ ls.length := fun b hb => by
    have := okb.at hb
    omega
  obtain ⟨srM, lM⟩ := pmS_src (ls := ls) okb (by omega)
  have sumle : ls.sum ≤ ls.length * 40 := by
    have key : ∀ xs : List Nat, (∀ x ∈ xs, x ≤ 40) → xs.sum ≤ xs.length * 40 := fun xs => by
      induction xs with
      | nil => intro _; simp
      | cons x xs ih =>
        intro h
        have a := h x List.mem_cons_self
        have b := ih fun y hy => h y (List.mem_cons_of_mem _ hy)
        rw [List.sum_cons, List.length_cons]
        omega
    exact key ls bls
  refine sw_seq (sw_asg ?_)
  refine ew_new (en_lst (aw_cons (ew_call ?_)))
  walk_at "e"
  refine call_ok rfl ⟨bs, ls, _, rfl, .inl rfl, okb2, by omega, by omega, fun l hl => by have := bls l hl; omega⟩ fun d hd => ?_
  obtain rfl := hd bs ls _ rfl (.inl rfl)
  walk_at "e"
  obtain ⟨S, hS, lS, okS⟩ : ∃ S : List (List Int), [oD (pmS bs ls), oD sA, oD sB, D.tup (intsD sC), D.tup (intsD sP)] = S.map oD ∧ S.length = 5 ∧ ∀ s ∈ S, Src s ∧ s.length ≤ 900 := by
    refine ⟨[pmS bs ls, sA, sB, sC, sP], rfl, rfl, fun s hs => ?_⟩
    simp only [List.mem_cons, List.not_mem_nil, or_false] at hs
    rcases hs with rfl | rfl | rfl | rfl | rfl
    · exact ⟨srM, by omega⟩
    · exact ⟨srA, by omega⟩
    · exact ⟨srB, by omega⟩
    · exact ⟨srC, by omega⟩
    · exact ⟨srP, by omega⟩
  rw [hS]
  let G : Option D → Option D → Option D → Gam := fun a b c => [some (.sh (.scr ns)), some (.sh (.lst (ms.map .int))), some (.sh (nD many)), some (.sh (oD bs)), some (.sh (.lst (ls.map nD))), some (.sh (oD sA)), some (.sh (oD sB)), some (.sh (oD sC)), some (.sh (nD (10 + n6))), some (.sh (oD sP)), some (.sh (.lst (S.map oD))), a.map Slot.sh, b.map Slot.sh, c.map Slot.sh, none, none]
  refine sw_seqP (fun γ => ∃ a b c, γ = G a b c) (sw_for (js := [11]) ?_) ?_
  · refine iw_list ?_
    walk_at "e"
    refine ⟨fun _ γ => ∃ a b c, γ = G a b c, ⟨none, none, none, rfl⟩, ?_, fun γ h => h⟩
    rintro i d γ hd ⟨a, b, c, rfl⟩
    rw [List.getElem?_map] at hd
    obtain ⟨s, hs, rfl⟩ := Option.map_eq_some_iff.mp hd
    obtain ⟨srs, lns⟩ := okS s (List.mem_of_getElem? hs)
    walk_at "e"
    refine sw_for (js := [12]) ?_
    walk_at "e"
    refine ⟨by omega, by omega, fun _ γ => ∃ b c, γ = G (some (oD s)) b c, ⟨b, c, rfl⟩, ?_, fun γ ⟨b, c, h⟩ => ⟨_, b, c, h⟩⟩
    rintro j d γ hj ⟨b, c, rfl⟩
    obtain ⟨lj, rfl⟩ := rng_get hj
    have lj : j < 3 := by omega
    rw [Int.zero_add]
    walk_at "e"
    refine sw_if ?_
    walk_at "e"
    refine call_ok rfl ⟨s, j, rfl, srs, by omega, by omega⟩ fun d hd => ?_
    obtain rfl := hd
    walk_at "e"
    refine ⟨(fun h => by cases h), fun _ => (by
      refine sw_next ?_
      exact ⟨some (nD j), c, rfl⟩)⟩
  rintro γ ⟨a, b, c, rfl⟩
  refine sw_seqP (fun γ => ∃ a b c, γ = G a b c) (sw_for (js := [11]) ?_) ?_
  · refine iw_list ?_
    walk_at "e"
    refine ⟨fun _ γ => ∃ a b c, γ = G a b c, ⟨a, b, c, rfl⟩, ?_, fun γ h => h⟩
    rintro i d γ hd ⟨a, b, c, rfl⟩
    rw [List.getElem?_map] at hd
    obtain ⟨s, hs, rfl⟩ := Option.map_eq_some_iff.mp hd
    obtain ⟨srs, lns⟩ := okS s (List.mem_of_getElem? hs)
    walk_at "e"
    refine sw_seq (sw_asg ?_)
    refine ew_call (aw_cons (ew_var rfl (aw_cons (ew_sl (ew_var rfl ?_)))))
    refine ow_some (ew_ci ⟨7, rfl, ow_some (ew_ci ⟨10, rfl, ?_⟩)⟩)
    refine slw_new (sln_L ?_)
    rw [cut_mid ms (by omega)]
    refine aw_nil ?_
    refine call_ok rfl ⟨s, (ms.drop 7).take 3, rfl, srs, lns, by rw [List.length_take, List.length_drop, hl]; rfl, fun n hn => hdr n (List.mem_of_mem_drop (List.mem_of_mem_take hn))⟩ fun d hd => ?_
    obtain ⟨bad, rfl, nb, lb⟩ := hd
    refine sw_for (js := [12]) ?_
    walk_at "e"
    refine ⟨by omega, by omega, fun _ γ => ∃ b, γ = G (some (oD s)) b (some (oD bad)), ⟨b, rfl⟩, ?_, fun γ ⟨b, h⟩ => ⟨_, b, _, h⟩⟩
    rintro j d γ hj ⟨b, rfl⟩
    obtain ⟨lj, rfl⟩ := rng_get hj
    have lj : j < 3 := by omega
    rw [Int.zero_add]
    walk_at "e"
    refine sw_if ?_
    walk_at "e"
    refine call_ok rfl ⟨bad, j, rfl, lb, by omega⟩ fun d hd => ?_
    have hd := (hd bad j rfl).2.2 nb
    subst hd
    walk_at "e"
    refine rw_neDD eqT_bad eqT_bad ?_
    rw [show (D.tup [D.str "bad", D.bl true]) = badT from rfl, EqD_refl eqT_bad]
    walk_at "e"
    refine ⟨(fun h => by cases h), fun _ => (by
      refine sw_next ?_
      exact ⟨some (nD j), rfl⟩)⟩
  rintro γ ⟨a, b, c, rfl⟩
  refine sw_seq (sw_asg ?_)
  walk_at "e"
  rw [List.length_map, lS]
  obtain ⟨ka, ea, la⟩ := emodN m10 (m := 5) (by decide)
  obtain ⟨kb, eb, lb⟩ := emodN m11 (m := 3) (by decide)
  refine rw_mod (show (0 : Int) < ((5 : Nat) : Int) by decide) ?_
  rw [show m10 % ((5 : Nat) : Int) = (ka : Int) from ea]
  have aS : atI (S.map oD) (ka : Int) = some (oD (S.getD ka [])) := by
    refine atI_nat ?_
    rw [List.getElem?_map, List.getD_eq_getElem?_getD, List.getElem?_eq_getElem (by omega)]; rfl
  have mS : S.getD ka [] ∈ S := by
    rw [List.getD_eq_getElem?_getD, List.getElem?_eq_getElem (by omega)]
    exact List.getElem_mem _
  obtain ⟨srs, lns⟩ := okS _ mS
  refine sw_ret ?_
  walk_at "e"
  rw [show m11 % 3 = (kb : Int) from eb]
  refine call_ok rfl ⟨_, kb, rfl, srs, by omega, by omega⟩ fun d hd => ?_
  obtain rfl := hd
  rfl

end Z
namespace Z
open PySem PySem.Spec L2
def d__law_cell : He.DefD := ⟨("_law_cell", none), "_law_cell", "_law_cell", defArgs s__law_cell, defBody s__law_cell, defScope s__law_cell, [], []⟩
def d__law_draws : He.DefD := ⟨("_law_draws", none), "_law_draws", "_law_draws", defArgs s__law_draws, defBody s__law_draws, defScope s__law_draws, [], []⟩
def d_Exchange___init__ : He.DefD := ⟨("Exchange", some "__init__"), "__init__", "Exchange.__init__", defArgs s_Exchange___init__, defBody s_Exchange___init__, defScope s_Exchange___init__, [], []⟩
def d_check_map : He.DefD := ⟨("check_map", none), "check_map", "check_map", defArgs s_check_map, defBody s_check_map, defScope s_check_map, [], []⟩
def d_goes_on : He.DefD := ⟨("goes_on", none), "goes_on", "goes_on", defArgs s_goes_on, defBody s_goes_on, defScope s_goes_on, [], []⟩
def d_stretches : He.DefD := ⟨("stretches", none), "stretches", "stretches", defArgs s_stretches, defBody s_stretches, defScope s_stretches, [], []⟩
def d_blocks_of : He.DefD := ⟨("blocks_of", none), "blocks_of", "blocks_of", defArgs s_blocks_of, defBody s_blocks_of, defScope s_blocks_of, [], [("turned", He.Dv.bl false)]⟩
def d__law_blocks : He.DefD := ⟨("_law_blocks", none), "_law_blocks", "_law_blocks", defArgs s__law_blocks, defBody s__law_blocks, defScope s__law_blocks, [], []⟩
def d__law_place_map : He.DefD := ⟨("_law_place_map", none), "_law_place_map", "_law_place_map", defArgs s__law_place_map, defBody s__law_place_map, defScope s__law_place_map, [], []⟩
def d__law_cuttings : He.DefD := ⟨("_law_cuttings", none), "_law_cuttings", "_law_cuttings", defArgs s__law_cuttings, defBody s__law_cuttings, defScope s__law_cuttings, [], []⟩
def d__law_orders : He.DefD := ⟨("_law_orders", none), "_law_orders", "_law_orders", defArgs s__law_orders, defBody s__law_orders, defScope s__law_orders, [], []⟩
def d__law_free_map : He.DefD := ⟨("_law_free_map", none), "_law_free_map", "_law_free_map", defArgs s__law_free_map, defBody s__law_free_map, defScope s__law_free_map, [], []⟩
def d__law_stretches : He.DefD := ⟨("_law_stretches", none), "_law_stretches", "_law_stretches", defArgs s__law_stretches, defBody s__law_stretches, defScope s__law_stretches, [], []⟩
def d__law_told : He.DefD := ⟨("_law_told", none), "_law_told", "_law_told", defArgs s__law_told, defBody s__law_told, defScope s__law_told, [], []⟩
def d__law_is_row : He.DefD := ⟨("_law_is_row", none), "_law_is_row", "_law_is_row", defArgs s__law_is_row, defBody s__law_is_row, defScope s__law_is_row, [], []⟩
def d__law_has_map : He.DefD := ⟨("_law_has_map", none), "_law_has_map", "_law_has_map", defArgs s__law_has_map, defBody s__law_has_map, defScope s__law_has_map, [], []⟩
def d__law_good_answer : He.DefD := ⟨("_law_good_answer", none), "_law_good_answer", "_law_good_answer", defArgs s__law_good_answer, defBody s__law_good_answer, defScope s__law_good_answer, [], []⟩
def d__law_faulty_map : He.DefD := ⟨("_law_faulty_map", none), "_law_faulty_map", "_law_faulty_map", defArgs s__law_faulty_map, defBody s__law_faulty_map, defScope s__law_faulty_map, [], []⟩
def d_law : He.DefD := ⟨("law", none), "law", "law", defArgs s_law, defBody s_law, defScope s_law, [], []⟩
def fnL : List He.DefD := [d__law_cell, d__law_draws, d_Exchange___init__, d_check_map, d_goes_on, d_stretches, d_blocks_of, d__law_blocks, d__law_place_map, d__law_cuttings, d__law_orders, d__law_free_map, d__law_stretches, d__law_told, d__law_is_row, d__law_has_map, d__law_good_answer, d__law_faulty_map, d_law]
def faL : List He.Fa := [.glo "BadBook", .glo "BadExchange", .glo "Exchange", .glo "TooLarge", .glo "TwiceError", .glo "_law_cell", .glo "_law_draws", .glo "check_map", .glo "goes_on", .glo "stretches", .glo "blocks_of", .glo "_law_blocks", .glo "_law_place_map", .glo "_law_cuttings", .glo "_law_orders", .glo "_law_free_map", .glo "_law_stretches", .glo "_law_told", .glo "_law_is_row", .glo "_law_has_map", .glo "_law_good_answer", .glo "_law_faulty_map", .glo "law", .free "abs", .free "bool", .free "enumerate", .free "int", .free "isinstance", .free "len", .free "list", .free "min", .free "range", .free "sorted", .free "sum", .free "super", .free "tuple"]
def fileL : Str := PySem.Challenge.pw_twiceeach_k43_fewest_blocks_of_a_map.main.file
def exL (K : PySem.W.Frag) : Bool := xd_TooLarge.ok K fileL && decide (PySem.W.exmOne K (.ref (He.ga K "TooLarge")) (.ref (He.ga K "TooLarge")) = some true) && decide (PySem.W.exmOne K (.ref (He.ga K "BadExchange")) (.ref (He.ga K "TooLarge")) = some false) && decide (PySem.W.exmOne K (.ref (He.ga K "BadExchange")) (.ref (He.ga K "BadExchange")) = some true) && decide (PySem.W.kitOne K (.ref (He.ga K "TooLarge")) (.ref (He.ga K "BadBook")) = some true) && decide (PySem.W.kitOne K (.ref (He.ga K "TooLarge")) (.ref (He.ga K "BadExchange")) = some false) && decide (PySem.W.kitOne K (.ref (He.ga K "BadExchange")) (.ref (He.ga K "TwiceError")) = some true) && decide (PySem.W.kitOne K (.ref (He.ga K "BadExchange")) (.ref (He.ga K "BadBook")) = some false) && decide (PySem.W.kitOne K (.ref (He.ga K "Exchange")) (.ref (He.ga K "Exchange")) = some true) && decide (excCB K (He.ga K "BadExchange") = true) && decide (StX.rz0B K "BadExchange" = true) && decide (isoB K (He.ga K "Exchange") = true) && clsB K (He.ga K "Exchange") && noB K (He.ga K "Exchange") "blocks" && mkB K (He.ga K "Exchange") && cvB K (He.ga K "Exchange") "MOST" 12 && methB K "Exchange" "__init__" && true
def sdL : List StX.SupD := [xd_TooLarge]
abbrev Rw : PySem.W.OpenRow := PySem.W.OpenLaw.row PySem.Challenge.rw_twiceeach_k43_fewest_blocks_of_a_map
def tfL : List He.Defn := [("blocks_of", none)]
def tabsK (K : PySem.W.Frag) : Tabs := ⟨tfL.map fun p => (He.cT K p).2⟩
abbrev hk : PySem.W.Hook := StX.hookS 6 faL fnL [] tfL exL sdL
def ob (s : PySem.W.SharedT) : StX.AlS := StX.obsS 6 faL fnL [] tfL exL sdL (HandSHeadRun.getT s)
theorem ob_eq (s : PySem.W.SharedT) : ob s = hk.obs s.abs := StX.obsS_eq (HandSHeadRun.getT_eq s)
def looseL : List Str := ["_wall", "__name__", "TwiceError", "BadBook", "TooLarge", "BadExchange", "Exchange", "check_map", "goes_on", "stretches", "blocks_of", "_law_cell", "_law_draws", "_law_blocks", "_law_place_map", "_law_cuttings", "_law_orders", "_law_free_map", "_law_stretches", "_law_told", "_law_is_row", "_law_has_map", "_law_good_answer", "_law_faulty_map"]
set_option maxHeartbeats 0 in
theorem run (w : World) : HandSHeadRun.RunEq Rw (PySem.W.view Rw.prog [27]) hk ob 5000 looseL w := by
  intro os
  kernel_rfl
theorem facts {P : Program} {w : World} {K : PySem.W.Frag} {h : Heap} {mg : Str → Option Value} {f : Addr} (X : K.In h) (G : h.Ns mainGlobals mg) (hfa : mg ("law" : Str) = some (.ref f)) (c : StX.SaysS faL fnL [] tfL exL sdL w h K) (hPf : P.main.file = fileL) (hPs : (P.main.scope.names.lookup ("super" : Str)).isSome = false) :
    ∃ fd : FuncData, (∀ (s : Shared) (v : Value), BindsTo s fd ⟨[v], []⟩ [("_law_script", v)]) ∧ ∀ base : Heap, K.In base → base.Ns mainGlobals mg → (∀ p ∈ tfL.map (He.cT K), GxR.TabB base mg p.1 p.2) → FnOk P w K mg base CX0 8 f fd ["_law_script"] (@spLawZ (tabsK K) K) := by
  letI := tabsK K
  have m_BadBook := He.glo_ok X G (c.x.t.d.fact 0 (f := .glo "BadBook") rfl)
  have m_BadExchange := He.glo_ok X G (c.x.t.d.fact 1 (f := .glo "BadExchange") rfl)
  have m_Exchange := He.glo_ok X G (c.x.t.d.fact 2 (f := .glo "Exchange") rfl)
  have m_TooLarge := He.glo_ok X G (c.x.t.d.fact 3 (f := .glo "TooLarge") rfl)
  have m_TwiceError := He.glo_ok X G (c.x.t.d.fact 4 (f := .glo "TwiceError") rfl)
  obtain ⟨f__law_cell, F__law_cell⟩ := c.x.t.d.def_ 0 (d := d__law_cell) rfl
  obtain ⟨f__law_draws, F__law_draws⟩ := c.x.t.d.def_ 1 (d := d__law_draws) rfl
  obtain ⟨f_Exchange___init__, F_Exchange___init__⟩ := c.x.t.d.def_ 2 (d := d_Exchange___init__) rfl
  obtain ⟨f_check_map, F_check_map⟩ := c.x.t.d.def_ 3 (d := d_check_map) rfl
  obtain ⟨f_goes_on, F_goes_on⟩ := c.x.t.d.def_ 4 (d := d_goes_on) rfl
  obtain ⟨f_stretches, F_stretches⟩ := c.x.t.d.def_ 5 (d := d_stretches) rfl
  obtain ⟨f_blocks_of, F_blocks_of⟩ := c.x.t.d.def_ 6 (d := d_blocks_of) rfl
  obtain ⟨f__law_blocks, F__law_blocks⟩ := c.x.t.d.def_ 7 (d := d__law_blocks) rfl
  obtain ⟨f__law_place_map, F__law_place_map⟩ := c.x.t.d.def_ 8 (d := d__law_place_map) rfl
  obtain ⟨f__law_cuttings, F__law_cuttings⟩ := c.x.t.d.def_ 9 (d := d__law_cuttings) rfl
  obtain ⟨f__law_orders, F__law_orders⟩ := c.x.t.d.def_ 10 (d := d__law_orders) rfl
  obtain ⟨f__law_free_map, F__law_free_map⟩ := c.x.t.d.def_ 11 (d := d__law_free_map) rfl
  obtain ⟨f__law_stretches, F__law_stretches⟩ := c.x.t.d.def_ 12 (d := d__law_stretches) rfl
  obtain ⟨f__law_told, F__law_told⟩ := c.x.t.d.def_ 13 (d := d__law_told) rfl
  obtain ⟨f__law_is_row, F__law_is_row⟩ := c.x.t.d.def_ 14 (d := d__law_is_row) rfl
  obtain ⟨f__law_has_map, F__law_has_map⟩ := c.x.t.d.def_ 15 (d := d__law_has_map) rfl
  obtain ⟨f__law_good_answer, F__law_good_answer⟩ := c.x.t.d.def_ 16 (d := d__law_good_answer) rfl
  obtain ⟨f__law_faulty_map, F__law_faulty_map⟩ := c.x.t.d.def_ 17 (d := d__law_faulty_map) rfl
  obtain ⟨f_law, F_law⟩ := c.x.t.d.def_ 18 (d := d_law) rfl
  have m__law_cell := He.glo_ok X G (c.x.t.d.fact 5 (f := .glo "_law_cell") rfl)
  have m__law_draws := He.glo_ok X G (c.x.t.d.fact 6 (f := .glo "_law_draws") rfl)
  have m_check_map := He.glo_ok X G (c.x.t.d.fact 7 (f := .glo "check_map") rfl)
  have m_goes_on := He.glo_ok X G (c.x.t.d.fact 8 (f := .glo "goes_on") rfl)
  have m_stretches := He.glo_ok X G (c.x.t.d.fact 9 (f := .glo "stretches") rfl)
  have m_blocks_of := He.glo_ok X G (c.x.t.d.fact 10 (f := .glo "blocks_of") rfl)
  have m__law_blocks := He.glo_ok X G (c.x.t.d.fact 11 (f := .glo "_law_blocks") rfl)
  have m__law_place_map := He.glo_ok X G (c.x.t.d.fact 12 (f := .glo "_law_place_map") rfl)
  have m__law_cuttings := He.glo_ok X G (c.x.t.d.fact 13 (f := .glo "_law_cuttings") rfl)
  have m__law_orders := He.glo_ok X G (c.x.t.d.fact 14 (f := .glo "_law_orders") rfl)
  have m__law_free_map := He.glo_ok X G (c.x.t.d.fact 15 (f := .glo "_law_free_map") rfl)
  have m__law_stretches := He.glo_ok X G (c.x.t.d.fact 16 (f := .glo "_law_stretches") rfl)
  have m__law_told := He.glo_ok X G (c.x.t.d.fact 17 (f := .glo "_law_told") rfl)
  have m__law_is_row := He.glo_ok X G (c.x.t.d.fact 18 (f := .glo "_law_is_row") rfl)
  have m__law_has_map := He.glo_ok X G (c.x.t.d.fact 19 (f := .glo "_law_has_map") rfl)
  have m__law_good_answer := He.glo_ok X G (c.x.t.d.fact 20 (f := .glo "_law_good_answer") rfl)
  have m__law_faulty_map := He.glo_ok X G (c.x.t.d.fact 21 (f := .glo "_law_faulty_map") rfl)
  have m_law := He.glo_ok X G (c.x.t.d.fact 22 (f := .glo "law") rfl)
  have n_abs := He.free_ok X G (c.x.t.d.fact 23 (f := .free "abs") rfl)
  have n_bool := He.free_ok X G (c.x.t.d.fact 24 (f := .free "bool") rfl)
  have n_enumerate := He.free_ok X G (c.x.t.d.fact 25 (f := .free "enumerate") rfl)
  have n_int := He.free_ok X G (c.x.t.d.fact 26 (f := .free "int") rfl)
  have n_isinstance := He.free_ok X G (c.x.t.d.fact 27 (f := .free "isinstance") rfl)
  have n_len := He.free_ok X G (c.x.t.d.fact 28 (f := .free "len") rfl)
  have n_list := He.free_ok X G (c.x.t.d.fact 29 (f := .free "list") rfl)
  have n_min := He.free_ok X G (c.x.t.d.fact 30 (f := .free "min") rfl)
  have n_range := He.free_ok X G (c.x.t.d.fact 31 (f := .free "range") rfl)
  have n_sorted := He.free_ok X G (c.x.t.d.fact 32 (f := .free "sorted") rfl)
  have n_sum := He.free_ok X G (c.x.t.d.fact 33 (f := .free "sum") rfl)
  have n_super := He.free_ok X G (c.x.t.d.fact 34 (f := .free "super") rfl)
  have n_tuple := He.free_ok X G (c.x.t.d.fact 35 (f := .free "tuple") rfl)
  have more := c.x.more
  unfold exL at more
  simp only [Bool.and_eq_true, decide_eq_true_eq] at more
  obtain ⟨⟨⟨⟨⟨⟨⟨⟨⟨⟨⟨⟨⟨⟨⟨⟨⟨o_TooLarge, exm_TooLarge_TooLarge⟩, exm_BadExchange_TooLarge⟩, exm_BadExchange_BadExchange⟩, kit_TooLarge_BadBook⟩, kit_TooLarge_BadExchange⟩, kit_BadExchange_TwiceError⟩, kit_BadExchange_BadBook⟩, kit_Exchange_Exchange⟩, xc_BadExchange⟩, rz_BadExchange⟩, iso_Exchange⟩, bcls_Exchange⟩, bna_Exchange_blocks⟩, bmk_Exchange⟩, bcv_Exchange_MOST⟩, bmt_Exchange___init__⟩, _⟩ := more
  have cls_Exchange := clsB_ok bcls_Exchange
  have na_Exchange_blocks := noB_ok bna_Exchange_blocks
  have mk_Exchange := mkB_ok bmk_Exchange
  have cv_Exchange_MOST := cvB_ok bcv_Exchange_MOST
  have mt_Exchange___init__ := methB_ok bmt_Exchange___init__
  have r_TooLarge := fun (base : Heap) => rz_TooLarge (P := P) (w := w) (base := base) (c.def_ 0 (d := xd_TooLarge) rfl) o_TooLarge hPf n_super hPs m_TooLarge
  have e := hfa.symm.trans m_law
  cases e
  have b := FunD.bindsA (ps := ["_law_script"]) F_law fun _ _ _ _ _ _ us hl => match us, hl with | [_], _ => rfl
  refine ⟨f_law, fun s v => b s [v] rfl, fun base _ _ hTB => ?_⟩
  have g__law_cell := df__law_cell (P := P) (w := w) (mg := mg) (base := base) F__law_cell m__law_cell n_len
  have g__law_draws := df__law_draws (P := P) (w := w) (mg := mg) (base := base) F__law_draws m__law_draws n_abs n_int n_range
  have g_Exchange___init__ := df_Exchange___init__ (P := P) (w := w) (mg := mg) (base := base) F_Exchange___init__ mt_Exchange___init__ n_abs n_len n_list n_range n_sorted n_tuple m_BadExchange m_Exchange (r_TooLarge base) exm_TooLarge_TooLarge exm_BadExchange_TooLarge exm_BadExchange_BadExchange kit_TooLarge_BadBook kit_TooLarge_BadExchange kit_BadExchange_TwiceError kit_BadExchange_BadBook kit_Exchange_Exchange xc_BadExchange rz_BadExchange iso_Exchange cls_Exchange na_Exchange_blocks cv_Exchange_MOST mk_Exchange
  have g_check_map := df_check_map (P := P) (w := w) (mg := mg) (base := base) F_check_map m_check_map n_len n_list n_range n_sorted m_BadExchange exm_TooLarge_TooLarge exm_BadExchange_TooLarge exm_BadExchange_BadExchange kit_TooLarge_BadBook kit_TooLarge_BadExchange kit_BadExchange_TwiceError kit_BadExchange_BadBook kit_Exchange_Exchange xc_BadExchange rz_BadExchange iso_Exchange
  have g_goes_on := df_goes_on (P := P) (w := w) (mg := mg) (base := base) F_goes_on m_goes_on n_len
  have g_stretches := df_stretches (P := P) (w := w) (mg := mg) (base := base) F_stretches m_stretches g_goes_on
  have g_blocks_of := df_blocks_of (P := P) (w := w) (mg := mg) (base := base) F_blocks_of m_blocks_of (hTB _ (List.mem_map.mpr ⟨("blocks_of", none), by decide +kernel, rfl⟩)) (List.mem_map.mpr ⟨("blocks_of", none), by decide +kernel, rfl⟩) n_enumerate n_len n_min n_sorted n_tuple m_Exchange exm_TooLarge_TooLarge exm_BadExchange_TooLarge exm_BadExchange_BadExchange kit_TooLarge_BadBook kit_TooLarge_BadExchange kit_BadExchange_TwiceError kit_BadExchange_BadBook kit_Exchange_Exchange xc_BadExchange rz_BadExchange iso_Exchange g_check_map g_stretches g_Exchange___init__
  have g__law_blocks := df__law_blocks (P := P) (w := w) (mg := mg) (base := base) F__law_blocks m__law_blocks n_int n_range n_tuple
  have g__law_place_map := df__law_place_map (P := P) (w := w) (mg := mg) (base := base) F__law_place_map m__law_place_map n_abs n_range n_tuple
  have g__law_cuttings := df__law_cuttings (P := P) (w := w) (mg := mg) (base := base) F__law_cuttings m__law_cuttings n_int n_list n_range n_sum
  have g__law_orders := df__law_orders (P := P) (w := w) (mg := mg) (base := base) F__law_orders m__law_orders n_list n_range
  have g__law_free_map := df__law_free_map (P := P) (w := w) (mg := mg) (base := base) F__law_free_map m__law_free_map n_int n_len n_range n_tuple
  have g__law_stretches := df__law_stretches (P := P) (w := w) (mg := mg) (base := base) F__law_stretches m__law_stretches n_len n_min n_range
  have g__law_told := df__law_told (P := P) (w := w) (mg := mg) (base := base) F__law_told m__law_told n_isinstance m_BadBook m_BadExchange m_TooLarge m_TwiceError (r_TooLarge base) exm_TooLarge_TooLarge exm_BadExchange_TooLarge exm_BadExchange_BadExchange kit_TooLarge_BadBook kit_TooLarge_BadExchange kit_BadExchange_TwiceError kit_BadExchange_BadBook kit_Exchange_Exchange xc_BadExchange rz_BadExchange iso_Exchange g_blocks_of
  have g__law_is_row := df__law_is_row (P := P) (w := w) (mg := mg) (base := base) F__law_is_row m__law_is_row n_bool n_int n_isinstance n_tuple
  have g__law_has_map := df__law_has_map (P := P) (w := w) (mg := mg) (base := base) F__law_has_map m__law_has_map n_abs n_isinstance n_len n_list n_range n_sorted n_sum n_tuple m_Exchange exm_TooLarge_TooLarge exm_BadExchange_TooLarge exm_BadExchange_BadExchange kit_TooLarge_BadBook kit_TooLarge_BadExchange kit_BadExchange_TwiceError kit_BadExchange_BadBook kit_Exchange_Exchange xc_BadExchange rz_BadExchange iso_Exchange g__law_is_row g__law_place_map g__law_stretches cls_Exchange na_Exchange_blocks
  have g__law_good_answer := df__law_good_answer (P := P) (w := w) (mg := mg) (base := base) F__law_good_answer m__law_good_answer n_len n_range g__law_cuttings g__law_has_map g__law_orders g__law_place_map g__law_stretches g__law_told
  have g__law_faulty_map := df__law_faulty_map (P := P) (w := w) (mg := mg) (base := base) F__law_faulty_map m__law_faulty_map n_int n_len
  have g_law := df_law (P := P) (w := w) (mg := mg) (base := base) F_law m_law n_int n_len n_list n_range n_tuple g__law_blocks g__law_cell g__law_draws g__law_faulty_map g__law_free_map g__law_good_answer g__law_place_map g__law_told
  exact law_ofF F_law m_law g_law (fun ns hn => by first | exact ⟨_, rfl, hn⟩ | exact hn | trivial | exact ⟨rfl, hn⟩) (fun ns d h => by first | exact h | exact h rfl)
end Z
open PySem PySem.W PySem.Calls PyProof.Rows
set_option maxRecDepth 100000 in
set_option maxHeartbeats 0 in
theorem PySem.Challenge.cw_twiceeach_k43_fewest_blocks_of_a_map_holds : PySem.Challenge.rw_twiceeach_k43_fewest_blocks_of_a_map.Holds := by
  w_on; o_law
  refine HandSHeadRun.head_any (r := OpenLaw.row PySem.Challenge.rw_twiceeach_k43_fewest_blocks_of_a_map) (q := view (OpenLaw.row PySem.Challenge.rw_twiceeach_k43_fewest_blocks_of_a_map).prog [27]) (H := Z.hk) (ob := Z.ob) (M := 5000) (loose := Z.looseL) (d := HandSHeadRun.topDef (OpenLaw.row PySem.Challenge.rw_twiceeach_k43_fewest_blocks_of_a_map).prog 27) (kwd := []) Z.ob_eq
    (by kernel_rfl) (fun s => by kernel_rfl) Z.run (by kernel_rfl) (by kernel_rfl) (by kernel_rfl) (by rfl) (by first | assumption | decide +kernel) (by decide +kernel) ⟨rfl, rfl, rfl, rfl, rfl, by decide +kernel⟩ ?hw ?hc
  case hw => w_witness2
  case hc =>
    refine LamX.walk_ofTsE (l := PySem.Challenge.rw_twiceeach_k43_fewest_blocks_of_a_map) (n := 63) (k := 8) (x := "_law_script") (CX := fun _ => L2.CX0) rfl (by decide) (by kernel_rfl) ⟨rfl, by decide, by decide⟩ ?F (fun _ _ _ _ _ z => z)
    intro w mg fa h Y G hmg0
    obtain ⟨K, KX, c⟩ := Y
    have hmg : mg ("law" : PySem.Str) = some (.ref fa) := by
      have e : (HandSHeadRun.topDef (OpenLaw.row PySem.Challenge.rw_twiceeach_k43_fewest_blocks_of_a_map).prog 27).name = ("law" : PySem.Str) := by kernel_rfl
      rw [← e]
      exact hmg0
    obtain ⟨fd, hb, hF⟩ := Z.facts (P := (PySem.Challenge.rw_twiceeach_k43_fewest_blocks_of_a_map).prog) (w := w) KX G hmg c rfl (by decide +kernel)
    refine ⟨K, KX, fd, Z.tfL.map (He.cT K), @Z.spLawZ (Z.tabsK K) K, fun p hp => ?_, fun p hp => ?_, fun p hp => ?_, hb, fun H a ns hl _ hT hS => ⟨a, ns, rfl, fun R hR => ?_, hS, hl, fun _ => rfl⟩, fun base h1 h2 h3 => hF base h1 h2 fun p hp => ⟨(h3 p hp).code, (h3 p hp).bm, (h3 p hp).gP⟩⟩
    · obtain ⟨q, hq, rfl⟩ := List.mem_map.mp hp
      exact c.x.empty q hq
    · obtain ⟨q, hq, rfl⟩ := List.mem_map.mp hp
      exact c.x.out q hq
    · obtain ⟨q, hq, rfl⟩ := List.mem_map.mp hp
      exact PySem.W.codeHd_of_K KX (c.x.hd q hq)
    · obtain ⟨q, hq, rfl⟩ := List.mem_map.mp hR
      exact ⟨#[], hT _ (List.mem_map.mpr ⟨q, hq, rfl⟩), by first | trivial | decide | exact .nil⟩
#print axioms PySem.Challenge.cw_twiceeach_k43_fewest_blocks_of_a_map_holds
