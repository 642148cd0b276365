import PyProof.Rows.All
import Wide.All
import OpenK.AllK
import Wide.FinOn
import HandS.ForMost
import HandS.AnyAll
import HandS.Set
import HandS.SetKeys
import KE.GoesSet
import KE.GoesMore
import KE.GoesRaise
import PyProof.Rows.SortShellAny
import HandS.ForExc
import HandS.TryMany
import HandS.FStr
import HandS.RaiseMore
import HandS.HeadHook4
import HandS.HeadWalk
import HandS.Codes
import HandS.WordsExc
import HandS.WordsDict
import HandS.StrMore
import HandS.Defaults
import HandS.TupAny
import HandS.Deep
import HandS.Lambda
import HandS.More
import PyProof.StrReplace2
import HandS.DictEq
import HandS.DeepEq
import HandS.DictTup
import HandS.DictComp
import KE.KEqDict
import KE.KStateDown
import HandS.Head0
import HandS.Head1
import HandS.Head2
import HandS.HeadEnd
import PySem.Challenge.RW_planwright_k01_deeds_and_states
import HandS.Steps
section
set_option Elab.async false
set_option linter.all false
set_option autoImplicit false
set_option maxRecDepth 100000
set_option maxHeartbeats 3000000
namespace PW
open PySem PySem.Spec PyProof.Rows L2 GxR

theorem keeps_trans {s s1 s2 : Shared} (a : Keeps s s1) (b : Keeps s1 s2) : Keeps s s2 := by
  obtain ⟨h1, t1, rfl, k1⟩ := a
  obtain ⟨h2, t2, rfl, k2⟩ := b
  exact ⟨h2, t2, rfl, fun b o e => k2 b o (k1 b o e)⟩
theorem keeps_heap {s s1 : Shared} (a : Keeps s s1) : ∀ b o, s.heap.get? b = some o → s1.heap.get? b = some o := by
  obtain ⟨h1, t1, rfl, k1⟩ := a
  exact k1

/-- what a generator's element may lean on -/
structure GAt (P : Program) (w : World) (K : PySem.W.Frag) (N : List Str) (σ : L2.St) (H : Hp) (scope : Scope) (x : Str) (xv : V) (cenv : Env) (h : Heap) : Prop where
  kin : K.In h
  hok : HOk P w H h
  sc : cenv.scope = scope
  kind : scope.kind = .function
  loc : ∃ m u, h.Ns cenv.locals m ∧ m x = some u ∧ RelV xv u
  xl : scope.names.lookup x = some .local
  free : ∀ (y : Str) (i : Nat) (v : V), scope.names.lookup y = some .free → N[i]? = some y → σ[i]? = some (some v) → ∃ c u, cenv.cells.lookup y = some c ∧ h.IsCell c (some u) ∧ RelV v u
section
variable {P : Program} {w : World} {K : PySem.W.Frag} {N : List Str} {σ : L2.St} {H : Hp} {scope : Scope} {x : Str} {xv : V} {cenv : Env} {h h' : Heap}
theorem GAt.keeps (g : GAt P w K N σ H scope x xv cenv h) (k : ∀ b o, h.get? b = some o → h'.get? b = some o) : GAt P w K N σ H scope x xv cenv h' where
  kin := g.kin.keeps k
  hok := g.hok.kept k
  sc := g.sc
  kind := g.kind
  loc := let ⟨m, u, a, b, c⟩ := g.loc; ⟨m, u, a.keeps k, b, c⟩
  xl := g.xl
  free := fun y i v a b c => let ⟨c, u, p, q, r⟩ := g.free y i v a b c; ⟨c, u, p, (let ⟨o, e, d⟩ := q; ⟨o, k _ _ e, d⟩), r⟩
theorem GAt.tuple {a : Addr} {xs : List V} (g : GAt P w K N σ H scope x xv cenv h) (q : SqT K H a xs) : ∃ its : List Value, Vals xs its ∧ IsTup h a its.toArray ∧ xs.length ≤ sizeLine := by
  rcases q with q | ⟨o, its, n, hk, hc, hs, hz, r⟩
  · obtain ⟨z, its, r, p⟩ := q.ok g.hok
    exact ⟨its, r, p, z⟩
  · refine ⟨its.toList, r, ⟨o, g.kin a o hk, hc, n, by simpa using hs⟩, ?_⟩
    simpa [r.length] using hz
theorem GAt.list {a : Addr} {xs : List V} (g : GAt P w K N σ H scope x xv cenv h) (q : SqL K H a xs) : ∃ its : List Value, Vals xs its ∧ PlainL h a its.toArray ∧ xs.length ≤ sizeLine := by
  rcases q with q | ⟨o, its, n, hk, hc, hd, hs, hz, r⟩
  · obtain ⟨len, its, nd, vals, at_⟩ := q.ok g.hok
    exact ⟨its, vals, ⟨_, nd, at_, rfl, rfl, rfl⟩, len⟩
  · refine ⟨its.toList, r, ⟨o, n, g.kin a o hk, hc, hd, by simpa using hs⟩, ?_⟩
    simpa [r.length] using hz

/-- an element that makes nothing: e is v there -/
def RE (P : Program) (w : World) (K : PySem.W.Frag) (N : List Str) (σ : L2.St) (H : Hp) (scope : Scope) (x : Str) (xv : V) (e : Expr) (v : V) : Prop :=
  ∀ (cenv : Env) (A' : Around) (E' : Value → Shared → Prop) (s : Shared), A'.handled = none → GAt P w K N σ H scope x xv cenv s.heap →
    wpAny (model P w) A' (eval e cenv) (fun y s' => RelV v y ∧ Keeps s s') E' s

variable {a b e : Expr} {rest : List Expr} {pos : Pos} {v va vb : V}
theorem re_x (hd : (x == ("__debug__" : Str)) = false := by decide) : RE P w K N σ H scope x xv (.Name x pos) xv := by
  intro cenv A' E' s hA g
  obtain ⟨m, u, hn, hm, r⟩ := g.loc
  exact wpAny_Name (wpAny_loadName_local (by rw [g.sc]; exact g.kind) (show cenv.scope.names.lookup x = some .local by rw [g.sc]; exact g.xl) hn hm ⟨r, keeps_refl _⟩) hd
theorem re_free {y : Str} {i : Nat} (hN : N[i]? = some y) (hs : σ[i]? = some (some v)) (hf : scope.names.lookup y = some .free) (hd : (y == ("__debug__" : Str)) = false := by decide) (hcd : (y == ("__classdict__" : Str)) = false := by decide) :
    RE P w K N σ H scope x xv (.Name y pos) v := by
  intro cenv A' E' s hA g
  obtain ⟨c, u, hc, hcell, r⟩ := g.free y i v hf hN hs
  exact wpAny_Name (wpAny_loadName_free (by rw [g.sc]; exact g.kind) (show cenv.scope.names.lookup y = some .free by rw [g.sc]; exact hf) hc hcell ⟨r, keeps_refl _⟩ hcd) hd
theorem re_fld {f : Str} {o C dx : Addr} {fs : List (Str × V)} (he : RE P w K N σ H scope x xv e (.ref o)) (ho : H o = some (.ins C dx fs)) (c : Cls K C) (n : NoAttr K C f) (l : fs.lookup f = some v)
    (hb : ∀ env, attributeBase e f env (eval e env) = eval e env := by intro _; rfl) : RE P w K N σ H scope x xv (.Attribute e f pos) v := by
  intro cenv A' E' s hA g
  refine attr_of (hb cenv) (thn (he cenv A' E' s hA g) fun u s1 ⟨r, k⟩ => ?_)
  obtain rfl : u = Value.ref o := r
  have g1 := g.keeps (keeps_heap k)
  obtain ⟨mA, O, ra, _, _, _⟩ := ins_get g1.hok ho
  obtain ⟨u, hu, ru⟩ := RelO.some_of (v := v) (o := mA f) (by rw [← l]; exact ra f)
  exact get_map g1.kin O (c.get f) c.hd n hu (handed_of ru) ⟨ru, keeps_trans k (keeps_tok _ _)⟩
theorem re_in {p : Addr} {xs : List V} (ha : RE P w K N σ H scope x xv a va) (hb : RE P w K N σ H scope x xv b (.ref p)) (hq : SqL K H p xs ∨ SqT K H p xs) (fx : flatV va = true) (fs : xs.all flatV = true)
    (hm : behindInMarks .In b = false := by with_unfolding_all rfl) : RE P w K N σ H scope x xv (.Compare a [.In] [b] pos) (.bl (inV va xs)) := by
  intro cenv A' E' s hA g
  refine wpAny_Compare1 (thn (ha cenv A' E' s hA g) fun u s1 ⟨r, k⟩ => ?_) hm
  have g1 := g.keeps (keeps_heap k)
  refine thn (hb cenv A' E' s1 hA g1) fun u2 s2 ⟨r2, k2⟩ => ?_
  have g2 := g1.keeps (keeps_heap k2)
  obtain rfl : u2 = Value.ref p := r2
  rcases hq with hq | hq
  · obtain ⟨its, rv, pl, hz⟩ := g2.list hq
    refine SeqAt.in_listAt (eqU va) pl.isList (fun w hw => mem_eqAt r fx rv fs w (by simpa using hw)) ⟨?_, keeps_trans k k2⟩
    rw [show its.toArray.any (eqU va) = its.any (eqU va) by simp, any_eqU rv fs]
    rfl
  · obtain ⟨its, rv, pl, hz⟩ := g2.tuple hq
    refine SeqAt.in_tupleAt (eqU va) pl (fun w hw => mem_eqAt r fx rv fs w (by simpa using hw)) ⟨?_, keeps_trans k k2⟩
    rw [show its.toArray.any (eqU va) = its.any (eqU va) by simp, any_eqU rv fs]
    rfl
theorem re_notIn {p : Addr} {xs : List V} (ha : RE P w K N σ H scope x xv a va) (hb : RE P w K N σ H scope x xv b (.ref p)) (hq : SqL K H p xs ∨ SqT K H p xs) (fx : flatV va = true) (fs : xs.all flatV = true)
    (hm : behindInMarks .NotIn b = false := by with_unfolding_all rfl) : RE P w K N σ H scope x xv (.Compare a [.NotIn] [b] pos) (.bl (!inV va xs)) := by
  intro cenv A' E' s hA g
  refine wpAny_Compare1 (thn (ha cenv A' E' s hA g) fun u s1 ⟨r, k⟩ => ?_) hm
  have g1 := g.keeps (keeps_heap k)
  refine thn (hb cenv A' E' s1 hA g1) fun u2 s2 ⟨r2, k2⟩ => ?_
  have g2 := g1.keeps (keeps_heap k2)
  obtain rfl : u2 = Value.ref p := r2
  rcases hq with hq | hq
  · obtain ⟨its, rv, pl, hz⟩ := g2.list hq
    refine SeqAt.notIn_listAt (eqU va) pl.isList (fun w hw => mem_eqAt r fx rv fs w (by simpa using hw)) ⟨?_, keeps_trans k k2⟩
    rw [show its.toArray.any (eqU va) = its.any (eqU va) by simp, any_eqU rv fs]
    rfl
  · obtain ⟨its, rv, pl, hz⟩ := g2.tuple hq
    refine SeqAt.notIn_tupleAt (eqU va) pl (fun w hw => mem_eqAt r fx rv fs w (by simpa using hw)) ⟨?_, keeps_trans k k2⟩
    rw [show its.toArray.any (eqU va) = its.any (eqU va) by simp, any_eqU rv fs]
    rfl
theorem re_one {op : BoolOp} (h : RE P w K N σ H scope x xv a v) : RE P w K N σ H scope x xv (.BoolOp op [a] pos) v :=
  fun cenv A' E' s hA g => BoolOp_one (h cenv A' E' s hA g)
theorem re_and {c d : Bool} (ha : RE P w K N σ H scope x xv a (.bl c)) (hb : c = true → RE P w K N σ H scope x xv (.BoolOp .And (b :: rest) pos) (.bl d)) : RE P w K N σ H scope x xv (.BoolOp .And (a :: b :: rest) pos) (.bl (c && d)) := by
  intro cenv A' E' s hA g
  refine BoolOp_and (thn (ha cenv A' E' s hA g) fun u s1 ⟨r, k⟩ => ?_)
  obtain rfl : u = Value.bool c := r
  refine wpAny_truthy_bool ?_
  cases c with
  | true => exact thn (hb rfl cenv A' E' s1 hA (g.keeps (keeps_heap k))) fun u s2 ⟨r, k2⟩ => ⟨r, keeps_trans k k2⟩
  | false => exact ⟨rfl, k⟩
theorem re_or {c d : Bool} (ha : RE P w K N σ H scope x xv a (.bl c)) (hb : c = false → RE P w K N σ H scope x xv (.BoolOp .Or (b :: rest) pos) (.bl d)) : RE P w K N σ H scope x xv (.BoolOp .Or (a :: b :: rest) pos) (.bl (c || d)) := by
  intro cenv A' E' s hA g
  refine BoolOp_or (thn (ha cenv A' E' s hA g) fun u s1 ⟨r, k⟩ => ?_)
  obtain rfl : u = Value.bool c := r
  refine wpAny_truthy_bool ?_
  cases c with
  | false => exact thn (hb rfl cenv A' E' s1 hA (g.keeps (keeps_heap k))) fun u s2 ⟨r, k2⟩ => ⟨r, keeps_trans k k2⟩
  | true => exact ⟨rfl, k⟩
theorem re_not {c : Bool} (ha : RE P w K N σ H scope x xv a (.bl c)) : RE P w K N σ H scope x xv (.UnaryOp .Not a pos) (.bl (!c)) := by
  intro cenv A' E' s hA g
  refine UnaryOp_ (thn (ha cenv A' E' s hA g) fun u s1 ⟨r, k⟩ => ?_)
  obtain rfl : u = Value.bool c := r
  exact PyProof.Rows.not_of (wpAny_truthy_bool ⟨rfl, k⟩)
theorem re_is {v' : V} (h : RE P w K N σ H scope x xv e v) (q : v = v') : RE P w K N σ H scope x xv e v' := q ▸ h
end
end PW
end

section
set_option Elab.async false
set_option linter.all false
set_option autoImplicit false
set_option maxRecDepth 100000
set_option maxHeartbeats 3000000
namespace PW
open PySem PySem.Spec PyProof.Rows L2 GxR

/-- a name of a def around: it lies in a cell of the def, or came into it so -/
abbrev Held (sc : Scope) (y : Str) : Prop := sc.names.lookup y = some .cell ∨ sc.names.lookup y = some .free
/-- the scope of a generator expression: its one name x, the walked thing, captured names that the def has in cells -/
structure GenF (sc scope : Scope) (x : Str) : Prop where
  kind : scope.kind = .function
  co : ¬ scope.isCoroutine
  here : scope.names.lookup (".0" : Str) = some NameKind.local ∧ scope.names.lookup x = some .local
  each : ∀ y ∈ scope.names, y.2 ≠ .cell ∧ (y.2 = .free → Held sc y.1)
def genSB (sc scope : Scope) (x : Str) : Bool :=
  decide (scope.kind = .function) && !scope.isCoroutine && decide (scope.names.lookup (".0" : Str) = some NameKind.local ∧ scope.names.lookup x = some .local) &&
    scope.names.all fun y => decide (y.2 ≠ .cell ∧ (y.2 = .free → Held sc y.1))
theorem genF_by {sc scope : Scope} {x : Str} (h : genSB sc scope x = true) : GenF sc scope x := by
  simp only [genSB, Bool.and_eq_true, decide_eq_true_eq, Bool.not_eq_true', List.all_eq_true] at h
  exact ⟨h.1.1.1, by rw [h.1.1.2]; exact Bool.false_ne_true, h.1.2, h.2⟩
theorem GenF.has {X : Cx} {scope : Scope} {x : Str} (L : GenF X.env.scope scope x) (ok : X.Ok) : ∀ y ∈ scope.names, y.2 = .free → ∃ c, X.env.cells.lookup y.1 = some c :=
  fun y hy e => ((L.each y hy).2 e).elim (fun k => ok.has _ (.inl k)) fun k => ok.has _ (.inr k)

section
variable {X : Cx} {σ : L2.St} {H H1 : Hp} {s s1 : Shared} {pins : List (Addr × Obj)} {c P : Addr} {ps : Array Value} {x : Str} {scope : Scope}
/-- g can be walked: n turns, the truth of each told by tr; what is behind it holds all but the table at P -/
def ReadyS (X : Cx) (pins : List (Addr × Obj)) (σ : L2.St) (H1 : Hp) (P : Addr) (n : Nat) (tr : Nat → Bool) (g : Addr) (s5 : Shared) : Prop :=
  ∃ St F G wr fp, (WalksS X.prog X.w X.A.in1 g fp wr G n F St ∧ TruthOf X.prog X.w X.A.in1 F tr ∧ St 0 s5) ∧
    ∀ t, Moved wr G s5 t → ∃ H2, Inv X pins σ H2 t ∧ Tabbed P H1 H2

/-- what the program's own names say of the builtins stays, whatever is put into the table at P -/
theorem blt_of {h3 : Heap} {tk : Nat} {Q : Addr → Shared → Prop} {E : Value → Shared → Prop} (I : Inv X pins σ H1 s1) (TB : TabB X.base X.mg c P) (k : Heap.ExtBut P s1.heap h3) (q : Q builtinsNs { s1 with heap := h3, toks := tk }) :
    wpAny (model X.prog X.w) X.A (builtinsFor X.env.globals X.env.builtins) Q E { s1 with heap := h3, toks := tk } :=
  match TB.bm with
  | ⟨_, _, g, n, _, np, at_, u, v, z⟩ => wpAny_builtinsFor (m := X.mg) (by rw [I.ok.glob]; exact (I.mod.glob.keeps I.bk).extBut k TB.gP) g n (k _ _ np (I.bk _ _ at_)) u v z q

/-- the code object of a generator expression: found in the table at P, or made and put there -/
theorem gcode_of {gpos : Pos} {name : Str} {Q : Value → Shared → Prop} {E : Value → Shared → Prop} (I : Inv X pins σ H1 s1) (TB : TabB X.base X.mg c P) (hcode : X.env.code = .ref c) (hP : H1 P = some (.tbl ps)) (ht : TriplesOk ps.toList) (o : Obj)
    (q : ∀ (v : Value) (h3 : Heap) (tk : Nat) (more : Array Value), Heap.ExtBut P (s1.heap.push o) h3 → s1.heap.objs.size < h3.objs.size → h3.get? P = some { cls := .none, data := .fields (ps ++ more) } →
      TriplesOk (ps ++ more).toList → Q v { s1 with heap := h3, toks := tk }) :
    wpAny (model X.prog X.w) X.A (genexprCode X.env gpos name scope) Q E { s1 with heap := s1.heap.push o } := by
  have tab := Heap.get?_push_of_some o (I.hok P _ hP)
  have hd : PySem.W.CodeHd (s1.heap.push o) c P := TB.code.keeps fun b u e => Heap.get?_push_of_some o (I.bk b u e)
  have sz : (s1.heap.push o).objs.size = s1.heap.objs.size + 1 := by simp [Heap.size_push]
  rcases f : codeAmong gpos ps.toList with _ | old
  · exact wpAny_genexprCodeX hcode (hd.code tab ht) (hd.tab tab) f fun _ h3 tk ext ge lt is _ at3 _ =>
      let ⟨_, _, _, _, _, _, _, _, _, _, _, _, _, _, _, _, _, _, _, tri, _⟩ := is
      q _ h3 tk _ ext (Nat.lt_of_lt_of_le (by rw [sz]; exact Nat.lt_succ_self _) (Nat.le_of_lt (Nat.lt_of_le_of_lt ge lt))) at3.2 tri
  · exact wpAny_genexprCode_hit hcode (hd.code tab ht) f (q old _ s1.toks #[] (Heap.ExtBut.refl _ _) (by show s1.heap.objs.size < (s1.heap.push o).objs.size; omega) (by simpa using tab) (by simpa using ht))

/-- what stands at the start of a turn, with the captured names that lie in the def's cells -/
theorem gat_of {H2 : Hp} {s2 : Shared} {p0 : Addr} {code u : Value} {m : Str → Option Value} {xv : V} (J : Inv X pins σ H2 s2) (S : GenF X.env.scope scope x) (hn : s2.heap.Ns p0 m) (hm : m x = some u) (ru : RelV xv u) :
    GAt X.prog X.w X.K X.N σ H2 scope x xv (genEnv scope (cloFrom X.env.cells scope.names []) p0 code builtinsNs X.env) s2.heap := by
  refine ⟨J.kIn, J.hok, rfl, S.kind, ⟨m, u, hn, hm, ru⟩, S.here.2, fun y j z fr nm val => ?_⟩
  have mem := PySem.mem_of_lookup fr
  have cap : Held X.env.scope y := (S.each _ mem).2 rfl
  obtain ⟨_, _, look⟩ := J.loc
  obtain ⟨w, rw_, ⟨lo, _⟩ | ⟨_, d, at_, cell⟩⟩ := look j y z nm val (.inr cap)
  · have lo' : X.env.scope.names.lookup y = some .local := lo
    exact cap.elim (fun k => by cases k.symm.trans lo') fun k => by cases k.symm.trans lo'
  · obtain ⟨d', e'⟩ := mem_lookup (cloFrom_has (cells := X.env.cells) (acc := []) mem)
    rcases cloFrom_mem (PySem.mem_of_lookup e') with z | ⟨_, z⟩
    · cases z
    · rw [at_] at z
      cases z
      exact ⟨_, w, e', cell, rw_⟩

/-- a list or a tuple that stands is walked by a new object -/
theorem iter_seq {a : Addr} {xs : List V} {Q : Value → Shared → Prop} {E : Value → Shared → Prop} (I : Inv X pins σ H1 s1) (hP : H1 P = some (.tbl ps)) (hq : SqL X.K H1 a xs ∨ SqT X.K H1 a xs)
    (h : ∀ (o : Obj) (fp : List Addr) (St : Nat → Heap → Prop) (its : List Value), Vals xs its →
      (∀ A' : Around, A'.handled = none → Walks X.prog X.w A' s1.heap.objs.size fp [s1.heap.objs.size] its.length (fun i v => its[i]? = some v) St) →
      St 0 (s1.heap.push o) → (∀ b ∈ fp, b ≤ s1.heap.objs.size ∧ b ≠ P) → Q (.ref s1.heap.objs.size) { s1 with heap := s1.heap.push o }) :
    wpAny (model X.prog X.w) X.A (pyIter (.ref a)) Q E s1 := by
  have tab := I.hok P _ hP
  have fit : ∀ {o : Obj}, s1.heap.get? a = some o → o.cls ≠ .none → a ≠ s1.heap.objs.size ∧ ∀ b ∈ [s1.heap.objs.size, a], b ≤ s1.heap.objs.size ∧ b ≠ P := by
    intro o e n
    have lt := Heap.lt_size e
    refine ⟨Nat.ne_of_lt lt, List.forall_mem_cons.mpr ⟨⟨Nat.le_refl _, Nat.ne_of_gt (Heap.lt_size tab)⟩, List.forall_mem_cons.mpr ⟨⟨Nat.le_of_lt lt, fun z => n ?_⟩, nofun⟩⟩⟩
    rw [z] at e
    cases e.symm.trans tab
    rfl
  have arr : ∀ its : List Value, (fun (i : Nat) (v : Value) => its.toArray[i]? = some v) = fun i v => its[i]? = some v := fun its => by simp
  rcases hq with hq | hq
  · obtain ⟨its, rv, pl, _⟩ := I.list hq
    obtain ⟨o, _, at_, cls, _⟩ := id pl
    obtain ⟨ne, fs⟩ := fit at_ (by rw [cls]; exact nofun)
    exact wpAny_pyIter_list pl.isList (h _ _ _ its rv (fun A' z => arr its ▸ Walks.list z _ a ne its.toArray) ⟨⟨_, Heap.get?_push_size _ rfl, rfl, rfl⟩, pl.isList.push _⟩ fs)
  · obtain ⟨its, rv, pl, _⟩ := I.tuple hq
    obtain ⟨o, at_, cls, _⟩ := id pl
    obtain ⟨ne, fs⟩ := fit at_ (by rw [cls]; exact nofun)
    have pl' : s1.heap.IsTuple a its.toArray := pl
    exact wpAny_pyIter_tuple pl' (h _ _ _ its rv (fun A' z => arr its ▸ Walks.tuple z _ a ne its.toArray) ⟨⟨_, Heap.get?_push_size _ rfl, rfl, rfl⟩, pl'.push _⟩ fs)

/-- (elt for x in iter) -/
abbrev genx (elt : Expr) (x : Str) (px : Pos) (iter : Expr) (scope : Scope) (gpos : Pos) : Expr := .GeneratorExp elt [⟨.Name x px, iter, [], 0⟩] scope gpos
theorem gen_list {elt iter : Expr} {px gpos : Pos} {te : TE} {k : Nat} {Q' : Value → Shared → Prop} {R : List V → (V → Bool) → Hp → Prop}
    (hr : Room k X.A) (TB : TabB X.base X.mg c P) (hcode : X.env.code = .ref c) (S : GenF X.env.scope scope x) (hi : PE X iter te) (hs : ∀ v, genFold iter X.env v = pure v) (I : Inv X pins σ H s)
    (h : te σ H fun v H1 => ∃ (a : Addr) (xs : List V) (pb : V → Bool), v = .ref a ∧ (SqL X.K H1 a xs ∨ SqT X.K H1 a xs) ∧ TabG H1 P ∧ (∀ H2, Tabbed P H1 H2 → ∀ xv ∈ xs, RE X.prog X.w X.K X.N σ H2 scope x xv elt (.bl (pb xv))) ∧ R xs pb H1)
    (hQ : ∀ xs pb H1 g s5, R xs pb H1 → ReadyS X pins σ H1 P xs.length (fun i => pb (xs.getD i .non)) g s5 → Q' (.ref g) s5) :
    wpAny (model X.prog X.w) X.A (eval (genx elt x px iter scope gpos) X.env) Q' X.xe s := by
  refine wpAny_GeneratorExp_walksQ hr.hd (by simpa using S.co) (closure_ok (S.has I.ok)) (fun y hy => (S.each y hy).1) S.here.1 S.here.2 S.kind (by have := hr.dp; omega) (thn (hi.run pins s σ H _ I h) ?_) hs
  rintro _ s1 ⟨_, H1, I1, r1, a, xs, pb, rfl, hq, ⟨ps, hP, ht⟩, hel, hR⟩
  obtain rfl := r1
  have tab := I1.hok P _ hP
  refine iter_seq I1 hP hq fun o fp St its rv W st fps => ⟨I1.nolimit.push o, gcode_of I1 TB hcode hP ht o fun code h3 tk more hx lt hP3 ht3 => ?_⟩
  have hx1 : Heap.ExtBut P s1.heap h3 := fun b u ne e => hx b u ne (Heap.get?_push_of_some o e)
  refine blt_of I1 TB hx1 ?_
  obtain ⟨_, ⟨so, s2, s3, s4, s5, s6⟩, _⟩ := id I1.nolimit
  have static : cStatics < s1.heap.objs.size ∧ cStatics ≠ P := ⟨Heap.lt_size s4, fun z => by
    rw [z] at s4
    cases s4.symm.trans tab
    cases s5⟩
  have notw : ∀ {b : Addr} {u : Obj}, s1.heap.get? b = some u → b ∉ [s1.heap.objs.size] := fun e z => Nat.ne_of_lt (Heap.lt_size e) (List.mem_singleton.mp z)
  have len := rv.length
  have hT : Tabbed P H1 (upd H1 P (.tbl (ps ++ more))) := ⟨⟨_, upd_same, ht3⟩, fun b hb => upd_ne hb⟩
  refine ⟨_, fp, [s1.heap.objs.size], its.length, fun i v => its[i]? = some v, St, fun _ => true, fun i y => y = .bool (pb (xs.getD i .non)), rfl, W, (W X.A hr.hd).frame _ _ _ st fun b hb u e => hx b u (fps b hb).2 e,
    fun b hb => Nat.lt_of_le_of_lt (fps b hb).1 lt, (I1.nolimit.push o).extBut hx static.2, fun z => Nat.ne_of_lt static.1 (List.mem_singleton.mp z), fun top sub => ⟨?_, ?_⟩, ?_⟩
  · exact fun _ _ _ _ _ _ _ _ _ _ _ => wpAny_pure ⟨rfl, keeps_refl _⟩
  · intro A' E' i v s₂ m₂ hA hv _ hn hm hk
    have hv : its[i]? = some v := hv
    obtain ⟨li, vi⟩ := List.getElem?_eq_some_iff.mp hv
    have hxi : xs[i]? = some xs[i] := List.getElem?_eq_getElem (by omega)
    obtain ⟨u, hu, ru⟩ := rv.get hxi
    cases hv.symm.trans hu
    have stay : ∀ {b : Addr} {u : Obj}, s1.heap.get? b = some u → ∀ {u' : Obj}, h3.get? b = some u' → s₂.heap.get? b = some u' := fun e _ e' => hk _ (List.mem_range.mpr (Heap.lt_size e')) (notw e) _ (sub _ _ e')
    have J := inv_tab (more := more) (h' := s₂.heap) (g' := s1.gens) (d' := s1.drawn) (t' := s1.toks) I1 hP (fun b u ne e => stay e (hx1 b u ne e)) (stay tab hP3) I1.bare
    have ev : xs.getD i .non = xs[i] := by rw [List.getD_eq_getElem?_getD, hxi]; rfl
    rw [ev]
    have here := gat_of (code := code) J S hn hm ru
    exact thn (hel _ hT _ (List.mem_of_getElem? hxi) _ A' E' s₂ hA here) fun y s3 r => ⟨r.1, r.2⟩
  · intro g h5 tk5 gs bare _ _ sub W5 st5
    rw [GxR.passing_true, List.length_range, ← len] at W5
    rw [← len] at st5
    refine hQ xs pb H1 g _ hR ⟨_, _, _, _, _, ⟨W5.in4_1, ?_, st5⟩, fun t mv => ⟨_, ?_, hT⟩⟩
    · rintro j y t q e ⟨i, at_, rfl⟩ hq
      obtain ⟨_, rfl⟩ := List.getElem?_eq_some_iff.mp at_
      exact wpAny_truthy_bool (by simpa using hq)
    · have stay : ∀ {b : Addr} {u : Obj}, s1.heap.get? b = some u → ∀ {u' : Obj}, h3.get? b = some u' → t.heap.get? b = some u' := fun e _ e' => mv.heap _ _ (fun z => by
        have l := Heap.lt_size e
        simp only [List.mem_cons, List.not_mem_nil, or_false] at z
        exact z.elim (fun z => Nat.lt_asymm lt (z ▸ l)) fun z => Nat.ne_of_lt l z) (sub _ _ e')
      have J := inv_tab (more := more) (h' := t.heap) (g' := t.gens) (d' := t.drawn) (t' := t.toks) I1 hP (fun b u ne e => stay e (hx1 b u ne e)) (stay tab hP3) (AllBare.movedS (I1.bare.push bare) mv)
      exact sh_eta s1 t mv.os ▸ J

/-- any(elt for x in e), all(..), e a list or a tuple -/
def tAnyQ (X : Cx) (P : Addr) (scope : Scope) (x : Str) (elt : Expr) (f : List V → (V → Bool) → Bool) (te : TE) : TE := fun σ H Q => te σ H fun v H1 => ∃ (a : Addr) (xs : List V) (pb : V → Bool), v = .ref a ∧ (SqL X.K H1 a xs ∨ SqT X.K H1 a xs) ∧ TabG H1 P ∧
  (∀ H2, Tabbed P H1 H2 → ∀ xv ∈ xs, RE X.prog X.w X.K X.N σ H2 scope x xv elt (.bl (pb xv))) ∧ ∀ H2, Tabbed P H1 H2 → Q (.bl (f xs pb)) H2
theorem range_getD (xs : List V) : (List.range xs.length).map (fun i => xs.getD i .non) = xs :=
  List.ext_getElem (by simp) fun i _ h => by simp [List.getD_eq_getElem?_getD, List.getElem?_eq_getElem h]
/-- a builtin of one argument that walks it and asks what is true -/
theorem pe_overQ {nm : Str} {bn : String} {f : List V → (V → Bool) → Bool} {F : Nat → (Nat → Bool) → Bool} {elt iter : Expr} {px p pos gpos : Pos} {te : TE} {k : Nat} (hf : ∀ xs pb, F xs.length (fun i => pb (xs.getD i .non)) = f xs pb)
    (hc : ∀ {v : Value} {Q : Value → Shared → Prop} {E : Value → Shared → Prop} {t : Shared}, wpAny (model X.prog X.w) X.A.in1 (pyIter v) (fun it t2 => ∃ I fp wr G n Pv St tr, it = .ref I ∧ WalksS X.prog X.w X.A.in1 I fp wr G n Pv St ∧ St 0 t2 ∧
      TruthOf X.prog X.w X.A.in1 Pv tr ∧ ∀ t3, Moved wr G t2 t3 → Q (.bool (F n tr)) t3) E t → wpAny (model X.prog X.w) X.A (call (.builtin bn) [v]) Q E t)
    (hr : Room k X.A) (hg : Gl X nm) (hm : X.mg nm = none) (hb : bootBuiltins nm = some (.builtin bn)) (nn : nm ≠ "__name__" ∧ (nm == ("__debug__" : Str)) = false) (TB : TabB X.base X.mg c P) (hcode : X.env.code = .ref c) (S : GenF X.env.scope scope x) (hi : PE X iter te)
    (hs : ∀ v, genFold iter X.env v = pure v) :
    PE X (.Call (.Name nm p) [genx elt x px iter scope gpos] [] pos) (tAnyQ X P scope x elt f te) := by
  refine ⟨fun pins s σ H Q I h => wpAny_Call_Name_kw (ld_blt I hg hm hb (PyProof.Rows.callWith_builtin1 (e := genx elt x px iter scope gpos) ?_ rfl rfl) nn.1 nn.2)⟩
  refine Calls.spliced_cons (gen_list (R := fun xs pb H1 => ∀ H2, Tabbed P H1 H2 → Q (.bl (f xs pb)) H2) hr TB hcode S hi hs I h fun xs pb H1 g s5 hR hG => Calls.spliced_nil (hc ?_))
  obtain ⟨St, Pv, G, wr, fp, ⟨W, tr, st⟩, hI⟩ := hG
  refine W.self 0 _ _ _ st ⟨g, fp, wr, G, _, Pv, St, _, rfl, W, st, tr, fun t mv => ?_⟩
  obtain ⟨H2, J, hT⟩ := hI t mv
  exact ⟨.bl _, H2, J, by rw [hf]; rfl, hR H2 hT⟩
theorem pe_anyQ {elt iter : Expr} {px p pos gpos : Pos} {te : TE} {k : Nat} (hr : Room k X.A) (hg : Gl X "any") (hm : X.mg "any" = none) (TB : TabB X.base X.mg c P) (hcode : X.env.code = .ref c) (S : GenF X.env.scope scope x) (hi : PE X iter te)
    (hs : ∀ v, genFold iter X.env v = pure v := by intro _; rfl) : PE X (.Call (.Name "any" p) [genx elt x px iter scope gpos] [] pos) (tAnyQ X P scope x elt (fun xs pb => xs.any pb) te) :=
  pe_overQ (F := fun n tr => (List.range n).any tr) (fun xs pb => by conv => { rhs; rw [← range_getD xs, List.any_map] }
                                                                     rfl) (fun q => call_any_walkS q) hr hg hm boot_any (by decide) TB hcode S hi hs
theorem pe_allQ {elt iter : Expr} {px p pos gpos : Pos} {te : TE} {k : Nat} (hr : Room k X.A) (hg : Gl X "all") (hm : X.mg "all" = none) (TB : TabB X.base X.mg c P) (hcode : X.env.code = .ref c) (S : GenF X.env.scope scope x) (hi : PE X iter te)
    (hb : bootBuiltins "all" = some (.builtin "all") := by decide +kernel) (hs : ∀ v, genFold iter X.env v = pure v := by intro _; rfl) :
    PE X (.Call (.Name "all" p) [genx elt x px iter scope gpos] [] pos) (tAnyQ X P scope x elt (fun xs pb => xs.all pb) te) :=
  pe_overQ (F := fun n tr => (List.range n).all tr) (fun xs pb => by conv => { rhs; rw [← range_getD xs, List.all_map] }
                                                                     rfl) (fun q => call_all_walkS q) hr hg hm hb (by decide) TB hcode S hi hs
end
end PW
end

section
set_option Elab.async false
set_option linter.all false
set_option autoImplicit false
set_option maxRecDepth 100000
set_option maxHeartbeats 3000000
/-! Sets of texts: what the walk of such a set asks of its table is kept beside its members. -/
namespace PW
open PySem PyProof.Rows PySem.Spec L2

def txtOf (e : Int × Value) : Str := match e.2 with | .str k _ => k | _ => Str.empty
abbrev GoodT (w : World) (e : Int × Value) : Prop := ∃ tk, e.2 = Value.str (txtOf e) tk ∧ e.1 = hashStr w (txtOf e)
/-- the order in which such a table is walked is known -/
abbrev LedBy (w : World) (t : SetTable) : Prop := w.params.followText "set-order" = true ∨ t.led = true
/-- entries and a table that hold the texts ks, each once, in whatever order -/
structure Lot (w : World) (ks : List Str) (es : Array (Int × Value)) (t : SetTable) : Prop where
  good : ∀ e ∈ es.toList, GoodT w e
  keys : (es.toList.map txtOf).Perm ks
  once : ks.Nodup
  few : es.size < scanBound
  fits : t.fits es.size = true
  ris : Ris t.place.toList
  led : LedBy w t
/-- such entries stand at a -/
abbrev Laid (h : Heap) (a : Addr) (es : Array (Int × Value)) (t : SetTable) : Prop := ∃ ep o, o.ExactSet ∧ o.data = .set es ep t ∧ h.get? a = some o
def SetS (w : World) (h : Heap) (a : Addr) (ks : List Str) : Prop := ∃ es t, Laid h a es t ∧ Lot w ks es t
section
variable {P : Program} {w : World} {h h' : Heap} {a : Addr} {ks : List Str} {es : Array (Int × Value)} {t : SetTable} {k : Str} {tk : Tok}
theorem SetS.at (R : SetS w h a ks) (u : ∀ o, h.get? a = some o → h'.get? a = some o) : SetS w h' a ks :=
  let ⟨es, t, ⟨ep, o, x, d, g⟩, L⟩ := R
  ⟨es, t, ⟨ep, o, x, d, u o g⟩, L⟩
theorem SetS.there (R : SetS w h a ks) : ∃ o, h.get? a = some o := let ⟨_, _, ⟨_, o, _, _, g⟩, _⟩ := R; ⟨o, g⟩
theorem goodT_is {e : Int × Value} (g : GoodT w e) (k : Str) : (PySem.strKind P w).is k e.2 = true ↔ txtOf e = k := by
  obtain ⟨u, e2, _⟩ := g
  refine ⟨fun q => ?_, fun q => by rw [e2, q]; exact strKind_is P w k u⟩
  have q' : Value.isStrOf k e.2 = true := q
  rw [e2] at q'
  obtain ⟨_, z⟩ := Value.isStrOf_shape q'
  injection z
theorem Lot.size (L : Lot w ks es t) : es.size = ks.length := by have := L.keys.length_eq; simpa using this
theorem Lot.elems (L : Lot w ks es t) : ElemsOf (PySem.strKind P w) es.toList := fun e he =>
  let ⟨u, a, b⟩ := L.good e he
  ⟨⟨txtOf e, by rw [a]; exact strKind_is P w _ u, b⟩, by rw [a]; rfl⟩
theorem Lot.mem (L : Lot w ks es t) (k : Str) : k ∈ ks ↔ ∃ e ∈ es.toList, (PySem.strKind P w).is k e.2 = true := by
  rw [← L.keys.mem_iff, List.mem_map]
  exact exists_congr fun e => and_congr_right fun he => (goodT_is (L.good e he) k).symm
/-- entries laid otherwise, one more or none -/
theorem Lot.turn {ks' : List Str} {es' : Array (Int × Value)} {t' : SetTable} {l : List (Int × Value)} (L : Lot w ks es t) (pm : es'.toList.Perm l) (g : ∀ e ∈ l, GoodT w e) (pk : (l.map txtOf).Perm ks') (nd : ks'.Nodup) (few : ks'.length < scanBound)
    (fits : t'.fits es'.size = true) (ris : Ris t'.place.toList) (led : t'.led = t.led) : Lot w ks' es' t' where
  good e he := g e (pm.mem_iff.mp he)
  keys := (pm.map txtOf).trans pk
  once := nd
  few := by have := ((pm.map txtOf).trans pk).length_eq; simp at this; omega
  fits := fits
  ris := ris
  led := L.led.imp_right fun z => led.trans z
theorem Lot.relaid (L : Lot w ks es t) (n : Nat) : Lot w ks (relayAll t es n).1 (relayAll t es n).2.1 :=
  L.turn (relayAll_perm t es n) L.good L.keys L.once (L.size ▸ L.few) (relayAll_fits t es n) (relayAll_ris t es n) (relayAll_led t es n)
theorem Lot.more (L : Lot w ks es t) (new : k ∉ ks) (room : ks.length + 1 < scanBound) (tk : Tok) : Lot w (k :: ks) (layNew t es (hashStr w k) (.str k tk)).1 (layNew t es (hashStr w k) (.str k tk)).2.1 := by
  have pm := layNew_perm t es (hashStr w k) (.str k tk)
  rw [Array.toList_push] at pm
  refine L.turn (pm.trans (List.perm_append_singleton _ _)) ?_ (L.keys.cons k) (List.nodup_cons.mpr ⟨new, L.once⟩) room (layNew_fits t es _ _) (layNew_ris t es _ _ L.ris) (layNew_led t es _ _)
  exact List.forall_mem_cons.mpr ⟨⟨tk, rfl, rfl⟩, L.good⟩
theorem setS_fresh (h : Heap) (w : World) : SetS w (h.push { cls := .type "set", dict := none, data := .set #[] 0 (.fresh 0 0 (!w.params.followText "set-order")) }) h.objs.size [] := by
  refine ⟨_, _, ⟨_, _, ⟨rfl, rfl, rfl⟩, rfl, Heap.get?_push_size _ rfl⟩, ⟨nofun, List.Perm.nil, List.nodup_nil, by decide, rfl, List.Pairwise.nil, ?_⟩⟩
  unfold LedBy
  rcases q : w.params.followText "set-order" with _ | _
  · exact .inr rfl
  · exact .inl rfl
theorem SetS.setOf (R : SetS w h a ks) : h.SetOf (PySem.strKind P w) a (fun k => decide (k ∈ ks)) ks.length :=
  let ⟨es, t, ⟨ep, o, x, d, g⟩, L⟩ := R
  ⟨o, es, ep, t, g, x, d, L.elems, fun k => by rw [decide_eq_true_eq]; exact L.mem k, L.few, L.fits, L.size⟩
end
section
variable {P : Program} {w : World} {A : Around} {E : Value → Shared → Prop} {s : Shared} {a : Addr} {ks : List Str} {k : Str} {tk : Tok}
theorem store_ok {es es' : Array (Int × Value)} {t t' : SetTable} {Q : Unit → Shared → Prop} (S : Laid s.heap a es t) (L : Lot w ks es' t') (q : ∀ h', Heap.SameBut a s.heap h' → Laid h' a es' t' → Q () { s with heap := h' }) :
    wpAny (model P w) A (storeSet a es' t') Q E s :=
  let ⟨ep, o, x, d, g⟩ := S
  wpAny_storeSet_of g d (q _ (Heap.SameBut.update s.heap a (Obj.putSet es' t')) ⟨ep + 1, { o with data := .set es' (ep + 1) t' }, x, rfl, store_at g d⟩) (fits_of_scanBound L.few)
theorem gave_ok (b : Bool) {s₁ : Shared} {Q : Unit → Shared → Prop} (q : Q () s₁) : wpAny (model P w) A (cond b (rule "set.scan.the-table-gave-way") (pure ())) Q E s₁ := by
  cases b
  · exact wpAny_pure q
  · exact wpAny_rule q
theorem either {α : Type} {c : Prop} [Decidable c] {m m' : Sem α} {Q : α → Shared → Prop} (h : wpAny (model P w) A m Q E s) (h' : wpAny (model P w) A m' Q E s) : wpAny (model P w) A (if c then m else m') Q E s := by
  by_cases q : c
  · rwa [if_pos q]
  · rwa [if_neg q]
theorem setS_put {Q : Bool → Shared → Prop} (R : SetS w s.heap a ks) (room : ks.length + 1 < scanBound)
    (hQ : ∀ h', Heap.SameBut a s.heap h' → SetS w h' a (if k ∈ ks then ks else k :: ks) → Q (!decide (k ∈ ks)) { s with heap := h' }) :
    wpAny (model P w) A (setAddHashed a (.str k tk) ((PySem.strKind P w).hash k)) Q E s := by
  obtain ⟨es, t, S, L⟩ := R
  obtain ⟨ep, o, x, d, g⟩ := id S
  have el : ElemsOf (PySem.strKind P w) es.toList := L.elems
  unfold setAddHashed
  unfold setAddHashedIn
  refine wpAny_holding (wpAny_bind (wpAny_setState_of g d L.fits ?_))
  show wpAny _ _ (if byScan (.str k tk) es = true then _ else _) _ _ _
  rw [if_pos (by rw [byScan_of rfl L.few el])]
  unfold setAddByScan
  refine wpAny_bind (wpAny_bind (wpAny_rule (wpAny_bind (wpAny_setScan_of (strKind_is P w k tk) g d L.fits el ?_))))
  rcases f : List.findIdx? (fun e => (PySem.strKind P w).is k e.2) es.toList with _ | j
  · have new : k ∉ ks := fun z => by
      obtain ⟨e, he, q⟩ := (L.mem (P := P) k).mp z
      exact Bool.false_ne_true ((List.findIdx?_eq_none_iff.mp f e he).symm.trans q)
    have M : Lot w (k :: ks) (layNew t es ((PySem.strKind P w).hash k) (.str k tk)).1 (layNew t es ((PySem.strKind P w).hash k) (.str k tk)).2.1 := L.more new room tk
    rw [if_neg new, decide_eq_false new] at hQ
    rw [f]
    generalize layNew t es ((PySem.strKind P w).hash k) (.str k tk) = Z at M ⊢
    rcases Z with ⟨es1, t1, wasDummy, gave⟩
    have N : ∀ b : Bool, Lot w (k :: ks) es1 (if b = true then t1 else { t1 with plain := false }) := fun b => by
      cases b
      · exact { M with fits := SetTable.fits_plain_off M.fits }
      · exact M
    dsimp only at M ⊢
    refine wpAny_bind (gave_ok _ ?_)
    split
    all_goals
      refine wpAny_bind ?_
      try rw [hashByValue_scannable 8 rfl]
      refine wpAny_pure (wpAny_bind (store_ok S (N _) fun h1 sb1 S1 => ?_))
      exact either (wpAny_bind (gave_ok _ (wpAny_bind (store_ok S1 ((N _).relaid _) fun h2 sb2 S2 => wpAny_pure (wpAny_pure (hQ _ (sb1.trans sb2) ⟨_, _, S2, (N _).relaid _⟩))))))
        (wpAny_pure (wpAny_pure (hQ _ sb1 ⟨_, _, S1, N _⟩)))
  · obtain ⟨lt, is, _⟩ := List.findIdx?_eq_some_iff_getElem.mp f
    have old : k ∈ ks := (L.mem (P := P) k).mpr ⟨_, List.getElem_mem lt, is⟩
    rw [if_pos old, decide_eq_true old] at hQ
    rw [f]
    exact wpAny_pure (wpAny_pure (hQ s.heap (Heap.SameBut.refl a s.heap) ⟨es, t, S, L⟩))
/-- found.add(k) -/
theorem setS_add {Q : Value → Shared → Prop} (R : SetS w s.heap a ks) (room : ks.length + 1 < scanBound)
    (hQ : ∀ h' ks', Heap.SameBut a s.heap h' → SetS w h' a ks' → (∀ j, j ∈ ks' ↔ j ∈ ks ∨ j = k) → ks'.length ≤ ks.length + 1 → Q .none { s with heap := h', toks := s.toks + 1 }) :
    wpAny (model P w) A (call (.builtin "set.add") [.ref a, .str k tk]) Q E s := by
  have is : s.heap.SetOf (PySem.strKind P w) a (fun k => decide (k ∈ ks)) ks.length := R.setOf
  refine wpAny_call_entry F.slot_set_add is.typeIs F.entry_set_add ?_ (F.args_set_add_2 _ _)
  unfold Builtin.«set.add»
  unfold Builtin.Frozenset.oneOther
  rw [List.isEmpty_nil]
  unfold setAdd Builtin.Frozenset.addrOf
  refine wpAny_bind (wpAny_bind (wpAny_pure (wpAny_pure (wpAny_bind (wpAny_holding (wpAny_bind ((PySem.strKind P w).pyHash (strKind_is P w k tk) ?_)))))))
  refine setS_put (s := { s with toks := s.toks + 1 }) R room fun h' sb R' => wpAny_pure ⟨_, rfl, ?_⟩
  by_cases z : k ∈ ks
  · rw [if_pos z] at R'
    exact hQ h' ks sb R' (fun j => ⟨.inl, Or.rec id fun e => e ▸ z⟩) (Nat.le_succ _)
  · rw [if_neg z] at R'
    exact hQ h' _ sb R' (fun j => by rw [List.mem_cons, or_comm]) (Nat.le_refl _)
/-- sorted(found) -/
theorem setS_sorted {Q : Value → Shared → Prop} (R : SetS w s.heap a ks) (hh : A.handled = none)
    (hQ : ∀ s' p (out : Array Value) (c : Nat) (ns : List Str), (∀ b o, s.heap.get? b = some o → s'.heap.get? b = some o) → s'.gens = s.gens → s'.os = s.os → s.heap.objs.size ≤ p →
      s'.heap.get? p = some (seqObj "list" out c) → StrsAre out.toList ns → sortedS ns = true → ns.Perm ks → Q (.ref p) s') : wpAny (model P w) A (call (.builtin "sorted") [.ref a]) Q E s := by
  obtain ⟨es, t, ⟨ep, o, x, d, at_⟩, L⟩ := R
  refine Calls.call_function_entry kind_sorted plain_sorted entry_sorted (args_sorted1 _) (wpAny_bind (m := checkCount "sorted" 1 1 _) (wpAny_pure (wpAny_bind (collect_set (A := A.in1) hh ⟨o, at_, x.1, d⟩ L.fits L.few L.ris L.led ?_))))
  intro s1 vs keep fresh gens os pm
  have all : ∀ l : List (Int × Value), (∀ e ∈ l, GoodT w e) → StrsAre (l.map (·.2)) (l.map txtOf) := fun l => by
    induction l with
    | nil => exact fun _ => .nil
    | cons e l ih =>
      intro g
      obtain ⟨⟨u, e2, _⟩, g'⟩ := List.forall_mem_cons.mp g
      simp only [List.map_cons]
      rw [e2]
      exact .cons _ u (ih g')
  obtain ⟨ms, T, pk⟩ : ∃ ms, StrsAre vs ms ∧ ms.Perm (es.toList.map txtOf) := by
    have T := all es.toList L.good
    generalize es.toList.map (·.2) = l0, es.toList.map txtOf = m0 at pm T ⊢
    clear L
    induction pm generalizing m0 with
    | nil => exact ⟨m0, T, .refl _⟩
    | cons v _ ih =>
      cases T with
      | cons k u T =>
        obtain ⟨ms, T', p⟩ := ih _ T
        exact ⟨k :: ms, .cons k u T', p.cons k⟩
    | swap v v' l =>
      cases T with
      | cons k u T =>
        cases T with
        | cons k' u' T => exact ⟨_, .cons _ u' (.cons _ u T), .swap ..⟩
    | trans _ _ ih1 ih2 =>
      obtain ⟨ms, T', p⟩ := ih2 _ T
      obtain ⟨ms', T'', p'⟩ := ih1 _ T'
      exact ⟨ms', T'', p'.trans p⟩
  have short : vs.length ≤ sizeLine := by
    have := fits_of_scanBound L.few
    have n := pm.length_eq
    simp at n
    omega
  have new : (s1.heap.push (seqObj "list" vs.toArray 0)).get? s1.heap.objs.size = some (seqObj "list" vs.toArray 0) := Heap.get?_push_size _ rfl
  refine wpAny_bind (wpAny_newList (wpAny_bind (wpAny_holding (wpAny_call_entry slot_list_sort ⟨_, new, rfl⟩ entry_list_sort
    (list_sort_treeKAny strKind_oneLt new T.keysOf (fun _ _ rest e => keyKind_strs (by rw [← e]; exact T)) short fun st' hp hs => ⟨_, rfl, ?_⟩) (args_list_sort _)))) short)
  obtain ⟨ns, are, perm, sorted⟩ := sorted_out_str T hp hs
  obtain ⟨c, there⟩ := sortedHeap_at (vs := vs) (out := (arrOf st').map (·.2)) new
  refine wpAny_pure ⟨_, rfl, hQ _ _ _ c ns (fun b u e => ?_) gens os fresh there are sorted (perm.trans (pk.trans L.keys))⟩
  have e1 := keep b u e
  have lt := Heap.lt_size e1
  refine (sortedHeap_old (Nat.ne_of_lt lt) ?_).trans (Heap.get?_push_of_some _ e1)
  rw [size_push']
  exact Nat.lt_succ_of_lt lt
end
end PW
end

section
set_option Elab.async false
set_option linter.all false
set_option autoImplicit false
set_option maxRecDepth 100000
set_option maxHeartbeats 3000000
/-! An exception out of a comprehension's element; set comprehensions of texts. -/
namespace PW
open PySem PyProof.Rows PySem.Spec L2

section
variable {X : Cx} {pins : List (Addr × Obj)} {σ : L2.St} {H : Hp} {s s' : Shared} {W : WX} {E : XK}
theorem call_air (I : Inv X pins σ H s) {u : Value} (c : L2.CX X.prog X.w X.stack H s E u s') :
    ∃ (a : Addr) (B : Heap) (sI : Shared) (H' : Hp) (cls : Value) (d : Option Addr), u = .ref a ∧ Inv X pins σ H' sI ∧ (∀ b o, sI.heap.get? b = some o → b ∉ frs X.stack → B.get? b = some o) ∧ sI.heap.UpToSlots s'.heap ∧
      HandSPX.FlyingZ B X.stack a (Zc cls d) s'.heap ∧ H' a = none ∧ s'.os = sI.os ∧ AllBare s'.gens ∧ E cls d H' ∧
      (∀ b o, s.heap.get? b = some o → H b = none → b ∉ frs X.stack → B.get? b = some o ∧ H' b = none) := by
  obtain ⟨a, B, H', cls, d, rfl, fly, okB, ub, gone, os, bare, wish⟩ := c
  have sub : B.StaysIn s'.heap := fly.1
  -- the heap without what the exception alone brought
  obtain ⟨G, inn, out⟩ := restrict s'.heap fun b => (B.get? b).isSome || decide (b ∈ frs X.stack)
  have ofB : ∀ {b o}, B.get? b = some o → G.get? b = some o := fun e => (inn _ (by simp [e])).trans (sub _ _ e)
  have ofF : ∀ {b}, b ∈ frs X.stack → G.get? b = s'.heap.get? b := fun m => inn _ (by simp [m])
  have back : ∀ {b o}, G.get? b = some o → s'.heap.get? b = some o ∧ (b ∉ frs X.stack → B.get? b = some o) := by
    intro b o e
    by_cases q : ((B.get? b).isSome || decide (b ∈ frs X.stack)) = true
    · have e1 := (inn b q).symm.trans e
      refine ⟨e1, fun nf => ?_⟩
      rw [decide_eq_false nf, Bool.or_false, Option.isSome_iff_exists] at q
      obtain ⟨o1, e2⟩ := q
      rw [e2, ← (sub b o1 e2).symm.trans e1]
    · cases (out b (by simpa using q)).symm.trans e
  have framed : ∀ {b o}, s.heap.get? b = some o → b ∈ frs X.stack → ∃ sl, G.get? b = some { o with slots := sl } := fun e m =>
    let ⟨sl, q⟩ := ub.slot _ _ e m
    ⟨sl, (ofF m).trans q⟩
  have J : Inv X pins σ H' { s with heap := G, gens := s'.gens, drawn := s'.drawn, toks := s'.toks } :=
    I.call (ch := []) ⟨fun b o e n nf _ => ofB (ub.keep b o e n nf), fun b o e _ m _ => framed e m, fun b o e n _ => ub.free b o e n,
      fun b o e _ => if m : b ∈ frs X.stack then (framed e m).imp' _ fun _ q => q else (ub.there b o e m).imp fun _ => ofB, ub.tups, ub.frzs, ub.tbls⟩ (okB.kept fun _ _ => ofB) bare nofun
  exact ⟨a, B, _, H', cls, d, rfl, J, fun b o e nf => (back e).2 nf, Heap.UpToSlots.of_keeps fun b o e => (back e).1, fly, gone, os, bare, wish, fun b o e n nf => ⟨ub.keep b o e n nf, ub.free b o e n⟩⟩

/-- the context of a comprehension's block whose element may let an exception out -/
abbrev blkR (X : Cx) (s : Shared) (H : Hp) (scope : Scope) (cenv : Env) (fp : List Addr) (xe : Value → Shared → Prop) : Cx := (X.blk s H scope cenv fp).tr ([] ++ []) xe

theorem comp_out {cenv : Env} {u : Value} {H1 : Hp} {s1 : Shared} {m : Str → Option Value} (tk : Takes X W) (hs : X.stack = X.env :: X.outer) (hf : X.env.frame = some X.env.locals) (hcf : cenv.frame = X.env.frame) (hW : ∀ cls d H', E cls d H' → W cls d σ H')
    (I7 : Inv X pins σ H1 s1) (f : FpOk X pins H1 cenv.locals) (hn : s1.heap.Ns cenv.locals m) (c : L2.CX X.prog X.w X.stack H1 s1 E u s') :
    notedBy (model X.prog X.w) X.A cenv (CompFails (model X.prog X.w) X.A X.xe cenv) u s' := by
  obtain ⟨a, B, sI, H2, cls, d, rfl, I2, nb, up, fl, na, os, ag, hE, kp⟩ := call_air I7 c
  obtain ⟨f0, f1, f2, f3, f45⟩ := f
  have hfr : X.A.frames = some (X.env :: X.outer) := by rw [I7.ok.frames, hs]
  have nstk : cenv.locals ∉ frs X.stack := fun z => by
    rcases List.mem_cons.mp (I7.stkSub _ z) with e | e
    · exact f1 e
    · exact f2 e
  obtain ⟨oC, es, ep, hoC, hdC, rC⟩ := id hn
  obtain ⟨hB, hH2⟩ := kp cenv.locals oC hoC f0 nstk
  show wpAny _ _ (noteFrame (.ref a) cenv) _ _ s'
  rw [noteFrame_env _ hcf]
  rw [hs] at fl
  refine HandSPX.looks_onZ Zc.steady hfr hf fl fun h1 hh up1 => ?_
  have hC1 : h1.get? cenv.locals = some oC := hh.1 _ _ hB
  refine ⟨m, ⟨oC, es, ep, hC1, hdC, rC⟩, fun h' m' hn' sb => ?_⟩
  have g1 : ∀ b o, B.get? b = some o → b ≠ cenv.locals → (PySem.W.hideAll B [cenv.locals]).get? b = some o := fun b o e hb => PySem.W.hideAll_get _ e (by simp [hb])
  have g2 : ∀ b o, (PySem.W.hideAll B [cenv.locals]).get? b = some o → B.get? b = some o ∧ b ≠ cenv.locals := fun b o e => ⟨PySem.W.of_hideAll _ e, fun z => by
    rw [z, PySem.W.hideAll_none _ (by simp)] at e; cases e⟩
  have gN : ∀ b, B.get? b = none → (PySem.W.hideAll B [cenv.locals]).get? b = none := fun b e => by
    cases q : (PySem.W.hideAll B [cenv.locals]).get? b with
    | none => rfl
    | some o => rw [(g2 b o q).1] at e; cases e
  obtain ⟨b1, b0, ff, oe, vs, T, oT, ts, he, hz, hd, h1', hnT, hTe, hT, hdT, h3⟩ := hh
  have naC : ∀ b o vs, h1.get? b = some o → o.data = .fields vs → b ≠ cenv.locals := fun b o vs e q z => by
    rw [z, hC1] at e; cases e
    rw [hdC] at q; cases q
  have hh' : HandSPX.HeldZ (PySem.W.hideAll B [cenv.locals]) (X.env :: X.outer) a (Zc cls d) X.env.locals h' := by
    refine ⟨fun b o e => (sb.2 b (g2 b o e).2).trans (b1 b o (g2 b o e).1), gN a b0, funFrames_none (Heap.FunFrames.sameBut sb hn' ff) fun L hL => gN L ?_, oe, vs, T, oT, ts, (sb.2 a (naC a oe vs he hd)).trans he, hz, hd, h1', gN T hnT, hTe, (sb.2 T (naC T oT ts hT hdT)).trans hT, hdT, h3⟩
    exact (ff.mem hL).1
  have he' : h'.get? a = some oe := (sb.2 a (naC a oe vs he hd)).trans he
  unfold PySem.passOn
  refine wpAny_bind (wpAny_field he' hd h1' ?_)
  rw [hcf, hf, if_neg (by simp)]
  refine wpAny_bind (HandSPX.setFlight_onZ hh' fun h3' hh3 up3 => ?_)
  refine wpAny_throw (tk _ _ ?_)
  have kI : ∀ b o, b ≠ cenv.locals → sI.heap.get? b = some o → (PySem.W.hideAll sI.heap [cenv.locals]).get? b = some o := fun b o hb e => PySem.W.hideAll_get _ e (by simp [hb])
  have oI : ∀ b o, (PySem.W.hideAll sI.heap [cenv.locals]).get? b = some o → sI.heap.get? b = some o ∧ b ≠ cenv.locals := fun b o e => ⟨PySem.W.of_hideAll _ e, fun z => by
    rw [z, PySem.W.hideAll_none _ (by simp)] at e; cases e⟩
  refine ⟨a, PySem.W.hideAll B [cenv.locals], { sI with heap := PySem.W.hideAll sI.heap [cenv.locals], toks := sI.toks }, pins, σ, H2, cls, d, rfl, I2.turned (t' := sI.toks) kI hH2 f1 f3 f45.1 f45.2, fun b o e hb => ?_, ?_, ?_, na, os, ag, hW _ _ _ hE⟩
  · obtain ⟨e1, e2⟩ := oI b o e
    exact g1 b o (nb b o e1 hb) e2
  · have st1 : sI.heap.UpToSlots h1 := up.trans up1
    have : (PySem.W.hideAll sI.heap [cenv.locals]).UpToSlots h' := fun b o e hnf => by
      obtain ⟨e1, e2⟩ := oI b o e
      obtain ⟨sl, q⟩ := st1 b o e1 hnf
      exact ⟨sl, (sb.2 b e2).trans q⟩
    exact this.trans up3
  · rw [hs]
    exact .inr (.inr hh3)
end

/-- the set of texts at D -/
def SetO (w : World) (D : Addr) (ks : List Str) : HO := .ext fun h => SetS w h D ks
section
variable {X : Cx} {pins : List (Addr × Obj)} {σ : L2.St} {H : Hp} {s : Shared} {W : WX}
theorem setO_new {P : Program} {w : World} {H : Hp} {h : Heap} {a : Addr} {ks : List Str} (R : SetS w h a ks) : ObjOk P w H h a (SetO w a ks) := ⟨R, R.there, fun _ _ p k => p.at k⟩
theorem setO_get {a : Addr} {ks : List Str} (I : Inv X pins σ H s) (ha : H a = some (SetO X.w a ks)) : SetS X.w s.heap a ks := (I.hok a _ ha).1
/-- a text put into the set at D -/
theorem put_ok {E : Value → Shared → Prop} {D : Addr} {ks : List Str} {k : Str} {v : Value} {Q : Value → Shared → Prop} (I : Inv X pins σ H s) (hD : H D = some (SetO X.w D ks)) (room : ks.length + 1 < scanBound) (r : RelV (.str k) v)
    (h : ∀ s' ks', Inv X pins σ (upd H D (SetO X.w D ks')) s' → (∀ j, j ∈ ks' ↔ j ∈ ks ∨ j = k) → ks'.length ≤ ks.length + 1 → Q .none s') : wpAny (model X.prog X.w) X.A (call (.builtin "set.add") [.ref D, v]) Q E s := by
  obtain ⟨_, rfl⟩ := r
  exact setS_add (setO_get I hD) room fun h' ks' sb R m l => h _ ks' (I.write (e := D) (t' := s.toks + 1) (by rw [hD]; trivial) (.inl rfl) (fun b u hb hu => (sb.2 b hb).trans hu) R.there (setO_new R)) m l

/-- {elt for target in iter}: texts -/
def tSc (w : World) (wi : TI) (g : TG) (te : XK → TE) (W : WX) (vs : List Nat) : TE := fun σ H Q => wi σ H fun J H1 => ∀ D, H1 D = none → ∃ Wn : Nat → Nat → Hp → Prop, (∃ m, Wn 0 m (upd H1 D (SetO w D []))) ∧ ∀ i m H, Wn i m H →
  (J.stop i H ∧ Q (.ref D) H) ∨ (J.go i H ∧ ∃ Nx : Hp → Prop, (∀ H', Nx H' → ∃ m', m' < m ∧ Wn (i + 1) m' H') ∧ ∀ x H', J.yld i H x H' → g x (wipe σ vs) H' fun σ2 H2 => wipe σ2 vs = wipe σ vs ∧ te (fun cls d H' => W cls d σ H') σ2 H2 fun y H4 =>
    ∃ k ks, y = .str k ∧ H4 D = some (SetO w D ks) ∧ ks.length + 1 < scanBound ∧ ∀ ks', (∀ j, j ∈ ks' ↔ j ∈ ks ∨ j = k) → ks'.length ≤ ks.length + 1 → Nx (upd H4 D (SetO w D ks')))
theorem pe_sc {elt tg iter : Expr} {scope : Scope} {own : List (Str × Nat)} {pos : Pos} {wi : TI} {g : TG} {te : XK → TE} (hc : X.calm = true) (tk : Takes X W) (hs : X.stack = X.env :: X.outer) (hf : X.env.frame = some X.env.locals)
    (hN : X.N.Nodup) (hi : PI X tg iter wi) (ok : BlkOk X.N X.env.scope scope own)
    (hg : ∀ (s : Shared) (H : Hp) (C : Addr) (cl : List (Str × Addr)) (fp : List Addr) (xe : Value → Shared → Prop), PG (blkR X s H scope (compEnvC scope cl C X.env) fp xe) tg g)
    (he : ∀ (s : Shared) (H : Hp) (C : Addr) (cl : List (Str × Addr)) (fp : List Addr) (xe : Value → Shared → Prop) (E : XK), Passes (L2.CX X.prog X.w) (blkR X s H scope (compEnvC scope cl C X.env) fp xe) E → PE (blkR X s H scope (compEnvC scope cl C X.env) fp xe) elt (te E))
    (hfs : ∀ x, foldedSetIterable iter X.env x = pure x := by intro _; rfl) :
    PE X (.SetComp elt [⟨tg, iter, [], 0⟩] scope pos) (tSc X.w wi g te W (own.map (·.2))) := by
  refine ⟨fun pins s σ H Q I h => ?_⟩
  have caught : ∀ y ∈ scope.names, y.2 = .free → ∃ c, X.env.cells.lookup y.1 = some c := fun y hy e => (ok.free y hy e).elim (fun k => I.ok.has _ (.inl k)) fun k => I.ok.has _ (.inr k)
  rw [arm_eval_SetComp]
  refine comprehension_at (use := none) rfl hfs (closure_ok caught) ok.kind (fun y hy e => by rw [ok.uniq y hy, e]) (thn (hi.run pins s σ H _ I h) fun _ _ walked => thn walked ?_)
  rintro _ s2 ⟨it, fp, tn, J, H2, rfl, I2, T, at2, free2, want⟩
  refine wpAny_newSet_raw fun led hled => newEnv_comp ?_
  subst hled
  -- the set
  have fr := setS_fresh s2.heap X.w
  have nD : H2 s2.heap.objs.size = none := I2.hok.fresh (Nat.le_refl _)
  obtain ⟨Wn, ⟨m0, w0⟩, turn⟩ := want _ nD
  have old : ∀ {b o}, tn 0 s2.heap → b ∈ fp → s2.heap.get? b = some o → b < s2.heap.objs.size := fun _ _ e => Heap.lt_size e
  have keepD : ∀ (o : Obj) b u, s2.heap.get? b = some u → (s2.heap.push o).get? b = some u := fun o b u e => Heap.get?_push_of_some _ e
  generalize hO : ({ cls := .type "set", dict := none, data := .set #[] 0 (.fresh 0 0 (!X.w.params.followText "set-order")) } : Obj) = o0 at fr ⊢
  have I3 : Inv X pins σ (upd H2 s2.heap.objs.size (SetO X.w s2.heap.objs.size [])) { s2 with heap := s2.heap.push o0 } := I2.laid (t' := s2.toks) (keepD o0) (Nat.le_refl _) (setO_new fr)
  have lt : ∀ b ∈ fp, b < s2.heap.objs.size := fun b hb => let ⟨_, e, _⟩ := T.obj 0 _ at2 b hb; Heap.lt_size e
  have f3 : ∀ b ∈ fp, FpOk X pins (upd H2 s2.heap.objs.size (SetO X.w s2.heap.objs.size [])) b ∧ b < (s2.heap.push o0).objs.size := fun b hb =>
    ⟨⟨(upd_ne (Nat.ne_of_lt (lt b hb))).trans (free2 b hb).1, (free2 b hb).2⟩, by rw [Heap.size_push]; exact Nat.lt_succ_of_lt (lt b hb)⟩
  have at3 : tn 0 (s2.heap.push o0) := T.keep _ _ _ at2 fun b _ => keepD o0 b
  clear fr hO keepD old lt
  generalize s2.heap.objs.size = D at *
  generalize hs3 : ({ s2 with heap := s2.heap.push o0 } : Shared) = s3 at I3 ⊢
  have h3 : s3.heap = s2.heap.push o0 := by rw [← hs3]
  rw [← h3] at f3 at3
  generalize hH3 : upd H2 D (SetO X.w D []) = H3 at *
  -- the block
  have I4 := block_start (scope := scope) (own := own) I3 ok hN f3
  have pg := hg s3 H3 s3.heap.objs.size (cellsFrom (s3.heap.objs.size + 1) scope.names (cloFrom X.env.cells scope.names [])) fp
  have pe := he s3 H3 s3.heap.objs.size (cellsFrom (s3.heap.objs.size + 1) scope.names (cloFrom X.env.cells scope.names [])) fp
  show codeAny _ _ (.compStart (.SetComp elt [⟨tg, iter, [], 0⟩] scope pos) 0 (.ref it) (.ref D) (compEnvC scope (cellsFrom (s3.heap.objs.size + 1) scope.names (cloFrom X.env.cells scope.names [])) s3.heap.objs.size X.env))
    (compEnds (model X.prog X.w) X.A X.xe none (EP X pins σ Q) (.ref D) (compEnvC scope (cellsFrom (s3.heap.objs.size + 1) scope.names (cloFrom X.env.cells scope.names [])) s3.heap.objs.size X.env)) { s3 with heap := pushCells (s3.heap.push { cls := .type "dict", data := .dict #[] }) scope.names }
  have at4 : tn 0 (pushCells (s3.heap.push { cls := .type "dict", data := .dict #[] }) scope.names) := T.keep _ _ _ at3 fun b _ o e => pushCells_keeps _ _ _ _ (Heap.get?_push_of_some _ e)
  have nfp : ∀ b ∈ fp, H3 b = none := fun b hb => (f3 b hb).1.1
  have own4 : (compEnvC scope (cellsFrom (s3.heap.objs.size + 1) scope.names (cloFrom X.env.cells scope.names [])) s3.heap.objs.size X.env).locals = s3.heap.objs.size ∧
    (compEnvC scope (cellsFrom (s3.heap.objs.size + 1) scope.names (cloFrom X.env.cells scope.names [])) s3.heap.objs.size X.env).frame = X.env.frame := ⟨rfl, rfl⟩
  generalize compEnvC scope (cellsFrom (s3.heap.objs.size + 1) scope.names (cloFrom X.env.cells scope.names [])) s3.heap.objs.size X.env = ce at I4 pg pe own4 ⊢
  generalize hT4 : ({ s3 with heap := pushCells (s3.heap.push { cls := .type "dict", data := .dict #[] }) scope.names } : Shared) = t4 at I4 ⊢
  have h4 : t4.heap = pushCells (s3.heap.push { cls := .type "dict", data := .dict #[] }) scope.names := by rw [← hT4]
  rw [← h4] at at4
  -- the block's wish
  generalize hxe : (notedBy (model X.prog X.w) X.A ce (CompFails (model X.prog X.w) X.A X.xe ce)) = xe
  have I4R : Inv (blkR X s3 H3 scope ce fp xe) [] (wipe σ (own.map (·.2))) H3 t4 := I4.toTry xe
  have stat : ∀ {σ' : L2.St} {H' : Hp} {s' : Shared}, Inv (blkR X s3 H3 scope ce fp xe) [] σ' H' s' → (∀ b ∈ fp, H' b = none) → ∀ b ∈ fp, FpOk (blkR X s3 H3 scope ce fp xe) [] H' b := fun {σ' H' s'} I' hn b hb =>
    ⟨hn b hb, (I'.ok.exf b hb).1, I'.ok.exfs b hb, .inl hb, fun x c e => (I'.ok.exf b hb).2 x c e, fun p hp => absurd (show p ∈ (([] ++ []) ++ [] : List (Addr × Obj)) from hp) (by simp)⟩
  -- back in the def's context
  have back : ∀ {pl : List (Addr × Obj)} {σ' : L2.St} {H' : Hp} {s' : Shared}, Inv (blkR X s3 H3 scope ce fp xe) pl σ' H' s' → Inv X pins σ H' s' ∧ FpOk X pins H' ce.locals ∧ ∃ m, s'.heap.Ns ce.locals m := fun {pl σ' H' s'} I6 => by
    have nC : H' ce.locals = none := I6.free
    refine ⟨I3.call' (ch := fp) I6.os I6.base I6.hok I6.bare fun b hb => ⟨(f3 b hb).1.2.2.2.1, (f3 b hb).1.2.1, (f3 b hb).1.2.2.2.2.1, (f3 b hb).1.2.2.2.2.2⟩, ?_, ?_⟩
    · rw [own4.1] at nC ⊢
      exact I3.fpOk (Nat.le_refl _) nC
    · obtain ⟨m, hn, _⟩ := I6.loc
      exact ⟨m, hn⟩
  have pas : Passes (L2.CX X.prog X.w) (blkR X s3 H3 scope ce fp xe) (fun cls d H' => W cls d σ H') := fun pl σ' H' s1 e s' I' c => by
    obtain ⟨I7, f, m, hn⟩ := back I'
    show xe e s'
    rw [← hxe]
    exact comp_out tk hs hf own4.2 (fun _ _ _ z => z) I7 f hn c
  have loop : codeAny (model X.prog X.w) X.A (.compLoop (.SetComp elt [⟨tg, iter, [], 0⟩] scope pos) 0 (.ref it) (.ref D) ce) (compEnds (model X.prog X.w) X.A X.xe none (EP X pins σ Q) (.ref D) ce) t4 := by
    refine compLoop_set_any (fun n s' => ∃ i H', Inv (blkR X s3 H3 scope ce fp xe) [] (wipe σ (own.map (·.2))) H' s' ∧ tn i s'.heap ∧ (∀ b ∈ fp, H' b = none) ∧ Wn i n H') ?_ m0 ⟨0, H3, I4R, at4, nfp, w0⟩
    have hxe2 : (notedBy (model X.prog X.w) X.A ce fun e s' => compEnds (model X.prog X.w) X.A X.xe none (EP X pins σ Q) (Value.ref D) ce (Except.error e) s') = xe := hxe
    rw [hxe2]
    rintro n t ⟨i, H5, I5, at5, n5, w5⟩
    obtain ⟨stop, last⟩ | ⟨go, Nx, hNx, step⟩ := turn i n H5 w5
    · refine thn (T.done (blkR X s3 H3 scope ce fp xe) rfl rfl rfl hc i [] t _ H5 xe I5 (stat I5 n5) at5 stop) ?_
      rintro _ s6 ⟨rfl, I6⟩
      obtain ⟨I7, ⟨f0, f1, _, f3', f45⟩, m, hn⟩ := back I6
      exact ⟨m, hn, fun h'' sb => ⟨.ref D, H5, I7.turned (t' := s6.toks) (fun b o hb e => (sb.2 b hb).trans e) f0 f1 f3' f45.1 f45.2, rfl, last⟩⟩
    · refine thn (T.item (blkR X s3 H3 scope ce fp xe) rfl rfl rfl hc i [] t _ H5 xe I5 (stat I5 n5) at5 go) ?_
      rintro _ s6 ⟨u, rfl, h6⟩
      refine thn h6 fun _ s7 ⟨x, H7, I7, r7, y7, at7, n7⟩ => ?_
      have here := T.obj _ _ at7
      refine thn ((pg xe).run _ s7 _ H7 x u _ (I7.pinned (stat I7 n7) here) r7 (step x H7 y7)) fun _ s8 ⟨σ8, H8, I8, hw8, q8⟩ => wpAny_tests_nil ?_
      rw [if_pos rfl]
      refine thn ((pe xe _ pas).run _ s8 σ8 H8 _ I8 q8) ?_
      rintro v s9 ⟨_, H9, I9, r9, k, ks, rfl, hD9, room, nx⟩
      refine put_ok (X := blkR X s3 H3 scope ce fp xe) I9 hD9 room r9 fun s' ks' I' mem len => ?_
      obtain ⟨m', less, w'⟩ := hNx _ (nx ks' mem len)
      have pinned : ∀ b ∈ fp, (∀ o, s7.heap.get? b = some o → s'.heap.get? b = some o) ∧ (upd H9 D (SetO X.w D ks')) b = none := fun b hb => by
        have one : ∀ o, s7.heap.get? b = some o → s'.heap.get? b = some o ∧ (upd H9 D (SetO X.w D ks')) b = none := fun o e => (I'.pin (b, o) (by simp [mem_pinsAt hb e])).imp_right (·.1)
        obtain ⟨o, e, _⟩ := here b hb
        exact ⟨fun o e => (one o e).1, (one o e).2⟩
      exact ⟨m', less, i + 1, _, (I'.unpinned (pins := [])).weak (by rw [← hw8, wipe_length]) (fun j v e => (wipe_some (hw8 ▸ e)).1), T.keep _ _ _ at7 fun b hb => (pinned b hb).1, fun b hb => (pinned b hb).2, w'⟩
  refine codeAny_compStart_set loop ?_
  exact T.self X.A 0 _ _ _ at4 loop
end
end PW
end

section
set_option Elab.async false
set_option linter.all false
set_option autoImplicit false
set_option maxRecDepth 100000
set_option maxHeartbeats 3000000
/-! What expressions come to, where all that is tracked stays but tables of code objects. -/
namespace PW
open PySem PySem.Spec PyProof.Rows L2 GxR

/-- the tables that may grow: of defs with generators, of defs with lambdas -/
structure Tn where
  g : List Addr
  l : List (Addr × Str)
def Tb (T : Tn) (H : Hp) : Prop := (∀ P ∈ T.g, TabG H P) ∧ LamX.Tabs T.l H
/-- all but the tables stays -/
structure Ex (T : Tn) (H H' : Hp) : Prop where
  obj : ∀ b o, H b = some o → (∀ ps, o ≠ .tbl ps) → H' b = some o
  tb : Tb T H → Tb T H'
  fr : ∀ b, H' b = none → H b = none
section
variable {T : Tn} {H H' H1 H2 : Hp} {K : PySem.W.Frag}
theorem Ex.refl (T : Tn) (H : Hp) : Ex T H H := ⟨fun _ _ h _ => h, id, fun _ h => h⟩
theorem Ex.trans (a : Ex T H H1) (b : Ex T H1 H2) : Ex T H H2 := ⟨fun x o h n => b.obj x o (a.obj x o h n) n, fun t => b.tb (a.tb t), fun x h => a.fr x (b.fr x h)⟩
theorem tabG_same {P : Addr} (e : ∀ b o, H b = some o → H' b = some o) (t : TabG H P) : TabG H' P := by
  obtain ⟨ps, h, r⟩ := t
  exact ⟨ps, e _ _ h, r⟩
theorem Ex.same (e : ∀ b o, H b = some o → H' b = some o) : Ex T H H' := ⟨fun b o h _ => e b o h, fun t => ⟨fun P hP => tabG_same e (t.1 P hP), t.2.ext e⟩, fun b h => by
  cases q : H b with
  | none => rfl
  | some o => rw [e b o q] at h; cases h⟩
theorem Ex.new {p : Addr} {o : HO} (h : H p = none) : Ex T H (upd H p o) := .same fun a u e => by
  rw [upd_ne (ne_of_none e h)]
  exact e
/-- an object that H does not know is written -/
theorem Ex.mut {p : Addr} {o : HO} (e : Ex T H H') (h : H p = none) (hn : ∃ u, H' p = some u ∧ ∀ ps, u ≠ .tbl ps) (hc : ∀ q, o ≠ .tbl q) (hcd : ∀ u, H' p = some u → ∀ q, u ≠ LamX.CodeO p q) : Ex T H (upd H' p o) := by
  obtain ⟨u, hu, nt⟩ := hn
  refine ⟨fun a x ha n => ?_, fun t => ?_, fun b hb => ?_⟩
  · rw [upd_ne (ne_of_none ha h)]
    exact e.obj a x ha n
  · obtain ⟨t1, t2⟩ := e.tb t
    refine ⟨fun P hP => ?_, fun q hq => ?_⟩
    · obtain ⟨ps, h1, r⟩ := t1 P hP
      have np : P ≠ p := fun z => by rw [z, hu] at h1; exact nt ps (Option.some.inj h1)
      exact ⟨ps, by rw [upd_ne np]; exact h1, r⟩
    · obtain ⟨ps, h1, r1, r2⟩ := t2 q hq
      have np : q.1 ≠ p := fun z => by rw [z, hu] at h1; exact nt ps (Option.some.inj h1)
      refine ⟨ps, by rw [upd_ne np]; exact h1, r1, fun pos cv hcv => ?_⟩
      obtain ⟨c, e1, e2⟩ := r2 pos cv hcv
      refine ⟨c, e1, ?_⟩
      have nc : c ≠ p := fun z => by
        rw [z] at e2
        exact hcd _ e2 _ rfl
      rw [upd_ne nc]
      exact e2
  · by_cases hb2 : b = p
    · rw [hb2]; exact h
    · rw [upd_ne hb2] at hb
      exact e.fr b hb
theorem Ex.free {p : Addr} (e : Ex T H H') (h : H' p = none) : H p = none := e.fr p h
theorem Ex.tabbed {P : Addr} (hP : P ∈ T.g) (hl : ∀ q ∈ T.l, q.1 ≠ P) (t0 : TabG H P) (t : Tabbed P H H') : Ex T H H' := by
  obtain ⟨ps0, h0, _⟩ := t0
  obtain ⟨t1, t2⟩ := t
  have keep : ∀ b o, H b = some o → (∀ ps, o ≠ .tbl ps) → H' b = some o := fun b o h n => by
    have : b ≠ P := fun z => by rw [z, h0] at h; exact n ps0 (Option.some.inj h).symm
    rw [t2 b this]
    exact h
  refine ⟨keep, fun s => ⟨fun Q hQ => ?_, fun q hq => ?_⟩, fun b hb => ?_⟩
  · by_cases e : Q = P
    · rw [e]; exact t1
    · obtain ⟨ps, h, r⟩ := s.1 Q hQ
      exact ⟨ps, by rw [t2 Q e]; exact h, r⟩
  · obtain ⟨ps, h1, r1, r2⟩ := s.2 q hq
    refine ⟨ps, by rw [t2 q.1 (hl q hq)]; exact h1, r1, fun pos cv hcv => ?_⟩
    obtain ⟨c, e1, e2⟩ := r2 pos cv hcv
    exact ⟨c, e1, keep _ _ e2 LamX.codeO_ne⟩
  · by_cases e : b = P
    · obtain ⟨ps, h, _⟩ := t1
      rw [e, h] at hb
      cases hb
    · rw [t2 b e] at hb
      exact hb
theorem Ex.lam {H' : Hp} (e : LamX.ExtN H H') (t : LamX.Tabs T.l H → LamX.Tabs T.l H') (g : (∀ P ∈ T.g, TabG H P) → ∀ P ∈ T.g, TabG H' P) (f : ∀ b, H' b = none → H b = none) : Ex T H H' := ⟨e, fun s => ⟨g s.1, t s.2⟩, f⟩
theorem Ex.rd {a : Addr} {u : HO} (e : Ex T H H') (h : Rd H a u) (n : ∀ ps, u ≠ .tbl ps) : Rd H' a u := by
  rcases h with h | ⟨o, h⟩
  · exact .inl (e.obj a _ h n)
  · exact .inr ⟨o, e.obj a _ h fun ps z => by cases z⟩
theorem Ex.lst {a : Addr} {xs : List V} (e : Ex T H H') (h : SqL K H a xs) : SqL K H' a xs := by
  rcases h with h | h
  · exact .inl (e.rd h fun _ z => by cases z)
  · exact .inr h
theorem Ex.tup {a : Addr} {xs : List V} (e : Ex T H H') (h : SqT K H a xs) : SqT K H' a xs := by
  rcases h with h | h
  · exact .inl (e.rd h fun _ z => by cases z)
  · exact .inr h
end

/-! ### sequences of texts, deeds -/
/-- v is a list or a tuple of the values xs -/
def Sq (K : PySem.W.Frag) (H : Hp) (v : V) (xs : List V) : Prop := ∃ a, v = .ref a ∧ (SqL K H a xs ∨ SqT K H a xs)
def Tu (K : PySem.W.Frag) (H : Hp) (v : V) (xs : List V) : Prop := ∃ a, v = .ref a ∧ SqT K H a xs
def Li (K : PySem.W.Frag) (H : Hp) (v : V) (xs : List V) : Prop := ∃ a, v = .ref a ∧ SqL K H a xs
section
variable {T : Tn} {H H' : Hp} {K : PySem.W.Frag} {v : V} {xs : List V}
theorem Sq.ex (e : Ex T H H') (h : Sq K H v xs) : Sq K H' v xs := let ⟨a, r, q⟩ := h; ⟨a, r, q.imp e.lst e.tup⟩
theorem Tu.ex (e : Ex T H H') (h : Tu K H v xs) : Tu K H' v xs := let ⟨a, r, q⟩ := h; ⟨a, r, e.tup q⟩
theorem Li.ex (e : Ex T H H') (h : Li K H v xs) : Li K H' v xs := let ⟨a, r, q⟩ := h; ⟨a, r, e.lst q⟩
theorem Tu.sq (h : Tu K H v xs) : Sq K H v xs := let ⟨a, r, q⟩ := h; ⟨a, r, .inr q⟩
theorem Li.sq (h : Li K H v xs) : Sq K H v xs := let ⟨a, r, q⟩ := h; ⟨a, r, .inl q⟩
theorem flat_strs (ks : List Str) : (ks.map V.str).all flatV = true := by
  rw [List.all_eq_true]
  rintro _ hv
  obtain ⟨_, _, rfl⟩ := List.mem_map.mp hv
  rfl
theorem inV_strs (x : Str) (ks : List Str) : inV (.str x) (ks.map V.str) = decide (x ∈ ks) := by
  unfold inV
  rw [Bool.eq_iff_iff, List.any_map, decide_eq_true_eq, List.any_eq_true]
  constructor
  · rintro ⟨y, hy, e⟩
    have e2 : eqV (.str y) (.str x) = true := e
    have : y = x := by
      have z : (y == x) = true := e2
      simpa using z
    exact this ▸ hy
  · intro h
    exact ⟨x, h, by show (x == x) = true; simp⟩
end

/-! ### readings of expressions -/
def Ev (T : Tn) (te : TE) (σ : L2.St) (H : Hp) (Po : V → Hp → Prop) : Prop := ∀ H1, Ex T H H1 → Tb T H1 → ∀ Q : VK, (∀ v H2, Ex T H1 H2 → Tb T H2 → Po v H2 → Q v H2) → te σ H1 Q
def EvT (T : Tn) (tt : TT) (σ : L2.St) (H : Hp) (b : Bool) : Prop := ∀ H1, Ex T H H1 → Tb T H1 → ∀ Q : Bool → Hp → Prop, (∀ H2, Ex T H1 H2 → Tb T H2 → Q b H2) → tt σ H1 Q
def EvA (T : Tn) (ta : TA) (σ : L2.St) (H : Hp) (Po : List V → Hp → Prop) : Prop := ∀ H1, Ex T H H1 → Tb T H1 → ∀ Q : List V → Hp → Prop, (∀ vs H2, Ex T H1 H2 → Tb T H2 → Po vs H2 → Q vs H2) → ta σ H1 Q
/-- it raises: whatever is wanted behind it -/
def EvX (T : Tn) (te : TE) (σ : L2.St) (H : Hp) : Prop := ∀ H1, Ex T H H1 → Tb T H1 → ∀ Q : VK, te σ H1 Q
abbrev Is (v : V) : V → Hp → Prop := fun x _ => x = v
section
variable {T : Tn} {K : PySem.W.Frag} {σ : L2.St} {H H' : Hp} {ta tb te : TE} {t u : TT} {v x y z : V} {Po Po' : V → Hp → Prop}
theorem Ev.mono (e : Ex T H H') (h : Ev T te σ H Po) : Ev T te σ H' Po := fun H1 a tb Q q => h H1 (e.trans a) tb Q q
theorem EvT.mono {b : Bool} (e : Ex T H H') (h : EvT T t σ H b) : EvT T t σ H' b := fun H1 a tb Q q => h H1 (e.trans a) tb Q q
theorem EvA.mono {ta : TA} {Pa : List V → Hp → Prop} (e : Ex T H H') (h : EvA T ta σ H Pa) : EvA T ta σ H' Pa := fun H1 a tb Q q => h H1 (e.trans a) tb Q q
theorem Ev.imp (h : Ev T te σ H Po) (k : ∀ v H1, Ex T H H1 → Po v H1 → Po' v H1) : Ev T te σ H Po' := fun H1 a t Q q => h H1 a t Q fun v H2 e2 t2 p => q v H2 e2 t2 (k v H2 (a.trans e2) p)
theorem Ev.is (h : Ev T te σ H (Is v)) (e : v = x) : Ev T te σ H (Is x) := e ▸ h
theorem EvT.is {b c : Bool} (h : EvT T t σ H b) (e : b = c) : EvT T t σ H c := e ▸ h
theorem ev_var {i : Nat} (h : σ[i]? = some (some v)) : Ev T (tVar i) σ H (Is v) := fun H1 _ t Q q => ⟨v, h, q v H1 (.refl T H1) t rfl⟩
theorem ev_c : Ev T (tC v) σ H (Is v) := fun H1 _ t Q q => q v H1 (.refl T H1) t rfl
theorem ev_fld {f : Str} {a C dx : Addr} {fs : List (Str × V)} (h : Ev T te σ H (Is (.ref a))) (ho : H a = some (.ins C dx fs)) (c : Cls K C) (n : NoAttr K C f) (l : fs.lookup f = some v) : Ev T (tFld K te f) σ H (Is v) := fun H1 e t Q q =>
  h H1 e t _ fun x H2 e2 t2 p => ⟨a, C, dx, fs, v, p, (e.trans e2).obj a _ ho (fun _ z => by cases z), c, n, l, q v H2 e2 t2 rfl⟩
theorem ev_op {r : R2} {Pa Pb : V → Hp → Prop} (ha : Ev T ta σ H Pa) (hb : Ev T tb σ H Pb) (mono : ∀ v H1 H2, Ex T H1 H2 → Pa v H1 → Pa v H2)
    (hr : ∀ x y H1, Ex T H H1 → Tb T H1 → Pa x H1 → Pb y H1 → ∀ Q : VK, (∀ v H2, Ex T H1 H2 → Tb T H2 → Po v H2 → Q v H2) → r x y H1 Q) : Ev T (tOp r ta tb) σ H Po := fun H1 e t Q q =>
  ha H1 e t _ fun x H2 e2 t2 px => hb H2 (e.trans e2) t2 _ fun y H3 e3 t3 py => hr x y H3 ((e.trans e2).trans e3) t3 (mono x H2 H3 e3 px) py Q fun v H4 e4 t4 p => q v H4 ((e2.trans e3).trans e4) t4 p
theorem is_mono : ∀ (w : V) (H1 H2 : Hp), Ex T H1 H2 → Is v w H1 → Is v w H2 := fun _ _ _ _ h => h
theorem sq_mono {xs : List V} : ∀ (w : V) (H1 H2 : Hp), Ex T H1 H2 → Sq K H1 w xs → Sq K H2 w xs := fun _ _ _ e h => h.ex e
theorem tu_mono {xs : List V} : ∀ (w : V) (H1 H2 : Hp), Ex T H1 H2 → Tu K H1 w xs → Tu K H2 w xs := fun _ _ _ e h => h.ex e
theorem li_mono {xs : List V} : ∀ (w : V) (H1 H2 : Hp), Ex T H1 H2 → Li K H1 w xs → Li K H2 w xs := fun _ _ _ e h => h.ex e
/-- an operator on two known flat values that keeps the heap -/
theorem ev_op2 {r : R2} (ha : Ev T ta σ H (Is x)) (hb : Ev T tb σ H (Is y)) (hr : ∀ H1 (Q : VK), Q z H1 → r x y H1 Q) : Ev T (tOp r ta tb) σ H (Is z) :=
  ev_op ha hb is_mono fun a b H1 _ t pa pb Q q => by
    rw [show a = x from pa, show b = y from pb]
    exact hr H1 Q (q z H1 (.refl T H1) t rfl)
theorem ev_in {neg : Bool} {k : Str} {ks : List Str} (ha : Ev T ta σ H (Is (.str k))) (hb : Ev T tb σ H fun v H1 => Sq K H1 v (ks.map V.str)) : Ev T (tOp (rIn K neg) ta tb) σ H (Is (.bl (if neg then !decide (k ∈ ks) else decide (k ∈ ks)))) :=
  ev_op ha hb is_mono fun a b H1 _ t pa pb Q q => by
    obtain ⟨p, rfl, hq⟩ := pb
    rw [show a = V.str k from pa]
    refine ⟨p, ks.map V.str, rfl, hq, rfl, flat_strs ks, ?_⟩
    rw [inV_strs]
    exact q _ H1 (.refl T H1) t rfl
theorem ev_andV {a b : Bool} (h1 : Ev T ta σ H (Is (.bl a))) (h2 : a = true → Ev T tb σ H (Is (.bl b))) : Ev T (tAndV ta tb) σ H (Is (.bl (a && b))) := fun H1 e t Q q => h1 H1 e t _ fun x H2 e2 t2 p => ⟨a, p, by
  cases a with
  | true => exact h2 rfl H2 (e.trans e2) t2 Q fun v H3 e3 t3 p3 => q v H3 (e2.trans e3) t3 p3
  | false => exact q (.bl false) H2 e2 t2 rfl⟩
theorem ev_orV {a b : Bool} (h1 : Ev T ta σ H (Is (.bl a))) (h2 : a = false → Ev T tb σ H (Is (.bl b))) : Ev T (tOrV ta tb) σ H (Is (.bl (a || b))) := fun H1 e t Q q => h1 H1 e t _ fun x H2 e2 t2 p => ⟨a, p, by
  cases a with
  | false => exact h2 rfl H2 (e.trans e2) t2 Q fun v H3 e3 t3 p3 => q v H3 (e2.trans e3) t3 p3
  | true => exact q (.bl true) H2 e2 t2 rfl⟩
theorem ev_notV {a : Bool} (h1 : Ev T ta σ H (Is (.bl a))) : Ev T (tNotV ta) σ H (Is (.bl (!a))) := fun H1 e t Q q => h1 H1 e t _ fun x H2 e2 t2 p => ⟨a, p, q _ H2 e2 t2 rfl⟩
theorem ev_if {b : Bool} (h : EvT T t σ H b) (h1 : b = true → Ev T ta σ H Po) (h2 : b = false → Ev T tb σ H Po) : Ev T (tIf t ta tb) σ H Po := fun H1 e tt Q q => h H1 e tt _ fun H2 e2 t2 => by
  cases b with
  | true => exact h1 rfl H2 (e.trans e2) t2 Q fun v H3 e3 t3 p3 => q v H3 (e2.trans e3) t3 p3
  | false => exact h2 rfl H2 (e.trans e2) t2 Q fun v H3 e3 t3 p3 => q v H3 (e2.trans e3) t3 p3
theorem et_test {b : Bool} (h : Ev T te σ H (Is (.bl b))) : EvT T (tTest te) σ H b := fun H1 e t _ q => h H1 e t _ fun x H2 e2 t2 p => ⟨b, p, q H2 e2 t2⟩
theorem et_B {b : Bool} (h : Ev T te σ H (Is (.bl b))) : EvT T (tB te) σ H b := fun H1 e t _ q => h H1 e t _ fun x H2 e2 t2 p => ⟨b, p, q H2 e2 t2⟩
theorem et_and {a b : Bool} (h1 : EvT T t σ H a) (h2 : a = true → EvT T u σ H b) : EvT T (tAnd t u) σ H (a && b) := fun H1 e tt Q q => h1 H1 e tt _ fun H2 e2 t2 => by
  cases a with
  | true => exact h2 rfl H2 (e.trans e2) t2 Q fun H3 e3 t3 => q H3 (e2.trans e3) t3
  | false => exact q H2 e2 t2
theorem et_or {a b : Bool} (h1 : EvT T t σ H a) (h2 : a = false → EvT T u σ H b) : EvT T (tOr t u) σ H (a || b) := fun H1 e tt Q q => h1 H1 e tt _ fun H2 e2 t2 => by
  cases a with
  | false => exact h2 rfl H2 (e.trans e2) t2 Q fun H3 e3 t3 => q H3 (e2.trans e3) t3
  | true => exact q H2 e2 t2
theorem et_not {a : Bool} (h1 : EvT T t σ H a) : EvT T (tNot t) σ H (!a) := fun H1 e tt Q q => h1 H1 e tt _ fun H2 e2 t2 => q H2 e2 t2
theorem ea_nil : EvA T tNil σ H (fun vs _ => vs = []) := fun H1 _ t Q q => q [] H1 (.refl T H1) t rfl
theorem ea_cons {tr : TA} {Pr : List V → Hp → Prop} (h : Ev T ta σ H Po) (m : ∀ v H1 H2, Ex T H1 H2 → Po v H1 → Po v H2) (hr : EvA T tr σ H Pr) : EvA T (tCons ta tr) σ H (fun vs H1 => ∃ x xs, vs = x :: xs ∧ Po x H1 ∧ Pr xs H1) := fun H1 e t Q q =>
  h H1 e t _ fun x H2 e2 t2 p => hr H2 (e.trans e2) t2 _ fun xs H3 e3 t3 p3 => q (x :: xs) H3 (e2.trans e3) t3 ⟨x, xs, rfl, m x H2 H3 e3 p, p3⟩
theorem ea_is (h : Ev T ta σ H (Is v)) {tr : TA} {vs : List V} (hr : EvA T tr σ H fun xs _ => xs = vs) : EvA T (tCons ta tr) σ H (fun xs _ => xs = v :: vs) := fun H1 e t Q q =>
  h H1 e t _ fun x H2 e2 t2 p => hr H2 (e.trans e2) t2 _ fun xs H3 e3 t3 p3 => q (x :: xs) H3 (e2.trans e3) t3 (by rw [show x = v from p, show xs = vs from p3])
theorem ev_tup {ta : TA} {Pa : List V → Hp → Prop} (h : EvA T ta σ H Pa) (hl : ∀ vs H1, Pa vs H1 → vs.length ≤ 100000) (m : ∀ vs H1 H2, Ex T H1 H2 → Pa vs H1 → Pa vs H2) : Ev T (tTup ta) σ H fun v H1 => ∃ vs, Tu K H1 v vs ∧ Pa vs H1 := fun H1 e t Q q =>
  h H1 e t _ fun vs H2 e2 t2 p => ⟨Nat.le_trans (hl vs H2 p) (by decide), fun a ha => q _ _ (e2.trans (.new ha)) ((Ex.new (T := T) ha).tb t2) ⟨vs, ⟨a, rfl, SqT.of upd_same⟩, m vs _ _ (.new ha) p⟩⟩
theorem ev_lst {ta : TA} {Pa : List V → Hp → Prop} (h : EvA T ta σ H Pa) (hl : ∀ vs H1, Pa vs H1 → vs.length ≤ 100000) (m : ∀ vs H1 H2, Ex T H1 H2 → Pa vs H1 → Pa vs H2) : Ev T (tLst ta) σ H fun v H1 => ∃ vs, Li K H1 v vs ∧ Pa vs H1 := fun H1 e t Q q =>
  h H1 e t _ fun vs H2 e2 t2 p => ⟨Nat.le_trans (hl vs H2 p) (by decide), fun a ha => q _ _ (e2.trans (.new ha)) ((Ex.new (T := T) ha).tb t2) ⟨vs, ⟨a, rfl, SqL.of upd_same⟩, m vs _ _ (.new ha) p⟩⟩
/-- a promise met: what comes back -/
def SpEv (T : Tn) (sp : Sp) (E : XK) (vs : List V) (H : Hp) (Po : V → Hp → Prop) : Prop := ∀ Q : VK, (∀ v H2, Ex T H H2 → Tb T H2 → Po v H2 → Q v H2) → sp vs H Q E
theorem ev_call {sp : Sp} {dvs : List V} {E : XK} {ta : TA} {Pa : List V → Hp → Prop} (h : EvA T ta σ H Pa) (hs : ∀ vs H1, Ex T H H1 → Tb T H1 → Pa vs H1 → SpEv T sp E (vs ++ dvs) H1 Po) : Ev T (tCall sp dvs E ta) σ H Po := fun H1 e t Q q =>
  h H1 e t _ fun vs H2 e2 t2 p => hs vs H2 (e.trans e2) t2 p Q fun v H3 e3 t3 p3 => q v H3 (e2.trans e3) t3 p3
theorem ex_call {sp : Sp} {dvs : List V} {E : XK} {ta : TA} {Pa : List V → Hp → Prop} (h : EvA T ta σ H Pa) (hs : ∀ vs H1, Ex T H H1 → Tb T H1 → Pa vs H1 → ∀ Q, sp (vs ++ dvs) H1 Q E) : EvX T (tCall sp dvs E ta) σ H := fun H1 e t Q =>
  h H1 e t _ fun vs H2 e2 t2 p => hs vs H2 (e.trans e2) t2 p Q
theorem ev_meth {C : Addr} {m : Str} {sp : Sp} {dvs : List V} {E : XK} {ta : TA} {a dx : Addr} {fs : List (Str × V)} {Pa : List V → Hp → Prop} (ho : Ev T te σ H (Is (.ref a))) (hi : H a = some (.ins C dx fs)) (hl : fs.lookup m = none) (h : EvA T ta σ H Pa)
    (hs : ∀ vs H1, Ex T H H1 → Tb T H1 → Pa vs H1 → SpEv T sp E ((.ref a :: vs) ++ dvs) H1 Po) : Ev T (tMeth C m sp dvs E te ta) σ H Po := fun H1 e t Q q =>
  ho H1 e t _ fun x H2 e2 t2 p => ⟨a, dx, fs, p, (e.trans e2).obj a _ hi (fun _ z => by cases z), hl, h H2 (e.trans e2) t2 _ fun vs H3 e3 t3 p3 => by
    subst p
    exact hs vs H3 ((e.trans e2).trans e3) t3 p3 Q fun v H4 e4 t4 p4 => q v H4 ((e2.trans e3).trans e4) t4 p4⟩
/-- any, all over a sequence -/
theorem ev_anyQ {X : Cx} {P : Addr} {scope : Scope} {n : Str} {elt : Expr} {f : List V → (V → Bool) → Bool} {xs : List V} (pb : V → Bool) (hP : P ∈ T.g) (hd : ∀ q ∈ T.l, q.1 ≠ P) (h : Ev T te σ H fun v H1 => Sq X.K H1 v xs)
    (hel : ∀ H2, Ex T H H2 → ∀ xv ∈ xs, RE X.prog X.w X.K X.N σ H2 scope n xv elt (.bl (pb xv))) : Ev T (tAnyQ X P scope n elt f te) σ H (Is (.bl (f xs pb))) := fun H1 e t Q q =>
  h H1 e t _ fun v H2 e2 t2 ⟨a, ea, hq⟩ => ⟨a, xs, pb, ea, hq, t2.1 P hP, fun H3 tt xv hx => hel H3 ((e.trans e2).trans (.tabbed hP hd (t2.1 P hP) tt)) xv hx, fun H3 tt =>
    let e3 : Ex T H2 H3 := .tabbed hP hd (t2.1 P hP) tt
    q _ H3 (e2.trans e3) (e3.tb t2) rfl⟩
end

/-! ### readings of statements -/
section
variable {T : Tn} {K : PySem.W.Frag} {σ : L2.St} {H : Hp} {te : TE} {t : TT} {tu tw tz : TS} {D : Ends} {Po : V → Hp → Prop}
theorem st_ret (tb : Tb T H) (h : Ev T te σ H Po) (k : ∀ v H1, Ex T H H1 → Tb T H1 → Po v H1 → D.rt v H1) : tRet te D σ H := h H (.refl T H) tb _ k
theorem st_asg {i : Nat} (tb : Tb T H) (h : Ev T te σ H Po) (k : ∀ v H1, Ex T H H1 → Tb T H1 → Po v H1 → D.nx (σ.set i (some v)) H1) : tAsg te (gName i) D σ H := h H (.refl T H) tb _ k
theorem sq_asg {i : Nat} (tb : Tb T H) (h : Ev T te σ H Po) (k : ∀ v H1, Ex T H H1 → Tb T H1 → Po v H1 → tz D (σ.set i (some v)) H1) : tSeq (tAsg te (gName i)) tz D σ H := h H (.refl T H) tb _ k
theorem st_if {b : Bool} (tb : Tb T H) (h : EvT T t σ H b) (h1 : b = true → ∀ H1, Ex T H H1 → Tb T H1 → tu D σ H1) (h2 : b = false → ∀ H1, Ex T H H1 → Tb T H1 → tw D σ H1) : tIfS t tu tw D σ H := h H (.refl T H) tb _ fun H1 e t1 => by
  cases b with
  | true => exact h1 rfl H1 e t1
  | false => exact h2 rfl H1 e t1
theorem sq_if {b : Bool} (tb : Tb T H) (h : EvT T t σ H b) (h1 : b = true → ∀ H1, Ex T H H1 → Tb T H1 → tu { D with nx := tz D } σ H1) (h2 : b = false → ∀ H1, Ex T H H1 → Tb T H1 → tw { D with nx := tz D } σ H1) : tSeq (tIfS t tu tw) tz D σ H := st_if (D := { D with nx := tz D }) tb h h1 h2
theorem sq_when {b : Bool} (tb : Tb T H) (h : EvT T t σ H b) (h1 : b = true → ∀ H1, Ex T H H1 → Tb T H1 → tu { D with nx := tz D } σ H1) (h2 : b = false → ∀ H1, Ex T H H1 → Tb T H1 → tz D σ H1) : tSeq (tIfS t tu tNext) tz D σ H := sq_if tb h h1 h2
end
end PW
end

section
set_option Elab.async false
set_option linter.all false
set_option autoImplicit false
set_option maxRecDepth 100000
set_option maxHeartbeats 3000000
/-! Walks of sequences; comprehensions; lists and tuples made of others. -/
namespace PW
open PySem PySem.Spec PyProof.Rows L2 GxR

/-- a tracked list, a tracked tuple -/
def Nl (H : Hp) (v : V) (xs : List V) : Prop := ∃ a, v = .ref a ∧ H a = some (.lst xs)
def Nt (H : Hp) (v : V) (xs : List V) : Prop := ∃ a, v = .ref a ∧ H a = some (.tup xs)
section
variable {T : Tn} {H H' : Hp} {K : PySem.W.Frag} {v : V} {xs : List V}
theorem Nl.ex (e : Ex T H H') (h : Nl H v xs) : Nl H' v xs := let ⟨a, r, q⟩ := h; ⟨a, r, e.obj a _ q fun _ z => by cases z⟩
theorem Nt.ex (e : Ex T H H') (h : Nt H v xs) : Nt H' v xs := let ⟨a, r, q⟩ := h; ⟨a, r, e.obj a _ q fun _ z => by cases z⟩
theorem Nl.li (h : Nl H v xs) : Li K H v xs := let ⟨a, r, q⟩ := h; ⟨a, r, SqL.of q⟩
theorem Nt.tu (h : Nt H v xs) : Tu K H v xs := let ⟨a, r, q⟩ := h; ⟨a, r, SqT.of q⟩
theorem Nl.sq (h : Nl H v xs) : Sq K H v xs := h.li.sq
theorem Nt.sq (h : Nt H v xs) : Sq K H v xs := h.tu.sq
theorem nl_mono {xs : List V} : ∀ (w : V) (H1 H2 : Hp), Ex T H1 H2 → Nl H1 w xs → Nl H2 w xs := fun _ _ _ e h => h.ex e
theorem nt_mono {xs : List V} : ∀ (w : V) (H1 H2 : Hp), Ex T H1 H2 → Nt H1 w xs → Nt H2 w xs := fun _ _ _ e h => h.ex e
end

/-- an iterator that hands out xs while St stands -/
structure Wk (J : It) (St : Hp → Prop) (xs : List V) : Prop where
  go : ∀ i H, St H → i < xs.length → J.go i H
  yld : ∀ i H x H', St H → i < xs.length → J.yld i H x H' → H' = H ∧ xs[i]? = some x
  stop : ∀ H, St H → J.stop xs.length H
theorem wk_list {K : PySem.W.Frag} {a : Addr} {xs : List V} : Wk (Itl K a) (fun H => SqL K H a xs) xs where
  go := fun i H s h => ⟨xs, xs[i], s, List.getElem?_eq_getElem h⟩
  yld := fun i H x H' s h y => ⟨y.1, y.2 xs s⟩
  stop := fun H s => ⟨xs, s, Nat.le_refl _⟩
theorem wk_tup {K : PySem.W.Frag} {a : Addr} {xs : List V} : Wk (Itt K a) (fun H => SqT K H a xs) xs where
  go := fun i H s h => ⟨xs, xs[i], s, List.getElem?_eq_getElem h⟩
  yld := fun i H x H' s h y => ⟨y.1, y.2 xs s⟩
  stop := fun H s => ⟨xs, s, Nat.le_refl _⟩
def rngV (lo : Int) (n : Nat) : List V := (List.range n).map fun i => V.int (lo + (i : Nat))
theorem rngV_len (lo : Int) (n : Nat) : (rngV lo n).length = n := by unfold rngV; rw [List.length_map, List.length_range]
theorem rngV_at {lo : Int} {n i : Nat} (h : i < n) : (rngV lo n)[i]? = some (.int (lo + (i : Nat))) := by
  unfold rngV
  rw [List.getElem?_map, List.getElem?_range h]
  rfl
theorem wk_range {lo : Int} {n : Nat} : Wk (Itr lo n) (fun _ => True) (rngV lo n) where
  go := fun i H s h => by rw [rngV_len] at h; exact h
  yld := fun i H x H' s h y => by
    rw [rngV_len] at h
    exact ⟨y.1, by rw [rngV_at h, y.2]⟩
  stop := fun H s => by
    show n ≤ (rngV lo n).length
    rw [rngV_len]
    exact Nat.le_refl _
section
variable {X : Cx} {tg : Expr}
/-- over a list or a tuple -/
def iSq (K : PySem.W.Frag) (tl : TE) : TI := fun σ H R => tl σ H fun x H1 => ∃ a, x = .ref a ∧ (((∃ xs, SqL K H1 a xs) ∧ R (Itl K a) H1) ∨ ((∃ xs, SqT K H1 a xs) ∧ R (Itt K a) H1))
theorem pi_sq {l : Expr} {tl : TE} (hl : PE X l tl) : PI X tg l (iSq X.K tl) := by
  refine ⟨fun pins s σ H R I h => thn (hl.run pins s σ H _ I h) ?_⟩
  rintro _ s1 ⟨_, H1, I1, r1, a, rfl, q⟩
  obtain rfl := r1
  have new : ∀ o : Obj, Inv X pins σ H1 { s1 with heap := s1.heap.push o, toks := s1.toks } := fun o => I1.kept fun b u e => Heap.get?_push_of_some o e
  have own : ∀ b ∈ [s1.heap.objs.size], FpOk X pins H1 b := fun b hb => List.mem_singleton.mp hb ▸ I1.fpOk (Nat.le_refl _) (I1.hok.fresh (Nat.le_refl _))
  rcases q with ⟨⟨xs, hq⟩, q⟩ | ⟨⟨xs, hq⟩, q⟩
  · obtain ⟨its, _, p, _⟩ := I1.list hq
    exact wpAny_pyIter_list p.isList ⟨_, _, _, _, H1, rfl, new _, turn_list a _, ⟨_, Heap.get?_push_size _ rfl, rfl, rfl⟩, own, q⟩
  · obtain ⟨its, _, p, _⟩ := I1.tuple hq
    exact wpAny_pyIter_tuple (ht := p) ⟨_, _, _, _, H1, rfl, new _, turn_tuple a _, ⟨_, Heap.get?_push_size _ rfl, rfl, rfl⟩, own, q⟩
end
/-- what an iterable's reading comes to: xs handed out, while what St says stands -/
def EvI (T : Tn) (wi : TI) (σ : L2.St) (H : Hp) (xs : List V) : Prop := ∀ H1, Ex T H H1 → Tb T H1 → ∀ R : It → Hp → Prop,
  (∀ J St H2, Ex T H1 H2 → Tb T H2 → Wk J St xs → St H2 → (∀ H3, Ex T H2 H3 → St H3) → R J H2) → wi σ H1 R
section
variable {T : Tn} {K : PySem.W.Frag} {σ : L2.St} {H H' : Hp} {ta tb te tl : TE} {tt : TT} {xs : List V} {Po : V → Hp → Prop}
theorem ei_sq (h : Ev T tl σ H fun v H1 => Sq K H1 v xs) : EvI T (iSq K tl) σ H xs := fun H1 e t R k => h H1 e t _ fun v H2 e2 t2 ⟨a, ea, hq⟩ => ⟨a, ea, by
  rcases hq with hq | hq
  · exact .inl ⟨⟨xs, hq⟩, k _ _ H2 e2 t2 wk_list hq fun H3 e3 => e3.lst hq⟩
  · exact .inr ⟨⟨xs, hq⟩, k _ _ H2 e2 t2 wk_tup hq fun H3 e3 => e3.tup hq⟩⟩
theorem ei_list (h : Ev T tl σ H fun v H1 => Li K H1 v xs) : EvI T (iList K tl) σ H xs := fun H1 e t R k => h H1 e t _ fun v H2 e2 t2 ⟨a, ea, hq⟩ => ⟨a, ea, ⟨xs, hq⟩, k _ _ H2 e2 t2 wk_list hq fun H3 e3 => e3.lst hq⟩
theorem ei_range1 {ta : TA} {n : Int} (h : EvA T ta σ H fun vs _ => vs = [.int n]) (hn : 0 ≤ n ∧ n ≤ 100000) : EvI T (iRng1 ta) σ H (rngV 0 n.toNat) := fun H1 e t R k => h H1 e t _ fun vs H2 e2 t2 ev =>
  ⟨n, ev, by omega, by omega, k _ _ H2 e2 t2 wk_range trivial fun _ _ => trivial⟩
/-- what is made of the items that pass: one behind the other -/
def Made (Pe : V → V → Hp → Prop) (H : Hp) : List V → List V → Prop
  | [], [] => True
  | x :: xs, y :: ys => Pe x y H ∧ Made Pe H xs ys
  | _, _ => False
theorem Made.mono {Pe Pe' : V → V → Hp → Prop} {H H' : Hp} (m : ∀ x y, Pe x y H → Pe' x y H') : ∀ {xs ys : List V}, Made Pe H xs ys → Made Pe' H' xs ys
  | [], [], _ => trivial
  | _ :: _, _ :: _, h => ⟨m _ _ h.1, Made.mono m h.2⟩
  | [], _ :: _, h => h.elim
  | _ :: _, [], h => h.elim
theorem Made.snoc {Pe : V → V → Hp → Prop} {H : Hp} {x y : V} (h1 : Pe x y H) : ∀ {xs ys : List V}, Made Pe H xs ys → Made Pe H (xs ++ [x]) (ys ++ [y])
  | [], [], _ => ⟨h1, trivial⟩
  | _ :: _, _ :: _, h => ⟨h.1, Made.snoc h1 h.2⟩
  | [], _ :: _, h => h.elim
  | _ :: _, [], h => h.elim
theorem Made.len {Pe : V → V → Hp → Prop} {H : Hp} : ∀ {xs ys : List V}, Made Pe H xs ys → xs.length = ys.length
  | [], [], _ => rfl
  | _ :: _, _ :: _, h => by rw [List.length_cons, List.length_cons, Made.len h.2]
  | [], _ :: _, h => h.elim
  | _ :: _, [], h => h.elim
theorem Made.map {g : V → V} {H : Hp} : ∀ {xs ys : List V}, Made (fun x y _ => y = g x) H xs ys → ys = xs.map g
  | [], [], _ => rfl
  | x :: xs, y :: ys, h => by rw [List.map_cons, h.1, Made.map h.2]
  | [], _ :: _, h => h.elim
  | _ :: _, [], h => h.elim
theorem take_filter_succ {p : V → Bool} {xs : List V} {i : Nat} {x : V} (h : xs[i]? = some x) : (xs.take (i + 1)).filter p = (xs.take i).filter p ++ (if p x = true then [x] else []) := by
  rw [List.take_succ, h, List.filter_append]
  cases q : p x with
  | true => simp [q]
  | false => simp [q]
/-- [e for x in xs if t]; D: where the new list stands -/
theorem ev_lcD {wi : TI} {j : Nat} {vs : List Nat} (p : V → Bool) (Pe : V → V → Hp → Prop) (h : EvI T wi σ H xs) (hz : xs.length ≤ 100000) (hw : ∀ x, wipe ((wipe σ vs).set j (some x)) vs = wipe σ vs)
    (mono : ∀ x y H1 H2, Ex T H1 H2 → Pe x y H1 → Pe x y H2) (uk : ∀ x y H1 D ys zs, H1 D = some (.lst ys) → y ≠ .ref D → Pe x y H1 → Pe x y (upd H1 D (.lst zs)))
    (ht : ∀ x H1, x ∈ xs → Ex T H H1 → EvT T tt ((wipe σ vs).set j (some x)) H1 (p x))
    (he : ∀ x H1, x ∈ xs → Ex T H H1 → Tb T H1 → p x = true → ∀ D ys, H1 D = some (.lst ys) → ∀ Q : VK, (∀ y H2, Ex T H1 H2 → Tb T H2 → Pe x y H2 → y ≠ .ref D → Q y H2) → te ((wipe σ vs).set j (some x)) H1 Q) :
    ∀ H1, Ex T H H1 → Tb T H1 → ∀ Q : VK, (∀ D H2 ys, H1 D = none → Ex T H1 H2 → Tb T H2 → H2 D = some (.lst ys) → Made Pe H2 (xs.filter p) ys → Q (.ref D) H2) → tLc wi (gName j) tt te vs σ H1 Q := fun H0 e0 t0 Q q => h H0 e0 t0 _ fun J St H1 e1 t1 wk st0 stm D hD => by
  have ntb : ∀ (ys : List V) (q : Array Value), HO.lst ys ≠ .tbl q := fun _ _ z => by cases z
  refine ⟨fun i m H' => m = xs.length - i ∧ i ≤ xs.length ∧ Ex T H1 H' ∧ Tb T H' ∧ ∃ ys, H' D = some (.lst ys) ∧ Made Pe H' ((xs.take i).filter p) ys ∧ ∀ y ∈ ys, y ≠ .ref D, ⟨xs.length, by simp, Nat.zero_le _, .new hD, (Ex.new (T := T) hD).tb t1, [], upd_same, trivial, fun y hy => by cases hy⟩, ?_⟩
  rintro i m H' ⟨rfl, hi, ex, tb', ys, hDl, hm, hny⟩
  by_cases hlt : i < xs.length
  · refine .inr ⟨wk.go i H' (stm H' ex) hlt, fun H'' => i + 1 ≤ xs.length ∧ Ex T H1 H'' ∧ Tb T H'' ∧ ∃ ys, H'' D = some (.lst ys) ∧ Made Pe H'' ((xs.take (i + 1)).filter p) ys ∧ ∀ y ∈ ys, y ≠ .ref D, fun H'' z => ⟨xs.length - (i + 1), by omega, rfl, z⟩, fun x H'' y => ?_⟩
    obtain ⟨eH, hx⟩ := wk.yld i H' x H'' (stm H' ex) hlt y
    subst eH
    have hxm := List.mem_of_getElem? hx
    refine ⟨hw x, ht x H'' hxm ((e0.trans e1).trans ex) H'' (.refl T _) tb' _ fun H3 e3 t3 => ?_⟩
    have hD3 : H3 D = some (.lst ys) := e3.obj D _ hDl (ntb ys)
    have hm3 := hm.mono fun a b z => mono a b _ H3 e3 z
    cases hp : p x with
    | false =>
      refine iteF ⟨hlt, ex.trans e3, t3, ys, hD3, ?_, hny⟩
      rw [take_filter_succ hx, hp]
      simpa using hm3
    | true =>
      refine iteT ?_
      refine he x H3 hxm (((e0.trans e1).trans ex).trans e3) t3 hp D ys hD3 _ fun y H4 e4 t4 py ny => ?_
      have hD4 : H4 D = some (.lst ys) := e4.obj D _ hD3 (ntb ys)
      have hm4 := hm3.mono fun a b z => mono a b _ H4 e4 z
      have l1 : ys.length ≤ xs.length := by
        rw [← hm.len]
        exact Nat.le_trans (List.length_filter_le _ _) (by rw [List.length_take]; exact Nat.min_le_right _ _)
      have e5 : Ex T H1 (upd H4 D (.lst (ys ++ [y]))) := Ex.mut ((ex.trans e3).trans e4) hD ⟨_, hD4, ntb ys⟩ (ntb _) fun u hu q z => by
        rw [hD4] at hu
        cases hu
        unfold LamX.CodeO at z
        cases z
      refine ⟨ys, hD4, Nat.lt_of_le_of_lt l1 (Nat.lt_of_le_of_lt hz (by decide)), hlt, e5, e5.tb t1, ys ++ [y], upd_same, ?_, fun z hz' => ?_⟩
      · rw [take_filter_succ hx, hp, if_pos rfl]
        have key : ∀ {as bs : List V}, (∀ b ∈ bs, b ≠ .ref D) → Made Pe H4 as bs → Made Pe (upd H4 D (.lst (ys ++ [y]))) as bs := by
          intro as
          induction as with
          | nil => intro bs _ h; cases bs with
            | nil => trivial
            | cons _ _ => exact h.elim
          | cons a as ih => intro bs hb h; cases bs with
            | nil => exact h.elim
            | cons b bs => exact ⟨uk a b H4 D ys _ hD4 (hb b List.mem_cons_self) h.1, ih (fun c hc => hb c (List.mem_cons_of_mem _ hc)) h.2⟩
        exact Made.snoc (uk x y H4 D ys _ hD4 ny py) (key hny hm4)
      · rcases List.mem_append.mp hz' with z' | z'
        · exact hny z z'
        · exact List.mem_singleton.mp z' ▸ ny
  · cases (show i = xs.length by omega)
    rw [List.take_length] at hm
    exact .inl ⟨wk.stop H' (stm H' ex), q D H' ys (e1.free hD) (e1.trans ex) tb' hDl hm⟩
/-- .. of items that are no lists -/
theorem ev_lc {wi : TI} {j : Nat} {vs : List Nat} (p : V → Bool) (Pe : V → V → Hp → Prop) (h : EvI T wi σ H xs) (hz : xs.length ≤ 100000) (hw : ∀ x, wipe ((wipe σ vs).set j (some x)) vs = wipe σ vs)
    (mono : ∀ x y H1 H2, Ex T H1 H2 → Pe x y H1 → Pe x y H2) (ne : ∀ x y H1 D ys, H1 D = some (.lst ys) → Pe x y H1 → y ≠ .ref D) (uk : ∀ x y H1 D ys zs, H1 D = some (.lst ys) → y ≠ .ref D → Pe x y H1 → Pe x y (upd H1 D (.lst zs)))
    (ht : ∀ x H1, x ∈ xs → Ex T H H1 → EvT T tt ((wipe σ vs).set j (some x)) H1 (p x)) (he : ∀ x H1, x ∈ xs → Ex T H H1 → p x = true → Ev T te ((wipe σ vs).set j (some x)) H1 (Pe x)) :
    Ev T (tLc wi (gName j) tt te vs) σ H fun v H1 => ∃ ys, Nl H1 v ys ∧ Made Pe H1 (xs.filter p) ys := fun H0 e0 t0 Q q =>
  ev_lcD p Pe h hz hw mono uk ht (fun x H1 hx e1 t1 hp D ys hD Q q => he x H1 hx e1 hp H1 (.refl T _) t1 Q fun y H2 e2 t2 py => q y H2 e2 t2 py (ne x y H2 D ys (e2.obj D _ hD fun _ z => by cases z) py)) H0 e0 t0 Q
    fun D H2 ys hD e2 t2 hl hm => q _ H2 e2 t2 ⟨ys, ⟨D, rfl, hl⟩, hm⟩
/-- .. of items that are functions of the walked ones -/
theorem ev_lcV {wi : TI} {j : Nat} {vs : List Nat} (p : V → Bool) (g : V → V) (h : EvI T wi σ H xs) (hz : xs.length ≤ 100000) (hw : ∀ x, wipe ((wipe σ vs).set j (some x)) vs = wipe σ vs) (hg : ∀ x ∈ xs, ∀ D, g x ≠ .ref D)
    (ht : ∀ x H1, x ∈ xs → Ex T H H1 → EvT T tt ((wipe σ vs).set j (some x)) H1 (p x)) (he : ∀ x H1, x ∈ xs → Ex T H H1 → p x = true → Ev T te ((wipe σ vs).set j (some x)) H1 (Is (g x))) :
    Ev T (tLc wi (gName j) tt te vs) σ H fun v H1 => Nl H1 v ((xs.filter p).map g) := by
  refine (ev_lc p (fun x y _ => y = g x ∧ x ∈ xs) h hz hw (fun _ _ _ _ _ z => z) (fun x y H1 D ys _ z => by rw [z.1]; exact hg x z.2 D) (fun _ _ _ _ _ _ _ _ z => z) ht fun x H1 hx e hp => (he x H1 hx e hp).imp fun v H2 _ z => ⟨z, hx⟩).imp ?_
  rintro v H1 _ ⟨ys, hn, hm⟩
  have : ys = (xs.filter p).map g := Made.map (Made.mono (Pe := fun x y _ => y = g x ∧ x ∈ xs) (Pe' := fun x y _ => y = g x) (H' := H1) (fun _ _ z => z.1) hm)
  rw [← this]
  exact hn
end
end PW
end

section
set_option Elab.async false
set_option linter.all false
set_option autoImplicit false
set_option maxRecDepth 100000
set_option maxHeartbeats 3000000
/-! sorted(set), set comprehensions read; defs of the head and calls of them. -/
namespace PW
open PySem PySem.Spec PyProof.Rows L2 GxR

theorem setO_code {w : World} {D : Addr} {ms : List Str} {q : Str} (z : SetO w D ms = LamX.CodeO D q) : False := by
  unfold SetO LamX.CodeO at z
  have z1 := HO.ext.inj z
  obtain ⟨h, hs⟩ : ∃ h : Heap, h.objs.size = D := ⟨{ objs := Array.replicate D { cls := .none, data := .fields #[] } }, Array.size_replicate⟩
  subst hs
  have hg := Heap.get?_push_size h (o := { cls := .none, data := .fields #[.none, .str q 0] }) rfl
  have z2 : SetS w (h.push { cls := .none, data := .fields #[.none, .str q 0] }) h.objs.size ms := (congrFun z1 _).mpr ⟨_, _, 0, hg, rfl, rfl⟩
  obtain ⟨_, _, ⟨_, o, _, hd, ho⟩, _⟩ := z2
  cases ho.symm.trans hg
  cases hd

section
variable {X : Cx}
/-- sorted(set of texts) -/
def rSortedT (w : World) : List V → Hp → VK → Prop := fun vs H Q => ∃ (a : Addr) (ks : List Str), vs = [V.ref a] ∧ H a = some (SetO w a ks) ∧
  ∀ (ns : List Str) (p : Addr), ns.Nodup → sortedS ns = true → (∀ x, x ∈ ns ↔ x ∈ ks) → ns.length ≤ 4096 → H p = none → Q (.ref p) (upd H p (.lst (ns.map V.str)))
theorem cr_sortedT (hc : X.calm = true) : CallR X (.builtin "sorted") (rSortedT X.w) := by
  intro pins s σ H vs us Q I r h
  obtain ⟨a, ks, rfl, ha, q⟩ := h
  have R := setO_get I ha
  rw [Vals.ref1 r]
  obtain ⟨nd, le⟩ : ks.Nodup ∧ ks.length ≤ 4096 := let ⟨_, _, _, L⟩ := R; ⟨L.once, Nat.le_of_lt (L.size ▸ L.few)⟩
  refine setS_sorted R (I.ok.hd hc) fun s' p out c ns k g o hp hg hi hs hm => ?_
  have few : ns.length ≤ 4096 := hm.length_eq ▸ le
  have np := I.hok.fresh hp
  have J : Inv X pins σ (upd H p (.lst (ns.map V.str))) { s with heap := s'.heap, gens := s'.gens, drawn := s'.drawn, toks := s'.toks } :=
    I.call (ch := []) (Un.laid k hp np) (I.hok.laid k hp ⟨by rw [List.length_map, sizeLine_eq]; omega, out.toList, c, vals_of_strs hi, hg⟩) (by rw [g]; exact I.bare) nofun
  rw [GxR.sh_eta s s' o] at J
  exact ⟨.ref p, _, J, rfl, q ns p (hm.nodup_iff.mpr nd) hs (fun x => hm.mem_iff) few np⟩
end

section
variable {T : Tn} {K : PySem.W.Frag} {σ : L2.St} {H : Hp} {ta tb te : TE} {Po : V → Hp → Prop} {w : World}
theorem ev_cb {r : List V → Hp → VK → Prop} {ta : TA} {Pa : List V → Hp → Prop} (h : EvA T ta σ H Pa) (hr : ∀ vs H1, Ex T H H1 → Tb T H1 → Pa vs H1 → ∀ Q : VK, (∀ v H2, Ex T H1 H2 → Tb T H2 → Po v H2 → Q v H2) → r vs H1 Q) : Ev T (tCB r ta) σ H Po := fun H1 e t Q q =>
  h H1 e t _ fun vs H2 e2 t2 p => hr vs H2 (e.trans e2) t2 p Q fun v H3 e3 t3 p3 => q v H3 (e2.trans e3) t3 p3
theorem ea_one (h : Ev T ta σ H Po) (m : ∀ v H1 H2, Ex T H1 H2 → Po v H1 → Po v H2) : EvA T (tCons ta tNil) σ H (fun vs H1 => ∃ x, vs = [x] ∧ Po x H1) := fun H1 e t Q q =>
  h H1 e t _ fun x H2 e2 t2 p => q [x] H2 e2 t2 ⟨x, rfl, p⟩
/-- tuple(e), e a list -/
theorem ev_tupleOf {xs : List V} (h : Ev T te σ H fun v H1 => Li K H1 v xs) : Ev T (tCB (fun xs H Q => ∃ p ys, xs = [V.ref p] ∧ ((SqL K H p ys ∧ ∀ l, H l = none → Q (.ref l) (upd H l (.tup ys))) ∨ (SqT K H p ys ∧ Q (.ref p) H))) (tCons te tNil)) σ H fun v H1 => Nt H1 v xs :=
  ev_cb (ea_one h li_mono) fun vs H1 e t ⟨x, ev, a, ex, hq⟩ Q q => by
    subst ev ex
    exact ⟨a, xs, rfl, .inl ⟨hq, fun l hl => q _ _ (.new hl) ((Ex.new (T := T) hl).tb t) ⟨l, rfl, upd_same⟩⟩⟩
/-- list(e), e a list or a tuple -/
theorem ev_listOf {xs : List V} (h : Ev T te σ H fun v H1 => Sq K H1 v xs) : Ev T (tCB (fun xs H Q => ∃ p ys, xs = [V.ref p] ∧ (SqL K H p ys ∨ SqT K H p ys) ∧ ∀ l, H l = none → Q (.ref l) (upd H l (.lst ys))) (tCons te tNil)) σ H fun v H1 => Nl H1 v xs :=
  ev_cb (ea_one h sq_mono) fun vs H1 e t ⟨x, ev, a, ex, hq⟩ Q q => by
    subst ev ex
    exact ⟨a, xs, rfl, hq, fun l hl => q _ _ (.new hl) ((Ex.new (T := T) hl).tb t) ⟨l, rfl, upd_same⟩⟩
theorem ev_sortedT {ks : List Str} (h : Ev T te σ H fun v H1 => ∃ a ms, v = .ref a ∧ H1 a = some (SetO w a ms) ∧ ∀ x, x ∈ ms ↔ x ∈ ks) :
    Ev T (tCB (rSortedT w) (tCons te tNil)) σ H fun v H1 => ∃ ns : List Str, Nl H1 v (ns.map .str) ∧ ns.Nodup ∧ sortedS ns = true ∧ ∀ x, x ∈ ns ↔ x ∈ ks :=
  ev_cb (ea_one h fun v H1 H2 e ⟨a, ms, r, q, m⟩ => ⟨a, ms, r, e.obj a _ q (fun _ z => by unfold SetO at z; cases z), m⟩) fun vs H1 e t ⟨x, ev, a, ms, ex, hq, hm⟩ Q q => by
    subst ev ex
    refine ⟨a, ms, rfl, hq, fun ns p nd so mem _ hp => q _ _ (.new hp) ((Ex.new (T := T) hp).tb t) ⟨ns, ⟨p, rfl, upd_same⟩, nd, so, fun x => (mem x).trans (hm x)⟩⟩
/-- {e for x in xs}, e raises of what is not good -/
theorem ev_scX {good : Str → Bool} {C : Value} {ks : List Str} {wi : TI} {te : XK → TE} {W : WX} {j : Nat} {vs : List Nat} (h : EvI T wi σ H (ks.map V.str)) (hz : ks.length ≤ 1000) (hw : ∀ x, wipe ((wipe σ vs).set j (some x)) vs = wipe σ vs)
    (he : ∀ k H1 (E' : XK) (Q : VK), k ∈ ks → Ex T H H1 → Tb T H1 → (good k = true → ∀ H2, Ex T H1 H2 → Tb T H2 → Q (.str k) H2) → (good k = false → ∀ H2, Ex T H1 H2 → Tb T H2 → E' C none H2) → te E' ((wipe σ vs).set j (some (.str k))) H1 Q) :
    ∀ H0, Ex T H H0 → Tb T H0 → ∀ Q : VK, (ks.all good = true → ∀ D H2 ms, Ex T H0 H2 → Tb T H2 → H2 D = some (SetO w D ms) → (∀ x, x ∈ ms ↔ x ∈ ks) → Q (.ref D) H2) →
      (ks.all good = false → ∀ H2, Ex T H0 H2 → Tb T H2 → W C none σ H2) → tSc w wi (gName j) te W vs σ H0 Q := fun H0 e0 t0 Q q qx => h H0 e0 t0 _ fun J St H1 e1 t1 wk st0 stm D hD => by
  have ntb : ∀ (ys : List Str) (q : Array Value), SetO w D ys ≠ .tbl q := fun _ _ z => by unfold SetO at z; cases z
  refine ⟨fun i m H' => m = ks.length - i ∧ i ≤ ks.length ∧ Ex T H1 H' ∧ Tb T H' ∧ (∀ k ∈ ks.take i, good k = true) ∧ ∃ ms, H' D = some (SetO w D ms) ∧ (∀ x, x ∈ ms ↔ x ∈ ks.take i) ∧ ms.length ≤ i, ⟨ks.length, by simp, Nat.zero_le _, .new hD, (Ex.new (T := T) hD).tb t1, by simp, [], upd_same, by simp, Nat.le_refl _⟩, ?_⟩
  rintro i m H' ⟨rfl, hi, ex, tb', hg, ms, hDl, hm, hl⟩
  by_cases hlt : i < ks.length
  · have hlt' : i < (ks.map V.str).length := by rw [List.length_map]; exact hlt
    refine .inr ⟨wk.go i H' (stm H' ex) hlt', fun H'' => i + 1 ≤ ks.length ∧ Ex T H1 H'' ∧ Tb T H'' ∧ (∀ k ∈ ks.take (i + 1), good k = true) ∧ ∃ ms, H'' D = some (SetO w D ms) ∧ (∀ x, x ∈ ms ↔ x ∈ ks.take (i + 1)) ∧ ms.length ≤ i + 1, fun H'' z => ⟨ks.length - (i + 1), by omega, rfl, z⟩, fun x H'' y => ?_⟩
    obtain ⟨eH, hx⟩ := wk.yld i H' x H'' (stm H' ex) hlt' y
    subst eH
    rw [List.getElem?_map, List.getElem?_eq_getElem hlt] at hx
    have hx' : V.str ks[i] = x := Option.some.inj hx
    subst hx'
    have hkm : ks[i] ∈ ks := List.getElem_mem hlt
    have tk : ks.take (i + 1) = ks.take i ++ [ks[i]] := by rw [List.take_succ, List.getElem?_eq_getElem hlt]; rfl
    refine ⟨hw _, he ks[i] H'' _ _ hkm ((e0.trans e1).trans ex) tb' (fun hgk H3 e3 t3 => ?_) (fun hgk H3 e3 t3 => ?_)⟩
    · refine ⟨ks[i], ms, rfl, e3.obj D _ hDl (ntb ms), by have : scanBound = 4096 := rfl; omega, fun ks' hk hl' => ?_⟩
      have e5 : Ex T H1 (upd H3 D (SetO w D ks')) := Ex.mut (ex.trans e3) hD ⟨_, e3.obj D _ hDl (ntb ms), ntb ms⟩ (ntb ks') fun u hu q z => by
        rw [e3.obj D _ hDl (ntb ms)] at hu
        cases hu
        exact setO_code z
      refine ⟨hlt, e5, e5.tb t1, ?_, ks', upd_same, fun x => ?_, by omega⟩
      · rw [tk]
        intro k hk
        rcases List.mem_append.mp hk with z | z
        · exact hg k z
        · exact List.mem_singleton.mp z ▸ hgk
      · rw [hk x, hm x, tk, List.mem_append, List.mem_singleton]
    · refine qx ?_ H3 ((e1.trans ex).trans e3) t3
      cases q2 : ks.all good with
      | false => rfl
      | true =>
        have := List.all_eq_true.mp q2 _ hkm
        rw [hgk] at this
        cases this
  · have e : i = ks.length := by omega
    subst e
    rw [List.take_length] at hm hg
    refine .inl ⟨?_, q (List.all_eq_true.mpr hg) D H' ms (e1.trans ex) tb' hDl hm⟩
    have := wk.stop H' (stm H' ex)
    rw [List.length_map] at this
    exact this
theorem ev_scOk {good : Str → Bool} {C : Value} {ks : List Str} {wi : TI} {te : XK → TE} {W : WX} {j : Nat} {vs : List Nat} (hg : ks.all good = true) (h : EvI T wi σ H (ks.map V.str)) (hz : ks.length ≤ 1000) (hw : ∀ x, wipe ((wipe σ vs).set j (some x)) vs = wipe σ vs)
    (he : ∀ k H1 (E' : XK) (Q : VK), k ∈ ks → Ex T H H1 → Tb T H1 → (good k = true → ∀ H2, Ex T H1 H2 → Tb T H2 → Q (.str k) H2) → (good k = false → ∀ H2, Ex T H1 H2 → Tb T H2 → E' C none H2) → te E' ((wipe σ vs).set j (some (.str k))) H1 Q) :
    Ev T (tSc w wi (gName j) te W vs) σ H fun v H1 => ∃ a ms, v = .ref a ∧ H1 a = some (SetO w a ms) ∧ ∀ x, x ∈ ms ↔ x ∈ ks := fun H0 e0 t0 Q q =>
  ev_scX (C := C) h hz hw he H0 e0 t0 Q (fun _ D H2 ms e2 t2 hD hm => q _ H2 e2 t2 ⟨D, ms, rfl, hD, hm⟩) fun hb => by rw [hg] at hb; cases hb
end
end PW
end

section
set_option Elab.async false
set_option linter.all false
set_option autoImplicit false
set_option maxRecDepth 100000
set_option maxHeartbeats 3000000
/-! Defs of the head, by their promises; calls of them; tests, statements. -/
namespace PW
open PySem PySem.Spec PyProof.Rows L2 GxR

/-- what the head tells, of one heap -/
structure HD (P : Program) (w : World) (K : PySem.W.Frag) (mg : Str → Option Value) (base : Heap) (fa : List He.Fa) (fn : List He.DefD) (tf : List He.Defn) : Prop where
  kin : K.In base
  ns : base.Ns mainGlobals mg
  fact : ∀ f ∈ fa, f.ok K = true
  def_ : ∀ d ∈ fn, ∃ fd, FunD K d.name d.qual d.params d.body d.scope (d.dvs K) (d.kws K) (He.fAd K d.at_) fd
  tab : ∀ p ∈ tf, LamX.TabB base mg (He.cT K p).1 (He.cT K p).2
/-- the def d keeps the promise sp -/
structure Cl (P : Program) (w : World) (K : PySem.W.Frag) (mg : Str → Option Value) (base : Heap) (d : He.DefD) (k : Nat) (ps : List Str) (sp : Sp) : Prop where
  ex : ∃ fd, FunD K d.name d.qual d.params d.body d.scope (d.dvs K) (d.kws K) (He.fAd K d.at_) fd ∧ FnOk P w K mg base (L2.CX P w) k (He.fAd K d.at_) fd ps sp
/-- how the def d is bound: the last of its defaults fill up -/
def Bd (d : He.DefD) (ps : List Str) (dvs : PySem.W.Frag → List V) : Prop := ∀ (K : PySem.W.Frag) (fd : FuncData), FunD K d.name d.qual d.params d.body d.scope (d.dvs K) (d.kws K) (He.fAd K d.at_) fd → ∃ ds, Vals (dvs K) ds ∧ Binds K fd ps ds
section
variable {P : Program} {w : World} {K : PySem.W.Frag} {mg : Str → Option Value} {base : Heap} {fa : List He.Fa} {fn : List He.DefD} {tf : List He.Defn}
theorem HD.glo (D : HD P w K mg base fa fn tf) {x : Str} (h : He.Fa.glo x ∈ fa) : mg x = some (.ref (He.ga K x)) := He.glo_ok D.kin D.ns (D.fact _ h)
theorem HD.free (D : HD P w K mg base fa fn tf) {x : Str} (h : He.Fa.free x ∈ fa) : mg x = none := He.free_ok D.kin D.ns (D.fact _ h)
theorem HD.gtab (D : HD P w K mg base fa fn tf) {p : He.Defn} (h : p ∈ tf) : GxR.TabB base mg (He.cT K p).1 (He.cT K p).2 := let t := D.tab p h; ⟨t.code, t.bm, t.gP⟩
/-- THE RULE for a def -/
theorem HD.cl (D : HD P w K mg base fa fn tf) {d : He.DefD} (hd : d ∈ fn) {N ps : List Str} {k : Nat} {sp : Sp} (S : FnScope N ps d.scope) (len : ∀ vs H Q E, sp vs H Q E → vs.length = ps.length)
    (hbody : ∀ (A : Around) (outer : List Env) (s : Shared) (H : Hp) (vs : List V) (Q : VK) (E : XK), Room k (A.deeper (envOfC d.qual d.scope s.heap.objs.size (He.fAd K d.at_) (.ref (He.cT K d.at_).1))) → sp vs H Q E →
      ∃ t, PSs (cxOf (L2.CX P w) P w K mg base N d.qual d.scope (He.fAd K d.at_) (.ref (He.cT K d.at_).1) A outer s H E) d.body t ∧ t { nx := fun _ H' => Q .non H', rt := Q } (start N vs) H) : Cl P w K mg base d (k + 1) ps sp := by
  obtain ⟨fd, F⟩ := D.def_ d hd
  refine ⟨fd, F, ?_⟩
  obtain ⟨_, _, _, _, _, _, _, _, _, _, rfl, lk, hcd, _⟩ := F.ex
  obtain ⟨c, rfl⟩ := He.codeIn_ref hcd
  have e : He.codeOf K d.at_ = c := He.codeOf_eq lk rfl
  have e2 : (He.cT K d.at_).1 = c := e
  rw [e2] at hbody
  exact fn_of lk hcd S len fun A outer s H vs Q E hr hsp => hbody A outer s H vs Q E hr hsp
theorem Cl.mono {d : He.DefD} {k j : Nat} {ps : List Str} {sp : Sp} (c : Cl P w K mg base d k ps sp) (h : k ≤ j) : Cl P w K mg base d j ps sp := let ⟨fd, F, o⟩ := c.ex; ⟨fd, F, o.mono h⟩
end
section
variable {X : Cx} {d : He.DefD} {j k : Nat} {ps : List Str} {sp : Sp} {dvs : PySem.W.Frag → List V} {x m : Str} {p pos apos : Pos} {e o : Expr} {es : List Expr} {t : TA} {ta : TE} {E : XK}
theorem pe_k (c : Cl X.prog X.w X.K X.mg X.base d k ps sp) (b : Bd d ps dvs) (hr : Room j X.A) (hk : k ≤ j) (hg : Gl X x) (hm : X.mg x = some (.ref (He.fAd X.K d.at_))) (hx : Passes (L2.CX X.prog X.w) X E) (ha : PA X (e :: es) t) (hdb : (x == ("__debug__" : Str)) = false := by decide)
    (he : starEach (e :: es) X.env = (false, eval e X.env) :: starEach es X.env := by rfl) (hpl : ((backTo pos (starEach es X.env)).any fun z => z.1) = false := by rfl) :
    PE X (.Call (.Name x p) (e :: es) [] pos) (tCall sp (dvs X.K) E t) := by
  obtain ⟨fd, F, o⟩ := c.ex
  obtain ⟨ds, hv, hb⟩ := b X.K fd F
  exact pe_call o (hr.mono hk) hg hm F.kp hb hv hx ha hdb he hpl
theorem pe_km {C : Addr} {pl : Sem Bool} (c : Cl X.prog X.w X.K X.mg X.base d k ps sp) (b : Bd d ps dvs) (hr : Room j X.A) (hk : k ≤ j) (hC : Cls X.K C) (hM : Meth X.K C m (He.fAd X.K d.at_)) (hx : Passes (L2.CX X.prog X.w) X E) (ho : PE X o ta) (ha : PA X (e :: es) t)
    (hst : starEach (e :: es) X.env = (false, eval e X.env) :: starEach es X.env := by rfl) (hpl : ((backTo pos (starEach es X.env)).any fun z => z.1) = false := by rfl)
    (ht : eval (.Call (.Attribute o m apos) (e :: es) [] pos) X.env = (do let ov ← eval o X.env; standAt apos.atName; let (f, first) ← holding [ov] (getMethod ov m pl); callWith pos f first (backTo pos (starEach (e :: es) X.env)) (backToKw pos (keywordEach [] X.env))) := by rfl) :
    PE X (.Call (.Attribute o m apos) (e :: es) [] pos) (tMeth C m sp (dvs X.K) E ta t) := by
  obtain ⟨fd, F, o⟩ := c.ex
  obtain ⟨ds, hv, hb⟩ := b X.K fd F
  exact pe_meth (pl := pl) ho hC hM o (hr.mono hk) hb hv hx ha hst hpl ht
theorem pe_km0 {C : Addr} {pl : Sem Bool} (c : Cl X.prog X.w X.K X.mg X.base d k ps sp) (b : Bd d ps dvs) (hr : Room j X.A) (hk : k ≤ j) (hC : Cls X.K C) (hM : Meth X.K C m (He.fAd X.K d.at_)) (hx : Passes (L2.CX X.prog X.w) X E) (ho : PE X o ta)
    (ht : eval (.Call (.Attribute o m apos) [] [] pos) X.env = (do let ov ← eval o X.env; standAt apos.atName; let (f, first) ← holding [ov] (getMethod ov m pl); callWith pos f first (backTo pos (starEach [] X.env)) (backToKw pos (keywordEach [] X.env))) := by rfl) :
    PE X (.Call (.Attribute o m apos) [] [] pos) (tMeth C m sp (dvs X.K) E ta tNil) := by
  obtain ⟨fd, F, o⟩ := c.ex
  obtain ⟨ds, hv, hb⟩ := b X.K fd F
  exact pe_meth0 (pl := pl) ho hC hM o (hr.mono hk) hb hv hx ht
theorem pe_kmk {C : Addr} (c : Cl X.prog X.w X.K X.mg X.base d k ps sp) (b : Bd d ps dvs) (hr : Room j X.A) (hk : k + 1 ≤ j) (M : Mk X.K C (He.fAd X.K d.at_)) (hg : Gl X x) (hm : X.mg x = some (.ref C)) (hx : Passes (L2.CX X.prog X.w) X E) (ha : PA X (e :: es) t) (hdb : (x == ("__debug__" : Str)) = false := by decide)
    (he : starEach (e :: es) X.env = (false, eval e X.env) :: starEach es X.env := by rfl) (hpl : ((backTo pos (starEach es X.env)).any fun z => z.1) = false := by rfl) :
    PE X (.Call (.Name x p) (e :: es) [] pos) (tMake C sp (dvs X.K) E t) := by
  obtain ⟨fd, F, o⟩ := c.ex
  obtain ⟨ds, hv, hb⟩ := b X.K fd F
  exact pe_make M o (hr.mono hk) hg hm hb hv hx ha hdb he hpl
/-- what goes out of a def -/
theorem takesO {P : Program} {w : World} {K : PySem.W.Frag} {mg : Str → Option Value} {base : Heap} {N : List Str} {qual : Str} {scope : Scope} {f : Addr} {cd : Value} {A : Around} {outer : List Env} {s : Shared} {H : Hp} {E : XK} :
    Takes (cxOf (L2.CX P w) P w K mg base N qual scope f cd A outer s H E) (fun cls d _ H' => E cls d H') := takes_of rfl rfl rfl rfl
theorem passO {P : Program} {w : World} {K : PySem.W.Frag} {mg : Str → Option Value} {base : Heap} {N : List Str} {qual : Str} {scope : Scope} {f : Addr} {cd : Value} {A : Around} {outer : List Env} {s : Shared} {H : Hp} {E : XK} :
    Passes (L2.CX P w) (cxOf (L2.CX P w) P w K mg base N qual scope f cd A outer s H E) E := passes_call takesO fun _ _ _ _ h => h
end

/-! ### promises -/
/-- the promise of a def: a what it is called with, what it raises, what comes of it -/
def spX {α : Type} (T : Tn) (pre : α → List V → Hp → Prop) (x : α → Option Value) (post : α → V → Hp → Prop) : Sp := fun vs H Q E => ∃ a, pre a vs H ∧ Tb T H ∧
  (x a = none → ∀ v H', Ex T H H' → Tb T H' → post a v H' → Q v H') ∧ ∀ c, x a = some c → ∀ H', Ex T H H' → Tb T H' → E c none H'
section
variable {α : Type} {T : Tn} {pre : α → List V → Hp → Prop} {x : α → Option Value} {post : α → V → Hp → Prop} {σ : L2.St} {H : Hp} {ta : TE} {t : TA} {E : XK} {Pa : List V → Hp → Prop} {dvs : List V}
theorem ev_f (a : α) (hx : x a = none) (h : EvA T t σ H Pa) (hs : ∀ vs H1, Ex T H H1 → Pa vs H1 → pre a (vs ++ dvs) H1) : Ev T (tCall (spX T pre x post) dvs E t) σ H (post a) :=
  ev_call h fun vs H1 e tb p Q q => ⟨a, hs vs H1 e p, tb, fun _ v H' e2 t2 po => q v H' e2 t2 po, fun c hc => by rw [hx] at hc; cases hc⟩
/-- .. of a def that may raise: the reading as it stands -/
theorem ev_fx (a : α) (h : EvA T t σ H Pa) (hs : ∀ vs H1, Ex T H H1 → Pa vs H1 → pre a (vs ++ dvs) H1) : ∀ H0, Ex T H H0 → Tb T H0 → ∀ Q : VK, (x a = none → ∀ v H', Ex T H0 H' → Tb T H' → post a v H' → Q v H') →
    (∀ c, x a = some c → ∀ H', Ex T H0 H' → Tb T H' → E c none H') → tCall (spX T pre x post) dvs E t σ H0 Q := fun H0 e0 t0 Q q qx => h H0 e0 t0 _ fun vs H1 e1 t1 p => ⟨a, hs vs H1 (e0.trans e1) p, t1, fun hx v H' e2 t2 po => q hx v H' (e1.trans e2) t2 po, fun c hc H' e2 t2 => qx c hc H' (e1.trans e2) t2⟩
/-- the answer of a def: by its body -/
theorem sp_len {n : Nat} (h : ∀ a vs H, pre a vs H → vs.length = n) : ∀ vs H Q E, spX T pre x post vs H Q E → vs.length = n := fun vs H Q E ⟨a, p, _⟩ => h a vs H p
end
end PW
end

section
set_option Elab.async false
set_option linter.all false
set_option autoImplicit false
set_option maxRecDepth 100000
set_option maxHeartbeats 3000000
/-! Sorted rows of texts, each once: just one of the same members. Subsets of a row. -/
namespace PW
open PySem PySem.Spec PyProof.Rows L2 GxR
def leS (x y : Str) : Bool := !ltCps y.cps.toList x.cps.toList
def rowB (row : List Str) : Bool := decide row.Nodup && sortedS row && row.all fun x => row.all fun y => (!(leS x y && leS y x) || decide (x = y)) && row.all fun z => !(leS x y && leS y z) || leS x z
def Ord (ns ks : List Str) : Prop := ns.Nodup ∧ sortedS ns = true ∧ ∀ x, x ∈ ns ↔ x ∈ ks
theorem rising_pw {row : List Str} (tr : ∀ x ∈ row, ∀ y ∈ row, ∀ z ∈ row, leS x y = true → leS y z = true → leS x z = true) : ∀ (l : List Str) (p : Str), p ∈ row → (∀ x ∈ l, x ∈ row) → risingS p l = true → (∀ x ∈ l, leS p x = true) ∧ l.Pairwise (fun x y => leS x y = true)
  | [], _, _, _, _ => ⟨(fun _ h => by cases h), .nil⟩
  | x :: r, p, hp, hl, h => by
    have h' : (!ltCps x.cps.toList p.cps.toList && risingS x r) = true := h
    rw [Bool.and_eq_true] at h'
    have hx := hl x List.mem_cons_self
    obtain ⟨h1, h2⟩ := rising_pw tr r x hx (fun y hy => hl y (List.mem_cons_of_mem _ hy)) h'.2
    refine ⟨fun y hy => ?_, .cons h1 h2⟩
    obtain e | e := List.mem_cons.mp hy
    · rw [e]; exact h'.1
    · exact tr p hp x hx y (hl y hy) h'.1 (h1 y e)
theorem sorted_pw {row : List Str} (tr : ∀ x ∈ row, ∀ y ∈ row, ∀ z ∈ row, leS x y = true → leS y z = true → leS x z = true) {l : List Str} (hl : ∀ x ∈ l, x ∈ row) (h : sortedS l = true) : l.Pairwise (fun x y => leS x y = true) := by
  cases l with
  | nil => exact .nil
  | cons x r =>
    obtain ⟨h1, h2⟩ := rising_pw tr r x (hl x List.mem_cons_self) (fun y hy => hl y (List.mem_cons_of_mem _ hy)) h
    exact .cons h1 h2
/-- the members of the row that p takes -/
def sub (row : List Str) (p : Str → Bool) : List Str := row.filter p
section
variable {row : List Str}
theorem row_by (h : rowB row = true) : row.Nodup ∧ sortedS row = true ∧ (∀ x ∈ row, ∀ y ∈ row, leS x y = true → leS y x = true → x = y) ∧ ∀ x ∈ row, ∀ y ∈ row, ∀ z ∈ row, leS x y = true → leS y z = true → leS x z = true := by
  unfold rowB at h
  simp only [Bool.and_eq_true, decide_eq_true_eq, List.all_eq_true, Bool.or_eq_true, Bool.not_eq_true', Bool.and_eq_false_iff] at h
  obtain ⟨⟨h1, h2⟩, h3⟩ := h
  refine ⟨h1, h2, fun x hx y hy a b => ?_, fun x hx y hy z hz a b => ?_⟩
  · rcases (h3 x hx y hy).1 with (z | z) | z
    · rw [a] at z; cases z
    · rw [b] at z; cases z
    · exact z
  · rcases (h3 x hx y hy).2 z hz with (q | q) | q
    · rw [a] at q; cases q
    · rw [b] at q; cases q
    · exact q
theorem ord_sub (h : rowB row = true) {ns ks : List Str} (o : Ord ns ks) (hk : ∀ x ∈ ks, x ∈ row) : ns = sub row fun x => decide (x ∈ ks) := by
  obtain ⟨nd, so, an, tr⟩ := row_by h
  obtain ⟨n1, s1, m1⟩ := o
  have hn : ∀ x ∈ ns, x ∈ row := fun x hx => hk x ((m1 x).mp hx)
  have hs : ∀ x ∈ sub row (fun x => decide (x ∈ ks)), x ∈ row := fun x hx => (List.mem_filter.mp hx).1
  have pw := sorted_pw tr (fun x hx => hx) so
  refine List.Perm.eq_of_pairwise (le := fun x y => leS x y = true) (fun a b ha hb => an a (hn a ha) b (hs b hb)) (sorted_pw tr hn s1) (List.Pairwise.filter _ pw) ((List.perm_ext_iff_of_nodup n1 (List.Pairwise.filter _ nd)).mpr fun x => ?_)
  rw [m1 x]
  rw [List.mem_filter, decide_eq_true_eq]
  exact ⟨fun z => ⟨hk x z, z⟩, fun z => z.2⟩
theorem mem_sub {p : Str → Bool} {x : Str} : x ∈ sub row p ↔ x ∈ row ∧ p x = true := List.mem_filter
theorem sub_congr {p q : Str → Bool} (h : ∀ x ∈ row, p x = q x) : sub row p = sub row q := List.filter_congr h
theorem sub_eq {p q : Str → Bool} : sub row p = sub row q ↔ ∀ x ∈ row, p x = q x := by
  refine ⟨fun h x hx => ?_, sub_congr⟩
  have : x ∈ sub row p ↔ x ∈ sub row q := by rw [h]
  rw [mem_sub, mem_sub] at this
  rw [Bool.eq_iff_iff]
  exact ⟨fun z => (this.mp ⟨hx, z⟩).2, fun z => (this.mpr ⟨hx, z⟩).2⟩
theorem sub_nil {p : Str → Bool} : sub row p = [] ↔ ∀ x ∈ row, p x = false := by
  unfold sub
  rw [List.filter_eq_nil_iff]
  exact ⟨fun h x hx => by cases q : p x with | false => rfl | true => exact absurd q (h x hx), fun h x hx => by rw [h x hx]; simp⟩
theorem filter_sub {p q : Str → Bool} : (sub row p).filter q = sub row fun x => p x && q x := by
  unfold sub
  rw [List.filter_filter]
  refine List.filter_congr fun x _ => Bool.and_comm _ _
theorem any_sub {p q : Str → Bool} : (sub row p).any q = row.any fun x => p x && q x := by
  unfold sub
  rw [List.any_filter]
theorem all_sub {p q : Str → Bool} : (sub row p).all q = row.all fun x => !p x || q x := by
  unfold sub
  rw [List.all_filter]
theorem dec_sub {p : Str → Bool} {x : Str} (hx : x ∈ row) : decide (x ∈ sub row p) = p x := by
  rw [Bool.eq_iff_iff, decide_eq_true_eq, mem_sub]
  exact ⟨fun z => z.2, fun z => ⟨hx, z⟩⟩
theorem any_congr {f g : Str → Bool} : ∀ {l : List Str}, (∀ x ∈ l, f x = g x) → l.any f = l.any g
  | [], _ => rfl
  | x :: l, h => by rw [List.any_cons, List.any_cons, h x List.mem_cons_self, any_congr fun y hy => h y (List.mem_cons_of_mem _ hy)]
theorem all_congr {f g : Str → Bool} : ∀ {l : List Str}, (∀ x ∈ l, f x = g x) → l.all f = l.all g
  | [], _ => rfl
  | x :: l, h => by rw [List.all_cons, List.all_cons, h x List.mem_cons_self, all_congr fun y hy => h y (List.mem_cons_of_mem _ hy)]
theorem any_in {p q : Str → Bool} : ((sub row p).any fun k => decide (k ∈ sub row q)) = row.any fun x => p x && q x := by
  rw [any_sub]
  exact any_congr fun x hx => by rw [dec_sub hx]
theorem all_in {p q : Str → Bool} : ((sub row p).all fun k => decide (k ∈ sub row q)) = row.all fun x => !p x || q x := by
  rw [all_sub]
  exact all_congr fun x hx => by rw [dec_sub hx]
theorem filter_in {p q : Str → Bool} : ((sub row p).filter fun k => decide (k ∈ sub row q)) = sub row fun x => p x && q x := by
  rw [filter_sub]
  exact sub_congr fun x hx => by rw [dec_sub hx]
theorem filter_notin {p q : Str → Bool} : ((sub row p).filter fun k => !decide (k ∈ sub row q)) = sub row fun x => p x && !q x := by
  rw [filter_sub]
  exact sub_congr fun x hx => by rw [dec_sub hx]
theorem sub_len {p : Str → Bool} : (sub row p).length ≤ row.length := List.length_filter_le _ _
end
end PW
end

section
set_option Elab.async false
set_option linter.all false
set_option autoImplicit false
set_option maxRecDepth 100000
set_option maxHeartbeats 3000000
/-! What raises; fields written; more statements. -/
namespace PW
open PySem PySem.Spec PyProof.Rows L2 GxR
section
variable {T : Tn} {K : PySem.W.Frag} {σ : L2.St} {H : Hp} {te ta tb : TE} {t : TA} {tt : TT} {D : Ends} {Po : V → Hp → Prop}
/-- whatever is wanted behind it: it raises -/
def Rz (te : TE) (σ : L2.St) (H : Hp) : Prop := ∀ Q : VK, te σ H Q
def RzA (t : TA) (σ : L2.St) (H : Hp) : Prop := ∀ Q : List V → Hp → Prop, t σ H Q
theorem rz_cb {r : List V → Hp → VK → Prop} (h : RzA t σ H) : Rz (tCB r t) σ H := fun Q => h _
theorem rz_call {sp : Sp} {dvs : List V} {E : XK} (h : RzA t σ H) : Rz (tCall sp dvs E t) σ H := fun Q => h _
theorem rz_cons {u : TA} (h : Rz te σ H) : RzA (tCons te u) σ H := fun Q => h _
theorem rz_cons2 {u : TA} (h : Ev T te σ H Po) (tb : Tb T H) (h2 : ∀ H1, Ex T H H1 → Tb T H1 → RzA u σ H1) : RzA (tCons te u) σ H := fun Q => h H (.refl T H) tb _ fun v H1 e t _ => h2 H1 e t _
theorem rz_op1 {r : R2} (h : Rz ta σ H) : Rz (tOp r ta tb) σ H := fun Q => h _
theorem rz_ret (h : Rz te σ H) : tRet te D σ H := h _
theorem rz_asg {g : TG} (h : Rz te σ H) : tAsg te g D σ H := h _
theorem rz_seq {tu tw : TS} (h : ∀ D, tu D σ H) : tSeq tu tw D σ H := h _
theorem sFld_eq : True := trivial
/-- self.f = e -/
theorem sq_fld {tz : TS} {f : Str} {a C dx : Addr} {fs : List (Str × V)} {i : Nat} (tb' : Tb T H) (hs : σ[i]? = some (some (.ref a))) (ho : H a = some (.ins C dx fs)) (c : Cls K C) (n : NoAttr K C f) (hl : fs.length < 1000) (h : Ev T te σ H Po)
    (k : ∀ v H1, Ex T H H1 → Tb T H1 → Po v H1 → tz D σ (upd H1 a (.ins C dx (putF f v fs)))) : tSeq (sFld K (tVar i) te f) tz D σ H :=
  h H (.refl T H) tb' _ fun v H1 e t p => ⟨_, hs, a, C, dx, fs, rfl, e.obj a _ ho (fun _ z => by cases z), c, n, hl, k v H1 e t p⟩
theorem st_fld {f : Str} {a C dx : Addr} {fs : List (Str × V)} {i : Nat} (tb' : Tb T H) (hs : σ[i]? = some (some (.ref a))) (ho : H a = some (.ins C dx fs)) (c : Cls K C) (n : NoAttr K C f) (hl : fs.length < 1000) (h : Ev T te σ H Po)
    (k : ∀ v H1, Ex T H H1 → Tb T H1 → Po v H1 → D.nx σ (upd H1 a (.ins C dx (putF f v fs)))) : sFld K (tVar i) te f D σ H :=
  h H (.refl T H) tb' _ fun v H1 e t p => ⟨_, hs, a, C, dx, fs, rfl, e.obj a _ ho (fun _ z => by cases z), c, n, hl, k v H1 e t p⟩
theorem rz_fld {ta : TE} {f : Str} (h : Rz te σ H) : sFld K ta te f D σ H := h _
/-- an instance that H0 does not know is written -/
theorem Ex.ins {H0 : Hp} {a C dx C' dx' : Addr} {fs fs' : List (Str × V)} (e : Ex T H0 H) (h : H0 a = none) (ho : H a = some (.ins C dx fs)) : Ex T H0 (upd H a (.ins C' dx' fs')) := e.mut h ⟨_, ho, fun _ z => by cases z⟩ (fun _ z => by cases z) fun u hu q z => by
  rw [ho] at hu
  cases hu
  unfold LamX.CodeO at z
  cases z
theorem Ex.lsm {H0 : Hp} {a : Addr} {xs ys : List V} (e : Ex T H0 H) (h : H0 a = none) (ho : H a = some (.lst xs)) : Ex T H0 (upd H a (.lst ys)) := e.mut h ⟨_, ho, fun _ z => by cases z⟩ (fun _ z => by cases z) fun u hu q z => by
  rw [ho] at hu
  cases hu
  unfold LamX.CodeO at z
  cases z
theorem Ex.dtm {H0 : Hp} {a : Addr} {xs ys : List (List Key × V)} (e : Ex T H0 H) (h : H0 a = none) (ho : H a = some (.dT xs)) : Ex T H0 (upd H a (.dT ys)) := e.mut h ⟨_, ho, fun _ z => by cases z⟩ (fun _ z => by cases z) fun u hu q z => by
  rw [ho] at hu
  cases hu
  unfold LamX.CodeO at z
  cases z
/-- if c: raise .. -/
theorem sq_ifx {tu tz : TS} (tb' : Tb T H) (b : Bool) (h : EvT T tt σ H b) (h1 : b = true → ∀ H1, Ex T H H1 → Tb T H1 → ∀ D, tu D σ H1) (h2 : b = false → ∀ H1, Ex T H H1 → Tb T H1 → tz D σ H1) : tSeq (tIfS tt tu tNext) tz D σ H :=
  sq_when tb' h (fun hb H1 e t => h1 hb H1 e t _) h2
end
end PW
end

section
set_option Elab.async false
set_option linter.all false
set_option autoImplicit false
set_option maxRecDepth 100000
set_option maxHeartbeats 3000000
/-! Promises met or raised; any, all over texts; objects with texts and rows of texts as fields. -/
namespace PW
open PySem PySem.Spec PyProof.Rows L2 GxR
section
variable {α : Type} {T : Tn} {pre : α → List V → Hp → Prop} {x : α → Option Value} {post : α → V → Hp → Prop} {σ : L2.St} {H : Hp} {ta : TE} {t : TA} {E : XK} {Pa : List V → Hp → Prop} {dvs : List V}
theorem rz_f (a : α) (c : Value) (hx : x a = some c) (tb : Tb T H) (h : EvA T t σ H Pa) (hs : ∀ vs H1, Ex T H H1 → Pa vs H1 → pre a (vs ++ dvs) H1) (k : ∀ H', Ex T H H' → Tb T H' → E c none H') : Rz (tCall (spX T pre x post) dvs E t) σ H := fun Q =>
  ev_fx a h hs H (.refl T H) tb Q (fun hn => by rw [hx] at hn; cases hn) fun c' hc => by rw [hx] at hc; cases hc; exact k
def qV (q : Str → Bool) : V → Bool
  | .str x => q x
  | _ => false
theorem ev_anyS {X : Cx} {P : Addr} {scope : Scope} {n : Str} {elt : Expr} {te : TE} {ks : List Str} (q : Str → Bool) (hP : P ∈ T.g) (hd : ∀ r ∈ T.l, r.1 ≠ P) (h : Ev T te σ H fun v H1 => Sq X.K H1 v (ks.map V.str))
    (hel : ∀ H2, Ex T H H2 → ∀ k ∈ ks, RE X.prog X.w X.K X.N σ H2 scope n (.str k) elt (.bl (q k))) : Ev T (tAnyQ X P scope n elt (fun xs pb => xs.any pb) te) σ H (Is (.bl (ks.any q))) :=
  (ev_anyQ (f := fun xs pb => xs.any pb) (qV q) hP hd h fun H2 e xv hx => by
    obtain ⟨k, hk, rfl⟩ := List.mem_map.mp hx
    exact hel H2 e k hk).is (by rw [List.any_map]; rfl)
theorem ev_allS {X : Cx} {P : Addr} {scope : Scope} {n : Str} {elt : Expr} {te : TE} {ks : List Str} (q : Str → Bool) (hP : P ∈ T.g) (hd : ∀ r ∈ T.l, r.1 ≠ P) (h : Ev T te σ H fun v H1 => Sq X.K H1 v (ks.map V.str))
    (hel : ∀ H2, Ex T H H2 → ∀ k ∈ ks, RE X.prog X.w X.K X.N σ H2 scope n (.str k) elt (.bl (q k))) : Ev T (tAnyQ X P scope n elt (fun xs pb => xs.all pb) te) σ H (Is (.bl (ks.all q))) :=
  (ev_anyQ (f := fun xs pb => xs.all pb) (qV q) hP hd h fun H2 e xv hx => by
    obtain ⟨k, hk, rfl⟩ := List.mem_map.mp hx
    exact hel H2 e k hk).is (by rw [List.all_map]; rfl)
theorem re_inS {P : Program} {w : World} {K : PySem.W.Frag} {N : List Str} {scope : Scope} {n : Str} {a b : Expr} {pos : Pos} {xv : V} {k : Str} {ks : List Str} {v : V} (ha : RE P w K N σ H scope n xv a (.str k)) (hb : RE P w K N σ H scope n xv b v) (hq : Sq K H v (ks.map V.str))
    (hm : behindInMarks .In b = false := by with_unfolding_all rfl) : RE P w K N σ H scope n xv (.Compare a [.In] [b] pos) (.bl (decide (k ∈ ks))) := by
  obtain ⟨p, rfl, hq⟩ := hq
  rw [← inV_strs]
  exact re_in ha hb hq rfl (flat_strs ks) hm
theorem re_notInS {P : Program} {w : World} {K : PySem.W.Frag} {N : List Str} {scope : Scope} {n : Str} {a b : Expr} {pos : Pos} {xv : V} {k : Str} {ks : List Str} {v : V} (ha : RE P w K N σ H scope n xv a (.str k)) (hb : RE P w K N σ H scope n xv b v) (hq : Sq K H v (ks.map V.str))
    (hm : behindInMarks .NotIn b = false := by with_unfolding_all rfl) : RE P w K N σ H scope n xv (.Compare a [.NotIn] [b] pos) (.bl (!decide (k ∈ ks))) := by
  obtain ⟨p, rfl, hq⟩ := hq
  rw [← inV_strs]
  exact re_notIn ha hb hq rfl (flat_strs ks) hm
end
section
variable {T : Tn} {K : PySem.W.Frag} {σ : L2.St} {H : Hp} {te ta tb : TE}
/-- a list of texts, filtered by a test that may ask anything known -/
theorem ev_lcS {wi : TI} {tt : TT} {j : Nat} {vs : List Nat} {ks : List Str} (q : Str → Bool) (h : EvI T wi σ H (ks.map V.str)) (hz : ks.length ≤ 100000) (hw : ∀ x, wipe ((wipe σ vs).set j (some x)) vs = wipe σ vs)
    (hj : ∀ x, ((wipe σ vs).set j (some x))[j]? = some (some x))
    (ht : ∀ k H1, k ∈ ks → Ex T H H1 → EvT T tt ((wipe σ vs).set j (some (.str k))) H1 (q k)) : Ev T (tLc wi (gName j) tt (tVar j) vs) σ H fun v H1 => Nl H1 v ((ks.filter q).map V.str) := by
  refine (ev_lcV (qV q) id h (by rw [List.length_map]; exact hz) hw (fun x hx D => ?_) (fun x H1 hx e => ?_) fun x H1 hx e hp => ev_var (hj x)).imp fun v H1 e hv => ?_
  · obtain ⟨k, hk, rfl⟩ := List.mem_map.mp hx
    intro z
    cases z
  · obtain ⟨k, hk, rfl⟩ := List.mem_map.mp hx
    exact ht k H1 hk e
  · have : ((ks.map V.str).filter (qV q)).map id = (ks.filter q).map V.str := by
      rw [List.map_id, List.filter_map]
      rfl
    rw [this] at hv
    exact hv
/-- x + y, two lists -/
theorem ev_catL {xs ys : List V} (ha : Ev T ta σ H fun v H1 => Nl H1 v xs) (hb : Ev T tb σ H fun v H1 => Nl H1 v ys) (hl : xs.length + ys.length ≤ 100000) : Ev T (tOp rCat ta tb) σ H fun v H1 => Nl H1 v (xs ++ ys) :=
  ev_op ha hb nl_mono fun x y H1 e t ⟨a, ea, qa⟩ ⟨b, eb, qb⟩ Q q => by
    subst ea eb
    exact ⟨a, b, xs, ys, rfl, rfl, qa, qb, by rw [sizeLine_eq]; omega, fun p hp => q _ _ (.new hp) ((Ex.new (T := T) hp).tb t) ⟨p, rfl, upd_same⟩⟩
end
end PW
end

section
set_option Elab.async false
set_option linter.all false
set_option autoImplicit false
set_option maxRecDepth 100000
set_option maxHeartbeats 3000000
/-! Loops; pure expressions; comparisons of data; lists at places. -/
namespace PW
open PySem PySem.Spec PyProof.Rows L2 GxR
section
variable {T : Tn} {K : PySem.W.Frag} {σ : L2.St} {H : Hp} {te ta tb tc : TE} {tt tu : TT} {t : TA} {D : Ends} {Po : V → Hp → Prop} {v x y z : V}
/-- for x in xs: .. -/
theorem st_for {wi : TI} {j : Nat} {tbd : TS} {xs : List V} (I : Nat → L2.St → Hp → Prop) (h : EvI T wi σ H xs) (tb0 : Tb T H) (h0 : ∀ H1, Ex T H H1 → Tb T H1 → I 0 σ H1)
    (step : ∀ i σ' H' x N, i < xs.length → xs[i]? = some x → Ex T H H' → Tb T H' → I i σ' H' → (∀ σ2 H2, Ex T H' H2 → Tb T H2 → I (i + 1) σ2 H2 → N σ2 H2) → tbd { D with nx := N, ct := N, bk := D.nx } (σ'.set j (some x)) H')
    (done : ∀ σ' H', Ex T H H' → Tb T H' → I xs.length σ' H' → D.nx σ' H') : tFor wi (gName j) tbd D σ H := h H (.refl T H) tb0 _ fun J St H1 e1 t1 wk st0 stm => by
  refine ⟨fun i m σ' H' => m = xs.length - i ∧ i ≤ xs.length ∧ Ex T H1 H' ∧ Tb T H' ∧ I i σ' H', ⟨xs.length, by simp, Nat.zero_le _, .refl T H1, t1, h0 H1 e1 t1⟩, ?_⟩
  rintro i m σ' H' ⟨rfl, hi, ex, tb', inv⟩
  by_cases hlt : i < xs.length
  · refine .inr ⟨wk.go i H' (stm H' ex) hlt, fun σ2 H2 => i + 1 ≤ xs.length ∧ Ex T H1 H2 ∧ Tb T H2 ∧ I (i + 1) σ2 H2, fun σ2 H2 z => ⟨xs.length - (i + 1), by omega, rfl, z⟩, fun x H'' y => ?_⟩
    obtain ⟨eH, hx⟩ := wk.yld i H' x H'' (stm H' ex) hlt y
    subst eH
    exact step i σ' H'' x _ hlt hx (e1.trans ex) tb' inv fun σ2 H2 e2 t2 i2 => ⟨hlt, ex.trans e2, t2, i2⟩
  · cases (show i = xs.length by omega)
    exact .inl ⟨wk.stop H' (stm H' ex), done σ' H' (e1.trans ex) tb' inv⟩
/-! ### pure: the heap as it is -/
def Pu (te : TE) (σ : L2.St) (H : Hp) (v : V) : Prop := ∀ Q : VK, Q v H → te σ H Q
def PuT (tt : TT) (σ : L2.St) (H : Hp) (b : Bool) : Prop := ∀ Q : Bool → Hp → Prop, Q b H → tt σ H Q
theorem pu_var {i : Nat} (h : σ[i]? = some (some v)) : Pu (tVar i) σ H v := fun Q q => ⟨v, h, q⟩
theorem pu_c : Pu (tC v) σ H v := fun Q q => q
theorem pu_op {r : R2} (ha : Pu ta σ H x) (hb : Pu tb σ H y) (hr : ∀ Q : VK, Q z H → r x y H Q) : Pu (tOp r ta tb) σ H z := fun Q q => ha _ (hb _ (hr Q q))
theorem pu_ix {a : Addr} {xs : List V} {n : Int} (ha : Pu ta σ H (.ref a)) (ho : H a = some (.lst xs)) (hb : Pu tb σ H (.int n)) (he : atI xs n = some z) : Pu (tOp (rIxL K) ta tb) σ H z := pu_op ha hb fun Q q => ⟨a, xs, n, z, rfl, rfl, SqL.of ho, he, q⟩
theorem pu_int {i : Int} (h : Pu te σ H (.int i)) : Pu (tCB (fun xs H Q => (∃ i, xs = [V.int i] ∧ Q (.int i) H) ∨ ∃ k, xs = [V.bl k] ∧ Q (.int (if k then 1 else 0)) H) (tCons te tNil)) σ H (.int i) := fun Q q => h _ (.inl ⟨i, rfl, q⟩)
theorem pu_intB {b : Bool} (h : Pu te σ H (.bl b)) : Pu (tCB (fun xs H Q => (∃ i, xs = [V.int i] ∧ Q (.int i) H) ∨ ∃ k, xs = [V.bl k] ∧ Q (.int (if k then 1 else 0)) H) (tCons te tNil)) σ H (.int (if b then 1 else 0)) := fun Q q => h _ (.inr ⟨b, rfl, q⟩)
theorem put_test {b : Bool} (h : Pu te σ H (.bl b)) : PuT (tTest te) σ H b := fun Q q => h _ ⟨b, rfl, q⟩
theorem put_or {a b : Bool} (h1 : PuT tt σ H a) (h2 : PuT tu σ H b) : PuT (tOr tt tu) σ H (a || b) := fun Q q => h1 _ (by
  cases a with
  | true => exact q
  | false => exact h2 Q q)
theorem put_and {a b : Bool} (h1 : PuT tt σ H a) (h2 : PuT tu σ H b) : PuT (tAnd tt tu) σ H (a && b) := fun Q q => h1 _ (by
  cases a with
  | false => exact q
  | true => exact h2 Q q)
theorem Pu.is (h : Pu te σ H x) (e : x = y) : Pu te σ H y := e ▸ h
theorem Pu.ev (h : ∀ H1, Ex T H H1 → Pu te σ H1 v) : Ev T te σ H (Is v) := fun H1 e t Q q => h H1 e Q (q v H1 (.refl T H1) t rfl)
theorem pu_asg {i : Nat} (h : Pu te σ H v) (k : D.nx (σ.set i (some v)) H) : tAsg te (gName i) D σ H := h _ k
theorem pu_ret (h : Pu te σ H v) (k : D.rt v H) : tRet te D σ H := h _ k
theorem pu_setix {a : Addr} {xs : List V} {n : Int} {j : Nat} (hv : Pu te σ H v) (ha : Pu ta σ H (.ref a)) (hi : Pu tb σ H (.int n)) (ho : H a = some (.lst xs)) (hj : ixN xs.length n = some j) (k : D.nx σ (upd H a (.lst (xs.set j v)))) : tAsg te (gSub ta tb rSetL) D σ H := hv _ (ha _ (hi _ ⟨a, xs, n, j, rfl, rfl, ho, hj, k⟩))
theorem pu_if {b : Bool} {tw tz : TS} (h : PuT tt σ H b) (h1 : b = true → tw D σ H) (h2 : b = false → tz D σ H) : tIfS tt tw tz D σ H := h _ (by
  cases b with
  | true => exact h1 rfl
  | false => exact h2 rfl)
/-! ### data compared -/
def okS (ks : List Str) : Prop := ∀ k ∈ ks, PyData.strOk k = true
theorem strs_lay : ∀ ks : List Str, okS ks → PyData.canLayAll0 (ks.map .str) = true
  | [], _ => by simp [PyData.canLayAll0]
  | k :: ks, h => by simp [PyData.canLayAll0, PyData.canLay0, h k List.mem_cons_self, strs_lay ks fun j hj => h j (List.mem_cons_of_mem _ hj)]
theorem strs_depth : ∀ ks : List Str, PyData.depthAll (ks.map .str) ≤ 0
  | [] => by rw [List.map_nil, PyData.depthAll]; exact Nat.le_refl 0
  | k :: ks => by
    have := strs_depth ks
    simp only [PyData.depthAll, PyData.depth, List.map_cons]
    omega
abbrev tupK (ks : List Str) : PyData := .tuple (ks.map .str)
theorem tupK_depth (ks : List Str) : (tupK ks).depth ≤ 1 := by
  have := strs_depth ks
  simp only [tupK, PyData.depth]
  omega
theorem tupK_lay (ks : List Str) (h : okS ks) : (tupK ks).canLay0 = true := by simp only [tupK, PyData.canLay0]; exact strs_lay ks h
theorem shaped_of {d : PyData} (h1 : d.canLay0 = true) (h2 : d.depth ≤ 64) : SeqAt.shaped d = true := by
  show (d.canLay0 && decide (d.depth ≤ 64)) = true
  rw [Bool.and_eq_true]
  exact ⟨h1, decide_eq_true h2⟩
theorem tupK_shaped (ks : List Str) (h : okS ks) : SeqAt.shaped (tupK ks) = true := shaped_of (tupK_lay ks h) (by have := tupK_depth ks; omega)
theorem strs_eqv : ∀ ks ls : List Str, PyData.eqvAll (ks.map .str) (ls.map .str) = decide (ks = ls)
  | [], ls => by cases ls <;> simp [PyData.eqvAll]
  | k :: ks, [] => by rw [List.map_nil, List.map_cons]; simp [PyData.eqvAll]
  | k :: ks, l :: ls => by
    simp only [List.map_cons, PyData.eqvAll, PyData.eqv, strs_eqv ks ls]
    rw [Bool.eq_iff_iff]
    simp
theorem tupK_eqv (ks ls : List Str) : PyData.eqv (tupK ks) (tupK ls) = decide (ks = ls) := by
  simp only [tupK, PyData.eqv]
  exact strs_eqv ks ls
/-- a list of texts against the empty list -/
theorem ev_neNil {ks : List Str} (ho : okS ks) (h : Ev T ta σ H fun v H1 => Nl H1 v (ks.map V.str)) : Ev T (tOp (rNeD K) ta (tLst tNil)) σ H (Is (.bl !ks.isEmpty)) :=
  ev_op (Po := Is (.bl !ks.isEmpty)) (Pb := fun v H1 => Li K H1 v []) h ((ev_lst (K := K) (Pa := fun vs _ => vs = []) ea_nil (fun vs H1 e => by rw [e]; exact Nat.zero_le _) fun _ _ _ _ e => e).imp fun u H1 e ⟨vs, hl, ev⟩ => by rw [ev] at hl; exact hl) nl_mono fun x y H1 e t ⟨a, ea, qa⟩ ⟨b, eb, qb⟩ Q q => by
    subst ea eb
    refine ⟨.list (ks.map .str), .list [], .lst (SqL.of qa) ?_, .lst qb .nil, shaped_of (by simp only [PyData.canLay0]; exact strs_lay ks ho) (by have := strs_depth ks; simp only [PyData.depth]; omega), by decide +kernel, ?_⟩
    · have : ∀ ks : List Str, DpAll K H1 (ks.map .str) (ks.map .str) := fun ks => by
        induction ks with
        | nil => exact .nil
        | cons k ks ih => exact .cons (.str k) ih
      exact this ks
    · have e2 : (!PyData.eqv (.list (ks.map .str)) (.list [])) = !ks.isEmpty := by
        cases ks with
        | nil => simp [PyData.eqv, PyData.eqvAll]
        | cons k ks => simp [PyData.eqv, PyData.eqvAll]
      rw [e2]
      exact q _ H1 (.refl T H1) t rfl
/-- two rows of texts joined, against the empty list -/
theorem ev_bl {b c : Bool} (h : Ev T te σ H (Is (.bl b))) (e : b = c) : Ev T te σ H (Is (.bl c)) := e ▸ h
theorem ea_one1 (h : Ev T ta σ H Po) : EvA T (tCons ta tNil) σ H (fun vs H1 => ∃ x, vs = [x] ∧ Po x H1) := fun H1 e t Q q =>
  h H1 e t _ fun x H2 e2 t2 p => q [x] H2 e2 t2 ⟨x, rfl, p⟩
end
end PW
end

section
set_option Elab.async false
set_option linter.all false
set_option autoImplicit false
set_option maxRecDepth 100000
set_option maxHeartbeats 3000000
/-! Lambdas, where the tables of generators stand beside. -/
namespace PW
open PySem PySem.Spec PyProof.Rows L2 GxR
section
variable {X : Cx} {pins : List (Addr × Obj)} {σ : L2.St} {H : Hp} {s : Shared} {T : Tn}
/-- the table at P gets one more code object -/
theorem Ex.grown {P c : Addr} {q : Str} {ps : Array Value} {pos : Pos} (hP : H P = some (.tbl ps)) (nC : H c = none) (ht : TriplesOk ps.toList) (ha : ∀ (p' : Pos) (cv : Value), codeAmong p' ps.toList = some cv → ∃ c0, cv = .ref c0 ∧ H c0 = some (LamX.CodeO c0 q))
    (hu : ∀ p ∈ T.l, p.1 = P → p.2 = q) (hg : ∀ G ∈ T.g, G ≠ P) : Ex T H (upd (upd H P (.tbl (ps ++ #[rawInt pos.line, rawInt pos.col, .ref c]))) c (LamX.CodeO c q)) := by
  have at_ : ∀ b o, b ≠ P → H b = some o → upd (upd H P (.tbl (ps ++ #[rawInt pos.line, rawInt pos.col, .ref c]))) c (LamX.CodeO c q) b = some o := fun b o n e => by
    simpa [upd, n, ne_of_none e nC] using e
  have keep : ∀ b o, H b = some o → (∀ ps, o ≠ .tbl ps) → upd (upd H P (.tbl (ps ++ #[rawInt pos.line, rawInt pos.col, .ref c]))) c (LamX.CodeO c q) b = some o := fun b o e n =>
    at_ b o (fun z => n ps (by rw [z, hP] at e; exact (Option.some.inj e).symm)) e
  have grow : (ps ++ #[rawInt pos.line, rawInt pos.col, .ref c]).toList = ps.toList ++ [rawInt pos.line, rawInt pos.col, .ref c] := by simp
  refine ⟨keep, fun t => ⟨fun G hG => let ⟨qs, h1, r⟩ := t.1 G hG; ⟨qs, at_ G _ (hg G hG) h1, r⟩, fun p hp => ?_⟩, fun b hb => ?_⟩
  · by_cases e : p.1 = P
    · rw [hu p hp e, e]
      refine ⟨_, (upd_ne (ne_of_none hP nC)).trans upd_same, by rw [grow]; exact PySem.TriplesOk_snoc _ _ _ _ ht, fun p' cv found => ?_⟩
      rw [grow] at found
      rcases LamX.among_app _ ht found with z | z
      · exact (ha p' cv z).imp fun c0 w => ⟨w.1, keep _ _ w.2 LamX.codeO_ne⟩
      · exact ⟨c, z, upd_same⟩
    · obtain ⟨qs, h1, r1, r2⟩ := t.2 p hp
      exact ⟨qs, at_ _ _ e h1, r1, fun p' cv found => (r2 p' cv found).imp fun c0 w => ⟨w.1, keep _ _ w.2 LamX.codeO_ne⟩⟩
  · have n1 : b ≠ c := fun e => by simp [upd, e] at hb
    have n2 : b ≠ P := fun e => by simp [upd, e, ne_of_none hP nC] at hb
    simpa [upd, n1, n2] using hb
/-- a lambda made: just ahead of its function object -/
theorem lam_core {c P : Addr} {params : Arguments} {body : Expr} {scope : Scope} {pos : Pos} {E Q : Value → Shared → Prop} (I : Inv X pins σ H s) (TB : LamX.TabB X.base X.mg c P) (hcode : X.env.code = .ref c)
    (hm : (P, X.env.qual ++ "<lambda>") ∈ T.l) (hu : ∀ p ∈ T.l, p.1 = P → p.2 = X.env.qual ++ "<lambda>") (hg : ∀ G ∈ T.g, G ≠ P) (tb : Tb T H) (hdef : defaultsOf params X.env = ([], [])) (hfree : ∀ y ∈ scope.names, y.2 = .free → ∃ c, X.env.cells.lookup y.1 = some c)
    (h : ∀ (c' : Addr) (pm ctv : Value) (h' : Heap) (tk : Nat) (H1 : Hp), Inv X pins σ H1 { s with heap := h', toks := tk } → Ex T H H1 → Tb T H1 → H1 c' = some (LamX.CodeO c' (X.env.qual ++ "<lambda>")) → s.heap.objs.size ≤ h'.objs.size →
      Q (.ref h'.objs.size) { s with heap := h'.push (PySem.W.kla_obj "<lambda>" (X.env.qual ++ "<lambda>") params body scope (cloFrom X.env.cells scope.names []) pm c' ctv), toks := tk }) : wpAny (model X.prog X.w) X.A (eval (.Lambda params body scope pos) X.env) Q E s := by
  obtain ⟨ps, tab, ok3, known⟩ := tb.2 _ hm
  have names := I.mod.glob.keeps I.bk
  have own := TB.code.keeps I.bk
  have blt := TB.bm.keeps I.bk
  refine PySem.W.kla_eval (hdef := hdef) ?_
  rcases q : codeAmong pos ps.toList with _ | cv
  · refine PySem.W.kla_makeFunction (closure_ok hfree) I.ok.glob names hcode own (I.hok P _ tab) ok3 q TB.gP blt ?_
    rintro c' ctv h1 tk ext ge lt ⟨_, oc, vs, u, ⟨⟩, rec1, rec2, rec3⟩ put
    have e := Ex.grown (T := T) (pos := pos) tab (I.hok.fresh ge) ok3 known hu hg
    exact h c' _ ctv h1 _ _ (LamX.inv_table (more := #[rawInt pos.line, rawInt pos.col, .ref c']) I tab ext put ge ⟨oc, vs, u, rec1, rec2, rec3⟩) e (e.tb tb) upd_same (by omega)
  · obtain ⟨c', rfl, old⟩ := known pos cv q
    exact PySem.W.kla_makeFunctionHit (closure_ok hfree) I.ok.glob names hcode own (I.hok P _ tab) ok3 q blt fun ctv h1 tk ext le => h c' _ ctv h1 _ H (I.kept ext) (.refl T H) tb old le
/-- x(lambda: body): TT what x makes of the lambda's reading -/
def tLm (T : Tn) (TT : (XK → Hp → VK → Prop) → Hp → VK → Prop) (t : XK → TE) : TE := fun σ H Q => Tb T H ∧ ∀ H1, Ex T H H1 → Tb T H1 → TT (fun E H' Q' => t E σ H' Q') H1 Q
theorem pe_lm {TT : (XK → Hp → VK → Prop) → Hp → VK → Prop} {x a : Str} {g c P : Addr} {k : Nat} {pg : Arguments} {bg : List Stmt} {sg : Scope} {dV kV doc pm cdv ct oc : Value} {an od : Option Addr} {osl : Array (Option Value)} {Ng : List Str}
    {params : Arguments} {body : Expr} {scope : Scope} {t : XK → TE} {p lpos pos : Pos}
    -- the def called
    (hg : Gl X x) (hm : X.mg x = some (.ref g)) (hk : PySem.W.keepIn X.K (.ref g) = true) (lk : X.K.lookup g = some ⟨oc, od, .func (PySem.W.fnOf x x pg bg sg dV kV doc pm an cdv ct), osl⟩)
    (hcg : PySem.W.codeIn X.K cdv x = true) (hb : L2.Binds X.K (PySem.W.fnOf x x pg bg sg dV kV doc pm an cdv ct) [a] [])
    (Sg : FnScope Ng [a] sg) (hNg : Ng[0]? = some a) (hva : Vis sg a) (hG : LamX.GivesTo X Ng x sg g cdv bg a (X.env.qual ++ "<lambda>") TT)
    -- the table that the lambda's code goes into
    (TB : LamX.TabB X.base X.mg c P) (hcode : X.env.code = .ref c) (hmT : (P, X.env.qual ++ "<lambda>") ∈ T.l) (hu : ∀ p ∈ T.l, p.1 = P → p.2 = X.env.qual ++ "<lambda>") (hgg : ∀ G ∈ T.g, G ≠ P) (hr : Room (k + 2) X.A)
    -- the lambda
    (L : LamX.LamS X.env.scope scope) (hdef : defaultsOf params X.env = ([], [])) (hbind : ∀ q cl pm cv ctv, bindArgs (PySem.W.kla_fn "<lambda>" q params body scope cl pm cv ctv) ⟨[], []⟩ = pure [])
    (hbody : ∀ (A : Around) (outer : List Env) (s : Shared) (H : Hp) (E : XK) (f c' : Addr), Room k (A.deeper (LamX.lamEnv X scope s.heap.objs.size f c')) → PE (LamX.lamCx X A outer s H E scope f c') body (t E))
    (hdb : (x == ("__debug__" : Str)) = false := by decide)
    (hd : (a == ("__debug__" : Str)) = false := by decide) (hcd : (a == ("__classdict__" : Str)) = false := by decide) :
    PE X (.Call (.Name x p) [.Lambda params body scope lpos] [] pos) (tLm T TT t) := by
  refine ⟨fun pins s σ H Q I ⟨tb, h⟩ => wpAny_Call_Name_kw (ld_glob I hg hm (PySem.W.callWith_K (h₀ := X.base) I.ok.mod.kin hk ?_ rfl rfl) hdb)⟩
  refine Calls.spliced_cons (lam_core I TB hcode hmT hu hgg tb hdef (L.has I.ok) ?_)
  intro c' pm' ctv h1 tk H1 I0 ex tb1 known _
  have fresh : H1 h1.objs.size = none := I0.hok.fresh (Nat.le_refl _)
  have nofr : h1.objs.size ∉ frs X.stack := fun z => (List.mem_cons.mp (I0.stkSub _ z)).elim (fun e => Nat.ne_of_gt I0.lt e) (I0.nofs (Nat.le_refl _))
  have there := Heap.get?_push_size h1 (o := PySem.W.kla_obj "<lambda>" (X.env.qual ++ "<lambda>") params body scope (cloFrom X.env.cells scope.names []) pm' c' ctv) rfl
  have I1 := I0.kept (t' := tk) (h' := h1.push (PySem.W.kla_obj "<lambda>" (X.env.qual ++ "<lambda>") params body scope (cloFrom X.env.cells scope.names []) pm' c' ctv)) fun b o e => Heap.get?_push_of_some _ e
  generalize h1.objs.size = f at fresh nofr there ⊢
  generalize h1.push _ = h2 at there I1 ⊢
  refine Calls.spliced_nil ⟨I1.kIn, wpAny_call (codeAny_mono (?_ : codeAny (model X.prog X.w) X.A (.call (.ref g) ⟨[.ref f], []⟩) (CR C8.CX0 X.stack X.prog X.w H1 { s with heap := h2, toks := tk } Q C8.E0) { s with heap := h2, toks := tk }) ?_)⟩
  · refine LamX.run_ofS (N := Ng) (ps := [a]) (us := [.ref f]) (vs := [.ref f]) lk hcg Sg hr I1.env0 (hb _ [.ref f] I1.kIn rfl) (.cons rfl .nil) rfl fun room => ?_
    obtain ⟨u, does, w⟩ := hG f c' _ H1 Q (fun E H' Q' => t E σ H' Q')
      (fun W pn xe E p1 p2 tk hW => LamX.pe_act (i := 0) I1 L there fresh nofr (hbind _ _ _ _ _) tk hW room (fun A outer s H room2 => hbody A outer s H E f c' room2) hNg hva hd hcd) known (h H1 ex tb1)
    exact ⟨u, does.nox, w⟩
  · rintro (_ | ⟨⟩ | _ | _ | _) s2 hq
    all_goals first | exact I1.after hq | exact False.elim hq
end
end PW
end

section
set_option Elab.async false
set_option linter.all false
set_option autoImplicit false
set_option maxRecDepth 100000
set_option maxHeartbeats 3000000
/-! Lambdas without captured names, as values. -/
namespace PW
open PySem PySem.Spec PyProof.Rows L2 GxR
/-- such a function object at f -/
def LamO (f : Addr) (q : Str) (params : Arguments) (body : Expr) (scope : Scope) (c' : Addr) (pm ctv : Value) : HO := .ext fun h => h.get? f = some (PySem.W.kla_obj "<lambda>" q params body scope [] pm c' ctv)
theorem clo_none {cells : List (Str × Addr)} : ∀ {ns : List (Str × NameKind)} {acc : List (Str × Addr)}, (∀ y ∈ ns, y.2 ≠ .free) → cloFrom cells ns acc = acc
  | [], _, _ => rfl
  | (y, k) :: r, acc, h => by
    have hk := h (y, k) List.mem_cons_self
    have ih := clo_none (cells := cells) (ns := r) (acc := acc) fun z hz => h z (List.mem_cons_of_mem _ hz)
    cases k with
    | free => exact absurd rfl hk
    | _ => exact ih
section
variable {X : Cx} {T : Tn}
def tLamV (T : Tn) (q : Str) (params : Arguments) (body : Expr) (scope : Scope) : TE := fun σ H Q => Tb T H ∧ ∀ f c' pm ctv H2, Ex T H H2 → Tb T H2 → H2 f = some (LamO f q params body scope c' pm ctv) → H2 c' = some (LamX.CodeO c' q) → Q (.ref f) H2
theorem pe_lamV {c P : Addr} {params : Arguments} {body : Expr} {scope : Scope} {pos : Pos} (TB : LamX.TabB X.base X.mg c P) (hcode : X.env.code = .ref c)
    (hm : (P, X.env.qual ++ "<lambda>") ∈ T.l) (hu : ∀ p ∈ T.l, p.1 = P → p.2 = X.env.qual ++ "<lambda>") (hg : ∀ G ∈ T.g, G ≠ P) (hdef : defaultsOf params X.env = ([], [])) (hnf : ∀ y ∈ scope.names, y.2 ≠ .free) :
    PE X (.Lambda params body scope pos) (tLamV T (X.env.qual ++ "<lambda>") params body scope) := by
  refine ⟨fun pins s σ H Q I h => ?_⟩
  obtain ⟨tb, h⟩ := h
  refine lam_core I TB hcode hm hu hg tb hdef (fun y hy e => absurd e (hnf y hy)) fun c' pm ctv h' tk H1 I0 eX T1 hco hsz => ?_
  rw [clo_none hnf]
  generalize hf : h'.objs.size = f at *
  have hn : H1 f = none := by rw [← hf]; exact I0.hok.fresh (Nat.le_refl _)
  have hob : (h'.push (PySem.W.kla_obj "<lambda>" (X.env.qual ++ "<lambda>") params body scope [] pm c' ctv)).get? f = some (PySem.W.kla_obj "<lambda>" (X.env.qual ++ "<lambda>") params body scope [] pm c' ctv) := by
    exact hf ▸ Heap.get?_push_size h' rfl
  have I1 : Inv X pins σ (upd H1 f (LamO f (X.env.qual ++ "<lambda>") params body scope c' pm ctv)) { s with heap := h'.push (PySem.W.kla_obj "<lambda>" (X.env.qual ++ "<lambda>") params body scope [] pm c' ctv), toks := tk } :=
    I0.laid (t' := tk) (fun b o e => Heap.get?_push_of_some _ e) (Nat.le_of_eq hf) ⟨hob, ⟨_, hob⟩, fun h1 h2 p k => k _ p⟩
  have e2 : Ex T H1 (upd H1 f (LamO f (X.env.qual ++ "<lambda>") params body scope c' pm ctv)) := .new hn
  exact ⟨.ref f, _, I1, rfl, h f c' pm ctv _ (eX.trans e2) (e2.tb T1) upd_same (by rw [upd_ne (ne_of_none hco hn)]; exact hco)⟩
/-- a() of such a lambda -/
def tActV (X : Cx) (k i : Nat) (E : XK) : TE := fun σ H Q => ∃ f q params body scope c' pm ctv tb, σ[i]? = some (some (.ref f)) ∧ H f = some (LamO f q params body scope c' pm ctv) ∧ H c' = some (LamX.CodeO c' q) ∧
  bindArgs (PySem.W.kla_fn "<lambda>" q params body scope [] pm (.ref c') ctv) ⟨[], []⟩ = pure [] ∧ FnScope [] [] scope ∧
  (∀ (A : Around) (outer : List Env) (s : Shared) (H : Hp), Room k (A.deeper (envOfC q scope s.heap.objs.size f (.ref c'))) → PE (cxOf (L2.CX X.prog X.w) X.prog X.w X.K X.mg X.base [] q scope f (.ref c') A outer s H E) body tb) ∧ tb [] H Q
theorem pe_actV {k i : Nat} {a : Str} {E : XK} {p1 p2 : Pos} (hr : Room (k + 1) X.A) (hN : X.N[i]? = some a) (hv : Vis X.env.scope a) (hx : Passes (L2.CX X.prog X.w) X E) (hd : (a == ("__debug__" : Str)) = false := by decide) (hcd : (a == ("__classdict__" : Str)) = false := by decide) :
    PE X (.Call (.Name a p1) [] [] p2) (tActV X k i E) := by
  refine ⟨fun pins s σ H Q I h => ?_⟩
  obtain ⟨f, q, params, body, scope, c', pm, ctv, tb, hs, hf, hc, hb, S, hbody, ht⟩ := h
  refine wpAny_Call_Name_kw (thn ((pe_var (pos := p1) (i := i) hN hv hd hcd).run pins s σ H (fun v H1 => v = .ref f ∧ H1 = H) I ⟨.ref f, hs, rfl, rfl⟩) fun u s1 ⟨v, H1, I1, r1, q1⟩ => ?_)
  obtain ⟨ev, eH⟩ := q1
  subst ev
  rw [eH] at I1
  cases (show u = Value.ref f from r1)
  have of1 : s1.heap.get? f = some (PySem.W.kla_obj "<lambda>" q params body scope [] pm c' ctv) := (I1.hok f _ hf).1
  have ⟨⟨oc, vs, t, hoc, hdc, hvc⟩, _⟩ := I1.hok c' _ hc
  refine PySem.W.callWith_F0 (s := s1) ⟨_, _, _, _, of1⟩ ?_
  have rc : codeAny (model X.prog X.w) X.A (.call (.ref f) ⟨[], []⟩) (CR (L2.CX X.prog X.w) X.stack X.prog X.w H s1 Q E) s1 := by
    refine PySem.W.kla_callFunE hr.depth of1 rfl S.co S.gen rfl ⟨c', oc, vs, t, rfl, hoc, hdc, hvc⟩ ?_
    rw [hb]
    refine wpAny_pure (wpAny_newFunctionEnv_cells S.kind (fun x hx => by cases hx) fun env he s2 x => ?_)
    subst he
    refine ⟨I1.nolimit.keeps x.toInCall.keep, ?_⟩
    have J : Inv (cxOf (L2.CX X.prog X.w) X.prog X.w X.K X.mg X.base [] q scope f (.ref c') X.A X.stack s1 H E) [] (start [] []) H s2 := inv_start (us := []) (vs := []) (ps := []) S hr.hd I1.env0 rfl .nil x
    refine PySem.W.kla_codeExpr (wpAny_mono ((hbody X.A X.stack s1 H (hr.deeper _)).run [] _ _ H Q J ht) (fun v s' ⟨u, H', J', rest⟩ => ⟨u, H', J'.os, J'.bare, J'.base, J'.hok, rest⟩) fun _ _ hq => hq)
  refine wpAny_call (codeAny_mono rc ?_)
  intro r s' hq
  cases r with
  | error e => exact hx pins σ H s1 e s' I1 hq
  | ok fl =>
    cases fl with
    | ret u => exact I1.after hq
    | next => exact False.elim hq
    | brk => exact False.elim hq
    | cont => exact False.elim hq
end
end PW
end

section
set_option Elab.async false
set_option linter.all false
set_option autoImplicit false
set_option maxRecDepth 100000
set_option maxHeartbeats 3000000
/-! An instance without an __eq__ of its own, compared with a text. -/
namespace PWE
open PySem PyProof.Rows PySem.Spec PySem.SeqAt
section
variable {M : Model} {prog : Program} {w : World} {A : Around} {E : Value → Shared → Prop} {s : Shared} {K : PySem.W.Frag} {x C : Addr} {ox : Obj} {od : Option Obj} {k : Str} {t : Tok}
theorem same_str {R : Bool → Shared → Prop} (h : R false s) : wpAny M A (isSame (.ref x) (.str k t)) R E s := wpAny_of_eq (rfl : isSame (.ref x) (.str k t) = pure false) h
theorem entry_str {Q : Fin → Shared → Prop} (hq : Q (.done (.ret .notImplemented)) s) : wpAny M A (Builtin.«object.__eq__» ⟨[.ref x, .str k t], []⟩) Q E s := by
  rw [Builtin.«object.__eq__»]
  repeat (first | with_reducible refine same_str ?_ | wp_step)
  exact hq
theorem call_eq {Q : Value → Shared → Prop} (X : K.In s.heap) (I : PySem.W.InstAt s.heap x ox C od) (hm : PySem.W.mroIn K C (.type "object") = some true) (hq : Q .notImplemented s) :
    wpAny (model prog w) A (call (.builtin "object.__eq__") [.ref x, .str k t]) Q E s :=
  wpAny_call (codeAny_call_builtin F.cmp_object.eq.plain F.cmpEntry_eq (PySem.W.check_slot F.cmpKind_eq F.cmpSplit_eq (I.type.andThen (PySem.W.looks_mroIn X hm)) (F.cmpArgs_eq _ _) (entry_str hq)))
theorem sub_str : PySem.W.subIn K (.type "str") (.ref C) = some false := by
  have e : fastBuiltinMro "str" = some [.type "str", .type "object"] := by decide +kernel
  show (fastBuiltinMro "str").map (·.contains (.ref C)) = some false
  rw [e]
  first
    | rfl
    | simp
theorem str_ref (l : Addr) {o : Obj} (hd : ∀ (y : Str) (u : Tok), o.data ≠ .prim (.str y u)) : GivesAt (fun s => s.heap.get? l = some o) (Builtin.«str.__eq__» ⟨[.str k t, .ref l], []⟩) (.val (Value.notImplemented)) := fun prog w A R s hl h => by
  obtain ⟨hp, g, d, tk, os⟩ := s
  obtain ⟨c, dd, dt, sl⟩ := o
  wp_walk using wpAny_load hl
  cases dt with
  | prim v =>
    cases v with
    | str y u => exact absurd rfl (hd y u)
    | _ => wp_walk; exact h
  | _ => wp_walk; exact h
theorem rc_str (hu : A.units < cLine) (X : K.In s.heap) (I : PySem.W.InstAt s.heap x ox C od) (hm : PySem.W.mroIn K C (.type "object") = some true) (hs : PySem.W.findIn K (.ref C) "__eq__" = some (some (.builtin "object.__eq__"))) {o : Obj} (ho : s.heap.get? x = some o) (hd : ∀ (y : Str) (u : Tok), o.data ≠ .prim (.str y u)) :
    RcAt A s (.ref x) (.str k t) false := fun prog w E Q h => by
  have one : wpAny (model prog w) A (tryCompare (.ref x) "__eq__" (.str k t)) (fun r s' => r = none ∧ s' = s) E s := by
    unfold tryCompare
    exact wpAny_bind (HN.ifBound_objEq X I hs (call_eq X I hm (wpAny_pure ⟨rfl, rfl⟩)))
  have two : wpAny (model prog w) A (tryCompare (.str k t) "__eq__" (.ref x)) (fun r s' => r = none ∧ s' = s) E s :=
    wpAny_tryCompare_declines (typeIs_str s k t) F.slot_str_eq_refl (call_givesAt F.slot_str_eq_refl (typeIs_str s k t) F.entry_str_eq (F.args_str_eq_2 _ _) (str_ref x hd) ho ⟨rfl, rfl, rfl⟩)
  simp only [oneThing_ref, richCompare, cmpInfo_Eq]
  refine wpAny_holding (wpAny_bind (wpAny_cRoomFor hu (wpAny_bind (I.type.here (wpAny_bind (wpAny_typeOf (typeIs_str s k t) ?_))))))
  split
  · refine wpAny_bind ((PySem.W.looks_subIn X sub_str).here ?_)
    simp only [if_true, if_false, Bool.not_false, Bool.false_eq_true]
    refine wpAny_bind (m := tryCompare (.ref x) _ (.str k t)) (wpAny_mono one (fun r s1 z => ?_) fun _ _ e => e)
    obtain ⟨z1, z2⟩ := z
    subst z1
    subst z2
    refine wpAny_bind (m := tryCompare (.str k t) _ (.ref x)) (wpAny_mono two (fun r s2 z => ?_) fun _ _ e => e)
    obtain ⟨z1, z2⟩ := z
    subst z1
    subst z2
    exact wpAny_bind (wpAny_rule (wpAny_bind (wpAny_of_eq (rfl : isSame (.ref x) (.str k t) = pure false) (wpAny_pure h))))
  · rename_i q
    exact absurd (by simp) q
end
end PWE
namespace PW
open PySem PySem.Spec PyProof.Rows L2 GxR
/-- an instance against a text -/
def rEqIS (K : PySem.W.Frag) : R2 := fun x y H Q => ∃ a C dx fs k, x = .ref a ∧ y = .str k ∧ H a = some (.ins C dx fs) ∧ PySem.W.mroIn K C (.type "object") = some true ∧ PySem.W.findIn K (.ref C) "__eq__" = some (some (.builtin "object.__eq__")) ∧ Q (.bl false) H
theorem op_eqIS {X : Cx} (hu : X.A.units < cLine) : OpR X (compareOp .Eq) (rEqIS X.K) := by
  intro pins s σ H x y v u Q I rx ry h
  obtain ⟨a, C, dx, fs, k, rfl, rfl, ha, hm, hs, q⟩ := h
  cases rx
  obtain ⟨t, rfl⟩ := ry
  obtain ⟨_, O, _⟩ := ins_get I.hok ha
  have ⟨od, J, _⟩ := O.look
  exact PWE.rc_str hu I.kIn J hm hs O.obj (fun _ _ z => by cases z) _ _ _ _ ⟨.bl false, H, I, rfl, q⟩
/-- a text or an instance against a text -/
def rEqA (K : PySem.W.Frag) : R2 := fun x y H Q => rEq x y H Q ∨ rEqIS K x y H Q
theorem op_eqA {X : Cx} (hu : X.A.units < cLine) : OpR X (compareOp .Eq) (rEqA X.K) := by
  intro pins s σ H x y v u Q I rx ry h
  rcases h with h | h
  · exact op_eq pins s σ H x y v u Q I rx ry h
  · exact op_eqIS hu pins s σ H x y v u Q I rx ry h
end PW
end

section
set_option Elab.async false
set_option linter.all false
set_option autoImplicit false
set_option maxRecDepth 100000
set_option maxHeartbeats 3000000
/-! Two equal dicts whose keys are tuples. -/
namespace PWD
open PyProof.Rows PySem PySem.Spec
section
variable {prog : Program} {w : World} {A : Around} {E : Value → Shared → Prop} {s : Shared} {K : Type} [DecidableEq K] {knd : HeapKind prog w K}
/-- what of a range is still to come -/
theorem range_left {i n x : Nat} {l : List Nat} (h : x :: l = List.range' i (n - i)) : x = i ∧ i < n ∧ l = List.range' (i + 1) (n - (i + 1)) := by
  match hm : n - i, h with
  | 0, h => exact absurd h (List.cons_ne_nil _ _)
  | m + 1, h =>
    have hm' : m = n - (i + 1) := by omega
    rw [List.range'_succ, hm'] at h
    exact ⟨(List.cons.inj h).1, by omega, (List.cons.inj h).2⟩
theorem not_sys {a : Addr} (ha : (a == sysModules) = false) : ¬ (a == sysModules) = true := by rw [ha]; decide
theorem samePairsH {nm : String} {a b : Addr} {xs ys : List (K × Addr × Value)} {Q : Bool → Shared → Prop} (ha : (a == sysModules) = false) (hb : (b == sysModules) = false) (hu : knd.room A)
    (X : s.heap.DictOfH knd a xs) (Y : s.heap.DictOfH knd b ys) (hl : xs.length = ys.length) (hits : ∀ p ∈ xs, ∃ q u, atKey ys p.1 = some (q, u) ∧ SeqAt.EqP prog w A s p.2.2 u true) (h : Q true s) : wpAny (model prog w) A (Builtin.Dict.samePairs nm a b) Q E s := by
  obtain ⟨o1, r1, _, g1, _, d1, e1, k1, _⟩ := X
  obtain ⟨o2, r2, _, g2, _, d2, e2, k2, n2⟩ := Y
  have z1 := size_of_entries e1
  have z : r1.size = r2.size := z1.trans (hl.trans (size_of_entries e2).symm)
  unfold Builtin.Dict.samePairs
  unfold Builtin.Dict.showsAll
  rw [if_neg (not_sys ha), if_neg (not_sys hb)]
  refine wpAny_bind (wpAny_pure (wpAny_bind (wpAny_pure (wpAny_bind (wpAny_dictEntries g1 d1 ?_)))))
  refine wpAny_bind (wpAny_dictEntries g2 d2 ?_)
  rw [if_neg (by simp [z])]
  refine wpAny_bind (wpAny_dictEpoch g1 d1 (wpAny_bind ?_))
  simp only [Std.Legacy.Range.forIn_eq_forIn_range', Std.Legacy.Range.size, Nat.sub_zero, Nat.add_sub_cancel, Nat.div_one]
  refine wpAny_forIn_list _ (fun l st t => t = s ∧ st = (none, ()) ∧ ∃ i ≤ r1.size, l = List.range' i (r1.size - i)) _ ?_ ?_ _ _ ⟨rfl, rfl, 0, Nat.zero_le _, rfl⟩
  · rintro j l st t ⟨rfl, rfl, i, _, hl2⟩
    obtain ⟨rfl, lt, hl3⟩ := range_left hl2
    have ltx : j < xs.length := z1 ▸ lt
    have hm : xs[j] ∈ xs := List.getElem_mem ltx
    obtain ⟨q, u, hq, hv⟩ := hits _ hm
    have at1 : r1[j]? = some (entryOfKey knd xs[j]) := by
      rw [entry_at e1 j, List.getElem?_eq_getElem ltx]
      rfl
    refine wpAny_bind (wpAny_dictEntries g1 d1 ?_)
    rw [at1]
    show wpAny _ _ (holding [(entryOfKey knd xs[j]).key, (entryOfKey knd xs[j]).val] _ >>= _) _ _ _
    refine wpAny_bind (wpAny_holding (wpAny_bind (wpAny_dictFind_heap hu (k1 _ hm) g2 d2 e2 k2 n2 (fun no => absurd ((atKey_none_of_get no).symm.trans hq) (by intro c; cases c)) fun m p hp => ?_)))
    cases (atKey_of_get n2 hp).symm.trans hq
    have at2 : r2[m]? = some (entryOfKey knd (xs[j].1, (q, u))) := by
      rw [entry_at e2 m, hp]
      rfl
    refine wpAny_bind (wpAny_dictEntries g2 d2 ?_)
    rw [at2]
    refine wpAny_holding (hv _ _ ?_)
    show wpAny _ _ (ite ((!true) = true) _ _) _ _ _
    rw [if_neg (show ¬ (!true) = true by decide)]
    refine wpAny_bind (wpAny_dictEpoch g1 d1 ?_)
    rw [if_neg (by simp)]
    exact wpAny_pure ⟨rfl, rfl, j + 1, lt, hl3⟩
  · rintro st t ⟨rfl, rfl, _⟩
    exact wpAny_pure h
theorem neH {a b : Addr} {xs ys : List (K × Addr × Value)} {Q : Value → Shared → Prop} (ha : (a == sysModules) = false) (hb : (b == sysModules) = false) (hu : A.units < cLine) (hk : knd.room A.in1)
    (X : s.heap.DictOfH knd a xs) (Y : s.heap.DictOfH knd b ys) (hl : xs.length = ys.length) (hits : ∀ p ∈ xs, ∃ q u, atKey ys p.1 = some (q, u) ∧ SeqAt.EqP prog w A.in1 s p.2.2 u true) (h : Q (.bool false) s) : wpAny (model prog w) A (compareOp .NotEq (.ref a) (.ref b)) Q E s := by
  refine wpAny_richCompare_same_room (op := .NotEq) X.typeIs Y.typeIs PySem.F.slot_dict_ne ?_ hu
  refine wpAny_call_entry PySem.F.slot_dict_ne X.typeIs PySem.F.entry_dict_ne ?_ (PySem.F.args_dict_ne_2 _ _)
  show wpAny _ _ (bind (Builtin.Dict.dictSlotArgs "__ne__" ⟨[.ref a, .ref b], []⟩) _) _ _ s
  delta Builtin.Dict.dictSlotArgs
  refine wpAny_bind (wpAny_bind (wpAny_notOrdered_dict X.typeIs (wpAny_pure ?_)))
  refine wpAny_bind (wpAny_isInstance (T := "dict") Y.typeIs PySem.F.sub_dict_dict ?_)
  rw [if_neg (show ¬ (!true) = true by decide)]
  refine wpAny_bind (wpAny_pure (wpAny_bind (wpAny_pure (wpAny_bind (samePairsH ha hb hk X Y hl hits ?_)))))
  exact wpAny_pure ⟨_, rfl, nofun, by simpa using h⟩
end
end PWD
namespace PW
open PySem PySem.Spec PyProof.Rows L2 GxR
theorem paired_at {α β : Type} {F : α → β → Prop} {l₁ : List α} {l₂ : List β} (h : Paired F l₁ l₂) : ∀ {j : Nat} {x : β}, l₂[j]? = some x → ∃ y, l₁[j]? = some y ∧ F y x := by
  induction h with
  | nil => intro j x e; simp at e
  | @cons a b as bs f t ih =>
    intro j x e
    cases j with
    | zero => cases e; exact ⟨a, rfl, f⟩
    | succ j => exact ih e
/-- a != b, two equal dicts whose keys are tuples -/
def rNeDT (K : PySem.W.Frag) : R2 := fun x y H Q => ∃ a b ks ls, x = .ref a ∧ y = .ref b ∧ H a = some (.dT ks) ∧ H b = some (.dT ls) ∧ ks.length = ls.length ∧
  (∀ p ∈ ks, ∃ u d e, valV ls p.1 = some u ∧ Dp K H p.2 d ∧ Dp K H u e ∧ SeqAt.shaped d = true ∧ SeqAt.shaped e = true ∧ PyData.eqv d e = true) ∧ Q (.bl false) H
theorem op_neDT {X : Cx} (hu : X.A.units + 66 < cLine) : OpR X (compareOp .NotEq) (rNeDT X.K) := by
  intro pins s σ H x y v u Q I rx ry h
  have ⟨a, b, ks, ls, ra, rb, ea, eb, hlen, hp, q⟩ := h
  subst ra rb
  cases (show v = Value.ref a ∧ u = Value.ref b from ⟨rx, ry⟩).1
  cases (show Value.ref b = u from ry.symm)
  obtain ⟨_, ya, xs, ra, da⟩ := dt_of I.hok ea
  obtain ⟨_, yb, ys, rb, db⟩ := dt_of I.hok eb
  have hin : X.A.in1.units + 64 < cLine := by show X.A.units + 1 + 64 < cLine; omega
  refine PWD.neH ya yb (by omega) (show X.A.in1.units < cLine by omega) da db (by rw [← Paired.length ra, ← Paired.length rb]; exact hlen) (fun p hpm => ?_) ⟨.bl false, H, I, rfl, q⟩
  obtain ⟨j, hj, ej⟩ := List.getElem_of_mem hpm
  obtain ⟨k, hk, f1, f2, f3⟩ := paired_at ra (List.getElem?_eq_getElem hj)
  rw [ej] at f1 f2 f3
  obtain ⟨u, d, e, h1, h2, h3, h4, h5, h6⟩ := hp k (List.mem_of_getElem? hk)
  have rv := KT.val rb k.1
  rw [h1] at rv
  obtain ⟨z, hz, rz⟩ := rv.some_of
  rw [f1] at hz
  cases hq : atKey ys p.1 with
  | none => rw [hq] at hz; cases hz
  | some qq =>
    rw [hq] at hz
    obtain ⟨q1, q2⟩ := qq
    have ez : q2 = z := Option.some.inj hz
    subst ez
    obtain ⟨as, r1⟩ := Dp.reads I d _ _ h2 f3
    obtain ⟨bs, r2⟩ := Dp.reads I e _ _ h3 rz
    refine ⟨q1, q2, rfl, ?_⟩
    have := (PySem.W.keq_at (A := X.A) r1 r2 h4 h5 hin).eqP (prog := X.prog) (w := X.w)
    rw [h6] at this
    exact this
end PW
end

section
set_option Elab.async false
set_option linter.all false
set_option maxRecDepth 100000
set_option maxHeartbeats 0
namespace PT
open PySem PySem.Spec L2 PyProof.Rows
def top (i : Nat) : Stmt := PySem.Challenge.pw_planwright_k01_deeds_and_states.main.body.getD i (.Pass ⟨0, 0, 0, 0⟩)
abbrev s_check_fact : Stmt := (top 13)
abbrev s_facts : Stmt := (top 14)
abbrev s_Deed_init : Stmt := (inClass (top 15) 0)
abbrev s_Deed_fits : Stmt := (inClass (top 15) 1)
abbrev s_Deed_done : Stmt := (inClass (top 15) 2)
abbrev s_Deed_shown : Stmt := (inClass (top 15) 3)
abbrev s_plain : Stmt := (top 16)
abbrev s_is_idle : Stmt := (top 17)
abbrev s_in_turn : Stmt := (top 18)
abbrev s_hurts : Stmt := (top 19)
abbrev s_clash : Stmt := (top 20)
abbrev s_helps : Stmt := (top 21)
abbrev s_may_swap : Stmt := (top 22)
abbrev s_are_free : Stmt := (top 23)
abbrev s_back_from : Stmt := (top 24)
abbrev s_law_flat : Stmt := (top 26)
abbrev s_law_dice : Stmt := (top 27)
abbrev s_law_roll : Stmt := (top 28)
abbrev s_law_rounds : Stmt := (top 29)
abbrev s_law_told : Stmt := (top 30)
abbrev s_law_all : Stmt := (top 31)
abbrev s_law_some : Stmt := (top 32)
abbrev s_law_deed : Stmt := (top 33)
abbrev s_law_step : Stmt := (top 34)
abbrev s_law_cases1 : Stmt := (top 35)
abbrev s_law_part1 : Stmt := (top 36)
abbrev s_law_part2 : Stmt := (top 37)
abbrev s_law : Stmt := (top 38)
def d_check_fact : He.DefD := ⟨("check_fact", none), "check_fact", "check_fact", defArgs s_check_fact, defBody s_check_fact, defScope s_check_fact, [], []⟩
def d_facts : He.DefD := ⟨("facts", none), "facts", "facts", defArgs s_facts, defBody s_facts, defScope s_facts, [], []⟩
def d_Deed_init : He.DefD := ⟨("Deed", some "__init__"), "__init__", "Deed.__init__", defArgs s_Deed_init, defBody s_Deed_init, defScope s_Deed_init, [.int 1], []⟩
def d_Deed_fits : He.DefD := ⟨("Deed", some "fits"), "fits", "Deed.fits", defArgs s_Deed_fits, defBody s_Deed_fits, defScope s_Deed_fits, [], []⟩
def d_Deed_done : He.DefD := ⟨("Deed", some "done"), "done", "Deed.done", defArgs s_Deed_done, defBody s_Deed_done, defScope s_Deed_done, [], []⟩
def d_Deed_shown : He.DefD := ⟨("Deed", some "shown"), "shown", "Deed.shown", defArgs s_Deed_shown, defBody s_Deed_shown, defScope s_Deed_shown, [], []⟩
def d_plain : He.DefD := ⟨("plain", none), "plain", "plain", defArgs s_plain, defBody s_plain, defScope s_plain, [.int 1], []⟩
def d_is_idle : He.DefD := ⟨("is_idle", none), "is_idle", "is_idle", defArgs s_is_idle, defBody s_is_idle, defScope s_is_idle, [], []⟩
def d_in_turn : He.DefD := ⟨("in_turn", none), "in_turn", "in_turn", defArgs s_in_turn, defBody s_in_turn, defScope s_in_turn, [], []⟩
def d_hurts : He.DefD := ⟨("hurts", none), "hurts", "hurts", defArgs s_hurts, defBody s_hurts, defScope s_hurts, [], []⟩
def d_clash : He.DefD := ⟨("clash", none), "clash", "clash", defArgs s_clash, defBody s_clash, defScope s_clash, [], []⟩
def d_helps : He.DefD := ⟨("helps", none), "helps", "helps", defArgs s_helps, defBody s_helps, defScope s_helps, [], []⟩
def d_may_swap : He.DefD := ⟨("may_swap", none), "may_swap", "may_swap", defArgs s_may_swap, defBody s_may_swap, defScope s_may_swap, [], []⟩
def d_are_free : He.DefD := ⟨("are_free", none), "are_free", "are_free", defArgs s_are_free, defBody s_are_free, defScope s_are_free, [], []⟩
def d_back_from : He.DefD := ⟨("back_from", none), "back_from", "back_from", defArgs s_back_from, defBody s_back_from, defScope s_back_from, [], []⟩
def d_law_flat : He.DefD := ⟨("_law_flat", none), "_law_flat", "_law_flat", defArgs s_law_flat, defBody s_law_flat, defScope s_law_flat, [], []⟩
def d_law_dice : He.DefD := ⟨("_law_dice", none), "_law_dice", "_law_dice", defArgs s_law_dice, defBody s_law_dice, defScope s_law_dice, [], []⟩
def d_law_roll : He.DefD := ⟨("_law_roll", none), "_law_roll", "_law_roll", defArgs s_law_roll, defBody s_law_roll, defScope s_law_roll, [], []⟩
def d_law_rounds : He.DefD := ⟨("_law_rounds", none), "_law_rounds", "_law_rounds", defArgs s_law_rounds, defBody s_law_rounds, defScope s_law_rounds, [], []⟩
def d_law_told : He.DefD := ⟨("_law_told", none), "_law_told", "_law_told", defArgs s_law_told, defBody s_law_told, defScope s_law_told, [], []⟩
def d_law_all : He.DefD := ⟨("_law_all", none), "_law_all", "_law_all", defArgs s_law_all, defBody s_law_all, defScope s_law_all, [], []⟩
def d_law_some : He.DefD := ⟨("_law_some", none), "_law_some", "_law_some", defArgs s_law_some, defBody s_law_some, defScope s_law_some, [], []⟩
def d_law_deed : He.DefD := ⟨("_law_deed", none), "_law_deed", "_law_deed", defArgs s_law_deed, defBody s_law_deed, defScope s_law_deed, [], []⟩
def d_law_step : He.DefD := ⟨("_law_step", none), "_law_step", "_law_step", defArgs s_law_step, defBody s_law_step, defScope s_law_step, [], []⟩
def d_law_cases1 : He.DefD := ⟨("_law_cases1", none), "_law_cases1", "_law_cases1", defArgs s_law_cases1, defBody s_law_cases1, defScope s_law_cases1, [], []⟩
def d_law_part1 : He.DefD := ⟨("_law_part1", none), "_law_part1", "_law_part1", defArgs s_law_part1, defBody s_law_part1, defScope s_law_part1, [], []⟩
def d_law_part2 : He.DefD := ⟨("_law_part2", none), "_law_part2", "_law_part2", defArgs s_law_part2, defBody s_law_part2, defScope s_law_part2, [], []⟩
def d_law : He.DefD := ⟨("law", none), "law", "law", defArgs s_law, defBody s_law, defScope s_law, [], []⟩
def fn : List He.DefD := [d_check_fact, d_facts, d_Deed_init, d_Deed_fits, d_Deed_done, d_Deed_shown, d_plain, d_is_idle, d_in_turn, d_hurts, d_clash, d_helps, d_may_swap, d_are_free, d_back_from, d_law_flat, d_law_dice, d_law_roll, d_law_rounds, d_law_told, d_law_all, d_law_some, d_law_deed, d_law_step, d_law_cases1, d_law_part1, d_law_part2, d_law]
def fa0 : List He.Fa := [.glo "PlanFault", .glo "BadFact", .glo "BadDeed", .glo "BadPlan", .glo "BadPaper", .glo "BadSize", .glo "BadText", .glo "BadStore", .glo "NoPlan", .glo "NoSuch", .glo "check_fact", .glo "facts", .glo "Deed", .glo "plain", .glo "is_idle", .glo "in_turn", .glo "hurts", .glo "clash", .glo "helps", .glo "may_swap"]
def fa1 : List He.Fa := [.glo "are_free", .glo "back_from", .glo "_law_flat", .glo "_law_dice", .glo "_law_roll", .glo "_law_rounds", .glo "_law_told", .glo "_law_all", .glo "_law_some", .glo "_law_deed", .glo "_law_step", .glo "_law_cases1", .glo "_law_part1", .glo "_law_part2", .glo "law", .free "all", .free "any", .free "tuple", .free "sorted", .free "list"]
def fa2 : List He.Fa := [.free "range", .free "dict", .free "abs", .free "int", .str "SIGNS" "abcdefghijklmnopqrstuvwxyz0123456789_-,()", .cls "Deed", .meth "Deed" "fits", .meth "Deed" "done", .meth "Deed" "shown", .noat "Deed" "name", .noat "Deed" "needs", .noat "Deed" "bars", .noat "Deed" "adds", .noat "Deed" "drops", .noat "Deed" "cost", .mkr "Deed", .exc "BadFact", .exm "BadFact" "BadFact" true, .exm "BadFact" "BadDeed" false, .exm "BadFact" "BadPlan" false]
def fa3 : List He.Fa := [.exm "BadFact" "BadPaper" false, .exm "BadFact" "BadSize" false, .exm "BadFact" "BadText" false, .exm "BadFact" "BadStore" false, .exm "BadFact" "NoPlan" false, .exm "BadFact" "NoSuch" false, .exc "BadDeed", .exm "BadDeed" "BadFact" false, .exm "BadDeed" "BadDeed" true, .exm "BadDeed" "BadPlan" false, .exm "BadDeed" "BadPaper" false, .exm "BadDeed" "BadSize" false, .exm "BadDeed" "BadText" false, .exm "BadDeed" "BadStore" false, .exm "BadDeed" "NoPlan" false, .exm "BadDeed" "NoSuch" false]
def fa : List He.Fa := fa0 ++ (fa1 ++ (fa2 ++ (fa3)))
def tf : List He.Defn := [("Deed", some "__init__"), ("Deed", some "fits"), ("is_idle", none), ("in_turn", none), ("hurts", none), ("clash", none), ("helps", none), ("back_from", none), ("_law_cases1", none), ("_law_part1", none), ("law", none)]
def exB (K : PySem.W.Frag) : Bool := decide ((tf.map fun p => (He.cT K p).2).Nodup) && decide (PySem.W.mroIn K (He.ga K "Deed") (.type "object") = some true) && decide (PySem.W.findIn K (.ref (He.ga K "Deed")) "__eq__" = some (some (.builtin "object.__eq__")))
abbrev R : PySem.W.OpenRow := PySem.W.OpenLaw.row PySem.Challenge.rw_planwright_k01_deeds_and_states
abbrev hk : PySem.W.Hook := He.hookX 5 fa fn [] tf exB
def ob (s : PySem.W.SharedT) : He.AlX := He.obsX 5 fa fn [] tf exB (HandSHeadRun.getT s)
theorem ob_eq (s : PySem.W.SharedT) : ob s = hk.obs s.abs := He.obsX_eq (HandSHeadRun.getT_eq s)
def nm0 : List PySem.Str := ["PlanFault", "BadFact", "BadDeed", "BadPlan", "BadPaper", "BadSize", "BadText", "BadStore", "NoPlan", "NoSuch", "SIGNS", "check_fact", "facts", "Deed", "plain"]
def nm1 : List PySem.Str := ["is_idle", "in_turn", "hurts", "clash", "helps", "may_swap", "are_free", "back_from", "_law_flat", "_law_dice", "_law_roll", "_law_rounds", "_law_told", "_law_all", "_law_some"]
def nm2 : List PySem.Str := ["_law_deed", "_law_step", "_law_cases1", "_law_part1", "_law_part2"]
def names : List PySem.Str := nm0 ++ nm1 ++ nm2
theorem run (w : World) : HandSHeadRun.RunEq R (PySem.W.view R.prog [38]) hk ob 6000 names w := by
  intro os
  kernel_rfl

theorem tf_nodup : True := trivial
theorem m_glo_PlanFault : (He.Fa.glo "PlanFault") ∈ fa := List.mem_of_getElem? (i := 0) rfl
theorem m_glo_BadFact : (He.Fa.glo "BadFact") ∈ fa := List.mem_of_getElem? (i := 1) rfl
theorem m_glo_BadDeed : (He.Fa.glo "BadDeed") ∈ fa := List.mem_of_getElem? (i := 2) rfl
theorem m_glo_BadPlan : (He.Fa.glo "BadPlan") ∈ fa := List.mem_of_getElem? (i := 3) rfl
theorem m_glo_BadPaper : (He.Fa.glo "BadPaper") ∈ fa := List.mem_of_getElem? (i := 4) rfl
theorem m_glo_BadSize : (He.Fa.glo "BadSize") ∈ fa := List.mem_of_getElem? (i := 5) rfl
theorem m_glo_BadText : (He.Fa.glo "BadText") ∈ fa := List.mem_of_getElem? (i := 6) rfl
theorem m_glo_BadStore : (He.Fa.glo "BadStore") ∈ fa := List.mem_of_getElem? (i := 7) rfl
theorem m_glo_NoPlan : (He.Fa.glo "NoPlan") ∈ fa := List.mem_of_getElem? (i := 8) rfl
theorem m_glo_NoSuch : (He.Fa.glo "NoSuch") ∈ fa := List.mem_of_getElem? (i := 9) rfl
theorem m_glo_check_fact : (He.Fa.glo "check_fact") ∈ fa := List.mem_of_getElem? (i := 10) rfl
theorem m_glo_facts : (He.Fa.glo "facts") ∈ fa := List.mem_of_getElem? (i := 11) rfl
theorem m_glo_Deed : (He.Fa.glo "Deed") ∈ fa := List.mem_of_getElem? (i := 12) rfl
theorem m_glo_plain : (He.Fa.glo "plain") ∈ fa := List.mem_of_getElem? (i := 13) rfl
theorem m_glo_is_idle : (He.Fa.glo "is_idle") ∈ fa := List.mem_of_getElem? (i := 14) rfl
theorem m_glo_in_turn : (He.Fa.glo "in_turn") ∈ fa := List.mem_of_getElem? (i := 15) rfl
theorem m_glo_hurts : (He.Fa.glo "hurts") ∈ fa := List.mem_of_getElem? (i := 16) rfl
theorem m_glo_clash : (He.Fa.glo "clash") ∈ fa := List.mem_of_getElem? (i := 17) rfl
theorem m_glo_helps : (He.Fa.glo "helps") ∈ fa := List.mem_of_getElem? (i := 18) rfl
theorem m_glo_may_swap : (He.Fa.glo "may_swap") ∈ fa := List.mem_of_getElem? (i := 19) rfl
theorem m_glo_are_free : (He.Fa.glo "are_free") ∈ fa := List.mem_of_getElem? (i := 20) rfl
theorem m_glo_back_from : (He.Fa.glo "back_from") ∈ fa := List.mem_of_getElem? (i := 21) rfl
theorem m_glo__law_flat : (He.Fa.glo "_law_flat") ∈ fa := List.mem_of_getElem? (i := 22) rfl
theorem m_glo__law_dice : (He.Fa.glo "_law_dice") ∈ fa := List.mem_of_getElem? (i := 23) rfl
theorem m_glo__law_roll : (He.Fa.glo "_law_roll") ∈ fa := List.mem_of_getElem? (i := 24) rfl
theorem m_glo__law_rounds : (He.Fa.glo "_law_rounds") ∈ fa := List.mem_of_getElem? (i := 25) rfl
theorem m_glo__law_told : (He.Fa.glo "_law_told") ∈ fa := List.mem_of_getElem? (i := 26) rfl
theorem m_glo__law_all : (He.Fa.glo "_law_all") ∈ fa := List.mem_of_getElem? (i := 27) rfl
theorem m_glo__law_some : (He.Fa.glo "_law_some") ∈ fa := List.mem_of_getElem? (i := 28) rfl
theorem m_glo__law_deed : (He.Fa.glo "_law_deed") ∈ fa := List.mem_of_getElem? (i := 29) rfl
theorem m_glo__law_step : (He.Fa.glo "_law_step") ∈ fa := List.mem_of_getElem? (i := 30) rfl
theorem m_glo__law_cases1 : (He.Fa.glo "_law_cases1") ∈ fa := List.mem_of_getElem? (i := 31) rfl
theorem m_glo__law_part1 : (He.Fa.glo "_law_part1") ∈ fa := List.mem_of_getElem? (i := 32) rfl
theorem m_glo__law_part2 : (He.Fa.glo "_law_part2") ∈ fa := List.mem_of_getElem? (i := 33) rfl
theorem m_glo_law : (He.Fa.glo "law") ∈ fa := List.mem_of_getElem? (i := 34) rfl
theorem m_free_all : (He.Fa.free "all") ∈ fa := List.mem_of_getElem? (i := 35) rfl
theorem m_free_any : (He.Fa.free "any") ∈ fa := List.mem_of_getElem? (i := 36) rfl
theorem m_free_tuple : (He.Fa.free "tuple") ∈ fa := List.mem_of_getElem? (i := 37) rfl
theorem m_free_sorted : (He.Fa.free "sorted") ∈ fa := List.mem_of_getElem? (i := 38) rfl
theorem m_free_list : (He.Fa.free "list") ∈ fa := List.mem_of_getElem? (i := 39) rfl
theorem m_free_range : (He.Fa.free "range") ∈ fa := List.mem_of_getElem? (i := 40) rfl
theorem m_free_dict : (He.Fa.free "dict") ∈ fa := List.mem_of_getElem? (i := 41) rfl
theorem m_free_abs : (He.Fa.free "abs") ∈ fa := List.mem_of_getElem? (i := 42) rfl
theorem m_free_int : (He.Fa.free "int") ∈ fa := List.mem_of_getElem? (i := 43) rfl
theorem m_str_SIGNS : (He.Fa.str "SIGNS" "abcdefghijklmnopqrstuvwxyz0123456789_-,()") ∈ fa := List.mem_of_getElem? (i := 44) rfl
theorem m_cls_Deed : (He.Fa.cls "Deed") ∈ fa := List.mem_of_getElem? (i := 45) rfl
theorem m_meth_Deed_fits : (He.Fa.meth "Deed" "fits") ∈ fa := List.mem_of_getElem? (i := 46) rfl
theorem m_meth_Deed_done : (He.Fa.meth "Deed" "done") ∈ fa := List.mem_of_getElem? (i := 47) rfl
theorem m_meth_Deed_shown : (He.Fa.meth "Deed" "shown") ∈ fa := List.mem_of_getElem? (i := 48) rfl
theorem m_noat_Deed_name : (He.Fa.noat "Deed" "name") ∈ fa := List.mem_of_getElem? (i := 49) rfl
theorem m_noat_Deed_needs : (He.Fa.noat "Deed" "needs") ∈ fa := List.mem_of_getElem? (i := 50) rfl
theorem m_noat_Deed_bars : (He.Fa.noat "Deed" "bars") ∈ fa := List.mem_of_getElem? (i := 51) rfl
theorem m_noat_Deed_adds : (He.Fa.noat "Deed" "adds") ∈ fa := List.mem_of_getElem? (i := 52) rfl
theorem m_noat_Deed_drops : (He.Fa.noat "Deed" "drops") ∈ fa := List.mem_of_getElem? (i := 53) rfl
theorem m_noat_Deed_cost : (He.Fa.noat "Deed" "cost") ∈ fa := List.mem_of_getElem? (i := 54) rfl
theorem m_mkr_Deed : (He.Fa.mkr "Deed") ∈ fa := List.mem_of_getElem? (i := 55) rfl
theorem m_exc_BadFact : (He.Fa.exc "BadFact") ∈ fa := List.mem_of_getElem? (i := 56) rfl
theorem m_exm_BadFact_BadFact_true : (He.Fa.exm "BadFact" "BadFact" true) ∈ fa := List.mem_of_getElem? (i := 57) rfl
theorem m_exm_BadFact_BadDeed_false : (He.Fa.exm "BadFact" "BadDeed" false) ∈ fa := List.mem_of_getElem? (i := 58) rfl
theorem m_exm_BadFact_BadPlan_false : (He.Fa.exm "BadFact" "BadPlan" false) ∈ fa := List.mem_of_getElem? (i := 59) rfl
theorem m_exm_BadFact_BadPaper_false : (He.Fa.exm "BadFact" "BadPaper" false) ∈ fa := List.mem_of_getElem? (i := 60) rfl
theorem m_exm_BadFact_BadSize_false : (He.Fa.exm "BadFact" "BadSize" false) ∈ fa := List.mem_of_getElem? (i := 61) rfl
theorem m_exm_BadFact_BadText_false : (He.Fa.exm "BadFact" "BadText" false) ∈ fa := List.mem_of_getElem? (i := 62) rfl
theorem m_exm_BadFact_BadStore_false : (He.Fa.exm "BadFact" "BadStore" false) ∈ fa := List.mem_of_getElem? (i := 63) rfl
theorem m_exm_BadFact_NoPlan_false : (He.Fa.exm "BadFact" "NoPlan" false) ∈ fa := List.mem_of_getElem? (i := 64) rfl
theorem m_exm_BadFact_NoSuch_false : (He.Fa.exm "BadFact" "NoSuch" false) ∈ fa := List.mem_of_getElem? (i := 65) rfl
theorem m_exc_BadDeed : (He.Fa.exc "BadDeed") ∈ fa := List.mem_of_getElem? (i := 66) rfl
theorem m_exm_BadDeed_BadFact_false : (He.Fa.exm "BadDeed" "BadFact" false) ∈ fa := List.mem_of_getElem? (i := 67) rfl
theorem m_exm_BadDeed_BadDeed_true : (He.Fa.exm "BadDeed" "BadDeed" true) ∈ fa := List.mem_of_getElem? (i := 68) rfl
theorem m_exm_BadDeed_BadPlan_false : (He.Fa.exm "BadDeed" "BadPlan" false) ∈ fa := List.mem_of_getElem? (i := 69) rfl
theorem m_exm_BadDeed_BadPaper_false : (He.Fa.exm "BadDeed" "BadPaper" false) ∈ fa := List.mem_of_getElem? (i := 70) rfl
theorem m_exm_BadDeed_BadSize_false : (He.Fa.exm "BadDeed" "BadSize" false) ∈ fa := List.mem_of_getElem? (i := 71) rfl
theorem m_exm_BadDeed_BadText_false : (He.Fa.exm "BadDeed" "BadText" false) ∈ fa := List.mem_of_getElem? (i := 72) rfl
theorem m_exm_BadDeed_BadStore_false : (He.Fa.exm "BadDeed" "BadStore" false) ∈ fa := List.mem_of_getElem? (i := 73) rfl
theorem m_exm_BadDeed_NoPlan_false : (He.Fa.exm "BadDeed" "NoPlan" false) ∈ fa := List.mem_of_getElem? (i := 74) rfl
theorem m_exm_BadDeed_NoSuch_false : (He.Fa.exm "BadDeed" "NoSuch" false) ∈ fa := List.mem_of_getElem? (i := 75) rfl
theorem n_check_fact : d_check_fact ∈ fn := List.mem_of_getElem? (i := 0) rfl
theorem n_facts : d_facts ∈ fn := List.mem_of_getElem? (i := 1) rfl
theorem n_Deed_init : d_Deed_init ∈ fn := List.mem_of_getElem? (i := 2) rfl
theorem n_Deed_fits : d_Deed_fits ∈ fn := List.mem_of_getElem? (i := 3) rfl
theorem n_Deed_done : d_Deed_done ∈ fn := List.mem_of_getElem? (i := 4) rfl
theorem n_Deed_shown : d_Deed_shown ∈ fn := List.mem_of_getElem? (i := 5) rfl
theorem n_plain : d_plain ∈ fn := List.mem_of_getElem? (i := 6) rfl
theorem n_is_idle : d_is_idle ∈ fn := List.mem_of_getElem? (i := 7) rfl
theorem n_in_turn : d_in_turn ∈ fn := List.mem_of_getElem? (i := 8) rfl
theorem n_hurts : d_hurts ∈ fn := List.mem_of_getElem? (i := 9) rfl
theorem n_clash : d_clash ∈ fn := List.mem_of_getElem? (i := 10) rfl
theorem n_helps : d_helps ∈ fn := List.mem_of_getElem? (i := 11) rfl
theorem n_may_swap : d_may_swap ∈ fn := List.mem_of_getElem? (i := 12) rfl
theorem n_are_free : d_are_free ∈ fn := List.mem_of_getElem? (i := 13) rfl
theorem n_back_from : d_back_from ∈ fn := List.mem_of_getElem? (i := 14) rfl
theorem n_law_flat : d_law_flat ∈ fn := List.mem_of_getElem? (i := 15) rfl
theorem n_law_dice : d_law_dice ∈ fn := List.mem_of_getElem? (i := 16) rfl
theorem n_law_roll : d_law_roll ∈ fn := List.mem_of_getElem? (i := 17) rfl
theorem n_law_rounds : d_law_rounds ∈ fn := List.mem_of_getElem? (i := 18) rfl
theorem n_law_told : d_law_told ∈ fn := List.mem_of_getElem? (i := 19) rfl
theorem n_law_all : d_law_all ∈ fn := List.mem_of_getElem? (i := 20) rfl
theorem n_law_some : d_law_some ∈ fn := List.mem_of_getElem? (i := 21) rfl
theorem n_law_deed : d_law_deed ∈ fn := List.mem_of_getElem? (i := 22) rfl
theorem n_law_step : d_law_step ∈ fn := List.mem_of_getElem? (i := 23) rfl
theorem n_law_cases1 : d_law_cases1 ∈ fn := List.mem_of_getElem? (i := 24) rfl
theorem n_law_part1 : d_law_part1 ∈ fn := List.mem_of_getElem? (i := 25) rfl
theorem n_law_part2 : d_law_part2 ∈ fn := List.mem_of_getElem? (i := 26) rfl
theorem n_law : d_law ∈ fn := List.mem_of_getElem? (i := 27) rfl
theorem t_Deed_init : d_Deed_init.at_ ∈ tf := List.mem_of_getElem? (i := 0) rfl
theorem t_Deed_fits : d_Deed_fits.at_ ∈ tf := List.mem_of_getElem? (i := 1) rfl
theorem t_is_idle : d_is_idle.at_ ∈ tf := List.mem_of_getElem? (i := 2) rfl
theorem t_in_turn : d_in_turn.at_ ∈ tf := List.mem_of_getElem? (i := 3) rfl
theorem t_hurts : d_hurts.at_ ∈ tf := List.mem_of_getElem? (i := 4) rfl
theorem t_clash : d_clash.at_ ∈ tf := List.mem_of_getElem? (i := 5) rfl
theorem t_helps : d_helps.at_ ∈ tf := List.mem_of_getElem? (i := 6) rfl
theorem t_back_from : d_back_from.at_ ∈ tf := List.mem_of_getElem? (i := 7) rfl
theorem t_law_cases1 : d_law_cases1.at_ ∈ tf := List.mem_of_getElem? (i := 8) rfl
theorem t_law_part1 : d_law_part1.at_ ∈ tf := List.mem_of_getElem? (i := 9) rfl
theorem t_law : d_law.at_ ∈ tf := List.mem_of_getElem? (i := 10) rfl
abbrev N_check_fact : List PySem.Str := ["fact"]
abbrev p_check_fact : List PySem.Str := ["fact"]
theorem sc_check_fact : FnScope N_check_fact p_check_fact d_check_fact.scope := ⟨rfl, rfl, rfl, by decide +kernel, rfl, by decide +kernel, by decide +kernel⟩
theorem b_check_fact : PW.Bd d_check_fact p_check_fact (fun _ => []) := fun K fd F => ⟨[], .nil, FunD.bindsN F fun _ _ _ _ _ _ us hl => match us, hl with | [_], _ => rfl⟩
abbrev N_facts : List PySem.Str := ["words", "word"]
abbrev p_facts : List PySem.Str := ["words"]
theorem sc_facts : FnScope N_facts p_facts d_facts.scope := ⟨rfl, rfl, rfl, by decide +kernel, rfl, by decide +kernel, by decide +kernel⟩
theorem b_facts : PW.Bd d_facts p_facts (fun _ => []) := fun K fd F => ⟨[], .nil, FunD.bindsN F fun _ _ _ _ _ _ us hl => match us, hl with | [_], _ => rfl⟩
abbrev N_Deed_init : List PySem.Str := ["self", "name", "needs", "bars", "adds", "drops", "cost", "fact"]
abbrev p_Deed_init : List PySem.Str := ["self", "name", "needs", "bars", "adds", "drops", "cost"]
theorem sc_Deed_init : FnScope N_Deed_init p_Deed_init d_Deed_init.scope := ⟨rfl, rfl, rfl, by decide +kernel, rfl, by decide +kernel, by decide +kernel⟩
theorem b_Deed_init_6 : PW.Bd d_Deed_init p_Deed_init (fun K => (d_Deed_init.dvs K).drop 0) := fun K fd F => FunD.binds1 F 6 0 (by intro h; cases h) rfl fun _ _ _ _ _ _ _ us its hl hi => match us, its, hl, hi with | [_, _, _, _, _, _], [_], _, _ => ⟨_, rfl, rfl⟩
theorem b_Deed_init_7 : PW.Bd d_Deed_init p_Deed_init (fun K => (d_Deed_init.dvs K).drop 1) := fun K fd F => FunD.binds1 F 7 1 (by intro h; cases h) rfl fun _ _ _ _ _ _ _ us its hl hi => match us, its, hl, hi with | [_, _, _, _, _, _, _], [_], _, _ => ⟨_, rfl, rfl⟩
abbrev N_Deed_fits : List PySem.Str := ["self", "state"]
abbrev p_Deed_fits : List PySem.Str := ["self", "state"]
theorem sc_Deed_fits : FnScope N_Deed_fits p_Deed_fits d_Deed_fits.scope := ⟨rfl, rfl, rfl, by decide +kernel, rfl, by decide +kernel, by decide +kernel⟩
theorem b_Deed_fits : PW.Bd d_Deed_fits p_Deed_fits (fun _ => []) := fun K fd F => ⟨[], .nil, FunD.bindsN F fun _ _ _ _ _ _ us hl => match us, hl with | [_, _], _ => rfl⟩
abbrev N_Deed_done : List PySem.Str := ["self", "state", "fact"]
abbrev p_Deed_done : List PySem.Str := ["self", "state"]
theorem sc_Deed_done : FnScope N_Deed_done p_Deed_done d_Deed_done.scope := ⟨rfl, rfl, rfl, by decide +kernel, rfl, by decide +kernel, by decide +kernel⟩
theorem b_Deed_done : PW.Bd d_Deed_done p_Deed_done (fun _ => []) := fun K fd F => ⟨[], .nil, FunD.bindsN F fun _ _ _ _ _ _ us hl => match us, hl with | [_, _], _ => rfl⟩
abbrev N_Deed_shown : List PySem.Str := ["self"]
abbrev p_Deed_shown : List PySem.Str := ["self"]
theorem sc_Deed_shown : FnScope N_Deed_shown p_Deed_shown d_Deed_shown.scope := ⟨rfl, rfl, rfl, by decide +kernel, rfl, by decide +kernel, by decide +kernel⟩
theorem b_Deed_shown : PW.Bd d_Deed_shown p_Deed_shown (fun _ => []) := fun K fd F => ⟨[], .nil, FunD.bindsN F fun _ _ _ _ _ _ us hl => match us, hl with | [_], _ => rfl⟩
abbrev N_plain : List PySem.Str := ["name", "needs", "adds", "drops", "cost"]
abbrev p_plain : List PySem.Str := ["name", "needs", "adds", "drops", "cost"]
theorem sc_plain : FnScope N_plain p_plain d_plain.scope := ⟨rfl, rfl, rfl, by decide +kernel, rfl, by decide +kernel, by decide +kernel⟩
theorem b_plain_4 : PW.Bd d_plain p_plain (fun K => (d_plain.dvs K).drop 0) := fun K fd F => FunD.binds1 F 4 0 (by intro h; cases h) rfl fun _ _ _ _ _ _ _ us its hl hi => match us, its, hl, hi with | [_, _, _, _], [_], _, _ => ⟨_, rfl, rfl⟩
theorem b_plain_5 : PW.Bd d_plain p_plain (fun K => (d_plain.dvs K).drop 1) := fun K fd F => FunD.binds1 F 5 1 (by intro h; cases h) rfl fun _ _ _ _ _ _ _ us its hl hi => match us, its, hl, hi with | [_, _, _, _, _], [_], _, _ => ⟨_, rfl, rfl⟩
abbrev N_is_idle : List PySem.Str := ["deed"]
abbrev p_is_idle : List PySem.Str := ["deed"]
theorem sc_is_idle : FnScope N_is_idle p_is_idle d_is_idle.scope := ⟨rfl, rfl, rfl, by decide +kernel, rfl, by decide +kernel, by decide +kernel⟩
theorem b_is_idle : PW.Bd d_is_idle p_is_idle (fun _ => []) := fun K fd F => ⟨[], .nil, FunD.bindsN F fun _ _ _ _ _ _ us hl => match us, hl with | [_], _ => rfl⟩
abbrev N_in_turn : List PySem.Str := ["one", "other", "name", "needs", "fact", "bars", "adds", "drops"]
abbrev p_in_turn : List PySem.Str := ["one", "other", "name"]
theorem sc_in_turn : FnScope N_in_turn p_in_turn d_in_turn.scope := ⟨rfl, rfl, rfl, by decide +kernel, rfl, by decide +kernel, by decide +kernel⟩
theorem b_in_turn : PW.Bd d_in_turn p_in_turn (fun _ => []) := fun K fd F => ⟨[], .nil, FunD.bindsN F fun _ _ _ _ _ _ us hl => match us, hl with | [_, _, _], _ => rfl⟩
abbrev N_hurts : List PySem.Str := ["one", "other"]
abbrev p_hurts : List PySem.Str := ["one", "other"]
theorem sc_hurts : FnScope N_hurts p_hurts d_hurts.scope := ⟨rfl, rfl, rfl, by decide +kernel, rfl, by decide +kernel, by decide +kernel⟩
theorem b_hurts : PW.Bd d_hurts p_hurts (fun _ => []) := fun K fd F => ⟨[], .nil, FunD.bindsN F fun _ _ _ _ _ _ us hl => match us, hl with | [_, _], _ => rfl⟩
abbrev N_clash : List PySem.Str := ["one", "other"]
abbrev p_clash : List PySem.Str := ["one", "other"]
theorem sc_clash : FnScope N_clash p_clash d_clash.scope := ⟨rfl, rfl, rfl, by decide +kernel, rfl, by decide +kernel, by decide +kernel⟩
theorem b_clash : PW.Bd d_clash p_clash (fun _ => []) := fun K fd F => ⟨[], .nil, FunD.bindsN F fun _ _ _ _ _ _ us hl => match us, hl with | [_, _], _ => rfl⟩
abbrev N_helps : List PySem.Str := ["one", "other"]
abbrev p_helps : List PySem.Str := ["one", "other"]
theorem sc_helps : FnScope N_helps p_helps d_helps.scope := ⟨rfl, rfl, rfl, by decide +kernel, rfl, by decide +kernel, by decide +kernel⟩
theorem b_helps : PW.Bd d_helps p_helps (fun _ => []) := fun K fd F => ⟨[], .nil, FunD.bindsN F fun _ _ _ _ _ _ us hl => match us, hl with | [_, _], _ => rfl⟩
abbrev N_may_swap : List PySem.Str := ["one", "other"]
abbrev p_may_swap : List PySem.Str := ["one", "other"]
theorem sc_may_swap : FnScope N_may_swap p_may_swap d_may_swap.scope := ⟨rfl, rfl, rfl, by decide +kernel, rfl, by decide +kernel, by decide +kernel⟩
theorem b_may_swap : PW.Bd d_may_swap p_may_swap (fun _ => []) := fun K fd F => ⟨[], .nil, FunD.bindsN F fun _ _ _ _ _ _ us hl => match us, hl with | [_, _], _ => rfl⟩
abbrev N_are_free : List PySem.Str := ["one", "other"]
abbrev p_are_free : List PySem.Str := ["one", "other"]
theorem sc_are_free : FnScope N_are_free p_are_free d_are_free.scope := ⟨rfl, rfl, rfl, by decide +kernel, rfl, by decide +kernel, by decide +kernel⟩
theorem b_are_free : PW.Bd d_are_free p_are_free (fun _ => []) := fun K fd F => ⟨[], .nil, FunD.bindsN F fun _ _ _ _ _ _ us hl => match us, hl with | [_, _], _ => rfl⟩
abbrev N_back_from : List PySem.Str := ["goal", "bars", "deed", "wanted", "barred", "gives", "spoils", "needs_ahead", "fact", "bars_ahead"]
abbrev p_back_from : List PySem.Str := ["goal", "bars", "deed"]
theorem sc_back_from : FnScope N_back_from p_back_from d_back_from.scope := ⟨rfl, rfl, rfl, by decide +kernel, rfl, by decide +kernel, by decide +kernel⟩
theorem b_back_from : PW.Bd d_back_from p_back_from (fun _ => []) := fun K fd F => ⟨[], .nil, FunD.bindsN F fun _ _ _ _ _ _ us hl => match us, hl with | [_, _, _], _ => rfl⟩
abbrev N_law_flat : List PySem.Str := ["rows", "found", "row"]
abbrev p_law_flat : List PySem.Str := ["rows"]
theorem sc_law_flat : FnScope N_law_flat p_law_flat d_law_flat.scope := ⟨rfl, rfl, rfl, by decide +kernel, rfl, by decide +kernel, by decide +kernel⟩
theorem b_law_flat : PW.Bd d_law_flat p_law_flat (fun _ => []) := fun K fd F => ⟨[], .nil, FunD.bindsN F fun _ _ _ _ _ _ us hl => match us, hl with | [_], _ => rfl⟩
abbrev N_law_dice : List PySem.Str := ["cell"]
abbrev p_law_dice : List PySem.Str := ["cell"]
theorem sc_law_dice : FnScope N_law_dice p_law_dice d_law_dice.scope := ⟨rfl, rfl, rfl, by decide +kernel, rfl, by decide +kernel, by decide +kernel⟩
theorem b_law_dice : PW.Bd d_law_dice p_law_dice (fun _ => []) := fun K fd F => ⟨[], .nil, FunD.bindsN F fun _ _ _ _ _ _ us hl => match us, hl with | [_], _ => rfl⟩
abbrev N_law_roll : List PySem.Str := ["dice", "many", "found"]
abbrev p_law_roll : List PySem.Str := ["dice", "many"]
theorem sc_law_roll : FnScope N_law_roll p_law_roll d_law_roll.scope := ⟨rfl, rfl, rfl, by decide +kernel, rfl, by decide +kernel, by decide +kernel⟩
theorem b_law_roll : PW.Bd d_law_roll p_law_roll (fun _ => []) := fun K fd F => ⟨[], .nil, FunD.bindsN F fun _ _ _ _ _ _ us hl => match us, hl with | [_, _], _ => rfl⟩
abbrev N_law_rounds : List PySem.Str := ["script", "most", "cells", "cell"]
abbrev p_law_rounds : List PySem.Str := ["script", "most"]
theorem sc_law_rounds : FnScope N_law_rounds p_law_rounds d_law_rounds.scope := ⟨rfl, rfl, rfl, by decide +kernel, rfl, by decide +kernel, by decide +kernel⟩
theorem b_law_rounds : PW.Bd d_law_rounds p_law_rounds (fun _ => []) := fun K fd F => ⟨[], .nil, FunD.bindsN F fun _ _ _ _ _ _ us hl => match us, hl with | [_, _], _ => rfl⟩
abbrev N_law_told : List PySem.Str := ["what"]
abbrev p_law_told : List PySem.Str := ["what"]
theorem sc_law_told : FnScope N_law_told p_law_told d_law_told.scope := ⟨rfl, rfl, rfl, by decide +kernel, rfl, by decide +kernel, by decide +kernel⟩
theorem b_law_told : PW.Bd d_law_told p_law_told (fun _ => []) := fun K fd F => ⟨[], .nil, FunD.bindsN F fun _ _ _ _ _ _ us hl => match us, hl with | [_], _ => rfl⟩
abbrev N_law_all : List PySem.Str := ["values", "long", "found", "k", "row", "one"]
abbrev p_law_all : List PySem.Str := ["values", "long"]
theorem sc_law_all : FnScope N_law_all p_law_all d_law_all.scope := ⟨rfl, rfl, rfl, by decide +kernel, rfl, by decide +kernel, by decide +kernel⟩
theorem b_law_all : PW.Bd d_law_all p_law_all (fun _ => []) := fun K fd F => ⟨[], .nil, FunD.bindsN F fun _ _ _ _ _ _ us hl => match us, hl with | [_, _], _ => rfl⟩
abbrev N_law_some : List PySem.Str := ["dice", "row", "most", "one"]
abbrev p_law_some : List PySem.Str := ["dice", "row", "most"]
theorem sc_law_some : FnScope N_law_some p_law_some d_law_some.scope := ⟨rfl, rfl, rfl, by decide +kernel, rfl, by decide +kernel, by decide +kernel⟩
theorem b_law_some : PW.Bd d_law_some p_law_some (fun _ => []) := fun K fd F => ⟨[], .nil, FunD.bindsN F fun _ _ _ _ _ _ us hl => match us, hl with | [_, _, _], _ => rfl⟩
abbrev N_law_deed : List PySem.Str := ["dice", "name", "row", "bars", "free", "needs", "barred", "one", "adds", "drops"]
abbrev p_law_deed : List PySem.Str := ["dice", "name", "row", "bars", "free"]
theorem sc_law_deed : FnScope N_law_deed p_law_deed d_law_deed.scope := ⟨rfl, rfl, rfl, by decide +kernel, rfl, by decide +kernel, by decide +kernel⟩
theorem b_law_deed : PW.Bd d_law_deed p_law_deed (fun _ => []) := fun K fd F => ⟨[], .nil, FunD.bindsN F fun _ _ _ _ _ _ us hl => match us, hl with | [_, _, _, _, _], _ => rfl⟩
abbrev N_law_step : List PySem.Str := ["deed", "state", "one"]
abbrev p_law_step : List PySem.Str := ["deed", "state"]
theorem sc_law_step : FnScope N_law_step p_law_step d_law_step.scope := ⟨rfl, rfl, rfl, by decide +kernel, rfl, by decide +kernel, by decide +kernel⟩
theorem b_law_step : PW.Bd d_law_step p_law_step (fun _ => []) := fun K fd F => ⟨[], .nil, FunD.bindsN F fun _ _ _ _ _ _ us hl => match us, hl with | [_, _], _ => rfl⟩
abbrev N_law_cases1 : List PySem.Str := ["wrong", "pair"]
abbrev p_law_cases1 : List PySem.Str := []
theorem sc_law_cases1 : FnScope N_law_cases1 p_law_cases1 d_law_cases1.scope := ⟨rfl, rfl, rfl, by decide +kernel, rfl, by decide +kernel, by decide +kernel⟩
theorem b_law_cases1 : PW.Bd d_law_cases1 p_law_cases1 (fun _ => []) := fun K fd F => ⟨[], .nil, FunD.bindsN F fun _ _ _ _ _ _ us hl => match us, hl with | [], _ => rfl⟩
abbrev N_law_part1 : List PySem.Str := ["both", "one", "other", "row", "states", "told", "state", "fact"]
abbrev p_law_part1 : List PySem.Str := ["both", "one", "other", "row", "states"]
theorem sc_law_part1 : FnScope N_law_part1 p_law_part1 d_law_part1.scope := ⟨rfl, rfl, rfl, by decide +kernel, rfl, by decide +kernel, by decide +kernel⟩
theorem b_law_part1 : PW.Bd d_law_part1 p_law_part1 (fun _ => []) := fun K fd F => ⟨[], .nil, FunD.bindsN F fun _ _ _ _ _ _ us hl => match us, hl with | [_, _, _, _, _], _ => rfl⟩
abbrev N_law_part2 : List PySem.Str := ["one", "states", "fact", "state"]
abbrev p_law_part2 : List PySem.Str := ["one", "states"]
theorem sc_law_part2 : FnScope N_law_part2 p_law_part2 d_law_part2.scope := ⟨rfl, rfl, rfl, by decide +kernel, rfl, by decide +kernel, by decide +kernel⟩
theorem b_law_part2 : PW.Bd d_law_part2 p_law_part2 (fun _ => []) := fun K fd F => ⟨[], .nil, FunD.bindsN F fun _ _ _ _ _ _ us hl => match us, hl with | [_, _], _ => rfl⟩
abbrev N_law : List PySem.Str := ["script", "row", "states", "marks", "k", "dice", "one", "other", "state", "due", "both", "there", "fact", "turned", "free_now", "a", "b", "fit", "goal", "bars", "back", "mine", "useful", "word"]
abbrev p_law : List PySem.Str := ["script"]
theorem sc_law : FnScope N_law p_law d_law.scope := ⟨rfl, rfl, rfl, by decide +kernel, rfl, by decide +kernel, by decide +kernel⟩
theorem b_law : PW.Bd d_law p_law (fun _ => []) := fun K fd F => ⟨[], .nil, FunD.bindsN F fun _ _ _ _ _ _ us hl => match us, hl with | [_], _ => rfl⟩
end PT
end

section
set_option Elab.async false
set_option linter.all false
set_option autoImplicit false
set_option maxRecDepth 100000
set_option maxHeartbeats 9000000
namespace PK
open PySem PySem.Spec PyProof.Rows L2 GxR PW PT

abbrev SG : Str := "abcdefghijklmnopqrstuvwxyz0123456789_-,()"
/-- a text of ordinary length -/
def okW (x : Str) : Prop := x.length ≤ 1000 ∧ (reprText x).length ≤ 10000
def isFact (x : Str) : Bool := !(decide (x = "") || !decide (Txt.stripChars x SG = ""))
/-- the error's class -/
abbrev cls (K : PySem.W.Frag) (x : Str) : Value := .ref (He.ga K x)
section
variable {P : Program} {w : World} {K : PySem.W.Frag} {mg : Str → Option Value} {base : Heap} {T : Tn}
def pre_check (a : Str) (vs : List V) (_ : Hp) : Prop := vs = [.str a] ∧ okW a
def x_check (K : PySem.W.Frag) (a : Str) : Option Value := if isFact a then none else some (cls K "BadFact")
def post_check (a : Str) (v : V) (_ : Hp) : Prop := v = .str a
abbrev sp_check (T : Tn) (K : PySem.W.Frag) : Sp := spX T pre_check (x_check K) post_check
theorem eq_str {x y : Str} : decide (V.str x = V.str y) = decide (x = y) := by
  rw [Bool.eq_iff_iff]; simp
theorem c_check (D : HD P w K mg base fa fn tf) : Cl P w K mg base d_check_fact 2 p_check_fact (sp_check T K) := by
  obtain ⟨x1, x2, x3, x4⟩ := He.exc_ok (D.fact _ m_exc_BadFact)
  obtain ⟨sg, hsg⟩ := He.str_ok D.kin D.ns (D.fact _ m_str_SIGNS)
  refine D.cl n_check_fact sc_check_fact (sp_len fun a vs H p => by rw [p.1]; rfl) fun A outer s H vs Q E hr h => ?_
  obtain ⟨a, ⟨rfl, ha, hra⟩, tb, hq, hx⟩ := h
  refine ⟨_, pss_cons (ps_if (pw_or (pt_cmpR op_eq (pv 0) pe_str (nomark _)) (pw_or1 (pt_cmpR op_ne (pe_m1 PySem.F.slot_str_strip PySem.F.type_str_strip mt_stripChars (pv 0) (pe_glob (v := .str SG) (by exact rfl) hsg ⟨_, rfl⟩)) pe_str (nomark _)))).pt
      (pss_one (ps_raise rfl takesO (SkE.pmk_own1 PySem.F.excBase_ValueError x1 (D.glo m_glo_BadFact) x2 (raises_own x3 x4) (by exact rfl) (pe_joined (.cons pe_str (.cons (pe_fmtR (pv 0)) .nil)))))) pss_nil)
    (pss_one (ps_ret (pv 0))), ?_⟩
  refine sq_if (T := T) (b := !isFact a) tb ?_ (fun hb H1 e1 t1 => ?_) (fun hb H1 e1 t1 => ?_)
  · refine (et_or (b := !decide (Txt.stripChars a SG = "")) (a := decide (a = "")) (et_test ?_) fun _ => et_test ?_).is (by unfold isFact; rw [Bool.not_not])
    · exact ev_op2 (ev_var rfl) ev_c fun H1 Q q => ⟨rfl, by rw [eq_str]; exact q⟩
    · refine ev_op (Pa := Is (.str (Txt.stripChars a SG))) (Pb := Is (.str "")) ?_ ev_c is_mono fun x y H1 e t px py Q q => ?_
      · intro H1 e t Q q
        exact ⟨_, rfl, ⟨a, rfl⟩, ⟨a, SG, rfl, rfl, by rw [sizeLine_eq]; omega, q _ H1 (.refl T _) t rfl⟩⟩
      · rw [show x = _ from px, show y = _ from py]
        exact ⟨rfl, by rw [eq_str]; exact q _ H1 (.refl T H1) t rfl⟩
  · have hf : isFact a = false := by cases q : isFact a <;> simp [q] at hb ⊢
    refine ⟨_, rfl, ?_, V.str a, rfl, .inl ⟨a, rfl, by rw [sizeLine_eq]; omega, ?_⟩⟩
    · decide +kernel
    · refine ⟨_, rfl, ?_, ?_⟩
      · rw [PySem.Str.length_append]
        have : (Str.empty ++ ("not a fact: " : Str)).length = 12 := by decide +kernel
        rw [this, sizeLine_eq]
        omega
      · exact hx _ (by unfold x_check; rw [hf]; rfl) H1 e1 t1
  · have hf : isFact a = true := by cases q : isFact a <;> simp [q] at hb ⊢
    exact st_ret t1 (ev_var rfl) fun v H2 e2 t2 pv => hq (by unfold x_check; rw [hf]; rfl) v H2 (e1.trans e2) t2 pv

abbrev row : List Str := ["a", "b", "c", "d"]
theorem rowOk : rowB row = true := by decide +kernel
abbrev sb (p : Str → Bool) : List Str := sub row p
def pre_facts (K : PySem.W.Frag) (a : List Str) (vs : List V) (H : Hp) : Prop := ∃ v, vs = [v] ∧ Sq K H v (a.map .str) ∧ a.length ≤ 1000 ∧ (∀ k ∈ a, okW k) ∧ (a.all isFact = true → ∀ k ∈ a, k ∈ row)
def x_facts (K : PySem.W.Frag) (a : List Str) : Option Value := if a.all isFact then none else some (cls K "BadFact")
def post_facts (a : List Str) (v : V) (H : Hp) : Prop := Nt H v ((sb fun x => decide (x ∈ a)).map .str)
abbrev sp_facts (T : Tn) (K : PySem.W.Frag) : Sp := spX T (pre_facts K) (x_facts K) post_facts
theorem c_facts (D : HD P w K mg base fa fn tf) : Cl P w K mg base d_facts 3 p_facts (sp_facts T K) := by
  refine D.cl n_facts sc_facts (sp_len fun a vs H ⟨v, e, _⟩ => by rw [e]; rfl) fun A outer s H vs Q E hr h => ?_
  obtain ⟨a, ⟨v, rfl, hv, hl, hw, hrow⟩, tb, hq, hx⟩ := h
  refine ⟨_, pss_one (ps_ret (pe_callTy call_tuple_of (by exact rfl) (D.free m_free_tuple) (by decide +kernel) (pa_cons (pe_callB (cr_sortedT rfl) (by exact rfl) (D.free m_free_sorted) (by decide +kernel)
    (pa_cons (pe_sc (own := [("word", 1)]) (te := fun E' => tCall (sp_check T K) [] E' (tCons (tVar 1) tNil)) rfl takesO rfl rfl sc_facts.nd (pi_sq (pv 0)) (blkOk_by (by kernel_rfl)) (fun s H C cl fp xe => pg_name (i := 1) (by exact sc_facts.nd) rfl (.inl rfl))
      (fun s H C cl fp xe E' hp => pe_k (c_check (T := T) D) b_check_fact hr (by decide) (by exact rfl) (D.glo m_glo_check_fact) hp (pa_cons (pv 1) pa_nil))) pa_nil)) pa_nil))), ?_⟩
  have hi : EvI T (iSq K (tVar 0)) (start N_facts [v]) H (a.map V.str) := ei_sq ((ev_var rfl).imp fun u H1 e z => by rw [show u = v from z]; exact hv.ex e)
  have he : ∀ k H1 (E' : XK) (Q : VK), k ∈ a → Ex T H H1 → Tb T H1 → (isFact k = true → ∀ H2, Ex T H1 H2 → Tb T H2 → Q (.str k) H2) → (isFact k = false → ∀ H2, Ex T H1 H2 → Tb T H2 → E' (cls K "BadFact") none H2) →
      tCall (sp_check T K) [] E' (tCons (tVar 1) tNil) ((wipe (start N_facts [v]) [1]).set 1 (some (.str k))) H1 Q := fun k H1 E' Q hk e1 t1 q1 q2 => by
    refine ev_fx (H := H1) k (ea_is (ev_var rfl) ea_nil) (fun vs H2 e ev => ⟨by rw [ev]; rfl, hw k hk⟩) H1 (.refl T _) t1 Q (fun hn u H2 e2 t2 po => ?_) (fun c hc H2 e2 t2 => ?_)
    · have hf : isFact k = true := by
        cases q : isFact k with
        | true => rfl
        | false => unfold x_check at hn; rw [q] at hn; cases hn
      rw [show u = V.str k from po]
      exact q1 hf H2 e2 t2
    · have hf : isFact k = false := by
        cases q : isFact k with
        | false => rfl
        | true => unfold x_check at hc; rw [q] at hc; cases hc
      unfold x_check at hc
      rw [hf] at hc
      cases hc
      exact q2 hf H2 e2 t2
  cases hg : a.all isFact with
  | true =>
    refine st_ret tb (ev_tupleOf (xs := (sb fun x => decide (x ∈ a)).map V.str) ((ev_sortedT (ks := a) (ev_scOk (good := isFact) (C := cls K "BadFact") hg hi hl (fun _ => rfl) he)).imp ?_)) fun u H1 e1 t1 p1 => hq (by unfold x_facts; rw [hg]; rfl) u H1 e1 t1 p1
    rintro u H1 e1 ⟨ns, h1, h2, h3, h4⟩
    have h5 := h1.li (K := K)
    rw [ord_sub rowOk ⟨h2, h3, h4⟩ (hrow hg)] at h5
    exact h5
  | false =>
    exact rz_ret (rz_cb (rz_cons (rz_cb (rz_cons fun Q0 => ev_scX (W := fun cls d _ H' => E cls d H') (good := isFact) (C := cls K "BadFact") hi hl (fun _ => rfl) he H (.refl T _) tb _ (fun hb => by rw [hg] at hb; cases hb) fun _ H2 e2 t2 => hx _ (by unfold x_facts; rw [hg]; rfl) H2 e2 t2))))

/-! ### deeds -/
structure DD where
  name : Str
  needs : Str → Bool
  bars : Str → Bool
  adds : Str → Bool
  drops : Str → Bool
  cost : Int
abbrev CD (K : PySem.W.Frag) : Addr := He.ga K "Deed"
/-- a row of texts, as a tuple -/
abbrev NtS (H : Hp) (v : V) (p : Str → Bool) : Prop := Nt H v ((sb p).map V.str)
def flds (d : DD) (n b a r : V) : List (Str × V) := [("name", .str d.name), ("needs", n), ("bars", b), ("adds", a), ("drops", r), ("cost", .int d.cost)]
/-- v is the deed d -/
def IsD (K : PySem.W.Frag) (d : DD) (v : V) (H : Hp) : Prop := ∃ o dx n b a r, v = .ref o ∧ H o = some (.ins (CD K) dx (flds d n b a r)) ∧ NtS H n d.needs ∧ NtS H b d.bars ∧ NtS H a d.adds ∧ NtS H r d.drops
theorem IsD.ex {H H' : Hp} {d : DD} {v : V} (e : Ex T H H') (h : IsD K d v H) : IsD K d v H' := let ⟨o, dx, n, b, a, r, e1, e2, e3, e4, e5, e6⟩ := h
  ⟨o, dx, n, b, a, r, e1, e.obj o _ e2 (fun _ z => by cases z), e3.ex e, e4.ex e, e5.ex e, e6.ex e⟩
/-- the defs with any, all; with lambdas -/
def tfG : List He.Defn := [d_Deed_init.at_, d_Deed_fits.at_, d_is_idle.at_, d_in_turn.at_, d_hurts.at_, d_clash.at_, d_helps.at_, d_back_from.at_]
structure TO (K : PySem.W.Frag) (T : Tn) : Prop where
  g : ∀ p ∈ tfG, (He.cT K p).2 ∈ T.g ∧ ∀ r ∈ T.l, r.1 ≠ (He.cT K p).2
structure DA where
  nm : Str
  needs : List Str
  bars : List Str
  adds : List Str
  drops : List Str
  cost : Int
def DA.all (a : DA) : List Str := a.needs ++ a.bars ++ a.adds ++ a.drops
def DA.dd (a : DA) : DD := ⟨a.nm, fun x => decide (x ∈ a.needs), fun x => decide (x ∈ a.bars), fun x => decide (x ∈ a.adds), fun x => decide (x ∈ a.drops) && !decide (x ∈ a.adds), a.cost⟩
def DA.bad (a : DA) : Bool := (row.any fun x => decide (x ∈ a.needs) && decide (x ∈ a.bars)) || decide (a.cost < 0)
def x_init (K : PySem.W.Frag) (a : DA) : Option Value := if isFact a.nm && a.all.all isFact then (if a.bad then some (cls K "BadDeed") else none) else some (cls K "BadFact")
def okL (K : PySem.W.Frag) (H : Hp) (v : V) (a : List Str) : Prop := Sq K H v (a.map .str) ∧ a.length ≤ 1000 ∧ (∀ k ∈ a, okW k) ∧ (a.all isFact = true → ∀ k ∈ a, k ∈ row)
theorem okL.ex {H H' : Hp} {v : V} {a : List Str} (e : Ex T H H') (h : okL K H v a) : okL K H' v a := ⟨h.1.ex e, h.2⟩
def pre_init (K : PySem.W.Frag) (a : DA) (vs : List V) (H : Hp) : Prop := ∃ n b d r, vs = [.str a.nm, n, b, d, r, .int a.cost] ∧ okW a.nm ∧ okL K H n a.needs ∧ okL K H b a.bars ∧ okL K H d a.adds ∧ okL K H r a.drops
/-- the promise of __init__: of an instance that is new -/
def sp_init (T : Tn) (K : PySem.W.Frag) : Sp := fun vs H Q E => ∃ (a : DA) (H0 : Hp) (x dx : Addr) (us : List V), vs = .ref x :: us ∧ H = upd (upd H0 dx (.own x)) x (.ins (CD K) dx []) ∧ H0 x = none ∧ H0 dx = none ∧ dx ≠ x ∧ Tb T H0 ∧ pre_init K a us H0 ∧
  (x_init K a = none → ∀ H', Ex T H0 H' → Tb T H' → IsD K a.dd (.ref x) H' → Q .non H') ∧ ∀ c, x_init K a = some c → ∀ H', Ex T H0 H' → Tb T H' → E c none H'
theorem fact_of {a : List Str} {K : PySem.W.Frag} : x_facts K a = (if a.all isFact then none else some (cls K "BadFact")) := rfl
theorem ev_facts {σ : L2.St} {H : Hp} {E : XK} {te : TE} {L : List Str} (h : Ev T te σ H fun u H1 => okL K H1 u L) (hg : L.all isFact = true) : Ev T (tCall (sp_facts T K) [] E (tCons te tNil)) σ H fun u H1 => NtS H1 u fun x => decide (x ∈ L) :=
  ev_f (Pa := fun vs H1 => ∃ x, vs = [x] ∧ okL K H1 x L) L (by unfold x_facts; rw [hg]; rfl) (ea_one h fun _ _ _ e o => o.ex e) fun vs H1 e ⟨u, ev, o⟩ => ⟨u, by rw [ev]; rfl, o⟩
theorem rz_facts {σ : L2.St} {H : Hp} {E : XK} {te : TE} {L : List Str} (h : Ev T te σ H fun u H1 => okL K H1 u L) (tb : Tb T H) (hg : L.all isFact = false) (k : ∀ H', Ex T H H' → Tb T H' → E (cls K "BadFact") none H') : Rz (tCall (sp_facts T K) [] E (tCons te tNil)) σ H :=
  rz_f (Pa := fun vs H1 => ∃ x, vs = [x] ∧ okL K H1 x L) L _ (by unfold x_facts; rw [hg]; rfl) tb (ea_one h fun _ _ _ e o => o.ex e) (fun vs H1 e ⟨u, ev, o⟩ => ⟨u, by rw [ev]; rfl, o⟩) k
theorem ev_okL {σ : L2.St} {H : Hp} {i : Nat} {v : V} {L : List Str} (hs : σ[i]? = some (some v)) (o : okL K H v L) : Ev T (tVar i) σ H fun u H1 => okL K H1 u L := (ev_var hs).imp fun u H1 e z => by rw [show u = v from z]; exact o.ex e
theorem nt_ins {H : Hp} {x C dx : Addr} {fs fs' : List (Str × V)} {C' dx' : Addr} {u : V} {xs : List V} (hx : H x = some (.ins C dx fs)) (h : Nt H u xs) : Nt (upd H x (.ins C' dx' fs')) u xs := by
  obtain ⟨a, e, q⟩ := h
  refine ⟨a, e, ?_⟩
  rw [upd_ne (fun z => by rw [z, hx] at q; cases q)]
  exact q
theorem step_facts {σ : L2.St} {H H0 : Hp} {E : XK} {tz : TS} {D : Ends} {f : Str} {x dx : Addr} {fs : List (Str × V)} {i : Nat} {v : V} {L : List Str} (hC : Cls K (CD K)) (hn : NoAttr K (CD K) f) (tb0 : Tb T H0) (e : Ex T H0 H) (hx0 : H0 x = none) (hx : H x = some (.ins (CD K) dx fs)) (tb : Tb T H) (hl : fs.length < 1000)
    (h0 : σ[0]? = some (some (.ref x))) (hs : σ[i]? = some (some v)) (o : okL K H0 v L) (bad : L.all isFact = false → ∀ H', Ex T H0 H' → Tb T H' → E (cls K "BadFact") none H')
    (k : L.all isFact = true → ∀ u H', Ex T H0 H' → Tb T H' → H' x = some (.ins (CD K) dx (putF f u fs)) → (NtS H' u fun x => decide (x ∈ L)) → (∀ z p, NtS H z p → NtS H' z p) → tz D σ H') : tSeq (sFld K (tVar 0) (tCall (sp_facts T K) [] E (tCons (tVar i) tNil)) f) tz D σ H := by
  cases hg : L.all isFact with
  | false => exact rz_seq fun D => rz_fld (rz_facts (ev_okL hs (o.ex e)) tb hg fun H' e' t' => bad hg H' (e.trans e') t')
  | true =>
    refine sq_fld tb h0 hx hC hn hl (ev_facts (ev_okL hs (o.ex e)) hg) fun u H1 e1 t1 p1 => ?_
    have hx1 := e1.obj x _ hx (fun _ z => by cases z)
    have e2 : Ex T H0 (upd H1 x (.ins (CD K) dx (putF f u fs))) := Ex.ins (e.trans e1) hx0 hx1
    exact k hg u _ e2 (e2.tb tb0) upd_same (nt_ins hx1 p1) fun z p q => nt_ins hx1 (q.ex e1)
theorem c_init (D : HD P w K mg base fa fn tf) (TT : TO K T) : Cl P w K mg base d_Deed_init 6 p_Deed_init (sp_init T K) := by
  obtain ⟨x1, x2, x3, x4⟩ := He.exc_ok (D.fact _ m_exc_BadDeed)
  have hC := He.cls_ok (D.fact _ m_cls_Deed)
  obtain ⟨hP, hPd⟩ := TT.g d_Deed_init.at_ (by decide +kernel)
  refine D.cl n_Deed_init sc_Deed_init (fun vs H Q E ⟨a, H0, x, dx, us, e, _, _, _, _, _, ⟨n, b, d, r, e2, _⟩, _⟩ => by rw [e, e2]; rfl) fun A outer s H vs Q E hr h => ?_
  refine ⟨_, pss_cons (ps_fld (pv 0) (pe_k (c_check (T := T) D) b_check_fact hr (by decide) (by exact rfl) (D.glo m_glo_check_fact) passO (pa_cons (pv 1) pa_nil)) (by exact rfl))
    (pss_cons (ps_fld (pv 0) (pe_k (c_facts (T := T) D) b_facts hr (by decide) (by exact rfl) (D.glo m_glo_facts) passO (pa_cons (pv 2) pa_nil)) (by exact rfl))
    (pss_cons (ps_fld (pv 0) (pe_k (c_facts (T := T) D) b_facts hr (by decide) (by exact rfl) (D.glo m_glo_facts) passO (pa_cons (pv 3) pa_nil)) (by exact rfl))
    (pss_cons (ps_fld (pv 0) (pe_k (c_facts (T := T) D) b_facts hr (by decide) (by exact rfl) (D.glo m_glo_facts) passO (pa_cons (pv 4) pa_nil)) (by exact rfl))
    (pss_cons (ps_fld (pv 0) (pe_callTy call_tuple_of (by exact rfl) (D.free m_free_tuple) (by decide +kernel) (pa_cons (pe_lc (own := [("fact", 7)]) (te := tVar 7) (tt := tTest (tOp (rIn K true) (tVar 7) (tFld K (tVar 0) "adds"))) rfl sc_Deed_init.nd
        (pi_sq (pe_k (c_facts (T := T) D) b_facts hr (by decide) (by exact rfl) (D.glo m_glo_facts) passO (pa_cons (pv 5) pa_nil))) (blkOk_by (by kernel_rfl)) (fun s H C cl fp => pg_name (i := 7) (by exact sc_Deed_init.nd) rfl (.inl rfl))
        (fun s H C cl fp => pts_one (pt_cmpR op_notIn_seq (pv 7) (pe_fld (pv 0) (by exact rfl)) (by with_unfolding_all rfl))) (fun s H C cl fp => pv 7)) pa_nil)) (by exact rfl))
    (pss_cons (ps_fld (pv 0) (pv 6) (by exact rfl))
    (pss_cons (ps_if (pt_val (pe_anyQ hr (by exact rfl) (D.free m_free_any) (D.gtab t_Deed_init) rfl (genF_by (by kernel_rfl)) (pe_fld (pv 0) (by exact rfl)))) (pss_one (ps_raise rfl takesO (SkE.pmk_own1 PySem.F.excBase_ValueError x1 (D.glo m_glo_BadDeed) x2 (raises_own x3 x4) (by exact rfl) (pe_joined (.cons pe_str (.cons (pe_fmt (pv 1)) .nil)))))) pss_nil)
    (pss_one (ps_if (pt_cmpR op_lt (pv 6) pe_int (nomark _)) (pss_one (ps_raise rfl takesO (SkE.pmk_own1 PySem.F.excBase_ValueError x1 (D.glo m_glo_BadDeed) x2 (raises_own x3 x4) (by exact rfl) (pe_joined (.cons pe_str (.cons (pe_fmt (pv 1)) .nil)))))) pss_nil)))))))), ?_⟩
  obtain ⟨a, H0, x, dx, us, rfl, rfl, hx0, hdx0, hne, tb0, ⟨n, b, d, r, rfl, hnm, on, ob, od, or_⟩, hq, hbad⟩ := h
  have nName := He.noat_ok (D.fact _ m_noat_Deed_name)
  have nNeeds := He.noat_ok (D.fact _ m_noat_Deed_needs)
  have nBars := He.noat_ok (D.fact _ m_noat_Deed_bars)
  have nAdds := He.noat_ok (D.fact _ m_noat_Deed_adds)
  have nDrops := He.noat_ok (D.fact _ m_noat_Deed_drops)
  have nCost := He.noat_ok (D.fact _ m_noat_Deed_cost)
  have badF : isFact a.nm = false ∨ a.all.all isFact = false → ∀ H', Ex T H0 H' → Tb T H' → E (cls K "BadFact") none H' := fun hb => hbad _ (by
    unfold x_init
    rw [if_neg]
    rcases hb with z | z <;> rw [z] <;> simp)
  have sub4 : ∀ L : List Str, (∀ k ∈ L, k ∈ a.all) → L.all isFact = false → a.all.all isFact = false := fun L hL hb => by
    cases q : a.all.all isFact with
    | false => rfl
    | true =>
      have := List.all_eq_true.mp q
      rw [List.all_eq_true.mpr fun k hk => this k (hL k hk)] at hb
      cases hb
  have hdx : upd H0 dx (.own x) x = none := by rw [upd_ne (Ne.symm hne)]; exact hx0
  have e0 : Ex T H0 (upd (upd H0 dx (.own x)) x (.ins (CD K) dx [])) := (Ex.new hdx0).trans (.new hdx)
  have h0 : (start N_Deed_init [.ref x, .str a.nm, n, b, d, r, .int a.cost])[0]? = some (some (.ref x)) := rfl
  generalize hH : upd (upd H0 dx (.own x)) x (.ins (CD K) dx []) = H at e0 ⊢
  have hx : H x = some (.ins (CD K) dx []) := by rw [← hH]; exact upd_same
  have t0 := e0.tb tb0
  cases hf : isFact a.nm with
  | false => exact rz_seq fun D => rz_fld (rz_f (Pa := fun vs _ => vs = [.str a.nm]) a.nm _ (by unfold x_check; rw [hf]; rfl) t0 (ea_is (ev_var rfl) ea_nil) (fun vs H1 e ev => ⟨by rw [ev]; rfl, hnm⟩) fun H' e' t' => badF (.inl hf) H' (e0.trans e') t')
  | true =>
  refine sq_fld t0 h0 hx hC nName (by decide) (ev_f (Pa := fun vs _ => vs = [.str a.nm]) a.nm (by unfold x_check; rw [hf]; rfl) (ea_is (ev_var rfl) ea_nil) (fun vs H1 e ev => ⟨by rw [ev]; rfl, hnm⟩)) fun v1 H1 e1 t1 p1 => ?_
  have ev1 : v1 = .str a.nm := p1
  subst ev1
  have hx1 := e1.obj x _ hx (fun _ z => by cases z)
  have e1' : Ex T H0 (upd H1 x (.ins (CD K) dx [("name", .str a.nm)])) := Ex.ins (e0.trans e1) hx0 hx1
  refine step_facts (fs := [("name", .str a.nm)]) hC nNeeds tb0 e1' hx0 upd_same (e1'.tb tb0) (by show 1 < 1000; decide) h0 rfl on (fun hb => badF (.inr (sub4 _ (fun k hk => by unfold DA.all; simp [hk]) hb))) fun g2 u2 H2 e2 t2 hx2 p2 _ => ?_
  refine step_facts (fs := [("name", .str a.nm), ("needs", u2)]) hC nBars tb0 e2 hx0 hx2 t2 (by show 2 < 1000; decide) h0 rfl ob (fun hb => badF (.inr (sub4 _ (fun k hk => by unfold DA.all; simp [hk]) hb))) fun g3 u3 H3 e3 t3 hx3 p3 k3 => ?_
  have p2 := k3 _ _ p2
  refine step_facts (fs := [("name", .str a.nm), ("needs", u2), ("bars", u3)]) hC nAdds tb0 e3 hx0 hx3 t3 (by show 3 < 1000; decide) h0 rfl od (fun hb => badF (.inr (sub4 _ (fun k hk => by unfold DA.all; simp [hk]) hb))) fun g4 u4 H4 e4 t4 hx4 p4 k4 => ?_
  have p2 := k4 _ _ p2
  have p3 := k4 _ _ p3
  cases g5 : a.drops.all isFact with
  | false => exact rz_seq fun D => rz_fld (rz_cb (rz_cons fun Q0 => rz_facts (ev_okL rfl (or_.ex e4)) t4 g5 (fun H' e' t' => badF (.inr (sub4 _ (fun k hk => by unfold DA.all; simp [hk]) g5)) H' (e4.trans e') t') _))
  | true =>
  have allF : a.all.all isFact = true := by
    unfold DA.all
    rw [List.all_append, List.all_append, List.all_append, g2, g3, g4, g5]
    rfl
  refine sq_fld (fs := [("name", .str a.nm), ("needs", u2), ("bars", u3), ("adds", u4)]) t4 h0 hx4 hC nDrops (by show 4 < 1000; decide) (ev_tupleOf (xs := (sb fun x => decide (x ∈ a.drops) && !decide (x ∈ a.adds)).map V.str) ((ev_lcS (ks := sb fun x => decide (x ∈ a.drops)) (fun k => !decide (k ∈ a.adds)) (ei_sq ((ev_facts (ev_okL rfl (or_.ex e4)) g5).imp fun u H5 e5 z => z.sq)) ?_ (fun _ => rfl) (fun _ => rfl) fun k H5 hk e5 => ?_).imp ?_)) fun u5 H5 e5 t5 p5 => ?_
  · exact Nat.le_trans sub_len (by decide)
  · have hk2 : k ∈ row := (mem_sub.mp hk).1
    refine et_test ((ev_in (K := K) (neg := true) (ks := sb fun x => decide (x ∈ a.adds)) (ev_var rfl) ((ev_fld (v := u4) (ev_var rfl) (e5.obj x _ hx4 (fun _ z => by cases z)) hC nAdds rfl).imp fun u H6 e6 z => ?_)).is ?_)
    · rw [show u = u4 from z]
      exact ((p4.ex e5).ex e6).sq
    · show V.bl (!decide _) = _
      rw [dec_sub hk2]
  · intro u H5 e5 z
    rw [filter_sub] at z
    exact z.li
  have p5n : NtS H5 u5 fun x => decide (x ∈ a.drops) && !decide (x ∈ a.adds) := p5
  have hx5 := e5.obj x _ hx4 (fun _ z => by cases z)
  have keep5 : ∀ z p, NtS H4 z p → NtS (upd H5 x (.ins (CD K) dx [("name", .str a.nm), ("needs", u2), ("bars", u3), ("adds", u4), ("drops", u5)])) z p := fun z p q => nt_ins hx5 (q.ex e5)
  have q5 := nt_ins (C' := CD K) (dx' := dx) (fs' := [("name", .str a.nm), ("needs", u2), ("bars", u3), ("adds", u4), ("drops", u5)]) hx5 p5n
  have e5' : Ex T H0 (upd H5 x (.ins (CD K) dx [("name", .str a.nm), ("needs", u2), ("bars", u3), ("adds", u4), ("drops", u5)])) := Ex.ins (e4.trans e5) hx0 hx5
  have q2 := keep5 _ _ p2
  have q3 := keep5 _ _ p3
  have q4 := keep5 _ _ p4
  show tSeq _ _ _ _ (upd H5 x (.ins (CD K) dx [("name", .str a.nm), ("needs", u2), ("bars", u3), ("adds", u4), ("drops", u5)]))
  have hx5' : (upd H5 x (.ins (CD K) dx [("name", .str a.nm), ("needs", u2), ("bars", u3), ("adds", u4), ("drops", u5)])) x = _ := upd_same
  generalize upd H5 x (.ins (CD K) dx [("name", .str a.nm), ("needs", u2), ("bars", u3), ("adds", u4), ("drops", u5)]) = H6 at e5' q2 q3 q4 q5 hx5' ⊢
  refine sq_fld (fs := [("name", .str a.nm), ("needs", u2), ("bars", u3), ("adds", u4), ("drops", u5)]) (e5'.tb tb0) h0 hx5' hC nCost (by show 5 < 1000; decide) (ev_var rfl) fun u6 H7 e6 t6 p6 => ?_
  have eu6 : u6 = .int a.cost := p6
  subst eu6
  have hx7 := e6.obj x _ hx5' (fun _ z => by cases z)
  have e7 : Ex T H0 (upd H7 x (.ins (CD K) dx [("name", .str a.nm), ("needs", u2), ("bars", u3), ("adds", u4), ("drops", u5), ("cost", .int a.cost)])) := Ex.ins (e5'.trans e6) hx0 hx7
  have q2 := nt_ins (C' := CD K) (dx' := dx) (fs' := [("name", .str a.nm), ("needs", u2), ("bars", u3), ("adds", u4), ("drops", u5), ("cost", .int a.cost)]) hx7 (q2.ex e6)
  have q3 := nt_ins (C' := CD K) (dx' := dx) (fs' := [("name", .str a.nm), ("needs", u2), ("bars", u3), ("adds", u4), ("drops", u5), ("cost", .int a.cost)]) hx7 (q3.ex e6)
  have q4 := nt_ins (C' := CD K) (dx' := dx) (fs' := [("name", .str a.nm), ("needs", u2), ("bars", u3), ("adds", u4), ("drops", u5), ("cost", .int a.cost)]) hx7 (q4.ex e6)
  have q5 := nt_ins (C' := CD K) (dx' := dx) (fs' := [("name", .str a.nm), ("needs", u2), ("bars", u3), ("adds", u4), ("drops", u5), ("cost", .int a.cost)]) hx7 (q5.ex e6)
  show tSeq _ _ _ _ (upd H7 x (.ins (CD K) dx [("name", .str a.nm), ("needs", u2), ("bars", u3), ("adds", u4), ("drops", u5), ("cost", .int a.cost)]))
  have hx8 : (upd H7 x (.ins (CD K) dx [("name", .str a.nm), ("needs", u2), ("bars", u3), ("adds", u4), ("drops", u5), ("cost", .int a.cost)])) x = _ := upd_same
  generalize upd H7 x (.ins (CD K) dx [("name", .str a.nm), ("needs", u2), ("bars", u3), ("adds", u4), ("drops", u5), ("cost", .int a.cost)]) = H8 at e7 q2 q3 q4 q5 hx8 ⊢
  have badD : a.bad = true → ∀ H', Ex T H0 H' → Tb T H' → E (cls K "BadDeed") none H' := fun hb => hbad _ (by
    unfold x_init
    rw [hf, allF, hb]
    rfl)
  have lenOk : ∀ z : Str, z.length ≤ 1000 → (z ++ a.nm).length ≤ sizeLine := fun z hz => by
    rw [PySem.Str.length_append, sizeLine_eq]
    have := hnm.1
    omega
  refine sq_ifx (T := T) (e7.tb tb0) (row.any fun x => decide (x ∈ a.needs) && decide (x ∈ a.bars)) (et_B ((ev_anyS (X := (cxOf (CX P w) P w K mg base N_Deed_init d_Deed_init.qual d_Deed_init.scope (He.fAd K d_Deed_init.at_) (Value.ref (He.cT K d_Deed_init.at_).fst) A outer s _ E)) (ks := sb fun x => decide (x ∈ a.needs)) (fun k => decide (k ∈ sb fun x => decide (x ∈ a.bars))) hP hPd ((ev_fld (v := u2) (ev_var rfl) hx8 hC nNeeds rfl).imp fun u H9 e9 z => by rw [show u = u2 from z]; exact (q2.ex e9).sq)
    fun H9 e9 k hk => re_inS re_x (re_fld (re_free (i := 0) rfl rfl rfl) (e9.obj x _ hx8 (fun _ z => by cases z)) hC nBars rfl) (q3.ex e9).sq).is ?_)) (fun hb H9 e9 t9 D => ?_) fun hb H9 e9 t9 => ?_
  · rw [any_in]
  · refine ⟨_, rfl, ?_, V.str a.nm, rfl, .inl ⟨a.nm, rfl, by rw [sizeLine_eq]; have := hnm.1; omega, ?_⟩⟩
    · decide +kernel
    · exact ⟨_, rfl, lenOk _ (by decide +kernel), badD (by unfold DA.bad; rw [hb]; rfl) H9 (e7.trans e9) t9⟩
  · refine st_if (T := T) t9 (b := decide (a.cost < 0)) (et_test (ev_op2 (ev_var rfl) ev_c fun H10 Q0 q => ?_)) (fun hb2 H10 e10 t10 => ?_) fun hb2 H10 e10 t10 => ?_
    · exact ⟨a.cost, 0, rfl, rfl, q⟩
    · refine ⟨_, rfl, ?_, V.str a.nm, rfl, .inl ⟨a.nm, rfl, by rw [sizeLine_eq]; have := hnm.1; omega, ?_⟩⟩
      · decide +kernel
      · exact ⟨_, rfl, lenOk _ (by decide +kernel), badD (by unfold DA.bad; rw [hb2, Bool.or_true]) H10 ((e7.trans e9).trans e10) t10⟩
    · refine hq (by unfold x_init DA.bad; rw [hf, allF, hb, hb2]; rfl) H10 ((e7.trans e9).trans e10) t10 ?_
      have ee := e9.trans e10
      exact ⟨x, dx, u2, u3, u4, u5, rfl, ee.obj x _ hx8 (fun _ z => by cases z), q2.ex ee, q3.ex ee, q4.ex ee, q5.ex ee⟩
end
end PK
end

section
set_option Elab.async false
set_option linter.all false
set_option autoImplicit false
set_option maxRecDepth 100000
set_option maxHeartbeats 9000000
namespace PK
open PySem PySem.Spec PyProof.Rows L2 GxR PW PT
/-! ### fields of deeds -/
inductive F4 : Str → (DD → Str → Bool) → Prop
  | needs : F4 "needs" DD.needs
  | bars : F4 "bars" DD.bars
  | adds : F4 "adds" DD.adds
  | drops : F4 "drops" DD.drops
section
variable {P : Program} {w : World} {K : PySem.W.Frag} {mg : Str → Option Value} {base : Heap} {T : Tn}
structure NA (K : PySem.W.Frag) : Prop where
  c : Cls K (CD K)
  n : ∀ f g, F4 f g → NoAttr K (CD K) f
  name : NoAttr K (CD K) "name"
  cost : NoAttr K (CD K) "cost"
theorem na_of (D : HD P w K mg base fa fn tf) : NA K := ⟨He.cls_ok (D.fact _ m_cls_Deed), fun f g F => by
  cases F with
  | needs => exact He.noat_ok (D.fact _ m_noat_Deed_needs)
  | bars => exact He.noat_ok (D.fact _ m_noat_Deed_bars)
  | adds => exact He.noat_ok (D.fact _ m_noat_Deed_adds)
  | drops => exact He.noat_ok (D.fact _ m_noat_Deed_drops), He.noat_ok (D.fact _ m_noat_Deed_name), He.noat_ok (D.fact _ m_noat_Deed_cost)⟩
theorem IsD.fld {H : Hp} {d : DD} {v : V} {f : Str} {g : DD → Str → Bool} (h : IsD K d v H) (F : F4 f g) : ∃ o dx fs u, v = .ref o ∧ H o = some (.ins (CD K) dx fs) ∧ fs.lookup f = some u ∧ NtS H u (g d) := by
  obtain ⟨o, dx, n, b, a, r, e1, e2, e3, e4, e5, e6⟩ := h
  cases F with
  | needs => exact ⟨o, dx, _, n, e1, e2, rfl, e3⟩
  | bars => exact ⟨o, dx, _, b, e1, e2, rfl, e4⟩
  | adds => exact ⟨o, dx, _, a, e1, e2, rfl, e5⟩
  | drops => exact ⟨o, dx, _, r, e1, e2, rfl, e6⟩
theorem ev_dflT {σ : L2.St} {H : Hp} {d : DD} {te : TE} {f : Str} {g : DD → Str → Bool} (F : F4 f g) (N : NA K) (h : Ev T te σ H (IsD K d)) : Ev T (tFld K te f) σ H fun u H1 => NtS H1 u (g d) := fun H1 e t Q q =>
  h H1 e t _ fun v H2 e2 t2 hd => by
    obtain ⟨o, dx, fs, u, ev, ho, hl, hn⟩ := hd.fld F
    exact ⟨o, CD K, dx, fs, u, ev, ho, N.c, N.n f g F, hl, q u H2 e2 t2 hn⟩
theorem ev_isD {σ : L2.St} {H : Hp} {d : DD} {i : Nat} {v : V} (hs : σ[i]? = some (some v)) (h : IsD K d v H) : Ev T (tVar i) σ H (IsD K d) := (ev_var hs).imp fun u H1 e z => by rw [show u = v from z]; exact h.ex e
theorem ev_dfl {σ : L2.St} {H : Hp} {d : DD} {i : Nat} {v : V} {f : Str} {g : DD → Str → Bool} (F : F4 f g) (N : NA K) (hs : σ[i]? = some (some v)) (h : IsD K d v H) : Ev T (tFld K (tVar i) f) σ H fun u H1 => Sq K H1 u ((sb (g d)).map .str) := (ev_dflT F N (ev_isD hs h)).imp fun _ _ _ z => z.sq
theorem re_dmem {N : List Str} {scope : Scope} {n y : Str} {k : Str} {σ : L2.St} {H : Hp} {d : DD} {j : Nat} {v : V} {f : Str} {g : DD → Str → Bool} {p1 p2 p3 p4 : Pos} (F : F4 f g) (A : NA K) (hN : N[j]? = some y) (hs : σ[j]? = some (some v)) (hf : scope.names.lookup y = some .free) (h : IsD K d v H)
    (d1 : (n == ("__debug__" : Str)) = false) (d2 : (y == ("__debug__" : Str)) = false) (d3 : (y == ("__classdict__" : Str)) = false) (hm : behindInMarks .In (.Attribute (.Name y p2) f p3) = false) (hb : ∀ env, attributeBase (.Name y p2) f env (eval (.Name y p2) env) = eval (.Name y p2) env) :
    RE P w K N σ H scope n (.str k) (.Compare (.Name n p1) [.In] [.Attribute (.Name y p2) f p3] p4) (.bl (decide (k ∈ sb (g d)))) := by
  obtain ⟨o, dx, fs, u, ev, ho, hl, hn⟩ := h.fld F
  exact re_inS (re_x d1) (re_fld (re_free hN (by rw [hs, ev]) hf d2 d3) ho A.c (A.n f g F) hl hb) hn.sq hm
/-- any(fact in y.f2 for fact in x.f1) -/
theorem ev_anyDD {X : Cx} {Pa : Addr} {scope : Scope} {n y : Str} {σ : L2.St} {H : Hp} {d1 d2 : DD} {i j : Nat} {v1 v2 : V} {f1 f2 : Str} {g1 g2 : DD → Str → Bool} {p1 p2 p3 p4 : Pos} (F1 : F4 f1 g1) (F2 : F4 f2 g2) (A : NA X.K) (hP : Pa ∈ T.g ∧ ∀ r ∈ T.l, r.1 ≠ Pa) (hi : σ[i]? = some (some v1)) (h1 : IsD X.K d1 v1 H) (hj : σ[j]? = some (some v2)) (h2 : IsD X.K d2 v2 H)
    (hN : X.N[j]? = some y) (hf : scope.names.lookup y = some .free)
    (e1 : (n == ("__debug__" : Str)) = false := by decide) (e2 : (y == ("__debug__" : Str)) = false := by decide) (e3 : (y == ("__classdict__" : Str)) = false := by decide) (hm : behindInMarks .In (.Attribute (.Name y p2) f2 p3) = false := by with_unfolding_all rfl) (hb : ∀ env, attributeBase (.Name y p2) f2 env (eval (.Name y p2) env) = eval (.Name y p2) env := by intro _; rfl) :
    Ev T (tAnyQ X Pa scope n (.Compare (.Name n p1) [.In] [.Attribute (.Name y p2) f2 p3] p4) (fun xs pb => xs.any pb) (tFld X.K (tVar i) f1)) σ H (Is (.bl (row.any fun x => g1 d1 x && g2 d2 x))) :=
  (ev_anyS (ks := sb (g1 d1)) (fun k => decide (k ∈ sb (g2 d2))) hP.1 hP.2 (ev_dfl F1 A hi h1) fun H9 e9 k hk => re_dmem F2 A hN hj hf (h2.ex e9) e1 e2 e3 hm hb).is (by rw [any_in])
theorem ev_allDD {X : Cx} {Pa : Addr} {scope : Scope} {n y : Str} {σ : L2.St} {H : Hp} {d1 d2 : DD} {i j : Nat} {v1 v2 : V} {f1 f2 : Str} {g1 g2 : DD → Str → Bool} {p1 p2 p3 p4 : Pos} (F1 : F4 f1 g1) (F2 : F4 f2 g2) (A : NA X.K) (hP : Pa ∈ T.g ∧ ∀ r ∈ T.l, r.1 ≠ Pa) (hi : σ[i]? = some (some v1)) (h1 : IsD X.K d1 v1 H) (hj : σ[j]? = some (some v2)) (h2 : IsD X.K d2 v2 H)
    (hN : X.N[j]? = some y) (hf : scope.names.lookup y = some .free)
    (e1 : (n == ("__debug__" : Str)) = false := by decide) (e2 : (y == ("__debug__" : Str)) = false := by decide) (e3 : (y == ("__classdict__" : Str)) = false := by decide) (hm : behindInMarks .In (.Attribute (.Name y p2) f2 p3) = false := by with_unfolding_all rfl) (hb : ∀ env, attributeBase (.Name y p2) f2 env (eval (.Name y p2) env) = eval (.Name y p2) env := by intro _; rfl) :
    Ev T (tAnyQ X Pa scope n (.Compare (.Name n p1) [.In] [.Attribute (.Name y p2) f2 p3] p4) (fun xs pb => xs.all pb) (tFld X.K (tVar i) f1)) σ H (Is (.bl (row.all fun x => !g1 d1 x || g2 d2 x))) :=
  (ev_allS (ks := sb (g1 d1)) (fun k => decide (k ∈ sb (g2 d2))) hP.1 hP.2 (ev_dfl F1 A hi h1) fun H9 e9 k hk => re_dmem F2 A hN hj hf (h2.ex e9) e1 e2 e3 hm hb).is (by rw [all_in])
/-! ### two deeds asked -/
def pre_2 (K : PySem.W.Frag) (a : DD × DD) (vs : List V) (H : Hp) : Prop := ∃ u v, vs = [u, v] ∧ IsD K a.1 u H ∧ IsD K a.2 v H
abbrev noX {α : Type} : α → Option Value := fun _ => none
abbrev sp_2 (T : Tn) (K : PySem.W.Frag) (f : DD → DD → Bool) : Sp := spX T (pre_2 K) noX fun a v _ => v = .bl (f a.1 a.2)
def hurtsB (a b : DD) : Bool := (row.any fun x => b.needs x && a.drops x) || row.any fun x => b.bars x && a.adds x
def clashB (a b : DD) : Bool := (row.any fun x => a.adds x && b.drops x) || row.any fun x => b.adds x && a.drops x
def helpsB (a b : DD) : Bool := (row.any fun x => b.needs x && a.adds x) || row.any fun x => b.bars x && a.drops x
def freeB (a b : DD) : Bool := !hurtsB a b && (!hurtsB b a && !clashB a b)
def swapB (a b : DD) : Bool := freeB a b && (!helpsB a b && !helpsB b a)
theorem len_2 : ∀ (a : DD × DD) (vs : List V) (H : Hp), pre_2 K a vs H → vs.length = 2 := fun a vs H ⟨u, v, e, _⟩ => by rw [e]; rfl
theorem c_hurts (D : HD P w K mg base fa fn tf) (TT : TO K T) : Cl P w K mg base d_hurts 2 p_hurts (sp_2 T K hurtsB) := by
  have A := na_of D
  have hP := TT.g d_hurts.at_ (by decide +kernel)
  refine D.cl n_hurts sc_hurts (sp_len len_2) fun A0 outer s H vs Q E hr h => ?_
  obtain ⟨⟨a, b⟩, ⟨u, v, rfl, ha, hb⟩, tb, hq, _⟩ := h
  refine ⟨_, pss_one (ps_ret (pe_or (pe_anyQ hr (by exact rfl) (D.free m_free_any) (D.gtab t_hurts) rfl (genF_by (by kernel_rfl)) (pe_fld (pv 1) (by exact rfl))) (pe_one (pe_anyQ hr (by exact rfl) (D.free m_free_any) (D.gtab t_hurts) rfl (genF_by (by kernel_rfl)) (pe_fld (pv 1) (by exact rfl)))))), ?_⟩
  exact st_ret tb (ev_orV (ev_anyDD (i := 1) (j := 0) .needs .drops A hP rfl hb rfl ha rfl rfl) fun _ => ev_anyDD (i := 1) (j := 0) .bars .adds A hP rfl hb rfl ha rfl rfl) fun v H1 e1 t1 p => hq rfl v H1 e1 t1 p
theorem c_clash (D : HD P w K mg base fa fn tf) (TT : TO K T) : Cl P w K mg base d_clash 2 p_clash (sp_2 T K clashB) := by
  have A := na_of D
  have hP := TT.g d_clash.at_ (by decide +kernel)
  refine D.cl n_clash sc_clash (sp_len len_2) fun A0 outer s H vs Q E hr h => ?_
  obtain ⟨⟨a, b⟩, ⟨u, v, rfl, ha, hb⟩, tb, hq, _⟩ := h
  refine ⟨_, pss_one (ps_ret (pe_or (pe_anyQ hr (by exact rfl) (D.free m_free_any) (D.gtab t_clash) rfl (genF_by (by kernel_rfl)) (pe_fld (pv 0) (by exact rfl))) (pe_one (pe_anyQ hr (by exact rfl) (D.free m_free_any) (D.gtab t_clash) rfl (genF_by (by kernel_rfl)) (pe_fld (pv 1) (by exact rfl)))))), ?_⟩
  exact st_ret tb (ev_orV (ev_anyDD (i := 0) (j := 1) .adds .drops A hP rfl ha rfl hb rfl rfl) fun _ => ev_anyDD (i := 1) (j := 0) .adds .drops A hP rfl hb rfl ha rfl rfl) fun v H1 e1 t1 p => hq rfl v H1 e1 t1 p
theorem c_helps (D : HD P w K mg base fa fn tf) (TT : TO K T) : Cl P w K mg base d_helps 2 p_helps (sp_2 T K helpsB) := by
  have A := na_of D
  have hP := TT.g d_helps.at_ (by decide +kernel)
  refine D.cl n_helps sc_helps (sp_len len_2) fun A0 outer s H vs Q E hr h => ?_
  obtain ⟨⟨a, b⟩, ⟨u, v, rfl, ha, hb⟩, tb, hq, _⟩ := h
  refine ⟨_, pss_one (ps_ret (pe_or (pe_anyQ hr (by exact rfl) (D.free m_free_any) (D.gtab t_helps) rfl (genF_by (by kernel_rfl)) (pe_fld (pv 1) (by exact rfl))) (pe_one (pe_anyQ hr (by exact rfl) (D.free m_free_any) (D.gtab t_helps) rfl (genF_by (by kernel_rfl)) (pe_fld (pv 1) (by exact rfl)))))), ?_⟩
  exact st_ret tb (ev_orV (ev_anyDD (i := 1) (j := 0) .needs .adds A hP rfl hb rfl ha rfl rfl) fun _ => ev_anyDD (i := 1) (j := 0) .bars .drops A hP rfl hb rfl ha rfl rfl) fun v H1 e1 t1 p => hq rfl v H1 e1 t1 p
theorem ev_2 {σ : L2.St} {H : Hp} {E : XK} {f : DD → DD → Bool} {i j : Nat} {u v : V} {a b : DD} (hi : σ[i]? = some (some u)) (ha : IsD K a u H) (hj : σ[j]? = some (some v)) (hb : IsD K b v H) : Ev T (tCall (sp_2 T K f) [] E (tCons (tVar i) (tCons (tVar j) tNil))) σ H (Is (.bl (f a b))) :=
  ev_f (a, b) rfl (ea_is (ev_var hi) (ea_is (ev_var hj) ea_nil)) fun vs H1 e ev => ⟨u, v, by rw [ev]; rfl, ha.ex e, hb.ex e⟩
theorem c_free (D : HD P w K mg base fa fn tf) (TT : TO K T) : Cl P w K mg base d_are_free 3 p_are_free (sp_2 T K freeB) := by
  refine D.cl n_are_free sc_are_free (sp_len len_2) fun A0 outer s H vs Q E hr h => ?_
  obtain ⟨⟨a, b⟩, ⟨u, v, rfl, ha, hb⟩, tb, hq, _⟩ := h
  refine ⟨_, pss_one (ps_ret (pe_and (pe_not (pe_k (c_hurts (T := T) D TT) b_hurts hr (by decide) (by exact rfl) (D.glo m_glo_hurts) passO (pa_cons (pv 0) (pa_cons (pv 1) pa_nil)))) (pe_and (pe_not (pe_k (c_hurts (T := T) D TT) b_hurts hr (by decide) (by exact rfl) (D.glo m_glo_hurts) passO (pa_cons (pv 1) (pa_cons (pv 0) pa_nil))))
    (pe_one (pe_not (pe_k (c_clash (T := T) D TT) b_clash hr (by decide) (by exact rfl) (D.glo m_glo_clash) passO (pa_cons (pv 0) (pa_cons (pv 1) pa_nil)))))))), ?_⟩
  exact st_ret tb (ev_andV (ev_notV (ev_2 (i := 0) (j := 1) rfl ha rfl hb)) fun _ => ev_andV (ev_notV (ev_2 (i := 1) (j := 0) rfl hb rfl ha)) fun _ => ev_notV (ev_2 (i := 0) (j := 1) rfl ha rfl hb)) fun v H1 e1 t1 p => hq rfl v H1 e1 t1 p
theorem c_swap (D : HD P w K mg base fa fn tf) (TT : TO K T) : Cl P w K mg base d_may_swap 4 p_may_swap (sp_2 T K swapB) := by
  refine D.cl n_may_swap sc_may_swap (sp_len len_2) fun A0 outer s H vs Q E hr h => ?_
  obtain ⟨⟨a, b⟩, ⟨u, v, rfl, ha, hb⟩, tb, hq, _⟩ := h
  refine ⟨_, pss_one (ps_ret (pe_and (pe_k (c_free (T := T) D TT) b_are_free hr (by decide) (by exact rfl) (D.glo m_glo_are_free) passO (pa_cons (pv 0) (pa_cons (pv 1) pa_nil))) (pe_and (pe_not (pe_k (c_helps (T := T) D TT) b_helps hr (by decide) (by exact rfl) (D.glo m_glo_helps) passO (pa_cons (pv 0) (pa_cons (pv 1) pa_nil))))
    (pe_one (pe_not (pe_k (c_helps (T := T) D TT) b_helps hr (by decide) (by exact rfl) (D.glo m_glo_helps) passO (pa_cons (pv 1) (pa_cons (pv 0) pa_nil)))))))), ?_⟩
  exact st_ret tb (ev_andV (ev_2 (i := 0) (j := 1) rfl ha rfl hb) fun _ => ev_andV (ev_notV (ev_2 (i := 0) (j := 1) rfl ha rfl hb)) fun _ => ev_notV (ev_2 (i := 1) (j := 0) rfl hb rfl ha)) fun v H1 e1 t1 p => hq rfl v H1 e1 t1 p
/-! ### one deed asked -/
def idleB (d : DD) : Bool := (row.all fun x => !d.adds x || d.needs x) && row.all fun x => !d.drops x || d.bars x
def pre_1 (K : PySem.W.Frag) (a : DD) (vs : List V) (H : Hp) : Prop := ∃ u, vs = [u] ∧ IsD K a u H
theorem len_1 : ∀ (a : DD) (vs : List V) (H : Hp), pre_1 K a vs H → vs.length = 1 := fun a vs H ⟨u, e, _⟩ => by rw [e]; rfl
abbrev sp_idle (T : Tn) (K : PySem.W.Frag) : Sp := spX T (pre_1 K) noX fun a v _ => v = .bl (idleB a)
theorem c_idle (D : HD P w K mg base fa fn tf) (TT : TO K T) : Cl P w K mg base d_is_idle 2 p_is_idle (sp_idle T K) := by
  have A := na_of D
  have hP := TT.g d_is_idle.at_ (by decide +kernel)
  refine D.cl n_is_idle sc_is_idle (sp_len len_1) fun A0 outer s H vs Q E hr h => ?_
  obtain ⟨a, ⟨u, rfl, ha⟩, tb, hq, _⟩ := h
  refine ⟨_, pss_one (ps_ret (pe_and (pe_allQ hr (by exact rfl) (D.free m_free_all) (D.gtab t_is_idle) rfl (genF_by (by kernel_rfl)) (pe_fld (pv 0) (by exact rfl))) (pe_one (pe_allQ hr (by exact rfl) (D.free m_free_all) (D.gtab t_is_idle) rfl (genF_by (by kernel_rfl)) (pe_fld (pv 0) (by exact rfl)))))), ?_⟩
  exact st_ret tb (ev_andV (ev_allDD (i := 0) (j := 0) .adds .needs A hP rfl ha rfl ha rfl rfl) fun _ => ev_allDD (i := 0) (j := 0) .drops .bars A hP rfl ha rfl ha rfl rfl) fun v H1 e1 t1 p => hq rfl v H1 e1 t1 p
end
end PK
end

section
set_option Elab.async false
set_option linter.all false
set_option autoImplicit false
set_option maxRecDepth 100000
set_option maxHeartbeats 9000000
namespace PK
open PySem PySem.Spec PyProof.Rows L2 GxR PW PT
section
variable {P : Program} {w : World} {K : PySem.W.Frag} {mg : Str → Option Value} {base : Heap} {T : Tn}
abbrev St1 := Str → Bool
/-- v is a state (list or tuple) -/
abbrev IsS (K : PySem.W.Frag) (s : St1) (v : V) (H : Hp) : Prop := Sq K H v ((sb s).map V.str)
theorem ev_anyDS {X : Cx} {Pa : Addr} {scope : Scope} {n y : Str} {σ : L2.St} {H : Hp} {d : DD} {st : St1} {i j : Nat} {v1 v2 : V} {f1 : Str} {g1 : DD → Str → Bool} {p1 p2 p4 : Pos} (F1 : F4 f1 g1) (A : NA X.K) (hP : Pa ∈ T.g ∧ ∀ r ∈ T.l, r.1 ≠ Pa) (hi : σ[i]? = some (some v1)) (h1 : IsD X.K d v1 H) (hj : σ[j]? = some (some v2)) (h2 : IsS X.K st v2 H)
    (hN : X.N[j]? = some y) (hf : scope.names.lookup y = some .free)
    (e1 : (n == ("__debug__" : Str)) = false := by decide) (e2 : (y == ("__debug__" : Str)) = false := by decide) (e3 : (y == ("__classdict__" : Str)) = false := by decide) (hm : behindInMarks .In (.Name y p2) = false := by with_unfolding_all rfl) :
    Ev T (tAnyQ X Pa scope n (.Compare (.Name n p1) [.In] [.Name y p2] p4) (fun xs pb => xs.any pb) (tFld X.K (tVar i) f1)) σ H (Is (.bl (row.any fun x => g1 d x && st x))) :=
  (ev_anyS (ks := sb (g1 d)) (fun k => decide (k ∈ sb st)) hP.1 hP.2 (ev_dfl F1 A hi h1) fun H9 e9 k hk => re_inS (re_x e1) (re_free hN hj hf e2 e3) (h2.ex e9) hm).is (by rw [any_in])
theorem ev_allDS {X : Cx} {Pa : Addr} {scope : Scope} {n y : Str} {σ : L2.St} {H : Hp} {d : DD} {st : St1} {i j : Nat} {v1 v2 : V} {f1 : Str} {g1 : DD → Str → Bool} {p1 p2 p4 : Pos} (F1 : F4 f1 g1) (A : NA X.K) (hP : Pa ∈ T.g ∧ ∀ r ∈ T.l, r.1 ≠ Pa) (hi : σ[i]? = some (some v1)) (h1 : IsD X.K d v1 H) (hj : σ[j]? = some (some v2)) (h2 : IsS X.K st v2 H)
    (hN : X.N[j]? = some y) (hf : scope.names.lookup y = some .free)
    (e1 : (n == ("__debug__" : Str)) = false := by decide) (e2 : (y == ("__debug__" : Str)) = false := by decide) (e3 : (y == ("__classdict__" : Str)) = false := by decide) (hm : behindInMarks .In (.Name y p2) = false := by with_unfolding_all rfl) :
    Ev T (tAnyQ X Pa scope n (.Compare (.Name n p1) [.In] [.Name y p2] p4) (fun xs pb => xs.all pb) (tFld X.K (tVar i) f1)) σ H (Is (.bl (row.all fun x => !g1 d x || st x))) :=
  (ev_allS (ks := sb (g1 d)) (fun k => decide (k ∈ sb st)) hP.1 hP.2 (ev_dfl F1 A hi h1) fun H9 e9 k hk => re_inS (re_x e1) (re_free hN hj hf e2 e3) (h2.ex e9) hm).is (by rw [all_in])
def fitsB (d : DD) (s : St1) : Bool := (row.all fun x => !d.needs x || s x) && !row.any fun x => d.bars x && s x
def doneP (d : DD) (s : St1) : St1 := fun x => (s x && !d.drops x) || d.adds x
def pre_ds (K : PySem.W.Frag) (a : DD × St1) (vs : List V) (H : Hp) : Prop := ∃ u v, vs = [u, v] ∧ IsD K a.1 u H ∧ IsS K a.2 v H
theorem len_ds : ∀ (a : DD × St1) (vs : List V) (H : Hp), pre_ds K a vs H → vs.length = 2 := fun a vs H ⟨u, v, e, _⟩ => by rw [e]; rfl
abbrev sp_fits (T : Tn) (K : PySem.W.Frag) : Sp := spX T (pre_ds K) noX fun a v _ => v = .bl (fitsB a.1 a.2)
theorem c_fits (D : HD P w K mg base fa fn tf) (TT : TO K T) : Cl P w K mg base d_Deed_fits 2 p_Deed_fits (sp_fits T K) := by
  have A := na_of D
  have hP := TT.g d_Deed_fits.at_ (by decide +kernel)
  refine D.cl n_Deed_fits sc_Deed_fits (sp_len len_ds) fun A0 outer s H vs Q E hr h => ?_
  obtain ⟨⟨a, b⟩, ⟨u, v, rfl, ha, hb⟩, tb, hq, _⟩ := h
  refine ⟨_, pss_one (ps_ret (pe_and (pe_allQ hr (by exact rfl) (D.free m_free_all) (D.gtab t_Deed_fits) rfl (genF_by (by kernel_rfl)) (pe_fld (pv 0) (by exact rfl))) (pe_one (pe_not (pe_anyQ hr (by exact rfl) (D.free m_free_any) (D.gtab t_Deed_fits) rfl (genF_by (by kernel_rfl)) (pe_fld (pv 0) (by exact rfl))))))), ?_⟩
  exact st_ret tb (ev_andV (ev_allDS (i := 0) (j := 1) .needs A hP rfl ha rfl hb rfl rfl) fun _ => ev_notV (ev_anyDS (i := 0) (j := 1) .bars A hP rfl ha rfl hb rfl rfl)) fun v H1 e1 t1 p => hq rfl v H1 e1 t1 p
theorem okW_row : ∀ k ∈ row, okW k := by
  intro k hk
  have : k = "a" ∨ k = "b" ∨ k = "c" ∨ k = "d" := by simpa using hk
  rcases this with rfl | rfl | rfl | rfl <;> exact ⟨by decide +kernel, by decide +kernel⟩
theorem fact_row : ∀ k ∈ row, isFact k = true := by
  intro k hk
  have : k = "a" ∨ k = "b" ∨ k = "c" ∨ k = "d" := by simpa using hk
  rcases this with rfl | rfl | rfl | rfl <;> decide +kernel
/-- rows of the four facts are good arguments -/
theorem okL_row {H : Hp} {v : V} {L : List Str} (h : Sq K H v (L.map .str)) (hl : L.length ≤ 1000) (hr : ∀ k ∈ L, k ∈ row) : okL K H v L := ⟨h, hl, fun k hk => okW_row k (hr k hk), fun _ => hr⟩
theorem all_row {L : List Str} (hr : ∀ k ∈ L, k ∈ row) : L.all isFact = true := List.all_eq_true.mpr fun k hk => fact_row k (hr k hk)
theorem in_sb {p : Str → Bool} : ∀ k ∈ sb p, k ∈ row := fun k hk => (mem_sub.mp hk).1
theorem in_sb2 {p q : Str → Bool} : ∀ k ∈ sb p ++ sb q, k ∈ row := fun k hk => by
  rcases List.mem_append.mp hk with z | z
  · exact in_sb k z
  · exact in_sb k z
theorem len_sb {p : Str → Bool} : (sb p).length ≤ 4 := sub_len
theorem dec_sb2 {p q : Str → Bool} : (sb fun x => decide (x ∈ sb p ++ sb q)) = sb fun x => p x || q x := sub_congr fun x hx => by
  rw [Bool.eq_iff_iff, decide_eq_true_eq, List.mem_append, mem_sub, mem_sub, Bool.or_eq_true]
  exact ⟨fun z => z.imp (·.2) (·.2), fun z => z.imp (⟨hx, ·⟩) (⟨hx, ·⟩)⟩
theorem dec_sb1 {p : Str → Bool} : (sb fun x => decide (x ∈ sb p)) = sb p := sub_congr fun x hx => dec_sub hx
/-- facts(l), l a list of two rows of facts -/
theorem ev_facts2 {σ : L2.St} {H : Hp} {E : XK} {te : TE} {p q : Str → Bool} (h : Ev T te σ H fun u H1 => Nl H1 u ((sb p ++ sb q).map .str)) : Ev T (tCall (sp_facts T K) [] E (tCons te tNil)) σ H fun u H1 => NtS H1 u fun x => p x || q x :=
  (ev_facts (L := sb p ++ sb q) (h.imp fun u H1 e z => okL_row z.sq (by rw [List.length_append]; have := len_sb (p := p); have := len_sb (p := q); omega) in_sb2) (all_row in_sb2)).imp fun u H1 e z => by
    show Nt H1 u ((sb _).map V.str)
    rw [← dec_sb2]
    exact z
theorem ev_facts1 {σ : L2.St} {H : Hp} {E : XK} {te : TE} {p : Str → Bool} (h : Ev T te σ H fun u H1 => Sq K H1 u ((sb p).map .str)) : Ev T (tCall (sp_facts T K) [] E (tCons te tNil)) σ H fun u H1 => NtS H1 u p :=
  (ev_facts (L := sb p) (h.imp fun u H1 e z => okL_row z (by have := len_sb (p := p); omega) in_sb) (all_row in_sb)).imp fun u H1 e z => by
    show Nt H1 u ((sb _).map V.str)
    rw [← dec_sb1]
    exact z
/-- [x for x in xs if x in d.f] and not in -/
theorem et_memD {neg : Bool} {σ : L2.St} {H : Hp} {d : DD} {i j : Nat} {v : V} {k : Str} {f : Str} {g : DD → Str → Bool} (F : F4 f g) (N : NA K) (hk : k ∈ row) (hj : σ[j]? = some (some (.str k))) (hs : σ[i]? = some (some v)) (h : IsD K d v H) :
    EvT T (tTest (tOp (rIn K neg) (tVar j) (tFld K (tVar i) f))) σ H (if neg then !g d k else g d k) :=
  et_test ((ev_in (ks := sb (g d)) (ev_var hj) (ev_dfl F N hs h)).is (by rw [dec_sub hk]))
theorem et_memS {neg : Bool} {σ : L2.St} {H : Hp} {s : St1} {i j : Nat} {v : V} {k : Str} (hk : k ∈ row) (hj : σ[j]? = some (some (.str k))) (hs : σ[i]? = some (some v)) (h : IsS K s v H) :
    EvT T (tTest (tOp (rIn K neg) (tVar j) (tVar i))) σ H (if neg then !s k else s k) :=
  et_test ((ev_in (ks := sb s) (ev_var hj) ((ev_var hs).imp fun u H1 e z => by rw [show u = v from z]; exact h.ex e)).is (by rw [dec_sub hk]))
theorem ev_S {σ : L2.St} {H : Hp} {i : Nat} {v : V} {s : St1} (hs : σ[i]? = some (some v)) (h : IsS K s v H) : Ev T (tVar i) σ H fun u H1 => IsS K s u H1 := (ev_var hs).imp fun u H1 e z => by rw [show u = v from z]; exact h.ex e
/-- [x for x in xs if t] -/
theorem ev_lcP {wi : TI} {tt : TT} {σ : L2.St} {H : Hp} {j : Nat} {vs : List Nat} {p : Str → Bool} (q : Str → Bool) (h : EvI T wi σ H ((sb p).map V.str)) (hw : ∀ x, wipe ((wipe σ vs).set j (some x)) vs = wipe σ vs) (hj : ∀ x, ((wipe σ vs).set j (some x))[j]? = some (some x))
    (ht : ∀ k H1, k ∈ row → Ex T H H1 → EvT T tt ((wipe σ vs).set j (some (.str k))) H1 (q k)) : Ev T (tLc wi (gName j) tt (tVar j) vs) σ H fun v H1 => Nl H1 v ((sb fun x => p x && q x).map V.str) :=
  (ev_lcS q h (Nat.le_trans len_sb (by decide)) hw hj fun k H1 hk e => ht k H1 (in_sb k hk) e).imp fun v H1 e z => by
    have z2 : Nl H1 v (((sb p).filter q).map V.str) := z
    rw [filter_sub] at z2
    exact z2
theorem ev_catS {σ : L2.St} {H : Hp} {ta tb : TE} {p q : Str → Bool} (ha : Ev T ta σ H fun v H1 => Nl H1 v ((sb p).map V.str)) (hb : Ev T tb σ H fun v H1 => Nl H1 v ((sb q).map V.str)) : Ev T (tOp rCat ta tb) σ H fun v H1 => Nl H1 v ((sb p ++ sb q).map V.str) :=
  (ev_catL ha hb (by rw [List.length_map, List.length_map]; have := len_sb (p := p); have := len_sb (p := q); omega)).imp fun u H1 e z => by rw [List.map_append]; exact z
def x_done (K : PySem.W.Frag) (a : DD × St1) : Option Value := if fitsB a.1 a.2 then none else some (cls K "BadDeed")
abbrev sp_done (T : Tn) (K : PySem.W.Frag) : Sp := spX T (fun a vs H => okW a.1.name ∧ pre_ds K a vs H) (x_done K) fun a v H => NtS H v (doneP a.1 a.2)
theorem c_done (D : HD P w K mg base fa fn tf) (TT : TO K T) : Cl P w K mg base d_Deed_done 4 p_Deed_done (sp_done T K) := by
  obtain ⟨x1, x2, x3, x4⟩ := He.exc_ok (D.fact _ m_exc_BadDeed)
  have A := na_of D
  refine D.cl n_Deed_done sc_Deed_done (sp_len fun a vs H p => len_ds a vs H p.2) fun A0 outer s H vs Q E hr h => ?_
  obtain ⟨⟨a, b⟩, ⟨hnm, u, v, rfl, ha, hb⟩, tb, hq, hx⟩ := h
  have hnm : okW a.name := hnm
  refine ⟨_, pss_cons (ps_if (pt_not (pt_val (pe_km (pl := _) (c_fits (T := T) D TT) b_Deed_fits hr (by decide) A.c (He.meth_ok (D.fact _ m_meth_Deed_fits)) passO (pv 0) (pa_cons (pv 1) pa_nil))))
      (pss_one (ps_raise rfl takesO (SkE.pmk_own1 PySem.F.excBase_ValueError x1 (D.glo m_glo_BadDeed) x2 (raises_own x3 x4) (by exact rfl) (pe_joined (.cons pe_str (.cons (pe_fmt (pe_fld (pv 0) (by exact rfl))) .nil)))))) pss_nil)
    (pss_one (ps_ret (pe_k (c_facts (T := T) D) b_facts hr (by decide) (by exact rfl) (D.glo m_glo_facts) passO (pa_cons (pe_op op_cat
      (pe_lc (own := [("fact", 2)]) (te := tVar 2) (tt := tTest (tOp (rIn K true) (tVar 2) (tFld K (tVar 0) "drops"))) rfl sc_Deed_done.nd (pi_sq (pv 1)) (blkOk_by (by kernel_rfl)) (fun s H C cl fp => pg_name (i := 2) (by exact sc_Deed_done.nd) rfl (.inl rfl))
        (fun s H C cl fp => pts_one (pt_cmpR op_notIn_seq (pv 2) (pe_fld (pv 0) (by exact rfl)) (by with_unfolding_all rfl))) (fun s H C cl fp => pv 2))
      (pe_callTy call_list_of (by exact rfl) (D.free m_free_list) (by decide +kernel) (pa_cons (pe_fld (pv 0) (by exact rfl)) pa_nil))) pa_nil)))), ?_⟩
  obtain ⟨o, dx, n, bb, aa, rr, eo, ho, _⟩ := id ha
  refine sq_ifx (T := T) tb (!fitsB a b) (et_not (et_B ?_)) (fun hb' H1 e1 t1 D' => ?_) fun hb' H1 e1 t1 => ?_
  · subst eo
    exact ev_meth (Pa := fun vs _ => vs = [v]) (ev_var rfl) ho rfl (ea_is (ev_var rfl) ea_nil) fun vs H1 e1 t1 p Q0 q0 => ⟨(a, b), ⟨_, v, by rw [p]; rfl, ha.ex e1, hb.ex e1⟩, t1, fun _ v' H2 e2 t2 p2 => q0 v' H2 e2 t2 p2, fun c hc => by cases hc⟩
  · have hf : fitsB a b = false := by
      cases q : fitsB a b with
      | false => rfl
      | true => rw [q] at hb'; cases hb'
    refine ⟨_, rfl, ?_, u, rfl, o, CD K, dx, _, .str a.name, eo, e1.obj o _ ho (fun _ z => by cases z), A.c, A.name, rfl, .inl ⟨a.name, rfl, by rw [sizeLine_eq]; have := hnm.1; omega, _, rfl, ?_, hx _ (by unfold x_done; rw [hf]; rfl) H1 e1 t1⟩⟩
    · decide +kernel
    · rw [PySem.Str.length_append, sizeLine_eq]
      have := hnm.1
      have e9 : (Str.empty ++ ("can't be done: " : Str)).length ≤ 1000 := by decide +kernel
      omega
  · have hf : fitsB a b = true := by
      cases q : fitsB a b with
      | true => rfl
      | false => rw [q] at hb'; cases hb'
    exact st_ret t1 (ev_facts2 (p := fun x => b x && !a.drops x) (q := a.adds) (ev_catS (ev_lcP (fun x => !a.drops x) (ei_sq (ev_S rfl (hb.ex e1))) (fun _ => rfl) (fun _ => rfl) fun k H2 hk e2 => et_memD (neg := true) .drops A hk rfl (i := 0) rfl (ha.ex (e1.trans e2))) (ev_listOf (ev_dfl .adds A (i := 0) rfl (ha.ex e1))))) fun v2 H2 e2 t2 p => hq (by unfold x_done; rw [hf]; rfl) v2 H2 (e1.trans e2) t2 p
end
end PK
end

section
set_option Elab.async false
set_option linter.all false
set_option autoImplicit false
set_option maxRecDepth 100000
set_option maxHeartbeats 9000000
namespace PK
open PySem PySem.Spec PyProof.Rows L2 GxR PW PT
section
variable {P : Program} {w : World} {K : PySem.W.Frag} {mg : Str → Option Value} {base : Heap} {T : Tn}
/-! ### making deeds -/
theorem tb_own {H1 : Hp} {x dx : Addr} : True := trivial
theorem ev_make {σ : L2.St} {H : Hp} {E : XK} {t : TA} {dvs : List V} {Pa : List V → Hp → Prop} (a : DA) (hx : x_init K a = none) (h : EvA T t σ H Pa) (hs : ∀ vs H1, Ex T H H1 → Pa vs H1 → pre_init K a (vs ++ dvs) H1) : Ev T (tMake (CD K) (sp_init T K) dvs E t) σ H (IsD K a.dd) := fun H0 e0 t0 Q q =>
  h H0 e0 t0 _ fun vs H1 e1 t1 p x dx hx1 hdx hne => ⟨a, H1, x, dx, vs ++ dvs, rfl, rfl, hx1, hdx, hne, t1, hs vs H1 (e0.trans e1) p, fun _ H' e' t' d => ⟨rfl, q _ H' (e1.trans e') t' d⟩, fun c hc => by rw [hx] at hc; cases hc⟩
theorem rz_make {σ : L2.St} {H : Hp} {E : XK} {t : TA} {dvs : List V} {Pa : List V → Hp → Prop} (a : DA) (c : Value) (hx : x_init K a = some c) (tb : Tb T H) (h : EvA T t σ H Pa) (hs : ∀ vs H1, Ex T H H1 → Pa vs H1 → pre_init K a (vs ++ dvs) H1) (k : ∀ H', Ex T H H' → Tb T H' → E c none H') : Rz (tMake (CD K) (sp_init T K) dvs E t) σ H := fun Q =>
  h H (.refl T H) tb _ fun vs H1 e1 t1 p x dx hx1 hdx hne => ⟨a, H1, x, dx, vs ++ dvs, rfl, rfl, hx1, hdx, hne, t1, hs vs H1 e1 p, fun hn => by (rw [hx] at hn; cases hn), fun c' hc H' e' t' => by rw [hx] at hc; cases hc; exact k H' (e1.trans e') t'⟩
/-! ### in turn -/
def noFollow (a b : DD) : Bool := (row.any fun x => b.needs x && (a.drops x || (a.bars x && !a.adds x))) || row.any fun x => b.bars x && (a.adds x || (a.needs x && !a.drops x))
def turnA (n : Str) (a b : DD) : DA := ⟨n, sb a.needs ++ sb fun x => b.needs x && !a.adds x, sb a.bars ++ sb fun x => b.bars x && !a.drops x, (sb fun x => a.adds x && !b.drops x) ++ sb b.adds, sb a.drops ++ sb b.drops, a.cost + b.cost⟩
def x_turn (K : PySem.W.Frag) (a : DD × DD × Str) : Option Value := if noFollow a.1 a.2.1 then some (cls K "BadDeed") else x_init K (turnA a.2.2 a.1 a.2.1)
def pre_turn (K : PySem.W.Frag) (a : DD × DD × Str) (vs : List V) (H : Hp) : Prop := ∃ u v, vs = [u, v, .str a.2.2] ∧ IsD K a.1 u H ∧ IsD K a.2.1 v H ∧ okW a.2.1.name ∧ okW a.2.2
abbrev sp_turn (T : Tn) (K : PySem.W.Frag) : Sp := spX T (pre_turn K) (x_turn K) fun a v H => IsD K (turnA a.2.2 a.1 a.2.1).dd v H
theorem re_dmemN {N : List Str} {scope : Scope} {n y : Str} {k : Str} {σ : L2.St} {H : Hp} {d : DD} {j : Nat} {v : V} {f : Str} {g : DD → Str → Bool} {p1 p2 p3 p4 : Pos} (F : F4 f g) (A : NA K) (hN : N[j]? = some y) (hs : σ[j]? = some (some v)) (hf : scope.names.lookup y = some .free) (h : IsD K d v H) (hk : k ∈ row)
    (d1 : (n == ("__debug__" : Str)) = false := by decide) (d2 : (y == ("__debug__" : Str)) = false := by decide) (d3 : (y == ("__classdict__" : Str)) = false := by decide) (hm : behindInMarks .NotIn (.Attribute (.Name y p2) f p3) = false := by with_unfolding_all rfl) (hb : ∀ env, attributeBase (.Name y p2) f env (eval (.Name y p2) env) = eval (.Name y p2) env := by intro _; rfl) :
    RE P w K N σ H scope n (.str k) (.Compare (.Name n p1) [.NotIn] [.Attribute (.Name y p2) f p3] p4) (.bl (!g d k)) := by
  obtain ⟨o, dx, fs, u, ev, ho, hl, hn⟩ := h.fld F
  rw [← dec_sub (p := g d) hk]
  exact re_notInS (re_x d1) (re_fld (re_free hN (by rw [hs, ev]) hf d2 d3) ho A.c (A.n f g F) hl hb) hn.sq hm
theorem re_dmemP {N : List Str} {scope : Scope} {n y : Str} {k : Str} {σ : L2.St} {H : Hp} {d : DD} {j : Nat} {v : V} {f : Str} {g : DD → Str → Bool} {p1 p2 p3 p4 : Pos} (F : F4 f g) (A : NA K) (hN : N[j]? = some y) (hs : σ[j]? = some (some v)) (hf : scope.names.lookup y = some .free) (h : IsD K d v H) (hk : k ∈ row)
    (d1 : (n == ("__debug__" : Str)) = false := by decide) (d2 : (y == ("__debug__" : Str)) = false := by decide) (d3 : (y == ("__classdict__" : Str)) = false := by decide) (hm : behindInMarks .In (.Attribute (.Name y p2) f p3) = false := by with_unfolding_all rfl) (hb : ∀ env, attributeBase (.Name y p2) f env (eval (.Name y p2) env) = eval (.Name y p2) env := by intro _; rfl) :
    RE P w K N σ H scope n (.str k) (.Compare (.Name n p1) [.In] [.Attribute (.Name y p2) f p3] p4) (.bl (g d k)) := by
  rw [← dec_sub (p := g d) hk]
  exact re_dmem F A hN hs hf h d1 d2 d3 hm hb
/-- the error's text: words and a deed's name -/
theorem js_name {σ : L2.St} {H : Hp} {d : DD} {i : Nat} {v : V} {z : Str} {Q : Str → Hp → Prop} (N : NA K) (hs : σ[i]? = some (some v)) (h : IsD K d v H) (hn : okW d.name) (hz : (Str.empty ++ z).length ≤ 1000) (q : ∀ out, Q out H) : tJs [tC (V.str z), tFmt (tFld K (tVar i) "name")] Str.empty σ H Q := by
  obtain ⟨o, dx, n, bb, aa, rr, eo, ho, _⟩ := id h
  refine ⟨z, rfl, by rw [sizeLine_eq]; omega, v, hs, o, CD K, dx, _, .str d.name, eo, ho, N.c, N.name, rfl, .inl ⟨d.name, rfl, by rw [sizeLine_eq]; have := hn.1; omega, _, rfl, ?_, q _⟩⟩
  rw [PySem.Str.length_append, sizeLine_eq]
  have := hn.1
  omega
theorem c_turn (D : HD P w K mg base fa fn tf) (TT : TO K T) : Cl P w K mg base d_in_turn 8 p_in_turn (sp_turn T K) := by
  obtain ⟨x1, x2, x3, x4⟩ := He.exc_ok (D.fact _ m_exc_BadDeed)
  have A := na_of D
  have hP := TT.g d_in_turn.at_ (by decide +kernel)
  refine D.cl n_in_turn sc_in_turn (sp_len fun a vs H ⟨u, v, e, _⟩ => by rw [e]; rfl) fun A0 outer s H vs Q E hr h => ?_
  obtain ⟨⟨a, b, nm⟩, ⟨u, v, rfl, ha, hb, hbn, hnm⟩, tb, hq, hx⟩ := h
  have ha : IsD K a u H := ha
  have hb : IsD K b v H := hb
  have hbn : okW b.name := hbn
  have hnm : okW nm := hnm
  refine ⟨_, pss_cons (ps_if (pt_val (pe_anyQ hr (by exact rfl) (D.free m_free_any) (D.gtab t_in_turn) rfl (genF_by (by kernel_rfl)) (pe_fld (pv 1) (by exact rfl))))
      (pss_one (ps_raise rfl takesO (SkE.pmk_own1 PySem.F.excBase_ValueError x1 (D.glo m_glo_BadDeed) x2 (raises_own x3 x4) (by exact rfl) (pe_joined (.cons pe_str (.cons (pe_fmt (pe_fld (pv 1) (by exact rfl))) .nil)))))) pss_nil)
    (pss_cons (ps_if (pt_val (pe_anyQ hr (by exact rfl) (D.free m_free_any) (D.gtab t_in_turn) rfl (genF_by (by kernel_rfl)) (pe_fld (pv 1) (by exact rfl))))
      (pss_one (ps_raise rfl takesO (SkE.pmk_own1 PySem.F.excBase_ValueError x1 (D.glo m_glo_BadDeed) x2 (raises_own x3 x4) (by exact rfl) (pe_joined (.cons pe_str (.cons (pe_fmt (pe_fld (pv 1) (by exact rfl))) .nil)))))) pss_nil)
    (pss_cons (ps_set (i := 3) sc_in_turn.nd rfl (.inl rfl) (pe_op op_cat (pe_callTy call_list_of (by exact rfl) (D.free m_free_list) (by decide +kernel) (pa_cons (pe_fld (pv 0) (by exact rfl)) pa_nil))
      (pe_lc (own := [("fact", 4)]) (te := tVar 4) (tt := tTest (tOp (rIn K true) (tVar 4) (tFld K (tVar 0) "adds"))) rfl sc_in_turn.nd (pi_sq (pe_fld (pv 1) (by exact rfl))) (blkOk_by (by kernel_rfl)) (fun s H C cl fp => pg_name (i := 4) (by exact sc_in_turn.nd) rfl (.inl rfl))
        (fun s H C cl fp => pts_one (pt_cmpR op_notIn_seq (pv 4) (pe_fld (pv 0) (by exact rfl)) (by with_unfolding_all rfl))) (fun s H C cl fp => pv 4))))
    (pss_cons (ps_set (i := 5) sc_in_turn.nd rfl (.inl rfl) (pe_op op_cat (pe_callTy call_list_of (by exact rfl) (D.free m_free_list) (by decide +kernel) (pa_cons (pe_fld (pv 0) (by exact rfl)) pa_nil))
      (pe_lc (own := [("fact", 4)]) (te := tVar 4) (tt := tTest (tOp (rIn K true) (tVar 4) (tFld K (tVar 0) "drops"))) rfl sc_in_turn.nd (pi_sq (pe_fld (pv 1) (by exact rfl))) (blkOk_by (by kernel_rfl)) (fun s H C cl fp => pg_name (i := 4) (by exact sc_in_turn.nd) rfl (.inl rfl))
        (fun s H C cl fp => pts_one (pt_cmpR op_notIn_seq (pv 4) (pe_fld (pv 0) (by exact rfl)) (by with_unfolding_all rfl))) (fun s H C cl fp => pv 4))))
    (pss_cons (ps_set (i := 6) sc_in_turn.nd rfl (.inl rfl) (pe_op op_cat
      (pe_lc (own := [("fact", 4)]) (te := tVar 4) (tt := tTest (tOp (rIn K true) (tVar 4) (tFld K (tVar 1) "drops"))) rfl sc_in_turn.nd (pi_sq (pe_fld (pv 0) (by exact rfl))) (blkOk_by (by kernel_rfl)) (fun s H C cl fp => pg_name (i := 4) (by exact sc_in_turn.nd) rfl (.inl rfl))
        (fun s H C cl fp => pts_one (pt_cmpR op_notIn_seq (pv 4) (pe_fld (pv 1) (by exact rfl)) (by with_unfolding_all rfl))) (fun s H C cl fp => pv 4))
      (pe_callTy call_list_of (by exact rfl) (D.free m_free_list) (by decide +kernel) (pa_cons (pe_fld (pv 1) (by exact rfl)) pa_nil))))
    (pss_cons (ps_set (i := 7) sc_in_turn.nd rfl (.inl rfl) (pe_op op_cat
      (pe_callTy call_list_of (by exact rfl) (D.free m_free_list) (by decide +kernel) (pa_cons (pe_fld (pv 0) (by exact rfl)) pa_nil))
      (pe_callTy call_list_of (by exact rfl) (D.free m_free_list) (by decide +kernel) (pa_cons (pe_fld (pv 1) (by exact rfl)) pa_nil))))
    (pss_one (ps_ret (pe_kmk (c_init (T := T) D TT) b_Deed_init_7 hr (by decide) (He.mkr_ok (D.fact _ m_mkr_Deed)) (by exact rfl) (D.glo m_glo_Deed) passO
      (pa_cons (pv 2) (pa_cons (pv 3) (pa_cons (pv 5) (pa_cons (pv 6) (pa_cons (pv 7) (pa_cons (pe_op op_add (pe_fld (pv 0) (by exact rfl)) (pe_fld (pv 1) (by exact rfl))) pa_nil)))))))))))))), ?_⟩
  have bad : noFollow a b = true → ∀ H', Ex T H H' → Tb T H' → E (cls K "BadDeed") none H' := fun hb' => hx _ (by show (if noFollow a b then some (cls K "BadDeed") else _) = _; rw [hb']; rfl)
  refine sq_ifx (T := T) tb (row.any fun x => b.needs x && (a.drops x || (a.bars x && !a.adds x))) (et_B ((ev_anyS (ks := sb b.needs) (fun k => a.drops k || (a.bars k && !a.adds k)) hP.1 hP.2 (ev_dfl .needs A (i := 1) rfl hb) fun H9 e9 k hk => ?_).is ?_)) (fun hb' H1 e1 t1 D' => ?_) fun hb' H1 e1 t1 => ?_
  · exact re_or (re_dmemP (j := 0) .drops A rfl rfl rfl (ha.ex e9) (in_sb k hk)) fun _ => re_one (re_and (re_dmemP (j := 0) .bars A rfl rfl rfl (ha.ex e9) (in_sb k hk)) fun _ => re_one (re_dmemN (j := 0) .adds A rfl rfl rfl (ha.ex e9) (in_sb k hk)))
  · rw [any_sub]
  · exact js_name A (i := 1) rfl (hb.ex e1) hbn (by decide +kernel) fun out => bad (by unfold noFollow; rw [hb']; rfl) H1 e1 t1
  refine sq_ifx (T := T) t1 (row.any fun x => b.bars x && (a.adds x || (a.needs x && !a.drops x))) (et_B ((ev_anyS (ks := sb b.bars) (fun k => a.adds k || (a.needs k && !a.drops k)) hP.1 hP.2 (ev_dfl .bars A (i := 1) rfl (hb.ex e1)) fun H9 e9 k hk => ?_).is ?_)) (fun hb2 H2 e2 t2 D' => ?_) fun hb2 H2 e2 t2 => ?_
  · exact re_or (re_dmemP (j := 0) .adds A rfl rfl rfl (ha.ex (e1.trans e9)) (in_sb k hk)) fun _ => re_one (re_and (re_dmemP (j := 0) .needs A rfl rfl rfl (ha.ex (e1.trans e9)) (in_sb k hk)) fun _ => re_one (re_dmemN (j := 0) .drops A rfl rfl rfl (ha.ex (e1.trans e9)) (in_sb k hk)))
  · rw [any_sub]
  · exact js_name A (i := 1) rfl (hb.ex (e1.trans e2)) hbn (by decide +kernel) fun out => bad (by unfold noFollow; rw [hb2, Bool.or_true]) H2 (e1.trans e2) t2
  have nf : noFollow a b = false := by unfold noFollow; rw [hb', hb2]; rfl
  have E2 := e1.trans e2
  refine sq_asg t2 (ev_catS (p := a.needs) (q := fun x => b.needs x && !a.adds x) (ev_listOf (ev_dfl .needs A (i := 0) rfl (ha.ex E2))) (ev_lcP (fun x => !a.adds x) (ei_sq (ev_dfl .needs A (i := 1) rfl (hb.ex E2))) (fun _ => rfl) (fun _ => rfl) fun k H3 hk e3 => et_memD (neg := true) .adds A hk rfl (i := 0) rfl (ha.ex (E2.trans e3)))) fun v3 H3 e3 t3 p3 => ?_
  have E3 := E2.trans e3
  refine sq_asg t3 (ev_catS (p := a.bars) (q := fun x => b.bars x && !a.drops x) (ev_listOf (ev_dfl .bars A (i := 0) rfl (ha.ex E3))) (ev_lcP (fun x => !a.drops x) (ei_sq (ev_dfl .bars A (i := 1) rfl (hb.ex E3))) (fun _ => rfl) (fun _ => rfl) fun k H4 hk e4 => et_memD (neg := true) .drops A hk rfl (i := 0) rfl (ha.ex (E3.trans e4)))) fun v4 H4 e4 t4 p4 => ?_
  have E4 := E3.trans e4
  refine sq_asg t4 (ev_catS (p := fun x => a.adds x && !b.drops x) (q := b.adds) (ev_lcP (fun x => !b.drops x) (ei_sq (ev_dfl .adds A (i := 0) rfl (ha.ex E4))) (fun _ => rfl) (fun _ => rfl) fun k H5 hk e5 => et_memD (neg := true) .drops A hk rfl (i := 1) rfl (hb.ex (E4.trans e5))) (ev_listOf (ev_dfl .adds A (i := 1) rfl (hb.ex E4)))) fun v5 H5 e5 t5 p5 => ?_
  have E5 := E4.trans e5
  refine sq_asg t5 (ev_catS (p := a.drops) (q := b.drops) (ev_listOf (ev_dfl .drops A (i := 0) rfl (ha.ex E5))) (ev_listOf (ev_dfl .drops A (i := 1) rfl (hb.ex E5)))) fun v6 H6 e6 t6 p6 => ?_
  have E6 := E5.trans e6
  have cost : ∀ {i : Nat} {d : DD} {z : V} {σ : L2.St} {H' : Hp}, σ[i]? = some (some z) → IsD K d z H' → Ev T (tFld K (tVar i) "cost") σ H' (Is (.int d.cost)) := fun {i d z σ H'} hs hd => by
    obtain ⟨o, dx, n, bb, aa, rr, eo, ho, _⟩ := id hd
    subst eo
    exact ev_fld (ev_var hs) ho A.c A.cost rfl
  have args : EvA T (tCons (tVar 2) (tCons (tVar 3) (tCons (tVar 5) (tCons (tVar 6) (tCons (tVar 7) (tCons (tOp (rI0 fun i j => V.int (i + j)) (tFld K (tVar 0) "cost") (tFld K (tVar 1) "cost")) tNil))))))
      (((((start N_in_turn [u, v, .str nm]).set 3 (some v3)).set 5 (some v4)).set 6 (some v5)).set 7 (some v6)) H6 (fun vs _ => vs = [.str nm, v3, v4, v5, v6, .int (a.cost + b.cost)]) :=
    ea_is (ev_var rfl) (ea_is (ev_var rfl) (ea_is (ev_var rfl) (ea_is (ev_var rfl) (ea_is (ev_var rfl) (ea_is (ev_op2 (cost rfl (ha.ex E6)) (cost rfl (hb.ex E6)) fun H1 Q q => ⟨a.cost, b.cost, rfl, rfl, q⟩) ea_nil)))))
  have len2 : ∀ p q : Str → Bool, (sb p ++ sb q).length ≤ 1000 := fun p q => by rw [List.length_append]; have := len_sb (p := p); have := len_sb (p := q); omega
  have prei : ∀ vs H1, Ex T H6 H1 → vs = [.str nm, v3, v4, v5, v6, .int (a.cost + b.cost)] → pre_init K (turnA nm a b) (vs ++ []) H1 := fun vs H1 e ev =>
    ⟨v3, v4, v5, v6, by rw [ev]; rfl, hnm, okL_row (p3.ex (((e4.trans e5).trans e6).trans e)).sq (len2 _ _) in_sb2, okL_row (p4.ex ((e5.trans e6).trans e)).sq (len2 _ _) in_sb2, okL_row (p5.ex (e6.trans e)).sq (len2 _ _) in_sb2, okL_row (p6.ex e).sq (len2 _ _) in_sb2⟩
  have xe : x_turn K (a, b, nm) = x_init K (turnA nm a b) := by show (if noFollow a b then some (cls K "BadDeed") else _) = _; rw [nf]; rfl
  cases hxi : x_init K (turnA nm a b) with
  | none => exact st_ret t6 (ev_make (turnA nm a b) hxi args prei) fun v7 H7 e7 t7 p7 => hq (xe.trans hxi) v7 H7 (E6.trans e7) t7 p7
  | some c => exact rz_ret (rz_make (turnA nm a b) c hxi t6 args prei fun H7 e7 t7 => hx c (xe.trans hxi) H7 (E6.trans e7) t7)
end
end PK
end

section
set_option Elab.async false
set_option linter.all false
set_option autoImplicit false
set_option maxRecDepth 100000
set_option maxHeartbeats 9000000
namespace PK
open PySem PySem.Spec PyProof.Rows L2 GxR PW PT
section
variable {P : Program} {w : World} {K : PySem.W.Frag} {mg : Str → Option Value} {base : Heap} {T : Tn}
/-! ### data at any depth -/
mutual
theorem Dp.ex {H H' : Hp} (e : Ex T H H') : ∀ (d : PyData) (v : V), Dp K H v d → Dp K H' v d
  | .none, _, h => by cases h; exact .non
  | .bool _, _, h => by cases h; exact .bl _
  | .int _, _, h => by cases h; exact .int _
  | .str _, _, h => by cases h; exact .str _
  | .list ds, _, h => by
    cases h with
    | lst hs ha => exact .lst (e.lst hs) (DpAll.ex e ds _ ha)
  | .tuple ds, _, h => by
    cases h with
    | tup hs ha => exact .tup (e.tup hs) (DpAll.ex e ds _ ha)
  | .dict _, _, h => by cases h
theorem DpAll.ex {H H' : Hp} (e : Ex T H H') : ∀ (ds : List PyData) (vs : List V), DpAll K H vs ds → DpAll K H' vs ds
  | [], _, h => by cases h; exact .nil
  | d :: ds, _, h => by
    cases h with
    | cons h1 h2 => exact .cons (Dp.ex e d _ h1) (DpAll.ex e ds _ h2)
end
theorem dp_strs {H : Hp} : ∀ ks : List Str, DpAll K H (ks.map .str) (ks.map .str)
  | [] => .nil
  | k :: ks => .cons (.str k) (dp_strs ks)
abbrev tupS (p : Str → Bool) : PyData := .tuple ((sb p).map .str)
theorem dp_nt {H : Hp} {v : V} {p : Str → Bool} (h : NtS H v p) : Dp K H v (tupS p) := by
  obtain ⟨a, rfl, q⟩ := h
  exact .tup (SqT.of q) (dp_strs _)
def shownD (d : DD) : PyData := .tuple [.str d.name, tupS d.needs, tupS d.bars, tupS d.adds, tupS d.drops, .int d.cost]
abbrev sp_shown (T : Tn) (K : PySem.W.Frag) : Sp := spX T (pre_1 K) noX fun a v H => Dp K H v (shownD a)
theorem c_shown (D : HD P w K mg base fa fn tf) (TT : TO K T) : Cl P w K mg base d_Deed_shown 2 p_Deed_shown (sp_shown T K) := by
  have A := na_of D
  refine D.cl n_Deed_shown sc_Deed_shown (sp_len len_1) fun A0 outer s H vs Q E hr h => ?_
  obtain ⟨a, ⟨u, rfl, ha⟩, tb, hq, _⟩ := h
  refine ⟨_, pss_one (ps_ret (pe_tup (pa_cons (pe_fld (pv 0) (by exact rfl)) (pa_cons (pe_fld (pv 0) (by exact rfl)) (pa_cons (pe_fld (pv 0) (by exact rfl)) (pa_cons (pe_fld (pv 0) (by exact rfl)) (pa_cons (pe_fld (pv 0) (by exact rfl)) (pa_cons (pe_fld (pv 0) (by exact rfl)) pa_nil)))))))), ?_⟩
  obtain ⟨o, dx, n, b, aa, r, rfl, ho, h1, h2, h3, h4⟩ := id ha
  refine st_ret (Po := fun v H1 => Dp K H1 v (shownD a)) tb ((ev_tup (K := K) (Pa := fun vs _ => vs = [.str a.name, n, b, aa, r, .int a.cost]) (ea_is (ev_fld (ev_var rfl) ho A.c A.name rfl) (ea_is (ev_fld (ev_var rfl) ho A.c (A.n _ _ .needs) rfl) (ea_is (ev_fld (ev_var rfl) ho A.c (A.n _ _ .bars) rfl) (ea_is (ev_fld (ev_var rfl) ho A.c (A.n _ _ .adds) rfl) (ea_is (ev_fld (ev_var rfl) ho A.c (A.n _ _ .drops) rfl) (ea_is (ev_fld (ev_var rfl) ho A.c A.cost rfl) ea_nil)))))) (fun vs H1 e => by rw [e]; show 6 ≤ 100000; decide) fun _ _ _ _ e => e).imp ?_) fun v H1 e1 t1 p => hq rfl v H1 e1 t1 p
  rintro v H1 e ⟨vs, ⟨t, rfl, ht⟩, rfl⟩
  exact .tup ht (.cons (.str _) (.cons (dp_nt (h1.ex e)) (.cons (dp_nt (h2.ex e)) (.cons (dp_nt (h3.ex e)) (.cons (dp_nt (h4.ex e)) (.cons (.int _) .nil))))))
/-! ### plain -/
def plainA (a : DA) : DA := { a with bars := [] }
def pre_plain (K : PySem.W.Frag) (a : DA) (vs : List V) (H : Hp) : Prop := ∃ n d r, vs = [.str a.nm, n, d, r, .int a.cost] ∧ okW a.nm ∧ okL K H n a.needs ∧ okL K H d a.adds ∧ okL K H r a.drops
abbrev sp_plain (T : Tn) (K : PySem.W.Frag) : Sp := spX T (pre_plain K) (fun a => x_init K (plainA a)) fun a v H => IsD K (plainA a).dd v H
theorem c_plain (D : HD P w K mg base fa fn tf) (TT : TO K T) : Cl P w K mg base d_plain 8 p_plain (sp_plain T K) := by
  refine D.cl n_plain sc_plain (sp_len fun a vs H ⟨n, d, r, e, _⟩ => by rw [e]; rfl) fun A0 outer s H vs Q E hr h => ?_
  obtain ⟨a, ⟨n, d, r, rfl, hnm, on, od, or_⟩, tb, hq, hx⟩ := h
  refine ⟨_, pss_one (ps_ret (pe_kmk (c_init (T := T) D TT) b_Deed_init_7 hr (by decide) (He.mkr_ok (D.fact _ m_mkr_Deed)) (by exact rfl) (D.glo m_glo_Deed) passO
      (pa_cons (pv 0) (pa_cons (pv 1) (pa_cons (pe_tup pa_nil) (pa_cons (pv 2) (pa_cons (pv 3) (pa_cons (pv 4) pa_nil)))))))), ?_⟩
  have args : EvA T (tCons (tVar 0) (tCons (tVar 1) (tCons (tTup tNil) (tCons (tVar 2) (tCons (tVar 3) (tCons (tVar 4) tNil)))))) (start N_plain [.str a.nm, n, d, r, .int a.cost]) H (fun vs H1 => ∃ b, vs = [.str a.nm, n, b, d, r, .int a.cost] ∧ okL K H1 b []) := fun H0 e0 t0 Q0 q0 =>
    ⟨_, rfl, _, rfl, by decide, fun b hb => ⟨_, rfl, _, rfl, _, rfl, q0 _ _ (.new hb) ((Ex.new (T := T) hb).tb t0) ⟨.ref b, rfl, ⟨⟨b, rfl, .inr (SqT.of upd_same)⟩, by decide, fun k hk => by (cases hk), fun _ k hk => by cases hk⟩⟩⟩⟩
  have prei : ∀ vs H1, Ex T H H1 → (∃ b, vs = [.str a.nm, n, b, d, r, .int a.cost] ∧ okL K H1 b []) → pre_init K (plainA a) (vs ++ []) H1 := fun vs H1 e ⟨b, ev, ob⟩ => ⟨n, b, d, r, by rw [ev]; rfl, hnm, on.ex e, ob, od.ex e, or_.ex e⟩
  cases hxi : x_init K (plainA a) with
  | none => exact st_ret tb (ev_make (plainA a) hxi args prei) fun v7 H7 e7 t7 p7 => hq hxi v7 H7 e7 t7 p7
  | some c => exact rz_ret (rz_make (plainA a) c hxi tb args prei fun H7 e7 t7 => hx c hxi H7 e7 t7)
/-! ### back from a goal -/
def givesB (g b : St1) (d : DD) : Bool := (row.any fun x => g x && d.adds x) || row.any fun x => b x && d.drops x
def spoilsB (g b : St1) (d : DD) : Bool := (row.any fun x => g x && d.drops x) || row.any fun x => b x && d.adds x
def aheadN (g : St1) (d : DD) : St1 := fun x => d.needs x || (g x && !d.adds x)
def aheadB (b : St1) (d : DD) : St1 := fun x => d.bars x || (b x && !d.drops x)
def backO (g b : St1) (d : DD) : Option (St1 × St1) := if spoilsB g b d || !givesB g b d then none else if (row.any fun x => aheadN g d x && aheadB b d x) then none else some (aheadN g d, aheadB b d)
def pre_back (K : PySem.W.Frag) (a : St1 × St1 × DD) (vs : List V) (H : Hp) : Prop := ∃ x y z, vs = [x, y, z] ∧ IsS K a.1 x H ∧ IsS K a.2.1 y H ∧ IsD K a.2.2 z H
def IsB (K : PySem.W.Frag) (o : Option (St1 × St1)) (v : V) (H : Hp) : Prop := match o with
  | none => v = .non
  | some (n, b) => ∃ x y, Tu K H v [x, y] ∧ NtS H x n ∧ NtS H y b
abbrev sp_back (T : Tn) (K : PySem.W.Frag) : Sp := spX T (pre_back K) noX fun a v H => IsB K (backO a.1 a.2.1 a.2.2) v H
theorem ev_anySD {X : Cx} {Pa : Addr} {scope : Scope} {n y : Str} {σ : L2.St} {H : Hp} {d : DD} {p : St1} {i j : Nat} {v1 v2 : V} {f2 : Str} {g2 : DD → Str → Bool} {p1 p2 p3 p4 : Pos} (F2 : F4 f2 g2) (A : NA X.K) (hP : Pa ∈ T.g ∧ ∀ r ∈ T.l, r.1 ≠ Pa) (hi : σ[i]? = some (some v1)) (h1 : IsS X.K p v1 H) (hj : σ[j]? = some (some v2)) (h2 : IsD X.K d v2 H)
    (hN : X.N[j]? = some y) (hf : scope.names.lookup y = some .free)
    (e1 : (n == ("__debug__" : Str)) = false := by decide) (e2 : (y == ("__debug__" : Str)) = false := by decide) (e3 : (y == ("__classdict__" : Str)) = false := by decide) (hm : behindInMarks .In (.Attribute (.Name y p2) f2 p3) = false := by with_unfolding_all rfl) (hb : ∀ env, attributeBase (.Name y p2) f2 env (eval (.Name y p2) env) = eval (.Name y p2) env := by intro _; rfl) :
    Ev T (tAnyQ X Pa scope n (.Compare (.Name n p1) [.In] [.Attribute (.Name y p2) f2 p3] p4) (fun xs pb => xs.any pb) (tVar i)) σ H (Is (.bl (row.any fun x => p x && g2 d x))) :=
  (ev_anyS (ks := sb p) (fun k => decide (k ∈ sb (g2 d))) hP.1 hP.2 (ev_S hi h1) fun H9 e9 k hk => re_dmem F2 A hN hj hf (h2.ex e9) e1 e2 e3 hm hb).is (by rw [any_in])
theorem c_back (D : HD P w K mg base fa fn tf) (TT : TO K T) : Cl P w K mg base d_back_from 4 p_back_from (sp_back T K) := by
  have A := na_of D
  have hP := TT.g d_back_from.at_ (by decide +kernel)
  refine D.cl n_back_from sc_back_from (sp_len fun a vs H ⟨x, y, z, e, _⟩ => by rw [e]; rfl) fun A0 outer s H vs Q E hr h => ?_
  obtain ⟨⟨g, b, d⟩, ⟨x, y, z, rfl, hg, hb, hd⟩, tb, hq, _⟩ := h
  have hg : IsS K g x H := hg
  have hb : IsS K b y H := hb
  have hd : IsD K d z H := hd
  have hq : ∀ v H', Ex T H H' → Tb T H' → IsB K (backO g b d) v H' → Q v H' := hq rfl
  refine ⟨_, pss_cons (ps_set (i := 3) sc_back_from.nd rfl (.inl rfl) (pe_k (c_facts (T := T) D) b_facts hr (by decide) (by exact rfl) (D.glo m_glo_facts) passO (pa_cons (pv 0) pa_nil)))
    (pss_cons (ps_set (i := 4) sc_back_from.nd rfl (.inl rfl) (pe_k (c_facts (T := T) D) b_facts hr (by decide) (by exact rfl) (D.glo m_glo_facts) passO (pa_cons (pv 1) pa_nil)))
    (pss_cons (ps_set (i := 5) sc_back_from.nd rfl (.inl rfl) (pe_or (pe_anyQ hr (by exact rfl) (D.free m_free_any) (D.gtab t_back_from) rfl (genF_by (by kernel_rfl)) (pv 3)) (pe_one (pe_anyQ hr (by exact rfl) (D.free m_free_any) (D.gtab t_back_from) rfl (genF_by (by kernel_rfl)) (pv 4)))))
    (pss_cons (ps_set (i := 6) sc_back_from.nd rfl (.inl rfl) (pe_or (pe_anyQ hr (by exact rfl) (D.free m_free_any) (D.gtab t_back_from) rfl (genF_by (by kernel_rfl)) (pv 3)) (pe_one (pe_anyQ hr (by exact rfl) (D.free m_free_any) (D.gtab t_back_from) rfl (genF_by (by kernel_rfl)) (pv 4)))))
    (pss_cons (ps_if (pw_or (pt_val (pv 6)) (pw_or1 (pt_not (pt_val (pv 5))))).pt (pss_one (ps_ret pe_non)) pss_nil)
    (pss_cons (ps_set (i := 7) sc_back_from.nd rfl (.inl rfl) (pe_k (c_facts (T := T) D) b_facts hr (by decide) (by exact rfl) (D.glo m_glo_facts) passO (pa_cons (pe_op op_cat (pe_callTy call_list_of (by exact rfl) (D.free m_free_list) (by decide +kernel) (pa_cons (pe_fld (pv 2) (by exact rfl)) pa_nil))
      (pe_lc (own := [("fact", 8)]) (te := tVar 8) (tt := tTest (tOp (rIn K true) (tVar 8) (tFld K (tVar 2) "adds"))) rfl sc_back_from.nd (pi_sq (pv 3)) (blkOk_by (by kernel_rfl)) (fun s H C cl fp => pg_name (i := 8) (by exact sc_back_from.nd) rfl (.inl rfl))
        (fun s H C cl fp => pts_one (pt_cmpR op_notIn_seq (pv 8) (pe_fld (pv 2) (by exact rfl)) (by with_unfolding_all rfl))) (fun s H C cl fp => pv 8))) pa_nil)))
    (pss_cons (ps_set (i := 9) sc_back_from.nd rfl (.inr rfl) (pe_k (c_facts (T := T) D) b_facts hr (by decide) (by exact rfl) (D.glo m_glo_facts) passO (pa_cons (pe_op op_cat (pe_callTy call_list_of (by exact rfl) (D.free m_free_list) (by decide +kernel) (pa_cons (pe_fld (pv 2) (by exact rfl)) pa_nil))
      (pe_lc (own := [("fact", 8)]) (te := tVar 8) (tt := tTest (tOp (rIn K true) (tVar 8) (tFld K (tVar 2) "drops"))) rfl sc_back_from.nd (pi_sq (pv 4)) (blkOk_by (by kernel_rfl)) (fun s H C cl fp => pg_name (i := 8) (by exact sc_back_from.nd) rfl (.inl rfl))
        (fun s H C cl fp => pts_one (pt_cmpR op_notIn_seq (pv 8) (pe_fld (pv 2) (by exact rfl)) (by with_unfolding_all rfl))) (fun s H C cl fp => pv 8))) pa_nil)))
    (pss_cons (ps_if (pt_val (pe_anyQ hr (by exact rfl) (D.free m_free_any) (D.gtab t_back_from) rfl (genF_by (by kernel_rfl)) (pv 7))) (pss_one (ps_ret pe_non)) pss_nil)
    (pss_one (ps_ret (pe_tup (pa_cons (pv 7) (pa_cons (pv 9) pa_nil)))))))))))), ?_⟩
  refine sq_asg tb (ev_facts1 (p := g) (ev_S rfl hg)) fun v3 H3 e3 t3 p3 => ?_
  refine sq_asg t3 (ev_facts1 (p := b) (ev_S rfl (hb.ex e3))) fun v4 H4 e4 t4 p4 => ?_
  have p3 := p3.ex e4
  have hd4 := hd.ex (e3.trans e4)
  have E4 := e3.trans e4
  refine sq_asg t4 (ev_orV (a := row.any fun x => g x && d.adds x) (b := row.any fun x => b x && d.drops x) (ev_anySD (i := 3) (j := 2) .adds A hP rfl p3.sq rfl hd4 rfl rfl) fun _ => ev_anySD (i := 4) (j := 2) .drops A hP rfl p4.sq rfl hd4 rfl rfl) fun v5 H5 e5 t5 p5 => ?_
  have p3 := p3.ex e5
  have p4 := p4.ex e5
  have hd5 := hd4.ex e5
  have E5 := E4.trans e5
  refine sq_asg t5 (ev_orV (a := row.any fun x => g x && d.drops x) (b := row.any fun x => b x && d.adds x) (ev_anySD (i := 3) (j := 2) .drops A hP rfl p3.sq rfl hd5 rfl rfl) fun _ => ev_anySD (i := 4) (j := 2) .adds A hP rfl p4.sq rfl hd5 rfl rfl) fun v6 H6 e6 t6 p6 => ?_
  have p3 := p3.ex e6
  have p4 := p4.ex e6
  have hd6 := hd5.ex e6
  have E6 := E5.trans e6
  rw [show v5 = .bl (givesB g b d) from p5, show v6 = .bl (spoilsB g b d) from p6]
  refine sq_when t6 (et_or (et_B (ev_var rfl)) fun _ => et_not (et_B (ev_var rfl))) (fun hb' H7 e7 t7 => ?_) fun hb' H7 e7 t7 => ?_
  · exact st_ret t7 ev_c fun v8 H8 e8 t8 p8 => hq v8 H8 ((E6.trans e7).trans e8) t8 (by unfold backO; rw [hb']; exact p8)
  have p3 := p3.ex e7
  have p4 := p4.ex e7
  have hd7 := hd6.ex e7
  have E7 := E6.trans e7
  refine sq_asg t7 (ev_facts2 (p := d.needs) (q := fun x => g x && !d.adds x) (ev_catS (ev_listOf (ev_dfl .needs A (i := 2) rfl hd7)) (ev_lcP (fun x => !d.adds x) (ei_sq (ev_S rfl p3.sq)) (fun _ => rfl) (fun _ => rfl) fun k H8 hk e8 => et_memD (neg := true) .adds A hk rfl (i := 2) rfl (hd7.ex e8)))) fun v8 H8 e8 t8 p8 => ?_
  have p4 := p4.ex e8
  have hd8 := hd7.ex e8
  have E8 := E7.trans e8
  refine sq_asg t8 (ev_facts2 (p := d.bars) (q := fun x => b x && !d.drops x) (ev_catS (ev_listOf (ev_dfl .bars A (i := 2) rfl hd8)) (ev_lcP (fun x => !d.drops x) (ei_sq (ev_S rfl p4.sq)) (fun _ => rfl) (fun _ => rfl) fun k H9 hk e9 => et_memD (neg := true) .drops A hk rfl (i := 2) rfl (hd8.ex e9)))) fun v9 H9 e9 t9 p9 => ?_
  have p8 : NtS H9 v8 (aheadN g d) := p8.ex e9
  have p9 : NtS H9 v9 (aheadB b d) := p9
  have E9 := E8.trans e9
  refine sq_when t9 (b := row.any fun x => aheadN g d x && aheadB b d x) (et_B ((ev_anyS (ks := sb (aheadN g d)) (fun k => decide (k ∈ sb (aheadB b d))) hP.1 hP.2 (ev_S rfl p8.sq) fun Ha ea k hk => re_inS re_x (re_free (i := 9) rfl rfl rfl) (p9.ex ea).sq).is (by rw [any_in]))) (fun hb2 Ha ea ta => ?_) fun hb2 Ha ea ta => ?_
  · exact st_ret ta ev_c fun v8 H8 e8 t8 px => hq v8 H8 ((E9.trans ea).trans e8) t8 (by unfold backO; rw [hb', hb2]; exact px)
  · refine st_ret ta (ev_tup (K := K) (Pa := fun vs _ => vs = [v8, v9]) (ea_is (ev_var rfl) (ea_is (ev_var rfl) ea_nil)) (fun vs H1 e => by rw [e]; show 2 ≤ 100000; decide) fun _ _ _ _ e => e) fun u Hb eb tb' p => hq u Hb ((E9.trans ea).trans eb) tb' ?_
    obtain ⟨vs, ht, rfl⟩ := p
    unfold backO
    rw [hb', hb2]
    exact ⟨v8, v9, ht, p8.ex (ea.trans eb), p9.ex (ea.trans eb)⟩
end
end PK
end

section
set_option Elab.async false
set_option linter.all false
set_option autoImplicit false
set_option maxRecDepth 100000
set_option maxHeartbeats 9000000
namespace PK
open PySem PySem.Spec PyProof.Rows L2 GxR PW PT
section
variable {P : Program} {w : World} {K : PySem.W.Frag} {mg : Str → Option Value} {base : Heap} {T : Tn}
/-! ### dice -/
abbrev dc (x y z : Int) : List V := [.int x, .int y, .int z]
/-- all but the dice at a stays -/
structure Exd (T : Tn) (a : Addr) (H H' : Hp) : Prop where
  obj : ∀ b o, b ≠ a → H b = some o → (∀ ps, o ≠ .tbl ps) → H' b = some o
  tb : Tb T H → Tb T H'
  dice : ∃ x y z, H' a = some (.lst (dc x y z))
theorem Exd.of {a : Addr} {H H' : Hp} {x y z : Int} (hd : H a = some (.lst (dc x y z))) (e : Ex T H H') : Exd T a H H' := ⟨fun b o _ h n => e.obj b o h n, e.tb, x, y, z, e.obj a _ hd fun _ q => by cases q⟩
theorem Exd.trans {a : Addr} {H H' H2 : Hp} (e : Exd T a H H') (f : Exd T a H' H2) : Exd T a H H2 := ⟨fun b o n h q => f.obj b o n (e.obj b o n h q) q, fun t => f.tb (e.tb t), f.dice⟩
theorem tb_lst {a : Addr} {H : Hp} {xs ys : List V} (h : H a = some (.lst xs)) (t : Tb T H) : Tb T (upd H a (.lst ys)) := by
  refine ⟨fun P hP => ?_, fun p hp => ?_⟩
  · obtain ⟨ps, h1, r⟩ := t.1 P hP
    exact ⟨ps, by rw [upd_ne (fun z => by rw [z, h] at h1; cases h1)]; exact h1, r⟩
  · obtain ⟨ps, h1, r1, r2⟩ := t.2 p hp
    refine ⟨ps, by rw [upd_ne (fun z => by rw [z, h] at h1; cases h1)]; exact h1, r1, fun pos cv hcv => ?_⟩
    obtain ⟨c, e1, e2⟩ := r2 pos cv hcv
    exact ⟨c, e1, by rw [upd_ne (fun z => by rw [z, h] at e2; unfold LamX.CodeO at e2; cases e2)]; exact e2⟩
theorem Exd.set {a : Addr} {H : Hp} {xs : List V} {x y z : Int} (h : H a = some (.lst xs)) : Exd T a H (upd H a (.lst (dc x y z))) := ⟨fun b o n h q => by rw [upd_ne n]; exact h, tb_lst h, x, y, z, upd_same⟩
def sp_roll : Sp := fun vs H Q _ => ∃ a x y z m, vs = [.ref a, .int m] ∧ H a = some (.lst (dc x y z)) ∧ 0 < m ∧ m < 1000 ∧ ∀ r x' y' z', 0 ≤ r → r < m → Q (.int r) (upd H a (.lst (dc x' y' z')))
theorem c_roll (D : HD P w K mg base fa fn tf) : Cl P w K mg base d_law_roll 2 p_law_roll sp_roll := by
  refine D.cl n_law_roll sc_law_roll (fun vs H Q E ⟨a, x, y, z, m, e, _⟩ => by rw [e]; rfl) fun A0 outer s H vs Q E hr h => ?_
  obtain ⟨a, x, y, z, m, rfl, ho, hm0, hm, hq⟩ := h
  refine ⟨_, pss_cons (ps_if (pw_or (pt_cmpR op_eq (pe_ix ix_list (pv 0) pe_int (by intro _ _; rfl)) pe_int (nomark _)) (pw_or1 (pw_and (pt_cmpR op_eq (pe_ix ix_list (pv 0) pe_int (by intro _ _; rfl)) pe_int (nomark _)) (pw_and1 (pt_cmpR op_gt (pe_ix ix_list (pv 0) pe_int (by intro _ _; rfl)) pe_int (nomark _)))).pt)).pt
      (pss_cons (ps_set (i := 2) sc_law_roll.nd rfl (.inl rfl) (pe_op op_mod (pe_callTy call_int1 (by exact rfl) (D.free m_free_int) (by decide +kernel) (pa_cons (pe_ix ix_list (pv 0) pe_int (by intro _ _; rfl)) pa_nil)) (pv 1)))
      (pss_cons (ps_asg (pe_op op_fdiv (pe_ix ix_list (pv 0) pe_int (by intro _ _; rfl)) (pv 1)) (pg_sub (pv 0) pe_int set_list))
      (pss_one (ps_ret (pv 2))))) pss_nil)
    (pss_cons (ps_asg pe_int (pg_sub (pv 0) pe_int set_list))
    (pss_cons (ps_asg (pe_op op_mod (pe_callTy call_int1 (by exact rfl) (D.free m_free_int) (by decide +kernel) (pa_cons (pe_op op_add (pe_op op_add (pe_op op_mul (pe_ix ix_list (pv 0) pe_int (by intro _ _; rfl)) pe_int) (pe_op op_mul (pe_ix ix_list (pv 0) pe_int (by intro _ _; rfl)) pe_int)) pe_int) pa_nil)) pe_int) (pg_sub (pv 0) pe_int set_list))
    (pss_cons (ps_asg (pe_op op_add (pe_ix ix_list (pv 0) pe_int (by intro _ _; rfl)) pe_int) (pg_sub (pv 0) pe_int set_list))
    (pss_one (ps_ret (pe_op op_mod (pe_callTy call_int1 (by exact rfl) (D.free m_free_int) (by decide +kernel) (pa_cons (pe_op op_add (pe_op op_fdiv (pe_ix ix_list (pv 0) pe_int (by intro _ _; rfl)) pe_int) (pe_ix ix_list (pv 0) pe_int (by intro _ _; rfl))) pa_nil)) (pv 1))))))), ?_⟩
  refine pu_if (D := { nx := _, rt := Q }) (b := (z == 2) || ((z == 1) && decide (0 < x))) (put_or (put_test (pu_op (pu_ix (pu_var rfl) ho pu_c (z := .int z) rfl) pu_c fun Q q => ⟨rfl, by rw [dec_int]; exact q⟩)) (put_and (put_test (pu_op (pu_ix (pu_var rfl) ho pu_c (z := .int z) rfl) pu_c fun Q q => ⟨rfl, by rw [dec_int]; exact q⟩)) (put_test (pu_op (pu_ix (pu_var rfl) ho pu_c (z := .int x) rfl) pu_c fun Q q => ⟨x, 0, rfl, rfl, q⟩)))) (fun hb => ?_) fun hb => ?_
  · refine pu_asg (D := { nx := _, rt := Q }) (v := .int (x % m)) (pu_op (pu_int (pu_ix (pu_var rfl) ho pu_c (z := .int x) rfl)) (pu_var rfl) fun Q q => ⟨x, m, rfl, rfl, hm0, q⟩) ?_
    refine pu_setix (D := { nx := _, rt := Q }) (v := .int (x / m)) (j := 0) (pu_op (pu_ix (pu_var rfl) ho pu_c (z := .int x) rfl) (pu_var rfl) fun Q q => ⟨x, m, rfl, rfl, ⟨hm0, by omega⟩, q⟩) (pu_var rfl) pu_c ho rfl ?_
    exact pu_ret (D := { nx := _, rt := Q }) (pu_var rfl) (hq (x % m) (x / m) y z (Int.emod_nonneg _ (by omega)) (Int.emod_lt_of_pos _ hm0))
  · refine pu_setix (D := { nx := _, rt := Q }) (v := .int 0) (j := 2) pu_c (pu_var rfl) pu_c ho rfl ?_
    refine pu_setix (D := { nx := _, rt := Q }) (v := .int ((x * 48271 + y * 69621 + 11) % 2147483647)) (j := 0) (pu_op (pu_int (pu_op (pu_op (x := .int (x * 48271)) (y := .int (y * 69621)) (pu_op (pu_ix (pu_var rfl) upd_same pu_c (z := .int x) rfl) pu_c fun Q q => ⟨x, 48271, rfl, rfl, .inr (by decide), q⟩) (pu_op (pu_ix (pu_var rfl) upd_same pu_c (z := .int y) rfl) pu_c fun Q q => ⟨y, 69621, rfl, rfl, .inr (by decide), q⟩) (z := .int (x * 48271 + y * 69621)) fun Q q => ⟨_, _, rfl, rfl, q⟩) pu_c (z := .int (x * 48271 + y * 69621 + 11)) fun Q q => ⟨_, _, rfl, rfl, q⟩)) pu_c fun Q q => ⟨_, _, rfl, rfl, (by show (0 : Int) < 2147483647; decide), q⟩) (pu_var rfl) pu_c upd_same rfl ?_
    rw [upd_upd]
    generalize (x * 48271 + y * 69621 + 11) % 2147483647 = x'
    refine pu_setix (D := { nx := _, rt := Q }) (v := .int (y + 1)) (j := 1) (pu_op (pu_ix (pu_var rfl) upd_same pu_c (z := .int y) rfl) pu_c fun Q q => ⟨_, _, rfl, rfl, q⟩) (pu_var rfl) pu_c upd_same rfl ?_
    rw [upd_upd]
    refine pu_ret (D := { nx := _, rt := Q }) (v := .int ((x' / 7 + x') % m)) (pu_op (pu_int (pu_op (x := .int (x' / 7)) (y := .int x') (z := .int (x' / 7 + x')) (pu_op (pu_ix (pu_var rfl) upd_same pu_c (z := .int x') rfl) pu_c fun Q q => ⟨_, _, rfl, rfl, ⟨by decide, by decide⟩, q⟩) (pu_ix (pu_var rfl) upd_same pu_c (z := .int x') rfl) fun Q q => ⟨_, _, rfl, rfl, q⟩)) (pu_var rfl) fun Q q => ⟨_, _, rfl, rfl, hm0, q⟩) (hq _ x' (y + 1) 0 (Int.emod_nonneg _ (by omega)) (Int.emod_lt_of_pos _ hm0))
/-! ### the dice of a cell -/
def sp_dice : Sp := fun vs H Q _ => ∃ c, vs = [.int c] ∧ ∀ a x y z, H a = none → Q (.ref a) (upd H a (.lst (dc x y z)))
theorem c_dice (D : HD P w K mg base fa fn tf) : Cl P w K mg base d_law_dice 2 p_law_dice sp_dice := by
  refine D.cl n_law_dice sc_law_dice (fun vs H Q E ⟨c, e, _⟩ => by rw [e]; rfl) fun A0 outer s H vs Q E hr h => ?_
  obtain ⟨c, rfl, hq⟩ := h
  refine ⟨_, pss_cons (ps_if (pt_chain op_lt op_lt (pe_op op_sub pe_int pe_int) (pv 0) pe_int) (pss_one (ps_ret (pe_lst (pa_cons (pe_callB call_abs (by exact rfl) (D.free m_free_abs) (by decide +kernel) (pa_cons (pv 0) pa_nil)) (pa_cons pe_int (pa_cons pe_int pa_nil)))))) pss_nil)
    (pss_one (ps_ret (pe_lst (pa_cons (pv 0) (pa_cons (pe_op op_add pe_int (pe_op op_mod (pe_callTy call_int1 (by exact rfl) (D.free m_free_int) (by decide +kernel) (pa_cons (pv 0) pa_nil)) pe_int)) (pa_cons (pe_callTy call_int1 (by exact rfl) (D.free m_free_int) (by decide +kernel) (pa_cons (pe_cmpR op_ge (pv 0) (pe_op op_pow pe_int pe_int) (nomark _)) pa_nil)) pa_nil)))))), ?_⟩
  refine pu_if (D := { nx := _, rt := Q }) (b := decide ((0 : Int) - 10 < c) && decide (c < 10)) ?_ (fun hb => ?_) fun hb => ?_
  · intro Q0 q0
    refine ⟨0, 10, rfl, rfl, _, rfl, (0 : Int) - 10, c, rfl, rfl, _, rfl, ?_⟩
    cases h1 : decide ((0 : Int) - 10 < c) with
    | true =>
      rw [if_pos rfl]
      exact ⟨c, 10, rfl, rfl, _, rfl, by rw [h1] at q0; exact q0⟩
    | false =>
      rw [if_neg (by decide)]
      exact ⟨false, rfl, by rw [h1] at q0; exact q0⟩
  · exact ⟨_, rfl, c, rfl, (by show 3 ≤ sizeLine; rw [sizeLine_eq]; decide), fun a ha => hq a _ _ _ ha⟩
  · refine ⟨_, rfl, _, rfl, .inl ⟨c, rfl, c, 1009, rfl, rfl, (by show (0 : Int) < 1009; decide), 1, c % 1009, rfl, rfl, _, rfl, 10, 18, rfl, rfl, ⟨by decide, by decide, by decide⟩, c, _, rfl, rfl, .inr ⟨_, rfl, (by show 3 ≤ sizeLine; rw [sizeLine_eq]; decide), fun a ha => hq a _ _ _ ha⟩⟩⟩
/-! ### rounds -/
def sp_rounds (T : Tn) (K : PySem.W.Frag) : Sp := fun vs H Q _ => ∃ (v : V) (ns : List Int), vs = [v, .int 1] ∧ Li K H v (ns.map V.int) ∧ Tb T H ∧ ∀ u a x y z H', Ex T H H' → Tb T H' → Nl H' u [.ref a] → H' a = some (.lst (dc x y z)) → Q u H'
theorem ints_dp {H : Hp} : ∀ ns : List Int, DpAll K H (ns.map .int) (ns.map .int)
  | [] => .nil
  | n :: ns => .cons (.int n) (ints_dp ns)
theorem ints_lay : ∀ ns : List Int, PyData.canLayAll0 (ns.map .int) = true
  | [] => by rw [List.map_nil]; simp [PyData.canLayAll0]
  | n :: ns => by simp [PyData.canLayAll0, PyData.canLay0, ints_lay ns]
theorem ints_depth : ∀ ns : List Int, PyData.depthAll (ns.map .int) ≤ 0
  | [] => by rw [List.map_nil, PyData.depthAll]; exact Nat.le_refl 0
  | n :: ns => by
    have := ints_depth ns
    simp only [PyData.depthAll, PyData.depth, List.map_cons]
    omega
theorem c_rounds (D : HD P w K mg base fa fn tf) : Cl P w K mg base d_law_rounds 4 p_law_rounds (sp_rounds T K) := by
  refine D.cl n_law_rounds sc_law_rounds (fun vs H Q E ⟨v, ns, e, _⟩ => by rw [e]; rfl) fun A0 outer s H vs Q E hr h => ?_
  obtain ⟨v, ns, rfl, hv, tb, hq⟩ := h
  refine ⟨_, pss_cons (ps_set (i := 2) sc_law_rounds.nd rfl (.inl rfl) (pe_slice sl_list (pv 0) po_none (po_some (pv 1))))
    (pss_cons (ps_if (pt_cmpR (op_eqD hr.units) (pv 2) (pe_lst pa_nil) (nomark _)) (pss_one (ps_set (i := 2) sc_law_rounds.nd rfl (.inl rfl) (pe_lst (pa_cons pe_int pa_nil)))) pss_nil)
    (pss_one (ps_ret (pe_lc (own := [("cell", 3)]) (te := tCall sp_dice [] E0 (tCons (tVar 3) tNil)) rfl sc_law_rounds.nd (pi_sq (pv 2)) (blkOk_by (by kernel_rfl)) (fun s H C cl fp => pg_name (i := 3) (by exact sc_law_rounds.nd) rfl (.inl rfl))
        (fun s H C cl fp => pts_nil) (fun s H C cl fp => pe_k (c_dice D) b_law_dice hr (by decide) (by exact rfl) (D.glo m_glo__law_dice) passL (pa_cons (pv 3) pa_nil)))))), ?_⟩
  have hc : ∃ ms : List Int, cutV (ns.map V.int) none (some 1) = ms.map V.int ∧ ms.length ≤ 1 := by
    refine ⟨(ns.drop 0).take (min 1 ns.length), ?_, ?_⟩
    · unfold cutV
      rw [show HT.sIx (ns.map V.int).length 0 none = 0 from rfl, show HT.sIx (ns.map V.int).length (ns.map V.int).length (some 1) = min 1 (ns.map V.int).length from HT.sIx_nat _ _ 1, List.length_map, List.drop_zero, List.drop_zero, Nat.sub_zero, List.map_take]
    · rw [List.length_take]
      omega
  obtain ⟨ms, hms, hml⟩ := hc
  obtain ⟨av, rfl, hav⟩ := hv
  refine ⟨.ref av, rfl, _, rfl, 1, rfl, av, _, rfl, hav, fun p hp => ?_⟩
  rw [hms]
  have e1 : Ex T H (upd H p (.lst (ms.map V.int))) := .new hp
  have t1 := e1.tb tb
  have hp1 : (upd H p (.lst (ms.map V.int))) p = some (.lst (ms.map V.int)) := upd_same
  generalize upd H p (.lst (ms.map V.int)) = H1 at e1 t1 hp1 ⊢
  -- the one cell
  have fin : ∀ (c : Int) (q : Addr) (σ : L2.St) (H2 : Hp), Ex T H H2 → Tb T H2 → SqL K H2 q [.int c] → σ[2]? = some (some (.ref q)) → σ.length = 4 → (∀ x, ((wipe σ [3]).set 3 (some x))[3]? = some (some x)) → (∀ x, wipe ((wipe σ [3]).set 3 (some x)) [3] = wipe σ [3]) →
      tRet (tLc (iSq K (tVar 2)) (gName 3) tYes (tCall sp_dice [] E0 (tCons (tVar 3) tNil)) [3]) { nx := fun _ H' => Q .non H', rt := Q } σ H2 := by
    intro c q σ H2 e2 t2 hq2 hs hlen hg hw
    refine ev_lcD (T := T) (H := H2) (xs := [.int c]) (fun _ => true) (fun _ y Hh => ∃ a x' y' z', y = .ref a ∧ Hh a = some (.lst (dc x' y' z'))) (ei_sq ((ev_var hs).imp fun u H3 e3 z => by rw [show u = .ref q from z]; exact ⟨q, rfl, .inl (e3.lst hq2)⟩)) (by show 1 ≤ 100000; decide) hw
      (fun x y Ha Hb e ⟨a, x', y', z', e1, e2⟩ => ⟨a, x', y', z', e1, e.obj a _ e2 fun _ z => by cases z⟩) (fun x y Ha D' ys zs hD ny ⟨a, x', y', z', e1, e2⟩ => ⟨a, x', y', z', e1, by rw [upd_ne (fun z => ny (by rw [e1, z]))]; exact e2⟩)
      (fun x Ha hx e Hb eb tb' Q0 q0 => q0 Hb (.refl T _) tb') (fun x Ha hx e ta hp D' ys hD Q0 q0 => ?_) H2 (.refl T _) t2 _ fun D' H3 ys hD e3 t3 h3 hm => ?_
    · have hx' : x = .int c := List.mem_singleton.mp hx
      subst hx'
      refine ⟨.int c, hg _, c, rfl, fun a x' y' z' ha => ?_⟩
      exact q0 _ _ (.new ha) ((Ex.new (T := T) ha).tb ta) ⟨a, x', y', z', rfl, upd_same⟩ fun z => by cases z; rw [ha] at hD; cases hD
    · match ys, hm with
      | [y], hm =>
        obtain ⟨⟨a, x', y', z', rfl, ha⟩, _⟩ := hm
        exact hq _ a x' y' z' H3 (e2.trans e3) t3 ⟨D', rfl, h3⟩ ha
  have hcmp : EvT T (tTest (tOp (rEqD K) (tVar 2) (tLst tNil))) ((start N_law_rounds [.ref av, .int 1]).set 2 (some (.ref p))) H1 ms.isEmpty :=
    et_test (ev_op (Pa := Is (.ref p)) (Pb := fun v H1 => Li K H1 v []) (ev_var rfl) ((ev_lst (K := K) (Pa := fun vs _ => vs = []) ea_nil (fun vs H1 e => by rw [e]; exact Nat.zero_le _) fun _ _ _ _ e => e).imp fun u H1 e ⟨vs, hl, ev⟩ => by rw [ev] at hl; exact hl) is_mono fun x y H2 e2 t2 px ⟨b, eb, qb⟩ Q0 q0 => by
      subst eb
      rw [show x = .ref p from px]
      refine ⟨.list (ms.map .int), .list [], .lst (SqL.of (e2.obj p _ hp1 fun _ z => by cases z)) (ints_dp ms), .lst qb .nil, shaped_of (by simp only [PyData.canLay0]; exact ints_lay ms) (by have := ints_depth ms; simp only [PyData.depth]; omega), by decide +kernel, ?_⟩
      have e3 : PyData.eqv (.list (ms.map .int)) (.list []) = ms.isEmpty := by
        cases ms with
        | nil => simp [PyData.eqv, PyData.eqvAll]
        | cons k ks => simp [PyData.eqv, PyData.eqvAll]
      rw [e3]
      exact q0 _ H2 (.refl T H2) t2 rfl)
  refine sq_if t1 hcmp (fun hb H2 e2 t2 => ?_) fun hb H2 e2 t2 => ?_
  · refine st_asg t2 (ev_lst (K := K) (Pa := fun vs _ => vs = [.int 0]) (ea_is ev_c ea_nil) (fun vs H1 e => by rw [e]; show 1 ≤ 100000; decide) fun _ _ _ _ e => e) fun u H3 e3 t3 ⟨vs, ⟨q, eu, hl⟩, ev⟩ => ?_
    subst eu ev
    exact fin 0 q _ H3 ((e1.trans e2).trans e3) t3 hl rfl rfl (fun _ => rfl) fun _ => rfl
  · match ms, hml, hb with
    | [c], _, _ => exact fin c p _ H2 (e1.trans e2) t2 (SqL.of (e2.obj p _ hp1 fun _ z => by cases z)) rfl rfl (fun _ => rfl) fun _ => rfl
end
end PK
end

section
set_option Elab.async false
set_option linter.all false
set_option autoImplicit false
set_option maxRecDepth 100000
set_option maxHeartbeats 9000000
namespace PK
open PySem PySem.Spec PyProof.Rows L2 GxR PW PT
section
variable {P : Program} {w : World} {K : PySem.W.Frag} {mg : Str → Option Value} {base : Heap} {T : Tn}
/-! ### what stays when dice are rolled -/
theorem dc_strs {x y z : Int} {ks : List Str} (h : dc x y z = ks.map V.str) : False := by
  cases ks with
  | nil => cases h
  | cons k ks => cases h
theorem Nl.exd {a : Addr} {H H' : Hp} {x y z : Int} {v : V} {ks : List Str} (hd : H a = some (.lst (dc x y z))) (e : Exd T a H H') (h : Nl H v (ks.map .str)) : Nl H' v (ks.map .str) := by
  obtain ⟨b, rfl, q⟩ := h
  exact ⟨b, rfl, e.obj b _ (fun z => by rw [z, hd] at q; exact dc_strs (HO.lst.inj (Option.some.inj q))) q fun _ z => by cases z⟩
theorem Nt.exd {a : Addr} {H H' : Hp} {x y z : Int} {v : V} {xs : List V} (hd : H a = some (.lst (dc x y z))) (e : Exd T a H H') (h : Nt H v xs) : Nt H' v xs := by
  obtain ⟨b, rfl, q⟩ := h
  exact ⟨b, rfl, e.obj b _ (fun z => by rw [z, hd] at q; cases q) q fun _ z => by cases z⟩
theorem IsD.exd {a : Addr} {H H' : Hp} {x y z : Int} {v : V} {d : DD} (hd : H a = some (.lst (dc x y z))) (e : Exd T a H H') (h : IsD K d v H) : IsD K d v H' := by
  obtain ⟨o, dx, n, b, aa, r, e1, e2, e3, e4, e5, e6⟩ := h
  exact ⟨o, dx, n, b, aa, r, e1, e.obj o _ (fun z => by rw [z, hd] at e2; cases e2) e2 (fun _ z => by cases z), Nt.exd hd e e3, Nt.exd hd e e4, Nt.exd hd e e5, Nt.exd hd e e6⟩
theorem sub_of_list : ∀ {l r : List Str}, l.Sublist r → r.Nodup → l = r.filter fun x => decide (x ∈ l) := by
  intro l r h
  induction h with
  | slnil => intro _; rfl
  | @cons l r x h ih =>
    intro nd
    have nx : x ∉ l := fun hx => (List.nodup_cons.mp nd).1 (h.subset hx)
    rw [List.filter_cons_of_neg (by simpa using nx)]
    exact ih (List.nodup_cons.mp nd).2
  | @cons_cons l r x h ih =>
    intro nd
    have ⟨n1, n2⟩ := List.nodup_cons.mp nd
    rw [List.filter_cons_of_pos (by simp)]
    congr 1
    refine (ih n2).trans (List.filter_congr fun y hy => ?_)
    have : y ≠ x := fun e => n1 (e ▸ hy)
    simp [this]
/-! ### some of the row -/
def sp_some (T : Tn) : Sp := fun vs H Q _ => ∃ a x y z v m, vs = [.ref a, v, .int m] ∧ H a = some (.lst (dc x y z)) ∧ Nl H v (row.map .str) ∧ Tb T H ∧ 0 < m ∧ m < 1000 ∧ ∀ p u H', Exd T a H H' → Tb T H' → Nl H' u ((sb p).map .str) → (∀ b, H' b = none → H b = none) → Q u H'
theorem c_some (D : HD P w K mg base fa fn tf) : Cl P w K mg base d_law_some 4 p_law_some (sp_some T) := by
  refine D.cl n_law_some sc_law_some (fun vs H Q E ⟨a, x, y, z, v, m, e, _⟩ => by rw [e]; rfl) fun A0 outer s H vs Q E hr h => ?_
  obtain ⟨a, x, y, z, v, m, rfl, ho, ⟨ar, rfl, har⟩, tb, hm0, hm, hq⟩ := h
  refine ⟨_, pss_one (ps_ret (pe_lc (own := [("one", 3)]) (te := tVar 3) (tt := tTest (tOp rEq (tCall sp_roll [] E0 (tCons (tVar 0) (tCons (tVar 2) tNil))) (tC (.int 0)))) rfl sc_law_some.nd (pi_sq (pv 1)) (blkOk_by (by kernel_rfl)) (fun s H C cl fp => pg_name (i := 3) (by exact sc_law_some.nd) rfl (.inl rfl))
        (fun s H C cl fp => pts_one (pt_cmpR op_eq (pe_k (c_roll D) b_law_roll hr (by decide) (by exact rfl) (D.glo m_glo__law_roll) passL (pa_cons (pv 0) (pa_cons (pv 2) pa_nil))) pe_int (nomark _))) (fun s H C cl fp => pv 3))), ?_⟩
  have ner : ar ≠ a := fun z => by rw [z, ho] at har; exact dc_strs (ks := row) (HO.lst.inj (Option.some.inj har))
  refine ⟨.ref ar, rfl, ar, rfl, .inl ⟨⟨_, SqL.of har⟩, fun D' hD => ?_⟩⟩
  have na : a ≠ D' := fun z => by rw [← z, ho] at hD; cases hD
  have nr : ar ≠ D' := fun z => by rw [← z, har] at hD; cases hD
  refine ⟨fun i k H' => k = 4 - i ∧ i ≤ 4 ∧ Exd T a H H' ∧ Tb T H' ∧ (∀ b, H' b = none → H b = none) ∧ ∃ l : List Str, H' D' = some (.lst (l.map .str)) ∧ l.Sublist (row.take i), ⟨4, rfl, by decide, (Exd.of (T := T) ho (.new hD)), (Ex.new (T := T) hD).tb tb, fun b hb => (Ex.new (T := T) hD).free hb, [], upd_same, List.nil_sublist _⟩, ?_⟩
  rintro i k H' ⟨rfl, hi, ex, t', fr, l, hl, hs⟩
  have har' : H' ar = some (.lst (row.map .str)) := ex.obj ar _ ner har fun _ z => by cases z
  by_cases hlt : i < 4
  · refine .inr ⟨⟨_, (row.map V.str)[i]'(by rw [List.length_map]; exact hlt), SqL.of har', List.getElem?_eq_getElem _⟩, fun H2 => i + 1 ≤ 4 ∧ Exd T a H H2 ∧ Tb T H2 ∧ (∀ b, H2 b = none → H b = none) ∧ ∃ l : List Str, H2 D' = some (.lst (l.map .str)) ∧ l.Sublist (row.take (i + 1)), fun H2 z => ⟨4 - (i + 1), by omega, rfl, z⟩, fun xv H2 yd => ?_⟩
    obtain ⟨eH, hx⟩ := yd
    subst eH
    have hx2 := hx _ (SqL.of har')
    rw [List.getElem?_map, List.getElem?_eq_getElem (show i < row.length from hlt)] at hx2
    have ex2 : V.str row[i] = xv := Option.some.inj hx2
    subst ex2
    have tk : row.take (i + 1) = row.take i ++ [row[i]] := by rw [List.take_succ, List.getElem?_eq_getElem (show i < row.length from hlt)]; rfl
    obtain ⟨x', y', z', hd'⟩ := ex.dice
    refine ⟨rfl, .ref a, rfl, .int m, rfl, a, x', y', z', m, rfl, hd', hm0, hm, fun r x2 y2 z2 hr0 hrm => ⟨rfl, _, rfl, ?_⟩⟩
    have e2 : Exd T a H2 (upd H2 a (.lst (dc x2 y2 z2))) := .set hd'
    have hl2 : (upd H2 a (.lst (dc x2 y2 z2))) D' = some (.lst (l.map .str)) := by rw [upd_ne (Ne.symm na)]; exact hl
    have fr2 : ∀ b, (upd H2 a (.lst (dc x2 y2 z2))) b = none → H b = none := fun b hb => fr b (by
      by_cases q : b = a
      · rw [q, upd_same] at hb; cases hb
      · rw [upd_ne q] at hb; exact hb)
    cases hdec : decide (V.int r = V.int 0) with
    | true =>
      refine iteT ⟨V.str row[i], rfl, l.map .str, hl2, ?_, hlt, ?_⟩
      · rw [List.length_map, sizeLine_eq]
        have := hs.length_le
        rw [List.length_take] at this
        omega
      · have e3 : Exd T a H (upd (upd H2 a (.lst (dc x2 y2 z2))) D' (.lst (l.map .str ++ [V.str row[i]]))) := by
          refine ⟨fun b o n h q => ?_, fun _ => ?_, x2, y2, z2, by rw [upd_ne na, upd_same]⟩
          · rw [upd_ne (fun z => by rw [z, hD] at h; cases h)]
            exact (ex.trans e2).obj b o n h q
          · exact tb_lst hl2 (e2.tb t')
        refine ⟨e3, e3.tb tb, fun b hb => fr2 b (by
          by_cases q : b = D'
          · rw [q, upd_same] at hb; cases hb
          · rw [upd_ne q] at hb; exact hb), l ++ [row[i]], by rw [upd_same, List.map_append]; rfl, ?_⟩
        rw [tk]
        exact hs.append (.refl _)
    | false =>
      refine iteF ⟨hlt, ex.trans e2, e2.tb t', fr2, l, hl2, ?_⟩
      rw [tk]
      exact hs.trans (List.sublist_append_left _ _)
  · have e : i = 4 := by omega
    subst e
    refine .inl ⟨⟨_, SqL.of har', Nat.le_refl _⟩, ?_⟩
    have hs' : l.Sublist row := hs
    have : l = sb fun x => decide (x ∈ l) := sub_of_list hs' (by decide +kernel)
    exact hq (fun x => decide (x ∈ l)) _ H' ex t' ⟨D', rfl, by rw [← this]; exact hl⟩ fr

/-! ### a deed drawn -/
def Good (d : DD) : Prop := (∀ x ∈ row, (d.needs x && d.bars x) = false) ∧ (∀ x ∈ row, (d.adds x && d.drops x) = false) ∧ 0 ≤ d.cost
def sp_deed (T : Tn) (K : PySem.W.Frag) : Sp := fun vs H Q _ => ∃ a x y z v nm, vs = [.ref a, .str nm, v, .bl true, .bl true] ∧ H a = some (.lst (dc x y z)) ∧ Nl H v (row.map .str) ∧ Tb T H ∧ okW nm ∧ isFact nm = true ∧
  ∀ d u H', d.name = nm → Good d → Exd T a H H' → Tb T H' → IsD K d u H' → (∀ b, H' b = none → H b = none) → Q u H'
theorem sp_some_go {a : Addr} {x y z : Int} {v : V} {m : Int} {H : Hp} {E : XK} {σ : L2.St} {i j : Nat} {te : TE} {Q : VK} (hs : σ[i]? = some (some (.ref a))) (hj : σ[j]? = some (some v)) (hm : ∀ Q : VK, Q (.int m) H → te σ H Q) (ho : H a = some (.lst (dc x y z))) (hv : Nl H v (row.map .str)) (tb : Tb T H) (h0 : 0 < m) (h1 : m < 1000)
    (k : ∀ p u H', Exd T a H H' → Tb T H' → Nl H' u ((sb p).map .str) → (∀ b, H' b = none → H b = none) → Q u H') : tCall (sp_some T) [] E (tCons (tVar i) (tCons (tVar j) (tCons te tNil))) σ H Q :=
  ⟨_, hs, _, hj, hm _ ⟨a, x, y, z, v, m, rfl, ho, hv, tb, h0, h1, k⟩⟩
theorem make_go {H1 : Hp} {E : XK} {vs : List V} {Q : VK} (A : DA) (hx : x_init K A = none) (t1 : Tb T H1) (p : pre_init K A vs H1) (k : ∀ u H', Ex T H1 H' → Tb T H' → IsD K A.dd u H' → Q u H') :
    ∀ x dx, H1 x = none → H1 dx = none → dx ≠ x → sp_init T K (.ref x :: vs) (upd (upd H1 dx (.own x)) x (.ins (CD K) dx [])) (fun v H2 => v = .non ∧ Q (.ref x) H2) E := fun x dx hx1 hdx hne =>
  ⟨A, H1, x, dx, vs, rfl, rfl, hx1, hdx, hne, t1, p, fun _ H' e' t' d => ⟨rfl, k _ H' e' t' d⟩, fun c hc => by rw [hx] at hc; cases hc⟩
theorem sp_roll_go {a : Addr} {x y z : Int} {m : Int} {H : Hp} {E : XK} {σ : L2.St} {i : Nat} {te : TE} {Q : VK} (hs : σ[i]? = some (some (.ref a))) (hm : ∀ Q : VK, Q (.int m) H → te σ H Q) (ho : H a = some (.lst (dc x y z))) (h0 : 0 < m) (h1 : m < 1000)
    (k : ∀ r x' y' z', 0 ≤ r → r < m → Q (.int r) (upd H a (.lst (dc x' y' z')))) : tCall sp_roll [] E (tCons (tVar i) (tCons te tNil)) σ H Q := ⟨_, hs, hm _ ⟨a, x, y, z, m, rfl, ho, h0, h1, k⟩⟩
theorem tlc_call {tl : TE} {g : TG} {tt : TT} {te : TE} {vs : List Nat} {σ : L2.St} {H : Hp} {Q : VK} (h : tl σ H (fun u H2 => tLc (iSq K (tC u)) g tt te vs σ H2 Q)) : tLc (iSq K tl) g tt te vs σ H Q := h
theorem c_deed (D : HD P w K mg base fa fn tf) (TT : TO K T) : Cl P w K mg base d_law_deed 8 p_law_deed (sp_deed T K) := by
  refine D.cl n_law_deed sc_law_deed (fun vs H Q E ⟨a, x, y, z, v, nm, e, _⟩ => by rw [e]; rfl) fun A0 outer s H vs Q E hr h => ?_
  obtain ⟨a, x, y, z, v, nm, rfl, ho, hv, tb, hnm, hf, hq⟩ := h
  refine ⟨_, pss_cons (ps_set (i := 5) sc_law_deed.nd rfl (.inr rfl) (pe_k (c_some (T := T) D) b_law_some hr (by decide) (by exact rfl) (D.glo m_glo__law_some) passO (pa_cons (pv 0) (pa_cons (pv 2) (pa_cons pe_int pa_nil)))))
    (pss_cons (ps_set (i := 6) sc_law_deed.nd rfl (.inl rfl) (pe_ifExp (pt_val (pv 3)) (pe_lc (own := [("one", 7)]) (te := tVar 7) (tt := tTest (tOp (rIn K true) (tVar 7) (tVar 5))) rfl sc_law_deed.nd (pi_sq (pe_k (c_some (T := T) D) b_law_some hr (by decide) (by exact rfl) (D.glo m_glo__law_some) passO (pa_cons (pv 0) (pa_cons (pv 2) (pa_cons pe_int pa_nil))))) (blkOk_by (by kernel_rfl)) (fun s H C cl fp => pg_name (i := 7) (by exact sc_law_deed.nd) rfl (.inl rfl))
        (fun s H C cl fp => pts_one (pt_cmpR op_notIn_seq (pv 7) (pv 5) (by with_unfolding_all rfl))) (fun s H C cl fp => pv 7)) (pe_lst pa_nil)))
    (pss_cons (ps_par (i := 8) (j := 9) rfl sc_law_deed.nd rfl rfl (by decide) rfl rfl (pa_cons (pe_k (c_some (T := T) D) b_law_some hr (by decide) (by exact rfl) (D.glo m_glo__law_some) passO (pa_cons (pv 0) (pa_cons (pv 2) (pa_cons pe_int pa_nil)))) (pa_cons (pe_k (c_some (T := T) D) b_law_some hr (by decide) (by exact rfl) (D.glo m_glo__law_some) passO (pa_cons (pv 0) (pa_cons (pv 2) (pa_cons pe_int pa_nil)))) pa_nil)) (by exact rfl))
    (pss_one (ps_ret (pe_kmk (c_init (T := T) D TT) b_Deed_init_7 hr (by decide) (He.mkr_ok (D.fact _ m_mkr_Deed)) (by exact rfl) (D.glo m_glo_Deed) passO
      (pa_cons (pv 1) (pa_cons (pv 5) (pa_cons (pv 6) (pa_cons (pv 8) (pa_cons (pv 9) (pa_cons (pe_ifExp (pt_val (pv 4)) (pe_k (c_roll D) b_law_roll hr (by decide) (by exact rfl) (D.glo m_glo__law_roll) passO (pa_cons (pv 0) (pa_cons pe_int pa_nil)))
        (pe_op op_add pe_int (pe_k (c_roll D) b_law_roll hr (by decide) (by exact rfl) (D.glo m_glo__law_roll) passO (pa_cons (pv 0) (pa_cons pe_int pa_nil))))) pa_nil))))))))))), ?_⟩
  refine sp_some_go (i := 0) (j := 2) rfl rfl (fun Q q => q) ho hv tb (by decide) (by decide) fun p1 u1 H1 e1 t1 h1 f1 => ?_
  obtain ⟨x1, y1, z1, ho1⟩ := e1.dice
  have hv1 := Nl.exd ho e1 hv
  refine ⟨_, rfl, true, rfl, iteT (tlc_call ?_)⟩
  refine sp_some_go (i := 0) (j := 2) rfl rfl (fun Q q => q) ho1 hv1 t1 (by decide) (by decide) fun p2 u2 H2 e2 t2 h2 f2 => ?_
  obtain ⟨x2, y2, z2, ho2⟩ := e2.dice
  have hv2 := Nl.exd ho1 e2 hv1
  have h1 := Nl.exd ho1 e2 h1
  have L := ev_lcP (T := T) (wi := iSq K (tC u2)) (tt := tTest (tOp (rIn K true) (tVar 7) (tVar 5))) (σ := (start N_law_deed [.ref a, .str nm, v, .bl true, .bl true]).set 5 (some u1)) (H := H2) (j := 7) (vs := [7]) (p := p2) (fun k => !p1 k)
    (ei_sq (ev_c.imp fun u H3 e3 z => by rw [show u = u2 from z]; exact (h2.ex e3).sq)) (fun _ => rfl) (fun _ => rfl) fun k H3 hk e3 => et_memS (neg := true) hk rfl (i := 5) rfl (h1.ex e3).sq
  refine L H2 (.refl T H2) t2 _ fun u3 H3 e3 t3 h3 => ?_
  have ho3 : H3 a = some (.lst (dc x2 y2 z2)) := e3.obj a _ ho2 fun _ z => by cases z
  have hv3 := hv2.ex e3
  have h1 := h1.ex e3
  have d3 : Exd T a H H3 := (e1.trans e2).trans (.of ho2 e3)
  have f3 : ∀ b, H3 b = none → H b = none := fun b hb => f1 b (f2 b (e3.free hb))
  refine sp_some_go (i := 0) (j := 2) rfl rfl (fun Q q => q) ho3 hv3 t3 (by decide) (by decide) fun p4 u4 H4 e4 t4 h4 f4 => ?_
  obtain ⟨x4, y4, z4, ho4⟩ := e4.dice
  have hv4 := Nl.exd ho3 e4 hv3
  have h1 := Nl.exd ho3 e4 h1
  have h3 := Nl.exd ho3 e4 h3
  refine sp_some_go (i := 0) (j := 2) rfl rfl (fun Q q => q) ho4 hv4 t4 (by decide) (by decide) fun p5 u5 H5 e5 t5 h5 f5 => ?_
  obtain ⟨x5, y5, z5, ho5⟩ := e5.dice
  have h1 := Nl.exd ho4 e5 h1
  have h3 := Nl.exd ho4 e5 h3
  have h4 := Nl.exd ho4 e5 h4
  refine ⟨u4, u5, rfl, ?_⟩
  refine ⟨_, rfl, _, rfl, _, rfl, _, rfl, _, rfl, _, rfl, true, rfl, iteT ?_⟩
  refine sp_roll_go (i := 0) rfl (fun Q q => q) ho5 (by decide) (by decide) fun r x6 y6 z6 hr0 hr4 => ?_
  have e6 : Exd T a H5 (upd H5 a (.lst (dc x6 y6 z6))) := .set ho5
  have t6 := e6.tb t5
  have h1 := Nl.exd ho5 e6 h1
  have h3 := Nl.exd ho5 e6 h3
  have h4 := Nl.exd ho5 e6 h4
  have h5 := Nl.exd ho5 e6 h5
  have ho6 : (upd H5 a (.lst (dc x6 y6 z6))) a = some (.lst (dc x6 y6 z6)) := upd_same
  have f6 : ∀ b, (upd H5 a (.lst (dc x6 y6 z6))) b = none → H b = none := fun b hb => f3 b (f4 b (f5 b (by
      by_cases q : b = a
      · rw [q, upd_same] at hb; cases hb
      · rw [upd_ne q] at hb; exact hb)))
  generalize upd H5 a (.lst (dc x6 y6 z6)) = H6 at e6 t6 h1 h3 h4 h5 ho6 f6 ⊢
  have d6 : Exd T a H H6 := ((d3.trans e4).trans e5).trans e6
  have len1 : ∀ p : Str → Bool, (sb p).length ≤ 1000 := fun p => by have := len_sb (p := p); omega
  have nb : ∀ x, ((decide (x ∈ sb p1)) && decide (x ∈ sb fun x => p2 x && !p1 x)) = false := fun x => by
    cases hx : decide (x ∈ sb p1) with
    | false => rfl
    | true =>
      have hx := of_decide_eq_true hx
      have hp := (mem_sub.mp hx).2
      rw [decide_eq_false (fun z => by have := (mem_sub.mp z).2; rw [hp] at this; simp at this)]
      rfl
  have o1 : okL K H6 u1 (sb p1) := okL_row h1.sq (len1 _) in_sb
  have o3 : okL K H6 u3 (sb fun x => p2 x && !p1 x) := okL_row h3.sq (len1 _) in_sb
  have o4 : okL K H6 u4 (sb p4) := okL_row h4.sq (len1 _) in_sb
  have o5 : okL K H6 u5 (sb p5) := okL_row h5.sq (len1 _) in_sb
  refine make_go ⟨nm, sb p1, sb fun x => p2 x && !p1 x, sb p4, sb p5, r⟩ ?_ t6 ⟨u1, u3, u4, u5, rfl, hnm, o1, o3, o4, o5⟩ fun u7 H7 e7 t7 h7 => ?_
  · have hall : DA.all ⟨nm, sb p1, sb fun x => p2 x && !p1 x, sb p4, sb p5, r⟩ = sb p1 ++ (sb fun x => p2 x && !p1 x) ++ sb p4 ++ sb p5 := rfl
    unfold x_init
    have hbad : DA.bad ⟨nm, sb p1, sb fun x => p2 x && !p1 x, sb p4, sb p5, r⟩ = false := by
      unfold DA.bad
      rw [Bool.or_eq_false_iff]
      refine ⟨List.any_eq_false.mpr fun x hx => by rw [nb x]; decide, decide_eq_false (by show ¬ r < 0; omega)⟩
    rw [hbad, hall, show isFact nm = true from hf, List.all_append, List.all_append, List.all_append, all_row in_sb, all_row in_sb, all_row in_sb, all_row in_sb]
    rfl
  · refine hq _ u7 H7 rfl ⟨fun x hx => nb x, fun x hx => ?_, hr0⟩ (d6.trans (.of ho6 e7)) t7 h7 fun b hb => f6 b (e7.free hb)
    show (decide (x ∈ sb p4) && (decide (x ∈ sb p5) && !decide (x ∈ sb p4))) = false
    cases decide (x ∈ sb p4) <;> simp
end
end PK
end

section
set_option Elab.async false
set_option linter.all false
set_option autoImplicit false
set_option maxRecDepth 100000
set_option maxHeartbeats 9000000
namespace PK
open PySem PySem.Spec PyProof.Rows L2 GxR PW PT
section
variable {P : Program} {w : World} {K : PySem.W.Frag} {mg : Str → Option Value} {base : Heap} {T : Tn}
theorem merge_keys : ∀ (L : List Str) (acc : List (Key × V)) (as : List Str), acc.map (·.1) = as.map Sum.inr → as.Nodup →
    ∃ ks : List Str, (mergeK acc (L.map fun k => ((Sum.inr k : Key), V.int 1))).map (·.1) = ks.map Sum.inr ∧ ks.Nodup ∧ (∀ x, x ∈ ks ↔ x ∈ as ∨ x ∈ L) ∧ ks.length ≤ as.length + L.length
  | [], acc, as, h, nd => ⟨as, h, nd, fun x => by simp, by simp⟩
  | k :: L, acc, as, h, nd => by
    show ∃ ks : List Str, (mergeK (putK acc (Sum.inr k) (V.int 1)) (L.map fun k => ((Sum.inr k : Key), V.int 1))).map (·.1) = ks.map Sum.inr ∧ _
    by_cases hk : k ∈ as
    · have hput : (putK acc (Sum.inr k) (V.int 1)).map (·.1) = as.map Sum.inr := by
        unfold putK
        split
        · rw [List.map_map, ← h]
          refine List.map_congr_left fun kv _ => ?_
          show (if kv.1 = Sum.inr k then (kv.1, V.int 1) else kv).1 = kv.1
          split <;> rfl
        · rename_i hn
          refine absurd ?_ hn
          have : (Sum.inr k : Key) ∈ acc.map (·.1) := by rw [h]; exact List.mem_map.mpr ⟨k, hk, rfl⟩
          obtain ⟨kv, h1, h2⟩ := List.mem_map.mp this
          exact List.any_eq_true.mpr ⟨kv, h1, decide_eq_true h2⟩
      obtain ⟨ks, h1, h2, h3, h4⟩ := merge_keys L _ as hput nd
      refine ⟨ks, h1, h2, fun x => ?_, by simp only [List.length_cons]; omega⟩
      rw [h3 x, List.mem_cons]
      exact ⟨fun z => z.elim .inl fun y => .inr (.inr y), fun z => z.elim .inl fun y => y.elim (fun e => .inl (e ▸ hk)) .inr⟩
    · have hput : (putK acc (Sum.inr k) (V.int 1)).map (·.1) = (as ++ [k]).map Sum.inr := by
        unfold putK
        split
        · rename_i hn
          obtain ⟨kv, h1, h2⟩ := List.any_eq_true.mp hn
          have : kv.1 ∈ as.map Sum.inr := by rw [← h]; exact List.mem_map.mpr ⟨kv, h1, rfl⟩
          rw [of_decide_eq_true h2] at this
          obtain ⟨j, hj, ej⟩ := List.mem_map.mp this
          cases ej
          exact absurd hj hk
        · rw [List.map_append, h, List.map_append]
          rfl
      obtain ⟨ks, h1, h2, h3, h4⟩ := merge_keys L _ (as ++ [k]) hput (List.nodup_append.mpr ⟨nd, by simp, fun x hx y hy e => by rw [List.mem_singleton.mp hy] at e; exact hk (e ▸ hx)⟩)
      refine ⟨ks, h1, h2, fun x => ?_, by simp only [List.length_append, List.length_cons, List.length_nil] at h4 ⊢; omega⟩
      rw [h3 x]
      simp [or_assoc]
theorem okS_sb {p : Str → Bool} : okS (sb p) := fun k hk => by
  have : ∀ k ∈ row, PyData.strOk k = true := by
    intro k hk
    have : k = "a" ∨ k = "b" ∨ k = "c" ∨ k = "d" := by simpa using hk
    rcases this with rfl | rfl | rfl | rfl <;> decide +kernel
  exact this k (in_sb k hk)
theorem made_pairs {H : Hp} : ∀ {L : List Str} {ys : List V}, Made (fun x y H => ∃ q, y = .ref q ∧ H q = some (.tup [x, .int 1])) H (L.map V.str) ys →
    ∃ ps : List Addr, ys = ps.map V.ref ∧ Paired (fun p kv => SqT K H p [kV kv.1, kv.2]) ps (L.map fun k => ((Sum.inr k : Key), V.int 1))
  | [], [], _ => ⟨[], rfl, .nil⟩
  | k :: L, y :: ys, h => by
    obtain ⟨⟨q, e1, e2⟩, hr⟩ := h
    obtain ⟨ps, e3, e4⟩ := made_pairs hr
    exact ⟨q :: ps, by rw [e1, e3]; rfl, .cons (SqT.of e2) e4⟩
  | [], _ :: _, h => h.elim
  | _ :: _, [], h => h.elim
/-! ### the law's own doing -/
def stepO (d : DD) (s : St1) : Option St1 := if fitsB d s then some (doneP d s) else none
def IsO (o : Option St1) (v : V) (H : Hp) : Prop := match o with
  | none => v = .non
  | some p => NtS H v p
theorem IsO.ex {H H' : Hp} {o : Option St1} {v : V} (e : Ex T H H') (h : IsO o v H) : IsO o v H' := by
  cases o with
  | none => exact h
  | some p => exact Nt.ex e h
abbrev sp_step (T : Tn) (K : PySem.W.Frag) : Sp := spX T (pre_ds K) noX fun a v H => IsO (stepO a.1 a.2) v H
theorem isEmpty_sb {p : Str → Bool} : (!(sb p).isEmpty) = row.any p := by
  rw [Bool.eq_iff_iff, Bool.not_eq_true', List.any_eq_true]
  constructor
  · intro h
    cases hs : sb p with
    | nil => rw [hs] at h; cases h
    | cons x l =>
      have : x ∈ sb p := by rw [hs]; exact List.mem_cons_self
      obtain ⟨h1, h2⟩ := mem_sub.mp this
      exact ⟨x, h1, h2⟩
  · rintro ⟨x, h1, h2⟩
    have : x ∈ sb p := mem_sub.mpr ⟨h1, h2⟩
    cases hs : sb p with
    | nil => rw [hs] at this; cases this
    | cons y l => rfl
theorem not_all {p q : Str → Bool} : (row.any fun x => p x && !q x) = !(row.all fun x => !p x || q x) := by
  rw [List.any_eq_not_all_not]
  congr 1
  refine congrArg row.all (funext fun x => ?_)
  cases p x <;> cases q x <;> rfl
theorem c_step (D : HD P w K mg base fa fn tf) : Cl P w K mg base d_law_step 3 p_law_step (sp_step T K) := by
  have A := na_of D
  refine D.cl n_law_step sc_law_step (sp_len len_ds) fun A0 outer s H vs Q E hr h => ?_
  obtain ⟨⟨a, b⟩, ⟨u, v, rfl, ha, hb⟩, tb, hq, _⟩ := h
  have ha : IsD K a u H := ha
  have hb : IsS K b v H := hb
  have hq : ∀ v H', Ex T H H' → Tb T H' → IsO (stepO a b) v H' → Q v H' := hq rfl
  refine ⟨_, pss_cons (ps_if (pw_or (pt_cmpR (op_neD hr.units) (pe_lc (own := [("one", 2)]) (te := tVar 2) (tt := tTest (tOp (rIn K true) (tVar 2) (tVar 1))) rfl sc_law_step.nd (pi_sq (pe_fld (pv 0) (by exact rfl))) (blkOk_by (by kernel_rfl)) (fun s H C cl fp => pg_name (i := 2) (by exact sc_law_step.nd) rfl (.inl rfl))
        (fun s H C cl fp => pts_one (pt_cmpR op_notIn_seq (pv 2) (pv 1) (by with_unfolding_all rfl))) (fun s H C cl fp => pv 2)) (pe_lst pa_nil) (nomark _))
      (pw_or1 (pt_cmpR (op_neD hr.units) (pe_lc (own := [("one", 2)]) (te := tVar 2) (tt := tTest (tOp (rIn K false) (tVar 2) (tVar 1))) rfl sc_law_step.nd (pi_sq (pe_fld (pv 0) (by exact rfl))) (blkOk_by (by kernel_rfl)) (fun s H C cl fp => pg_name (i := 2) (by exact sc_law_step.nd) rfl (.inl rfl))
        (fun s H C cl fp => pts_one (pt_cmpR op_in_seq (pv 2) (pv 1) (by with_unfolding_all rfl))) (fun s H C cl fp => pv 2)) (pe_lst pa_nil) (nomark _)))).pt (pss_one (ps_ret pe_non)) pss_nil)
    (pss_one (ps_ret (pe_callTy call_tuple_of (by exact rfl) (D.free m_free_tuple) (by decide +kernel) (pa_cons (pe_callB (call_sortedD rfl) (by exact rfl) (D.free m_free_sorted) (by decide +kernel) (pa_cons (pe_callTy (call_dictP rfl) (by exact rfl) (D.free m_free_dict) (by decide +kernel) (pa_cons
      (pe_lc (own := [("one", 2)]) (te := tTup (tCons (tVar 2) (tCons (tC (.int 1)) tNil))) (tt := tYes) rfl sc_law_step.nd (pi_sq (pe_op op_cat (pe_lc (own := [("one", 2)]) (te := tVar 2) (tt := tTest (tOp (rIn K true) (tVar 2) (tFld K (tVar 0) "drops"))) rfl sc_law_step.nd (pi_sq (pv 1)) (blkOk_by (by kernel_rfl)) (fun s H C cl fp => pg_name (i := 2) (by exact sc_law_step.nd) rfl (.inl rfl))
        (fun s H C cl fp => pts_one (pt_cmpR op_notIn_seq (pv 2) (pe_fld (pv 0) (by exact rfl)) (by with_unfolding_all rfl))) (fun s H C cl fp => pv 2)) (pe_callTy call_list_of (by exact rfl) (D.free m_free_list) (by decide +kernel) (pa_cons (pe_fld (pv 0) (by exact rfl)) pa_nil))))
        (blkOk_by (by kernel_rfl)) (fun s H C cl fp => pg_name (i := 2) (by exact sc_law_step.nd) rfl (.inl rfl)) (fun s H C cl fp => pts_nil) (fun s H C cl fp => pe_tup (pa_cons (pv 2) (pa_cons pe_int pa_nil)))) pa_nil)) pa_nil)) pa_nil)))), ?_⟩
  refine sq_when tb (b := !fitsB a b) ((et_or (a := row.any fun x => a.needs x && !b x) (b := row.any fun x => a.bars x && b x) (et_test ?_) fun _ => et_test ?_).is ?_) (fun hb' H1 e1 t1 => ?_) fun hb' H1 e1 t1 => ?_
  · exact (ev_neNil okS_sb (ev_lcP (fun x => !b x) (ei_sq (ev_dfl .needs A (i := 0) rfl ha)) (fun _ => rfl) (fun _ => rfl) fun k H2 hk e2 => et_memS (neg := true) hk rfl (i := 1) rfl (hb.ex e2))).is (by rw [isEmpty_sb])
  · exact (ev_neNil okS_sb (ev_lcP b (ei_sq (ev_dfl .bars A (i := 0) rfl ha)) (fun _ => rfl) (fun _ => rfl) fun k H2 hk e2 => et_memS (neg := false) hk rfl (i := 1) rfl (hb.ex e2))).is (by rw [isEmpty_sb])
  · unfold fitsB
    rw [not_all]
    cases (row.all fun x => !a.needs x || b x) <;> cases (row.any fun x => a.bars x && b x) <;> rfl
  · have hf : fitsB a b = false := by cases q : fitsB a b with | false => rfl | true => rw [q] at hb'; cases hb'
    exact st_ret t1 ev_c fun v2 H2 e2 t2 p => hq v2 H2 (e1.trans e2) t2 (by unfold stepO; rw [hf]; exact p)
  · have hf : fitsB a b = true := by cases q : fitsB a b with | true => rfl | false => rw [q] at hb'; cases hb'
    have cat : Ev T (tOp rCat (tLc (iSq K (tVar 1)) (gName 2) (tTest (tOp (rIn K true) (tVar 2) (tFld K (tVar 0) "drops"))) (tVar 2) [2]) (tCB (fun xs H Q => ∃ p ys, xs = [V.ref p] ∧ (SqL K H p ys ∨ SqT K H p ys) ∧ ∀ l, H l = none → Q (.ref l) (upd H l (.lst ys))) (tCons (tFld K (tVar 0) "adds") tNil)))
        (start N_law_step [u, v]) H1 fun v H2 => Nl H2 v ((sb (fun x => b x && !a.drops x) ++ sb a.adds).map V.str) :=
      ev_catS (ev_lcP (fun x => !a.drops x) (ei_sq (ev_S rfl (hb.ex e1))) (fun _ => rfl) (fun _ => rfl) fun k H2 hk e2 => et_memD (neg := true) .drops A hk rfl (i := 0) rfl (ha.ex (e1.trans e2))) (ev_listOf (ev_dfl .adds A (i := 0) rfl (ha.ex e1)))
    have hlen : (sb (fun x => b x && !a.drops x) ++ sb a.adds).length ≤ 8 := by rw [List.length_append]; have := len_sb (p := fun x => b x && !a.drops x); have := len_sb (p := a.adds); omega
    have prs := ev_lc (T := T) (tt := tYes) (te := tTup (tCons (tVar 2) (tCons (tC (.int 1)) tNil))) (j := 2) (vs := [2]) (fun _ => true) (fun x y H => ∃ q, y = .ref q ∧ H q = some (.tup [x, .int 1])) (ei_sq (K := K) (cat.imp fun u H2 e z => z.sq)) (by rw [List.length_map]; omega) (fun _ => rfl)
      (fun x y Ha Hb e ⟨q, e1, e2⟩ => ⟨q, e1, e.obj q _ e2 fun _ z => by cases z⟩) (fun x y Ha D' ys hD ⟨q, e1, e2⟩ z => by rw [e1] at z; cases z; rw [e2] at hD; cases hD) (fun x y Ha D' ys zs hD ny ⟨q, e1, e2⟩ => ⟨q, e1, by rw [upd_ne (fun z => ny (by rw [e1, z]))]; exact e2⟩)
      (fun x Ha hx e Hb eb tb' Q0 q0 => q0 Hb (.refl T _) tb') (fun x Ha hx e _ Hb eb tb' Q0 q0 => ⟨x, rfl, (by show 2 ≤ sizeLine; rw [sizeLine_eq]; decide), fun q hq => q0 _ _ (.new hq) ((Ex.new (T := T) hq).tb tb') ⟨q, rfl, upd_same⟩⟩)
    have hL : ∀ x, x ∈ (sb (fun x => b x && !a.drops x) ++ sb a.adds) → x ∈ row := in_sb2
    obtain ⟨ks, k1, k2, k3, k4⟩ := merge_keys (sb (fun x => b x && !a.drops x) ++ sb a.adds) [] [] rfl List.nodup_nil
    have dct : Ev T (tCB (fun xs H Q => ∃ (a : Addr) (ps : List Addr) (kvs : List (Key × V)), xs = [V.ref a] ∧ SqL K H a (ps.map V.ref) ∧ Paired (fun p kv => SqT K H p [kV kv.1, kv.2]) ps kvs ∧ ∀ p, H p = none → Q (.ref p) (upd H p (.dK (mergeK [] kvs)))) (tCons _ tNil)) (start N_law_step [u, v]) H1
        fun v H2 => ∃ q, v = .ref q ∧ H2 q = some (.dK (mergeK [] ((sb (fun x => b x && !a.drops x) ++ sb a.adds).map fun k => ((Sum.inr k : Key), V.int 1)))) :=
      ev_cb (ea_one1 prs) fun vs H2 e2 t2 ⟨x, ev, ys, ⟨q, ex, hl⟩, hm⟩ Q0 q0 => by
        subst ev ex
        rw [List.filter_eq_self.mpr (fun _ _ => rfl)] at hm
        obtain ⟨ps, e3, e4⟩ := made_pairs (K := K) hm
        subst e3
        exact ⟨q, ps, _, rfl, SqL.of hl, e4, fun p hp => q0 _ _ (.new hp) ((Ex.new (T := T) hp).tb t2) ⟨p, rfl, upd_same⟩⟩
    refine st_ret (Po := fun v H2 => NtS H2 v (doneP a b)) t1 (ev_tupleOf (xs := (sb (doneP a b)).map V.str) (ev_cb (ea_one1 dct) fun vs H2 e2 t2 ⟨x, ev, q, ex, hd⟩ Q0 q0 => ?_)) fun v2 H2 e2 t2 p => hq v2 H2 (e1.trans e2) t2 (by unfold stepO; rw [hf]; exact p)
    subst ev ex
    refine ⟨q, _, ks, rfl, .inl hd, k1, by simp only [List.length_nil] at k4; omega, fun ys p hp so hn => q0 _ _ (.new hn) ((Ex.new (T := T) hn).tb t2) ?_⟩
    have o : Ord ys (sb (fun x => b x && !a.drops x) ++ sb a.adds) := ⟨hp.nodup_iff.mpr k2, so, fun x => by rw [hp.mem_iff, k3 x]; simp⟩
    have ey := ord_sub rowOk o hL
    have e9 : sub row (fun x => decide (x ∈ sb (fun x => b x && !a.drops x) ++ sb a.adds)) = sb (doneP a b) := dec_sb2
    rw [e9] at ey
    rw [ey]
    exact ⟨p, rfl, SqL.of upd_same⟩
end
end PK
end

section
set_option Elab.async false
set_option linter.all false
set_option autoImplicit false
set_option maxRecDepth 100000
set_option maxHeartbeats 9000000
namespace PK
open PySem PySem.Spec PyProof.Rows L2 GxR PW PT
section
variable {P : Program} {w : World} {K : PySem.W.Frag} {mg : Str → Option Value} {base : Heap} {T : Tn}
/-! ### rows one behind the other -/
def Rws (H : Hp) (rs : List V) (xss : List (List V)) : Prop := rs.length = xss.length ∧ ∀ (i : Nat) (r : V) (xs : List V), rs[i]? = some r → xss[i]? = some xs → Nl H r xs
theorem Rws.ex {H H' : Hp} {rs : List V} {xss : List (List V)} (e : Ex T H H') (h : Rws H rs xss) : Rws H' rs xss := ⟨h.1, fun i r xs a b => (h.2 i r xs a b).ex e⟩
def pre_flat (K : PySem.W.Frag) (a : List (List V)) (vs : List V) (H : Hp) : Prop := ∃ v rs, vs = [v] ∧ Li K H v rs ∧ Rws H rs a ∧ a.flatten.length ≤ 1000 ∧ a.length ≤ 1000
abbrev sp_flat (T : Tn) (K : PySem.W.Frag) : Sp := spX T (pre_flat K) noX fun a v H => Nl H v a.flatten
theorem flat_take {α : Type} (a : List (List α)) (i : Nat) : (a.take i).flatten.length ≤ a.flatten.length := by
  have : a.flatten = (a.take i).flatten ++ (a.drop i).flatten := by rw [← List.flatten_append, List.take_append_drop]
  rw [this, List.length_append]
  omega
theorem c_flat (D : HD P w K mg base fa fn tf) : Cl P w K mg base d_law_flat 2 p_law_flat (sp_flat T K) := by
  refine D.cl n_law_flat sc_law_flat (sp_len fun a vs H ⟨v, rs, e, _⟩ => by rw [e]; rfl) fun A0 outer s H vs Q E hr h => ?_
  obtain ⟨a, ⟨v, rs, rfl, hv, hrs, hfl, hal⟩, tb, hq, _⟩ := h
  refine ⟨_, pss_cons (ps_set (i := 1) sc_law_flat.nd rfl (.inl rfl) (pe_lst pa_nil)) (pss_cons (ps_for (passes_of rfl) rfl (pi_sq (pv 0)) (pg_name (i := 2) sc_law_flat.nd rfl (.inl rfl)) (pss_one (ps_set (i := 1) sc_law_flat.nd rfl (.inl rfl) (pe_op op_cat (pv 1) (pv 2))))) (pss_one (ps_ret (pv 1)))), ?_⟩
  refine sq_asg tb (Po := fun v H1 => Nl H1 v []) (fun H1 e t Q q => ⟨by show 0 ≤ sizeLine; exact Nat.zero_le _, fun p hp => q _ _ (.new hp) ((Ex.new (T := T) hp).tb t) ⟨p, rfl, upd_same⟩⟩) fun f H1 e1 t1 p1 => ?_
  refine st_for (T := T) (D := { nx := _, rt := Q }) (xs := rs) (fun i σ' H' => σ'.length = 3 ∧ ∃ f, σ'[1]? = some (some f) ∧ Nl H' f ((a.take i).flatten)) (ei_sq ((ev_var (v := v) rfl).imp fun u H2 e2 z => by rw [show u = v from z]; exact (hv.ex (e1.trans e2)).sq)) t1 (fun H2 e2 t2 => ⟨rfl, f, rfl, p1.ex e2⟩) ?_ ?_
  · rintro i σ' H' x N hi hx ex t' ⟨hlen, f', hf', hn⟩ k
    have hi2 : i < a.length := by rw [← hrs.1]; exact hi
    have hxx := (hrs.2 i x a[i] hx (List.getElem?_eq_getElem hi2)).ex (e1.trans ex)
    have tk : (a.take (i + 1)).flatten = (a.take i).flatten ++ a[i] := by rw [List.take_succ, List.getElem?_eq_getElem hi2, List.flatten_append]; simp
    have s1 : (σ'.set 2 (some x))[1]? = some (some f') := by rw [List.getElem?_set_ne (by decide)]; exact hf'
    have s2 : (σ'.set 2 (some x))[2]? = some (some x) := List.getElem?_set_self (by omega)
    refine st_asg t' (ev_catL (xs := (a.take i).flatten) (ys := a[i]) ((ev_var s1).imp fun u H2 e2 z => by rw [show u = f' from z]; exact hn.ex e2) ((ev_var s2).imp fun u H2 e2 z => by rw [show u = x from z]; exact hxx.ex e2) ?_) fun u H2 e2 t2 p2 => ?_
    · have := flat_take a (i + 1)
      rw [tk, List.length_append] at this
      omega
    · refine k _ H2 e2 t2 ⟨by simpa using hlen, u, List.getElem?_set_self (by simp; omega), ?_⟩
      rw [tk]
      exact p2
  · rintro σ' H' ex t' ⟨hlen, f', hf', hn⟩
    rw [hrs.1, List.take_length] at hn
    exact st_ret t' (ev_var hf') fun u H2 e2 t2 z => hq rfl u H2 ((e1.trans ex).trans e2) t2 (by rw [show u = f' from z]; exact hn.ex e2)
/-! ### all rows of noughts and ones -/
def rowsN : Nat → List (List Int)
  | 0 => [[]]
  | k + 1 => (rowsN k).flatMap fun r => [r ++ [0], r ++ [1]]
def ctOf (H : Hp) : V → List V
  | .ref a => match H a with
    | some (.tup xs) => xs
    | _ => []
  | _ => []
theorem ct_of {H : Hp} {v : V} {xs : List V} (h : Nt H v xs) : ctOf H v = xs := by
  obtain ⟨a, rfl, q⟩ := h
  show (match H a with | some (.tup xs) => xs | _ => []) = xs
  rw [q]
/-- tuples of the contents cs -/
def Tups (H : Hp) (fs : List V) (cs : List (List V)) : Prop := fs.length = cs.length ∧ ∀ (i : Nat) (f : V) (c : List V), fs[i]? = some f → cs[i]? = some c → Nt H f c
theorem Tups.ex {H H' : Hp} {fs : List V} {cs : List (List V)} (e : Ex T H H') (h : Tups H fs cs) : Tups H' fs cs := ⟨h.1, fun i r xs a b => (h.2 i r xs a b).ex e⟩
theorem Tups.map {H : Hp} {fs : List V} {cs : List (List V)} (h : Tups H fs cs) : cs = fs.map (ctOf H) := by
  refine List.ext_getElem? fun i => ?_
  rw [List.getElem?_map]
  cases hf : fs[i]? with
  | none =>
    have := List.getElem?_eq_none_iff.mp hf
    exact List.getElem?_eq_none_iff.mpr (by rw [← h.1]; exact this)
  | some f =>
    have hi : i < fs.length := (List.getElem?_eq_some_iff.mp hf).1
    have hc : cs[i]? = some (cs[i]'(by rw [← h.1]; exact hi)) := List.getElem?_eq_getElem _
    rw [hc]
    exact congrArg some (ct_of (h.2 i f _ hf hc)).symm
theorem Tups.mem {H : Hp} {fs : List V} {cs : List (List V)} (h : Tups H fs cs) {f : V} (hf : f ∈ fs) : Nt H f (ctOf H f) := by
  obtain ⟨i, hi, rfl⟩ := List.getElem_of_mem hf
  have hc : cs[i]? = some (cs[i]'(by rw [← h.1]; exact hi)) := List.getElem?_eq_getElem _
  have := h.2 i _ _ (List.getElem?_eq_getElem hi) hc
  rw [ct_of this]
  exact this
theorem tups_of {H : Hp} {fs : List V} (h : ∀ f ∈ fs, Nt H f (ctOf H f)) : Tups H fs (fs.map (ctOf H)) := ⟨by rw [List.length_map], fun i f c hf hc => by
  rw [List.getElem?_map, hf] at hc
  cases hc
  exact h f (List.mem_of_getElem? hf)⟩
def sp_all (T : Tn) (K : PySem.W.Frag) : Sp := fun vs H Q _ => ∃ v, vs = [v, .int 4] ∧ Li K H v [.int 0, .int 1] ∧ Tb T H ∧ ∀ u fs H', Ex T H H' → Tb T H' → Nl H' u fs → Tups H' fs ((rowsN 4).map fun r => r.map V.int) → Q u H'
theorem made_2 {g : V → V → V → Prop} {H : Hp} {x y : V} {Pe : V → V → Hp → Prop} {ys : List V} (h : Made Pe H [x, y] ys) : ∃ a b, ys = [a, b] ∧ Pe x a H ∧ Pe y b H := by
  match ys, h with
  | [a, b], h => exact ⟨a, b, rfl, h.1, h.2.1⟩
theorem rows_cons {H : Hp} {r : V} {xs : List V} {rs : List V} {xss : List (List V)} (h : Nl H r xs) (t : Rws H rs xss) : Rws H (r :: rs) (xs :: xss) := ⟨by simp [t.1], fun i r' xs' a b => by
  cases i with
  | zero => cases a; cases b; exact h
  | succ i => exact t.2 i r' xs' a b⟩
theorem tups_cons {H : Hp} {f : V} {c : List V} {fs : List V} {cs : List (List V)} (h : Nt H f c) (t : Tups H fs cs) : Tups H (f :: fs) (c :: cs) := ⟨by simp [t.1], fun i r' xs' a b => by
  cases i with
  | zero => cases a; cases b; exact h
  | succ i => exact t.2 i r' xs' a b⟩
theorem made_rows {H : Hp} {g : V → List V} : ∀ {fs ys : List V}, Made (fun x y H => ∃ y0 y1, Nl H y [y0, y1] ∧ Nt H y0 (g x ++ [.int 0]) ∧ Nt H y1 (g x ++ [.int 1])) H fs ys →
    ∃ zss, Rws H ys zss ∧ Tups H zss.flatten ((fs.map g).flatMap fun c => [c ++ [.int 0], c ++ [.int 1]]) ∧ zss.length = fs.length ∧ zss.flatten.length = 2 * fs.length
  | [], [], _ => ⟨[], ⟨rfl, fun i r xs a _ => by simp at a⟩, ⟨rfl, fun i r xs a _ => by simp at a⟩, rfl, rfl⟩
  | x :: fs, y :: ys, h => by
    obtain ⟨⟨y0, y1, h1, h2, h3⟩, hr⟩ := h
    obtain ⟨zss, r1, r2, r3, r4⟩ := made_rows hr
    refine ⟨[y0, y1] :: zss, rows_cons h1 r1, ?_, by simp [r3], by simp only [List.flatten_cons, List.length_append, r4, List.length_cons, List.length_nil]; omega⟩
    rw [List.map_cons, List.flatMap_cons, List.flatten_cons]
    exact tups_cons h2 (tups_cons h3 r2)
  | [], _ :: _, h => h.elim
  | _ :: _, [], h => h.elim
theorem rowsN_len : ∀ (n : Nat), ∀ r ∈ rowsN n, r.length = n
  | 0, r, h => by rw [List.mem_singleton.mp h]; rfl
  | n + 1, r, h => by
    obtain ⟨q, hq, hr⟩ := List.mem_flatMap.mp h
    have := rowsN_len n q hq
    rcases List.mem_cons.mp hr with e | e
    · rw [e, List.length_append, this]; rfl
    · rw [List.mem_singleton.mp e, List.length_append, this]; rfl
theorem rowsN_map (n : Nat) : ((rowsN n).map fun r => r.map V.int).flatMap (fun c => [c ++ [V.int 0], c ++ [.int 1]]) = (rowsN (n + 1)).map fun r => r.map V.int := by
  show _ = ((rowsN n).flatMap fun r => [r ++ [0], r ++ [1]]).map _
  rw [List.map_flatMap, List.flatMap_map]
  simp
theorem c_all (D : HD P w K mg base fa fn tf) : Cl P w K mg base d_law_all 4 p_law_all (sp_all T K) := by
  refine D.cl n_law_all sc_law_all (fun vs H Q E ⟨v, e, _⟩ => by rw [e]; rfl) fun A0 outer s H vs Q E hr h => ?_
  obtain ⟨v, rfl, hv, tb, hq⟩ := h
  refine ⟨_, pss_cons (ps_set (i := 2) sc_law_all.nd rfl (.inl rfl) (pe_lst (pa_cons (pe_tup pa_nil) pa_nil)))
    (pss_cons (ps_for (passes_of rfl) rfl (pi_range1 (by exact rfl) (D.free m_free_range) (pa_cons (pv 1) pa_nil)) (pg_name (i := 3) sc_law_all.nd rfl (.inl rfl)) (pss_one (ps_set (i := 2) sc_law_all.nd rfl (.inl rfl)
      (pe_k (c_flat (T := T) D) b_law_flat hr (by decide) (by exact rfl) (D.glo m_glo__law_flat) passO (pa_cons (pe_lc (own := [("row", 4)]) (tt := tYes) (te := tLc (iSq K (tVar 0)) (gName 5) tYes (tOp (rCatA K) (tVar 4) (tTup (tCons (tVar 5) tNil))) [5]) rfl sc_law_all.nd (pi_sq (pv 2)) (blkOk_by (by kernel_rfl)) (fun s H C cl fp => pg_name (i := 4) (by exact sc_law_all.nd) rfl (.inr rfl))
        (fun s H C cl fp => pts_nil) (fun s H C cl fp => pe_lc (own := [("one", 5)]) rfl (by exact sc_law_all.nd) (pi_sq (pv 0)) (blkOk_by (by kernel_rfl)) (fun s H C cl fp => pg_name (i := 5) (by exact sc_law_all.nd) rfl (.inl rfl)) (fun s H C cl fp => pts_nil) (fun s H C cl fp => pe_op op_catA (pv 4) (pe_tup (pa_cons (pv 5) pa_nil))))) pa_nil)))))
    (pss_one (ps_ret (pv 2)))), ?_⟩
  refine sq_asg tb (Po := fun v H1 => ∃ e, Nl H1 v [e] ∧ Nt H1 e []) (fun H1 e t Q q => ⟨Nat.zero_le _, fun p hp => ⟨(by show 1 ≤ sizeLine; rw [sizeLine_eq]; decide), fun p2 hp2 => ?_⟩⟩) fun f H1 e1 t1 ⟨f0, p1, p2⟩ => ?_
  · have e2 : Ex T H1 (upd H1 p (.tup [])) := .new hp
    exact q _ _ (e2.trans (.new hp2)) ((Ex.new (T := T) hp2).tb (e2.tb t)) ⟨.ref p, ⟨p2, rfl, upd_same⟩, p, rfl, by rw [upd_ne (fun z => by rw [← z, upd_same] at hp2; cases hp2)]; exact upd_same⟩
  refine st_for (T := T) (D := { nx := _, rt := Q }) (xs := rngV 0 4) (fun i σ' H' => σ'.length = 6 ∧ σ'[0]? = some (some v) ∧ ∃ f fs, σ'[2]? = some (some f) ∧ Nl H' f fs ∧ Tups H' fs ((rowsN i).map fun r => r.map V.int)) (ei_range1 (n := 4) (ea_is (ev_var rfl) ea_nil) (by decide)) t1 (fun H2 e2 t2 => ⟨rfl, rfl, f, [f0], rfl, p1.ex e2, tups_cons (p2.ex e2) ⟨rfl, fun i r xs a _ => by simp at a⟩⟩) ?_ ?_
  · rintro i σ' H' x N hi hx ex t' ⟨hlen, hv0, f', fs, hf', hfl, htu⟩ k
    have hi4 : i < 4 := by rw [rngV_len] at hi; exact hi
    have hlf : fs.length ≤ 16 := by
      rw [htu.1, List.length_map]
      have : ∀ i < 4, (rowsN i).length ≤ 16 := by decide
      exact this i hi4
    have hcl : ∀ g ∈ fs, (ctOf H' g).length ≤ 4 := fun g hg => by
      have h1 : ctOf H' g ∈ fs.map (ctOf H') := List.mem_map.mpr ⟨g, hg, rfl⟩
      rw [← htu.map] at h1
      obtain ⟨r, hr, e⟩ := List.mem_map.mp h1
      rw [← e, List.length_map, rowsN_len i r hr]
      omega
    obtain ⟨σ, hσ⟩ : ∃ σ, σ = σ'.set 3 (some x) := ⟨_, rfl⟩
    rw [← hσ]
    have l6 : σ.length = 6 := by rw [hσ]; simpa using hlen
    have s0 : σ[0]? = some (some v) := by rw [hσ, List.getElem?_set_ne (by decide)]; exact hv0
    have s2 : σ[2]? = some (some f') := by rw [hσ, List.getElem?_set_ne (by decide)]; exact hf'
    match σ, l6, s0, s2 with
    | [a0, a1, a2, a3, a4, a5], _, s0, s2 =>
    cases s0
    cases s2
    have outer : Ev T (tLc (iSq K (tVar 2)) (gName 4) tYes (tLc (iSq K (tVar 0)) (gName 5) tYes (tOp (rCatA K) (tVar 4) (tTup (tCons (tVar 5) tNil))) [5]) [4]) [some v, a1, some f', a3, a4, a5] H' (fun u H2 => ∃ ys, Nl H2 u ys ∧ Made (fun x y H => ∃ y0 y1, Nl H y [y0, y1] ∧ Nt H y0 (ctOf H' x ++ [.int 0]) ∧ Nt H y1 (ctOf H' x ++ [.int 1])) H2 fs ys) := fun Hz ez tz Q0 q0 => by
      refine ev_lcD (T := T) (H := H') (xs := fs) (fun _ => true) (fun x y H => ∃ y0 y1, Nl H y [y0, y1] ∧ Nt H y0 (ctOf H' x ++ [.int 0]) ∧ Nt H y1 (ctOf H' x ++ [.int 1])) (ei_sq ((ev_var rfl).imp fun u H3 e3 z => by rw [show u = f' from z]; exact (hfl.ex e3).sq)) (by omega) (fun _ => rfl)
        (fun x y Ha Hb e ⟨y0, y1, b1, b2, b3⟩ => ⟨y0, y1, b1.ex e, b2.ex e, b3.ex e⟩) (fun x y Ha D' ys zs hD ny ⟨y0, y1, ⟨q, b1, b1'⟩, ⟨q2, b2, b2'⟩, ⟨q3, b3, b3'⟩⟩ => ⟨y0, y1, ⟨q, b1, by rw [upd_ne (fun z => ny (by rw [b1, z]))]; exact b1'⟩, ⟨q2, b2, by rw [upd_ne (fun z => by rw [z, hD] at b2'; cases b2')]; exact b2'⟩, ⟨q3, b3, by rw [upd_ne (fun z => by rw [z, hD] at b3'; cases b3')]; exact b3'⟩⟩)
        (fun x Ha hx e Hb eb tb' Q0 q0 => q0 Hb (.refl T _) tb') (fun x Ha hx e ta hp D' ys hD Q1 q1 => ?_) Hz ez tz _ fun D' H3 ys hD e3 t3 h3 hm => ?_
      · have hc := (htu.mem hx).ex e
        have hcl' := hcl x hx
        generalize ctOf H' x = c at hc hcl' q1
        refine ev_lcD (T := T) (H := Ha) (xs := [.int 0, .int 1]) (fun _ => true) (fun z y H => Nt H y (c ++ [z])) (ei_sq ((ev_var (v := v) rfl).imp fun u H3 e3 z => by rw [show u = v from z]; exact (hv.ex (((e1.trans ex).trans e).trans e3)).sq)) (by show 2 ≤ 100000; decide) (fun _ => rfl)
          (fun x y Ha Hb e b => b.ex e) (fun x y Ha D' ys zs hD ny ⟨q2, b2, b2'⟩ => ⟨q2, b2, by rw [upd_ne (fun z => by rw [z, hD] at b2'; cases b2')]; exact b2'⟩)
          (fun x Ha hx e Hb eb tb' Q0 q0 => q0 Hb (.refl T _) tb') (fun z Hc hz ec tc hp D2 ys2 hD2 Q2 q2 => ?_) Ha (.refl T _) ta _ fun D2 H4 ys2 hD2 e4 t4 h4 hm4 => ?_
        · obtain ⟨q, rfl, hq'⟩ := hc.ex ec
          refine ⟨_, rfl, _, rfl, (by show 1 ≤ sizeLine; rw [sizeLine_eq]; decide), fun b hb => ⟨q, b, c, [z], rfl, rfl, SqT.of (by rw [upd_ne (fun w => by rw [w, hb] at hq'; cases hq')]; exact hq'), SqT.of upd_same, by rw [sizeLine_eq]; show c.length + 1 ≤ _; omega, fun hc0 => ?_, (fun _ h => by cases h), fun _ _ p hp => ?_⟩⟩
          · subst hc0
            exact q2 _ _ (.new hb) ((Ex.new (T := T) hb).tb tc) ⟨b, rfl, upd_same⟩ fun w => by cases w; rw [hb] at hD2; cases hD2
          · have e5 : Ex T Hc (upd Hc b (.tup [z])) := .new hb
            refine q2 _ _ (e5.trans (.new hp)) ((Ex.new (T := T) hp).tb (e5.tb tc)) ⟨p, rfl, upd_same⟩ fun w => ?_
            cases w
            rw [upd_ne (fun w => by rw [w, hb] at hD2; cases hD2), hD2] at hp
            cases hp
        · obtain ⟨a, b, rfl, ha, hb⟩ := made_2 (g := fun _ _ _ => True) hm4
          exact q1 _ _ e4 t4 ⟨a, b, ⟨D2, rfl, h4⟩, ha, hb⟩ fun w => by cases w; rw [hD] at hD2; cases hD2
      · rw [List.filter_eq_self.mpr (fun _ _ => rfl)] at hm
        exact q0 _ _ e3 t3 ⟨ys, ⟨D', rfl, h3⟩, hm⟩
    refine st_asg t' (Po := fun w H3 => ∃ gs, Nl H3 w gs ∧ Tups H3 gs ((rowsN (i + 1)).map fun r => r.map V.int)) (ev_call (ea_one1 outer) fun vs H2 e2 t2 ⟨u, ev, ys, hu, hm⟩ Q0 q0 => ?_) fun w H3 e3 t3 ⟨gs, g1, g2⟩ => k _ H3 e3 t3 ⟨rfl, rfl, w, gs, rfl, g1, g2⟩
    subst ev
    obtain ⟨zss, z1, z2, z3, z4⟩ := made_rows hm
    refine ⟨zss, ⟨u, ys, rfl, hu.li, z1, by rw [z4]; omega, by rw [z3]; omega⟩, t2, fun _ w H3 e3 t3 p3 => ?_, fun c hc => by cases hc⟩
    refine q0 _ H3 e3 t3 ⟨zss.flatten, p3, ?_⟩
    rw [← htu.map, rowsN_map] at z2
    exact z2.ex e3
  · rintro σ' H' ex t' ⟨hlen, hv0, f', fs, hf', hfl, htu⟩
    rw [rngV_len] at htu
    exact st_ret t' (ev_var hf') fun u H2 e2 t2 z => hq u fs H2 ((e1.trans ex).trans e2) t2 (by rw [show u = f' from z]; exact hfl.ex e2) (htu.ex e2)
end
end PK
end

section
set_option Elab.async false
set_option linter.all false
set_option autoImplicit false
set_option maxRecDepth 100000
set_option maxHeartbeats 9000000
namespace PK
open PySem PySem.Spec PyProof.Rows L2 GxR PW PT
/-! ### told: what comes back, or the error's word -/
def TT9 (K : PySem.W.Frag) : (XK → Hp → VK → Prop) → Hp → VK → Prop := fun tl H Q =>
  tl (fun c _ H' => (c = cls K "BadFact" ∧ Q (.str "fact") H') ∨ (c = cls K "BadDeed" ∧ Q (.str "deed") H')) H Q
theorem hd_cons {X : Cx} {x ret : Str} {c : Value} {j : Nat} {np pos' p1 p2 : Pos} {hds : List ExceptHandler} {l : List (Value × (Addr → Value → Option Addr → TS))} (hc : Names X x c) (r : HdsOk X hds l) :
    HdsOk X (.ExceptHandler (some (.Name x np)) none [.Return (some (.Constant (.str ret) j p1)) p2] pos' :: hds) ((c, fun _ _ _ => tRet (tC (.str ret))) :: l) := .cons hc (fun _ _ _ _ _ _ _ => pss_one (ps_ret pe_str)) r
theorem told9 {X : Cx} (D : HD X.prog X.w X.K X.mg X.base fa fn tf) {g : Addr} {cdg : Value} {q : Str} : LamX.GivesTo X N_law_told "_law_told" d_law_told.scope g cdg d_law_told.body "what" q (TT9 X.K) := by
  intro f c' s H Q tl act hc h
  have nm : ∀ {x : Str}, He.Fa.glo x ∈ fa → d_law_told.scope.names.lookup x = some .globalImplicit → (x == ("__debug__" : Str)) = false → Names (cxOf C8.CX0 X.prog X.w X.K X.mg X.base N_law_told "_law_told" d_law_told.scope g cdg X.A X.stack s H C8.E0).nox x (.ref (He.ga X.K x)) := fun {x} h1 h2 h3 => ⟨h2, h3, .inl (D.glo h1)⟩
  refine ⟨_, pss_one (ps_try_many (X := (cxOf C8.CX0 X.prog X.w X.K X.mg X.base N_law_told "_law_told" d_law_told.scope g cdg X.A X.stack s H C8.E0).nox)
      (tb := fun W D σ H => ∃ Ech : XK, (∀ cls d σ' H', Ech cls d H' → W cls d σ' H') ∧ σ[0]? = some (some (.ref f)) ∧ H c' = some (LamX.CodeO c' q) ∧ tl Ech H D.rt)
      rfl rfl takes_none5 (fun W pn xe tk _ => ?_)
      (hd_cons (nm m_glo_BadFact (by decide +kernel) (by decide)) (hd_cons (nm m_glo_BadDeed (by decide +kernel) (by decide)) (hd_cons (nm m_glo_BadPlan (by decide +kernel) (by decide)) (hd_cons (nm m_glo_BadPaper (by decide +kernel) (by decide)) (hd_cons (nm m_glo_BadSize (by decide +kernel) (by decide)) (hd_cons (nm m_glo_BadText (by decide +kernel) (by decide))
        (hd_cons (nm m_glo_BadStore (by decide +kernel) (by decide)) (hd_cons (nm m_glo_NoPlan (by decide +kernel) (by decide)) (hd_cons (nm m_glo_NoSuch (by decide +kernel) (by decide)) .nil)))))))))), ?_⟩
  · exact ⟨fun pins s' σ H' D I ⟨Ech, hW, hs⟩ => (pss_one (ps_ret (act W pn xe Ech _ _ tk hW))).run pins s' σ H' D I hs⟩
  · refine ⟨_, fun cl d σ' H' z => ?_, rfl, hc, h⟩
    rcases z with ⟨e, z⟩ | ⟨e, z⟩
    · rw [e]
      exact ⟨true, He.exm_ok (D.fact _ m_exm_BadFact_BadFact_true), fun _ a _ => z, fun h => by cases h⟩
    · rw [e]
      exact ⟨false, He.exm_ok (D.fact _ m_exm_BadDeed_BadFact_false), fun h => by (cases h), fun _ => ⟨true, He.exm_ok (D.fact _ m_exm_BadDeed_BadDeed_true), fun _ a _ => z, fun h => by cases h⟩⟩
/-- the defs with lambdas, their names -/
def tfL : List (He.Defn × Str) := [(d_law_cases1.at_, "_law_cases1"), (d_law_part1.at_, "_law_part1"), (d_law.at_, "law")]
structure TL (K : PySem.W.Frag) (T : Tn) : Prop where
  l : ∀ p ∈ tfL, ((He.cT K p.1).2, (p.2 ++ ".<locals>.") ++ "<lambda>") ∈ T.l ∧ (∀ r ∈ T.l, r.1 = (He.cT K p.1).2 → r.2 = (p.2 ++ ".<locals>.") ++ "<lambda>") ∧ ∀ G ∈ T.g, G ≠ (He.cT K p.1).2
/-- _law_told(lambda: body) -/
theorem pe_told {X : Cx} {T : Tn} (D : HD X.prog X.w X.K X.mg X.base fa fn tf) {d : He.DefD} (hd : d.at_ ∈ tf) {k : Nat} {params : Arguments} {body : Expr} {scope : Scope} {t : XK → TE} {p lpos pos : Pos} (hg : Gl X "_law_told") (hcode : X.env.code = .ref (He.cT X.K d.at_).1)
    (hT : ((He.cT X.K d.at_).2, X.env.qual ++ "<lambda>") ∈ T.l ∧ (∀ r ∈ T.l, r.1 = (He.cT X.K d.at_).2 → r.2 = X.env.qual ++ "<lambda>") ∧ ∀ G ∈ T.g, G ≠ (He.cT X.K d.at_).2) (hr : Room (k + 2) X.A) (L : LamX.LamS X.env.scope scope) (hdef : defaultsOf params X.env = ([], []))
    (hbind : ∀ q cl pm cv ctv, bindArgs (PySem.W.kla_fn "<lambda>" q params body scope cl pm cv ctv) ⟨[], []⟩ = pure [])
    (hbody : ∀ (A : Around) (outer : List Env) (s : Shared) (H : Hp) (E : XK) (f c' : Addr), Room k (A.deeper (LamX.lamEnv X scope s.heap.objs.size f c')) → PE (LamX.lamCx X A outer s H E scope f c') body (t E)) :
    PE X (.Call (.Name "_law_told" p) [.Lambda params body scope lpos] [] pos) (tLm T (TT9 X.K) t) := by
  obtain ⟨fd, F⟩ := D.def_ d_law_told n_law_told
  have kp := F.kp
  obtain ⟨ds, hv, hb⟩ := b_law_told X.K fd F
  cases hv
  obtain ⟨_, _, _, _, _, _, _, _, _, _, rfl, lk, hcd, _⟩ := F.ex
  exact pe_lm hg (D.glo m_glo__law_told) kp lk hcd hb sc_law_told rfl (by first | exact .inl rfl | exact .inr (.inl rfl)) (told9 D) (D.tab _ hd) hcode hT.1 hT.2.1 hT.2.2 hr L hdef hbind hbody
end PK
end

section
set_option Elab.async false
set_option linter.all false
set_option autoImplicit false
set_option maxRecDepth 100000
set_option maxHeartbeats 9000000
namespace PK
open PySem PySem.Spec PyProof.Rows L2 GxR PW PT
section
variable {P : Program} {w : World} {K : PySem.W.Frag} {mg : Str → Option Value} {base : Heap} {T : Tn}
/-! ### the states -/
structure Sts (H : Hp) (xs : List V) (S : V → St1) : Prop where
  nt : ∀ v ∈ xs, NtS H v (S v)
  every : ∀ p : St1, ∃ v ∈ xs, ∀ x ∈ row, S v x = p x
  len : xs.length = 16
  nd : (xs.map fun v => sb (S v)).Nodup
theorem Sts.ex {H H' : Hp} {xs : List V} {S : V → St1} (e : Ex T H H') (h : Sts H xs S) : Sts H' xs S := ⟨fun v hv => (h.nt v hv).ex e, h.every, h.len, h.nd⟩
theorem Sts.exd {a : Addr} {x y z : Int} {H H' : Hp} {xs : List V} {S : V → St1} (hd : H a = some (.lst (dc x y z))) (e : Exd T a H H') (h : Sts H xs S) : Sts H' xs S := ⟨fun v hv => Nt.exd hd e (h.nt v hv), h.every, h.len, h.nd⟩
theorem dp_states {H : Hp} {S : V → St1} : ∀ ys : List V, (∀ y ∈ ys, NtS H y (S y)) → DpAll K H ys (ys.map fun y => tupS (S y))
  | [], _ => .nil
  | y :: ys, h => .cons (dp_nt (h y List.mem_cons_self)) (dp_states ys fun z hz => h z (List.mem_cons_of_mem _ hz))
theorem tups_lay {S : V → St1} : ∀ ys : List V, PyData.canLayAll0 (ys.map fun y => tupS (S y)) = true
  | [] => by rw [List.map_nil]; simp [PyData.canLayAll0]
  | y :: ys => by
    have h1 : (tupS (S y)).canLay0 = true := tupK_lay _ okS_sb
    simp [PyData.canLayAll0, h1, tups_lay ys]
theorem tups_depth {S : V → St1} : ∀ ys : List V, PyData.depthAll (ys.map fun y => tupS (S y)) ≤ 1
  | [] => by rw [List.map_nil, PyData.depthAll]; exact Nat.zero_le 1
  | y :: ys => by
    have h1 : (tupS (S y)).depth ≤ 1 := tupK_depth _
    have h2 := tups_depth (S := S) ys
    simp only [PyData.depthAll, List.map_cons]
    omega
theorem ev_nilL {σ : L2.St} {H : Hp} : Ev T (tLst tNil) σ H fun v H1 => Li K H1 v [] := (ev_lst (K := K) (Pa := fun vs _ => vs = []) ea_nil (fun vs H1 e => by rw [e]; exact Nat.zero_le _) fun _ _ _ _ e => e).imp fun u H1 e ⟨vs, hl, ev⟩ => by rw [ev] at hl; exact hl
theorem eqv_nil {S : V → St1} (ys : List V) : PyData.eqv (.list (ys.map fun y => tupS (S y))) (.list []) = ys.isEmpty := by
  cases ys with
  | nil => simp [PyData.eqv, PyData.eqvAll]
  | cons k ks => simp [PyData.eqv, PyData.eqvAll]
theorem ev_eqNilS {σ : L2.St} {H : Hp} {te : TE} {S : V → St1} {ys : List V} (h : Ev T te σ H fun v H1 => Nl H1 v ys) (hs : ∀ y ∈ ys, NtS H y (S y)) : Ev T (tOp (rEqD K) te (tLst tNil)) σ H (Is (.bl ys.isEmpty)) :=
  ev_op (Pb := fun v H1 => Li K H1 v []) h ev_nilL nl_mono fun x y H1 e t ⟨a, ea, qa⟩ ⟨b, eb, qb⟩ Q q => by
    subst ea eb
    refine ⟨.list (ys.map fun y => tupS (S y)), .list [], .lst (SqL.of qa) (dp_states ys fun y hy => (hs y hy).ex e), .lst qb .nil, shaped_of (by simp only [PyData.canLay0]; exact tups_lay ys) (by have := tups_depth (S := S) ys; simp only [PyData.depth]; omega), by decide +kernel, ?_⟩
    rw [eqv_nil]
    exact q _ H1 (.refl T H1) t rfl
theorem ev_neNilS {σ : L2.St} {H : Hp} {te : TE} {S : V → St1} {ys : List V} (h : Ev T te σ H fun v H1 => Nl H1 v ys) (hs : ∀ y ∈ ys, NtS H y (S y)) : Ev T (tOp (rNeD K) te (tLst tNil)) σ H (Is (.bl !ys.isEmpty)) :=
  ev_op (Pb := fun v H1 => Li K H1 v []) h ev_nilL nl_mono fun x y H1 e t ⟨a, ea, qa⟩ ⟨b, eb, qb⟩ Q q => by
    subst ea eb
    refine ⟨.list (ys.map fun y => tupS (S y)), .list [], .lst (SqL.of qa) (dp_states ys fun y hy => (hs y hy).ex e), .lst qb .nil, shaped_of (by simp only [PyData.canLay0]; exact tups_lay ys) (by have := tups_depth (S := S) ys; simp only [PyData.depth]; omega), by decide +kernel, ?_⟩
    rw [eqv_nil]
    exact q _ H1 (.refl T H1) t rfl
/-- the states that pass -/
theorem ev_sts {σ : L2.St} {H : Hp} {wi : TI} {tt : TT} {j : Nat} {vs : List Nat} {xs : List V} {S : V → St1} (q : V → Bool) (hs : Sts H xs S) (h : EvI T wi σ H xs) (hw : ∀ x, wipe ((wipe σ vs).set j (some x)) vs = wipe σ vs) (hj : ∀ x, ((wipe σ vs).set j (some x))[j]? = some (some x))
    (ht : ∀ v H1, v ∈ xs → Ex T H H1 → NtS H1 v (S v) → EvT T tt ((wipe σ vs).set j (some v)) H1 (q v)) : Ev T (tLc wi (gName j) tt (tVar j) vs) σ H fun v H1 => Nl H1 v (xs.filter q) := by
  -- none of the states stands where a new list does
  refine (ev_lc q (fun x y H => y = x ∧ Nt H x ((sb (S x)).map V.str)) h (by rw [hs.len]; decide) hw (fun x y Ha Hb e z => ⟨z.1, z.2.ex e⟩) (fun x y Ha D' ys hD z w => ?_) (fun x y Ha D' ys zs hD ny z => ⟨z.1, ?_⟩)
    (fun v H1 hv e => ht v H1 hv e ((hs.nt v hv).ex e)) fun v H1 hv e hp => (ev_var (hj v)).imp fun u H2 e2 z => ⟨z, ((hs.nt v hv).ex e).ex e2⟩).imp fun u H1 e ⟨ys, hl, hm⟩ => ?_
  · obtain ⟨b, hb, hb'⟩ := z.2
    rw [z.1, hb] at w
    cases w
    rw [hD] at hb'
    cases hb'
  · obtain ⟨b, hb, hb'⟩ := z.2
    exact ⟨b, hb, by rw [upd_ne (fun w => by rw [w, hD] at hb'; cases hb')]; exact hb'⟩
  · have : ys = (xs.filter q).map id := Made.map (Made.mono (H' := H1) (Pe' := fun x y _ => y = id x) (fun _ _ z => z.1) hm)
    rw [List.map_id] at this
    rw [← this]
    exact hl
/-- None or a state, as data -/
def osD : Option St1 → PyData
  | none => .none
  | some p => tupS p
theorem dp_o {H : Hp} {o : Option St1} {v : V} (h : IsO o v H) : Dp K H v (osD o) := by
  cases o with
  | none => rw [show v = .non from h]; exact .non
  | some p => exact dp_nt h
theorem osD_shaped (o : Option St1) : SeqAt.shaped (osD o) = true := by
  cases o with
  | none => decide +kernel
  | some p => exact tupK_shaped _ okS_sb
def eqO : Option St1 → Option St1 → Bool
  | none, none => true
  | some p, some q => decide (sb p = sb q)
  | _, _ => false
theorem osD_eqv (a b : Option St1) : PyData.eqv (osD a) (osD b) = eqO a b := by
  cases a with
  | none => cases b with
    | none => simp [osD, PyData.eqv, eqO]
    | some q => simp [osD, PyData.eqv, eqO, tupS]
  | some p => cases b with
    | none => simp [osD, PyData.eqv, eqO, tupS]
    | some q => exact tupK_eqv _ _
theorem ev_neO {σ : L2.St} {H : Hp} {ta tb : TE} {a b : Option St1} (ha : Ev T ta σ H (IsO a)) (hb : Ev T tb σ H (IsO b)) : Ev T (tOp (rNeD K) ta tb) σ H (Is (.bl !eqO a b)) :=
  ev_op ha hb (fun _ _ _ e z => z.ex e) fun x y H1 e t px py Q q => ⟨osD a, osD b, dp_o px, dp_o py, osD_shaped a, osD_shaped b, by rw [osD_eqv]; exact q _ H1 (.refl T H1) t rfl⟩
theorem ev_eqO {σ : L2.St} {H : Hp} {ta tb : TE} {a b : Option St1} (ha : Ev T ta σ H (IsO a)) (hb : Ev T tb σ H (IsO b)) : Ev T (tOp (rEqD K) ta tb) σ H (Is (.bl (eqO a b))) :=
  ev_op ha hb (fun _ _ _ e z => z.ex e) fun x y H1 e t px py Q q => ⟨osD a, osD b, dp_o px, dp_o py, osD_shaped a, osD_shaped b, by rw [osD_eqv]; exact q _ H1 (.refl T H1) t rfl⟩
/-- bools compared -/
theorem ev_neB {σ : L2.St} {H : Hp} {ta tb : TE} {a b : Bool} (ha : Ev T ta σ H (Is (.bl a))) (hb : Ev T tb σ H (Is (.bl b))) : Ev T (tOp rNe ta tb) σ H (Is (.bl (a != b))) :=
  ev_op2 ha hb fun H1 Q q => ⟨rfl, by
    have : (!decide (V.bl a = V.bl b)) = (a != b) := by rw [dec_bl]; rfl
    rw [this]
    exact q⟩
/-- _law_step called -/
theorem ev_step {σ : L2.St} {H : Hp} {E : XK} {i j : Nat} {u v : V} {d : DD} {s : St1} (hi : σ[i]? = some (some u)) (hd : IsD K d u H) (hj : σ[j]? = some (some v)) (hs : IsS K s v H) : Ev T (tCall (sp_step T K) [] E (tCons (tVar i) (tCons (tVar j) tNil))) σ H (IsO (stepO d s)) :=
  ev_f (d, s) rfl (ea_is (ev_var hi) (ea_is (ev_var hj) ea_nil)) fun vs H1 e ev => ⟨u, v, by rw [ev]; rfl, hd.ex e, hs.ex e⟩
theorem fits_iff {d : DD} {s : St1} : fitsB d s = true ↔ (∀ x ∈ row, d.needs x = true → s x = true) ∧ ∀ x ∈ row, d.bars x = true → s x = false := by
  unfold fitsB
  rw [Bool.and_eq_true, List.all_eq_true, Bool.not_eq_true', List.any_eq_false]
  refine and_congr (forall_congr' fun x => forall_congr' fun hx => ?_) (forall_congr' fun x => forall_congr' fun hx => ?_)
  · cases d.needs x <;> cases s x <;> decide
  · cases d.bars x <;> cases s x <;> decide
theorem idle_iff {d : DD} : idleB d = true ↔ (∀ x ∈ row, d.adds x = true → d.needs x = true) ∧ ∀ x ∈ row, d.drops x = true → d.bars x = true := by
  unfold idleB
  simp only [List.all_eq_true, Bool.and_eq_true]
  refine and_congr (forall_congr' fun x => forall_congr' fun hx => ?_) (forall_congr' fun x => forall_congr' fun hx => ?_)
  · cases d.adds x <;> cases d.needs x <;> decide
  · cases d.drops x <;> cases d.bars x <;> decide
theorem stepO_some {d : DD} {s : St1} (h : fitsB d s = true) : stepO d s = some (doneP d s) := by unfold stepO; rw [h]; rfl
theorem stepO_none {d : DD} {s : St1} (h : fitsB d s = false) : stepO d s = none := by unfold stepO; rw [h]; rfl
/-- whether a deed changes a state -/
def movesB (d : DD) (s : St1) : Bool := match stepO d s with
  | none => false
  | some p => !decide (sb p = sb s)
theorem moves_congr {d : DD} {s t : St1} (h : ∀ x ∈ row, s x = t x) : movesB d s = movesB d t := by
  have hf : fitsB d s = fitsB d t := by
    rw [Bool.eq_iff_iff, fits_iff, fits_iff]
    exact and_congr (forall_congr' fun x => forall_congr' fun hx => by rw [h x hx]) (forall_congr' fun x => forall_congr' fun hx => by rw [h x hx])
  unfold movesB
  cases q : fitsB d s with
  | false => rw [stepO_none q, stepO_none (hf ▸ q)]
  | true =>
    rw [stepO_some q, stepO_some (hf ▸ q)]
    show (!decide (sb (doneP d s) = sb s)) = !decide (sb (doneP d t) = sb t)
    rw [show sb (doneP d s) = sb (doneP d t) from sub_congr fun x hx => by unfold doneP; rw [h x hx], show sb s = sb t from sub_congr h]
theorem idle_moves {d : DD} (hg : Good d) : idleB d = true ↔ ∀ s : St1, movesB d s = false := by
  rw [idle_iff]
  constructor
  · rintro ⟨h1, h2⟩ s
    unfold movesB
    cases q : fitsB d s with
    | false => rw [stepO_none q]
    | true =>
      obtain ⟨f1, f2⟩ := fits_iff.mp q
      rw [stepO_some q]
      show (!decide (sb (doneP d s) = sb s)) = false
      rw [decide_eq_true (sub_congr fun x hx => ?_)]
      · rfl
      · have a1 := h1 x hx
        have a2 := h2 x hx
        have a3 := f1 x hx
        have a4 := f2 x hx
        show ((s x && !d.drops x) || d.adds x) = s x
        revert a1 a2 a3 a4
        cases d.adds x <;> cases d.drops x <;> cases d.needs x <;> cases d.bars x <;> cases s x <;> decide
  · intro h
    have key : ∀ s : St1, fitsB d s = true → ∀ x ∈ row, doneP d s x = s x := fun s hs => by
      have := h s
      unfold movesB at this
      rw [stepO_some hs] at this
      have e : sb (doneP d s) = sb s := by
        have t2 : (!decide (sb (doneP d s) = sb s)) = false := this
        rw [Bool.not_eq_false'] at t2
        exact of_decide_eq_true t2
      exact sub_eq.mp e
    refine ⟨fun x hx ha => ?_, fun x hx hd => ?_⟩
    · have f : fitsB d d.needs = true := fits_iff.mpr ⟨fun _ _ h => h, fun y hy hb => by
        have := hg.1 y hy
        rw [hb, Bool.and_true] at this
        exact this⟩
      have := key _ f x hx
      unfold doneP at this
      rw [ha, Bool.or_true] at this
      exact this.symm
    · cases hb : d.bars x with
      | true => rfl
      | false =>
        have f : fitsB d (fun y => d.needs y || decide (y = x)) = true := fits_iff.mpr ⟨fun _ _ h => by rw [h]; rfl, fun y hy hb2 => by
          have h1 := hg.1 y hy
          rw [hb2, Bool.and_true] at h1
          rw [h1, Bool.false_or]
          exact decide_eq_false fun e => by rw [e, hb] at hb2; cases hb2⟩
        have := key _ f x hx
        have ad := hg.2.1 x hx
        rw [hd, Bool.and_true] at ad
        unfold doneP at this
        rw [hd, ad] at this
        simp at this
theorem room65 {A : Around} {k : Nat} (hr : Room k A) : A.units + 65 < cLine := by have := hr.un; omega
/-! ### part 2 -/
def sp_part2 (T : Tn) (K : PySem.W.Frag) : Sp := fun vs H Q _ => ∃ u d v xs S, vs = [u, v] ∧ IsD K d u H ∧ d.name = "p" ∧ Good d ∧ Nl H v xs ∧ Sts H xs S ∧ Tb T H ∧ ∀ H', Ex T H H' → Tb T H' → Q (.bl true) H'
theorem c_part2 (D : HD P w K mg base fa fn tf) (TT : TO K T) : Cl P w K mg base d_law_part2 4 p_law_part2 (sp_part2 T K) := by
  have A := na_of D
  refine D.cl n_law_part2 sc_law_part2 (fun vs H Q E ⟨u, d, v, xs, S, e, _⟩ => by rw [e]; rfl) fun A0 outer s H vs Q E hr h => ?_
  obtain ⟨u, d, v, xs, S, rfl, hd, hn, hg, hv, hs, tb, hq⟩ := h
  refine ⟨_, pss_cons (ps_if (pw_or (pt_cmpR (op_neD hr.units) (pe_k (c_facts (T := T) D) b_facts hr (by decide) (by exact rfl) (D.glo m_glo_facts) passO (pa_cons (pe_lst (pa_cons pe_str (pa_cons pe_str (pa_cons pe_str pa_nil)))) pa_nil)) (pe_tup (pa_cons pe_str (pa_cons pe_str pa_nil))) (nomark _))
      (pw_or (pt_cmpR (op_neD hr.units) (pe_km0 (pl := _) (c_shown (T := T) D TT) b_Deed_shown hr (by decide) A.c (He.meth_ok (D.fact _ m_meth_Deed_shown)) passO (pv 0)) (pe_tup (pa_cons pe_str (pa_cons (pe_fld (pv 0) (by exact rfl)) (pa_cons (pe_fld (pv 0) (by exact rfl)) (pa_cons (pe_fld (pv 0) (by exact rfl)) (pa_cons (pe_fld (pv 0) (by exact rfl)) (pa_cons (pe_fld (pv 0) (by exact rfl)) pa_nil))))))) (nomark _))
      (pw_or1 (pt_cmpR (op_neD hr.units) (pe_lc (own := [("fact", 2)]) (te := tVar 2) (tt := tTest (tOp (rIn K false) (tVar 2) (tFld K (tVar 0) "adds"))) rfl sc_law_part2.nd (pi_sq (pe_fld (pv 0) (by exact rfl))) (blkOk_by (by kernel_rfl)) (fun s H C cl fp => pg_name (i := 2) (by exact sc_law_part2.nd) rfl (.inl rfl))
        (fun s H C cl fp => pts_one (pt_cmpR op_in_seq (pv 2) (pe_fld (pv 0) (by exact rfl)) (by with_unfolding_all rfl))) (fun s H C cl fp => pv 2)) (pe_lst pa_nil) (nomark _))))).pt (pss_one (ps_ret pe_bl)) pss_nil)
    (pss_cons (ps_if (pt_cmpR op_ne (pe_k (c_idle (T := T) D TT) b_is_idle hr (by decide) (by exact rfl) (D.glo m_glo_is_idle) passO (pa_cons (pv 0) pa_nil))
      (pe_cmpR (op_eqD hr.units) (pe_lc (own := [("state", 3)]) (te := tVar 3) (tt := tTest (tOp (rNotInD K) (tCall (sp_step T K) [] E0 (tCons (tVar 0) (tCons (tVar 3) tNil))) (tLst (tCons (tC .non) (tCons (tVar 3) tNil))))) rfl sc_law_part2.nd (pi_sq (pv 1)) (blkOk_by (by kernel_rfl)) (fun s H C cl fp => pg_name (i := 3) (by exact sc_law_part2.nd) rfl (.inl rfl))
        (fun s H C cl fp => pts_one (pt_cmpR (op_notInD (room65 (by exact hr))) (pe_k (c_step (T := T) D) b_law_step hr (by decide) (by exact rfl) (D.glo m_glo__law_step) passL (pa_cons (pv 0) (pa_cons (pv 3) pa_nil))) (pe_lst (pa_cons pe_non (pa_cons (pv 3) pa_nil))) (by with_unfolding_all rfl))) (fun s H C cl fp => pv 3)) (pe_lst pa_nil) (nomark _)) (nomark _)) (pss_one (ps_ret pe_bl)) pss_nil) (pss_one (ps_ret pe_bl))), ?_⟩
  have t1 : EvT T (tTest (tOp (rNeD K) (tCall (sp_facts T K) [] E (tCons (tLst (tCons (tC (.str "b")) (tCons (tC (.str "a")) (tCons (tC (.str "b")) tNil)))) tNil)) (tTup (tCons (tC (.str "a")) (tCons (tC (.str "b")) tNil))))) (start N_law_part2 [u, v]) H false := by
    refine et_test ((ev_op (Pa := fun v H1 => NtS H1 v fun x => decide (x ∈ (["b", "a", "b"] : List Str))) (Pb := fun v H1 => Tu K H1 v [.str "a", .str "b"]) (Po := Is (.bl false)) (ev_facts (L := ["b", "a", "b"]) ((ev_lst (K := K) (Pa := fun vs _ => vs = [.str "b", .str "a", .str "b"]) (ea_is ev_c (ea_is ev_c (ea_is ev_c ea_nil))) (fun vs H1 e => by rw [e]; show 3 ≤ 100000; decide) fun _ _ _ _ e => e).imp fun u H1 e ⟨vs, hl, ev⟩ => by rw [ev] at hl; exact okL_row hl.sq (by decide) (by decide +kernel)) (by decide +kernel))
      ((ev_tup (K := K) (Pa := fun vs _ => vs = [.str "a", .str "b"]) (ea_is ev_c (ea_is ev_c ea_nil)) (fun vs H1 e => by rw [e]; show 2 ≤ 100000; decide) fun _ _ _ _ e => e).imp fun u H1 e ⟨vs, hl, ev⟩ => by rw [ev] at hl; exact hl) (fun _ _ _ e z => z.ex e) fun x y H1 e t px ⟨b, eb, qb⟩ Q q => ?_))
    subst eb
    refine ⟨_, .tuple [.str "a", .str "b"], dp_nt px, .tup qb (.cons (.str _) (.cons (.str _) .nil)), tupK_shaped _ okS_sb, by decide +kernel, ?_⟩
    have e9 : (!PyData.eqv (tupS fun x => decide (x ∈ (["b", "a", "b"] : List Str))) (.tuple [.str "a", .str "b"])) = false := by
      show (!PyData.eqv (tupK (sb fun x => decide (x ∈ (["b", "a", "b"] : List Str)))) (tupK ["a", "b"])) = false
      rw [tupK_eqv, show (sb fun x => decide (x ∈ (["b", "a", "b"] : List Str))) = (["a", "b"] : List Str) from by decide +kernel]
      decide +kernel
    rw [e9]
    exact q _ H1 (.refl T H1) t rfl
  obtain ⟨o, dx, n, b, aa, r, rfl, ho, h1, h2, h3, h4⟩ := id hd
  have hd' := hd
  have t2 : EvT T (tTest (tOp (rNeD K) (tMeth (CD K) "shown" (sp_shown T K) [] E (tVar 0) tNil) (tTup (tCons (tC (.str "p")) (tCons (tFld K (tVar 0) "needs") (tCons (tFld K (tVar 0) "bars") (tCons (tFld K (tVar 0) "adds") (tCons (tFld K (tVar 0) "drops") (tCons (tFld K (tVar 0) "cost") tNil))))))))) (start N_law_part2 [.ref o, v]) H false := by
    refine et_test (ev_op (Pa := fun v H1 => Dp K H1 v (shownD d)) (Pb := fun v H1 => Dp K H1 v (shownD d)) (Po := Is (.bl false)) ?_ ?_ (fun v H1 H2 e z => Dp.ex e _ v z) fun x y H1 e t px py Q q => ?_)
    · exact ev_meth (Pa := fun vs _ => vs = []) (ev_var rfl) ho rfl ea_nil fun vs H1 e1 t1 p Q0 q0 => ⟨d, ⟨_, by rw [p]; rfl, hd.ex e1⟩, t1, fun _ v' H2 e2 t2 p2 => q0 v' H2 e2 t2 p2, fun c hc => by cases hc⟩
    · refine (ev_tup (K := K) (Pa := fun vs _ => vs = [.str d.name, n, b, aa, r, .int d.cost]) (ea_is (ev_c.is (by rw [hn])) (ea_is (ev_fld (ev_var rfl) ho A.c (A.n _ _ .needs) rfl) (ea_is (ev_fld (ev_var rfl) ho A.c (A.n _ _ .bars) rfl) (ea_is (ev_fld (ev_var rfl) ho A.c (A.n _ _ .adds) rfl) (ea_is (ev_fld (ev_var rfl) ho A.c (A.n _ _ .drops) rfl) (ea_is (ev_fld (ev_var rfl) ho A.c A.cost rfl) ea_nil)))))) (fun vs H1 e => by rw [e]; show 6 ≤ 100000; decide) fun _ _ _ _ e => e).imp ?_
      rintro v H1 e ⟨vs, ⟨t, rfl, ht⟩, rfl⟩
      exact .tup ht (.cons (.str _) (.cons (dp_nt (h1.ex e)) (.cons (dp_nt (h2.ex e)) (.cons (dp_nt (h3.ex e)) (.cons (dp_nt (h4.ex e)) (.cons (.int _) .nil))))))
    · have l1 : ∀ p : St1, PyData.canLayAll0 ((sb p).map .str) = true := fun p => strs_lay _ okS_sb
      have l2 : ∀ p : St1, PyData.depthAll ((sb p).map .str) ≤ 0 := fun p => strs_depth _
      have sh : SeqAt.shaped (shownD d) = true := shaped_of (by
        have : PyData.strOk d.name = true := by rw [hn]; decide +kernel
        simp [shownD, PyData.canLay0, PyData.canLayAll0, l1, this]) (by
        have := l2 d.needs; have := l2 d.bars; have := l2 d.adds; have := l2 d.drops
        simp only [shownD, PyData.depth, PyData.depthAll]
        omega)
      refine ⟨shownD d, shownD d, px, py, sh, sh, ?_⟩
      have : PyData.eqv (shownD d) (shownD d) = true := by
        simp [shownD, PyData.eqv, PyData.eqvAll, strs_eqv]
      rw [this]
      exact q _ H1 (.refl T H1) t rfl
  have t3 : EvT T (tTest (tOp (rNeD K) (tLc (iSq K (tFld K (tVar 0) "drops")) (gName 2) (tTest (tOp (rIn K false) (tVar 2) (tFld K (tVar 0) "adds"))) (tVar 2) [2]) (tLst tNil))) (start N_law_part2 [.ref o, v]) H false :=
    et_test ((ev_neNil okS_sb (ev_lcP d.adds (ei_sq (ev_dfl .drops A (i := 0) rfl hd)) (fun _ => rfl) (fun _ => rfl) fun k H2 hk e2 => et_memD (neg := false) .adds A hk rfl (i := 0) rfl (hd.ex e2))).is (by
      rw [isEmpty_sb]
      congr 1
      exact List.any_eq_false.mpr fun x hx => by rw [Bool.and_comm, hg.2.1 x hx]; decide))
  refine sq_when tb (et_or t1 fun _ => et_or t2 fun _ => t3) (fun hb => by cases hb) fun _ H1 e1 t1 => ?_
  have hv1 := hv.ex e1
  have hs1 := hs.ex e1
  have hd1 := hd.ex e1
  have lst := ev_sts (T := T) (σ := start N_law_part2 [.ref o, v]) (H := H1) (wi := iSq K (tVar 1)) (tt := tTest (tOp (rNotInD K) (tCall (sp_step T K) [] E0 (tCons (tVar 0) (tCons (tVar 3) tNil))) (tLst (tCons (tC .non) (tCons (tVar 3) tNil))))) (j := 3) (vs := [3])
    (fun z => movesB d (S z)) hs1 (ei_sq ((ev_var rfl).imp fun u H3 e3 z => by rw [show u = v from z]; exact (hv1.ex e3).sq)) (fun _ => rfl) (fun _ => rfl) fun z H2 hz e2 hnt => by
      refine et_test (ev_op (Pb := fun y H1 => Li K H1 y [.non, z]) (ev_step (i := 0) (j := 3) rfl (hd1.ex e2) rfl hnt.sq) ((ev_lst (K := K) (Pa := fun vs _ => vs = [.non, z]) (ea_is ev_c (ea_is (ev_var rfl) ea_nil)) (fun vs H1 e => by rw [e]; show 2 ≤ 100000; decide) fun _ _ _ _ e => e).imp fun u H1 e ⟨vs, hl, ev⟩ => by rw [ev] at hl; exact hl) (fun _ _ _ e z => z.ex e) fun x y H3 e3 t3 px ⟨b, eb, qb⟩ Q q => ?_)
      subst eb
      refine ⟨osD (stepO d (S z)), [.none, tupS (S z)], dp_o px, .lst qb (.cons .non (.cons (dp_nt (hnt.ex e3)) .nil)), osD_shaped _, ?_, ?_⟩
      · have l1 : PyData.canLayAll0 ((sb (S z)).map .str) = true := strs_lay _ okS_sb
        have l2 : PyData.depthAll ((sb (S z)).map .str) ≤ 0 := strs_depth _
        exact shaped_of (by simp [PyData.canLay0, PyData.canLayAll0, l1]) (by simp only [PyData.depth, PyData.depthAll]; omega)
      · have : (!([PyData.none, tupS (S z)] : List PyData).any fun y => PyData.eqv y (osD (stepO d (S z)))) = movesB d (S z) := by
          unfold movesB
          cases stepO d (S z) with
          | none => simp [osD, PyData.eqv]
          | some p =>
            simp only [List.any_cons, List.any_nil, Bool.or_false]
            rw [show PyData.eqv PyData.none (osD (some p)) = false from by simp [osD, tupS, PyData.eqv], show PyData.eqv (tupS (S z)) (osD (some p)) = _ from tupK_eqv _ _, Bool.false_or]
            congr 1
            exact decide_eq_decide.mpr ⟨Eq.symm, Eq.symm⟩
        rw [this]
        exact q _ H3 (.refl T H3) t3 rfl
  refine sq_when t1 (b := false) ((et_test (ev_neB (a := idleB d) (ev_f d rfl (ea_is (ev_var rfl) ea_nil) fun vs H2 e ev => ⟨.ref o, by rw [ev]; rfl, hd1.ex e⟩) (ev_eqNilS (S := S) lst fun y hy => hs1.nt y (List.mem_filter.mp hy).1))).is ?_) (fun hb => by cases hb) fun _ H2 e2 t2 => st_ret t2 ev_c fun v2 H3 e3 t3 p3 => by rw [show v2 = .bl true from p3]; exact hq H3 ((e1.trans e2).trans e3) t3
  have e9 : idleB d = (xs.filter fun z => movesB d (S z)).isEmpty := by
    rw [Bool.eq_iff_iff, idle_moves hg, List.isEmpty_iff, List.filter_eq_nil_iff]
    constructor
    · intro h z hz
      rw [h (S z)]
      decide
    · intro h s'
      obtain ⟨z, hz, e⟩ := hs.every s'
      rw [← moves_congr e]
      cases q : movesB d (S z) with
      | false => rfl
      | true => exact absurd q (h z hz)
  rw [e9]
  cases (xs.filter fun z => movesB d (S z)).isEmpty <;> rfl
end
end PK
end

section
set_option Elab.async false
set_option linter.all false
set_option autoImplicit false
set_option maxRecDepth 100000
set_option maxHeartbeats 9000000
namespace PK
open PySem PySem.Spec PyProof.Rows L2 GxR PW PT
/-! ### one deed behind the other, by facts -/
def twoO (a b : DD) (s : St1) : Option St1 := match stepO a s with
  | none => none
  | some p => stepO b p
theorem fits_all {d : DD} {s : St1} : fitsB d s = row.all fun x => (!d.needs x || s x) && !(d.bars x && s x) := by
  rw [Bool.eq_iff_iff, fits_iff, List.all_eq_true]
  constructor
  · rintro ⟨h1, h2⟩ x hx
    have a := h1 x hx
    have b := h2 x hx
    revert a b
    cases d.needs x <;> cases d.bars x <;> cases s x <;> decide
  · intro h
    refine ⟨fun x hx => ?_, fun x hx => ?_⟩ <;> have a := h x hx <;> revert a <;> cases d.needs x <;> cases d.bars x <;> cases s x <;> decide
theorem two_none {a b : DD} {s : St1} (h : ∃ x ∈ row, ((!a.needs x || s x) && !(a.bars x && s x) && ((!b.needs x || doneP a s x) && !(b.bars x && doneP a s x))) = false) : twoO a b s = none := by
  obtain ⟨x, hx, h⟩ := h
  unfold twoO
  cases q : fitsB a s with
  | false => rw [stepO_none q]
  | true =>
    rw [stepO_some q]
    show stepO b (doneP a s) = none
    refine stepO_none ?_
    cases q2 : fitsB b (doneP a s) with
    | false => rfl
    | true =>
      rw [fits_all, List.all_eq_true] at q q2
      rw [q x hx, q2 x hx] at h
      cases h
theorem two_some {a b : DD} {s : St1} (h1 : fitsB a s = true) (h2 : fitsB b (doneP a s) = true) : twoO a b s = some (doneP b (doneP a s)) := by
  unfold twoO
  rw [stepO_some h1]
  exact stepO_some h2
section
variable {n : Str} {a b : DD} {x : Str}
theorem dec_app {p q : Str → Bool} (hx : x ∈ row) : decide (x ∈ sb p ++ sb q) = (p x || q x) := by
  rw [Bool.eq_iff_iff, decide_eq_true_eq, List.mem_append, mem_sub, mem_sub, Bool.or_eq_true]
  exact ⟨fun z => z.imp (·.2) (·.2), fun z => z.imp (⟨hx, ·⟩) (⟨hx, ·⟩)⟩
theorem turn_needs (hx : x ∈ row) : (turnA n a b).dd.needs x = (a.needs x || (b.needs x && !a.adds x)) := dec_app hx
theorem turn_bars (hx : x ∈ row) : (turnA n a b).dd.bars x = (a.bars x || (b.bars x && !a.drops x)) := dec_app hx
theorem turn_adds (hx : x ∈ row) : (turnA n a b).dd.adds x = ((a.adds x && !b.drops x) || b.adds x) := dec_app hx
theorem turn_drops (hx : x ∈ row) : (turnA n a b).dd.drops x = ((a.drops x || b.drops x) && !((a.adds x && !b.drops x) || b.adds x)) := by
  show (decide (x ∈ sb a.drops ++ sb b.drops) && !decide (x ∈ (sb fun x => a.adds x && !b.drops x) ++ sb b.adds)) = _
  rw [dec_app hx, dec_app hx]
end
theorem nf_pt : ∀ an ab aa ad bn bb s : Bool, (aa && ad) = false → ((bn && (ad || (ab && !aa))) || (bb && (aa || (an && !ad)))) = true → ((!an || s) && !(ab && s) && ((!bn || ((s && !ad) || aa)) && !(bb && ((s && !ad) || aa)))) = false := by decide +kernel
theorem bad_pt : ∀ an ab aa ad bn bb s : Bool, (aa && ad) = false → ((an || (bn && !aa)) && (ab || (bb && !ad))) = true → ((!an || s) && !(ab && s) && ((!bn || ((s && !ad) || aa)) && !(bb && ((s && !ad) || aa)))) = false := by decide +kernel
theorem ok_pt : ∀ an ab aa ad bn bb s : Bool, (bn && (ad || (ab && !aa))) = false → (bb && (aa || (an && !ad))) = false → ((!(an || (bn && !aa)) || s) && !((ab || (bb && !ad)) && s)) = ((!an || s) && !(ab && s) && ((!bn || ((s && !ad) || aa)) && !(bb && ((s && !ad) || aa)))) := by decide +kernel
theorem done_pt : ∀ aa ad ba bd s : Bool, ((s && !((ad || bd) && !((aa && !bd) || ba))) || ((aa && !bd) || ba)) = ((((s && !ad) || aa) && !bd) || ba) := by decide +kernel
theorem turn_bad {n : Str} {a b : DD} (ga : Good a) (gb : Good b) (h : noFollow a b = true ∨ (turnA n a b).bad = true) (s : St1) : twoO a b s = none := by
  rcases h with h | h
  · unfold noFollow at h
    rw [Bool.or_eq_true, List.any_eq_true, List.any_eq_true] at h
    rcases h with ⟨x, hx, h⟩ | ⟨x, hx, h⟩
    · exact two_none ⟨x, hx, nf_pt _ _ _ _ _ _ _ (ga.2.1 x hx) (by rw [h]; rfl)⟩
    · exact two_none ⟨x, hx, nf_pt _ _ _ _ _ _ _ (ga.2.1 x hx) (by rw [h, Bool.or_true])⟩
  · unfold DA.bad at h
    rw [Bool.or_eq_true, List.any_eq_true] at h
    rcases h with ⟨x, hx, h⟩ | h
    · have h2 : ((turnA n a b).dd.needs x && (turnA n a b).dd.bars x) = true := h
      rw [turn_needs hx, turn_bars hx] at h2
      exact two_none ⟨x, hx, bad_pt _ _ _ _ _ _ _ (ga.2.1 x hx) h2⟩
    · have h3 := of_decide_eq_true h
      have h1 := ga.2.2
      have h2 := gb.2.2
      have : (turnA n a b).cost = a.cost + b.cost := rfl
      omega
theorem turn_ok {n : Str} {a b : DD} (h : noFollow a b = false) (s : St1) : eqO (stepO (turnA n a b).dd s) (twoO a b s) = true := by
  unfold noFollow at h
  rw [Bool.or_eq_false_iff, List.any_eq_false, List.any_eq_false] at h
  have hf : fitsB (turnA n a b).dd s = (fitsB a s && fitsB b (doneP a s)) := by
    rw [fits_all, fits_all, fits_all, Bool.eq_iff_iff, Bool.and_eq_true, List.all_eq_true, List.all_eq_true, List.all_eq_true]
    have pt : ∀ x ∈ row, ((!(turnA n a b).dd.needs x || s x) && !((turnA n a b).dd.bars x && s x)) = ((!a.needs x || s x) && !(a.bars x && s x) && ((!b.needs x || doneP a s x) && !(b.bars x && doneP a s x))) := fun x hx => by
      rw [turn_needs hx, turn_bars hx]
      exact ok_pt _ _ _ _ _ _ _ (by have := h.1 x hx; simpa using this) (by have := h.2 x hx; simpa using this)
    constructor
    · intro z
      refine ⟨fun x hx => ?_, fun x hx => ?_⟩ <;> have := z x hx <;> rw [pt x hx, Bool.and_eq_true] at this
      · exact this.1
      · exact this.2
    · rintro ⟨z1, z2⟩ x hx
      rw [pt x hx, z1 x hx, z2 x hx]
      rfl
  cases q : fitsB a s with
  | false =>
    rw [stepO_none (by rw [hf, q]; rfl)]
    unfold twoO
    rw [stepO_none q]
    rfl
  | true =>
    cases q2 : fitsB b (doneP a s) with
    | false =>
      rw [stepO_none (by rw [hf, q, q2]; rfl)]
      unfold twoO
      rw [stepO_some q]
      show eqO none (stepO b (doneP a s)) = true
      rw [stepO_none q2]
      rfl
    | true =>
      rw [stepO_some (by rw [hf, q, q2]; rfl), two_some q q2]
      refine decide_eq_true (sub_congr fun x hx => ?_)
      show ((s x && !(turnA n a b).dd.drops x) || (turnA n a b).dd.adds x) = _
      rw [turn_drops hx, turn_adds hx]
      exact done_pt _ _ _ _ _
theorem turn_x {K : PySem.W.Frag} {n : Str} {a b : DD} (hn : isFact n = true) : x_turn K (a, b, n) = if noFollow a b || (turnA n a b).bad then some (cls K "BadDeed") else none := by
  have hall : (turnA n a b).all.all isFact = true := by
    show (((sb a.needs ++ sb fun x => b.needs x && !a.adds x) ++ (sb a.bars ++ sb fun x => b.bars x && !a.drops x)) ++ ((sb fun x => a.adds x && !b.drops x) ++ sb b.adds) ++ (sb a.drops ++ sb b.drops)).all isFact = true
    rw [List.all_append, List.all_append, List.all_append, all_row in_sb2, all_row in_sb2, all_row in_sb2, all_row in_sb2]
    rfl
  show (if noFollow a b then some (cls K "BadDeed") else x_init K (turnA n a b)) = _
  cases noFollow a b with
  | true => rfl
  | false =>
    show x_init K (turnA n a b) = _
    unfold x_init
    rw [show isFact (turnA n a b).nm = true from hn, hall]
    cases (turnA n a b).bad <;> rfl
section
variable {P : Program} {w : World} {K : PySem.W.Frag} {mg : Str → Option Value} {base : Heap} {T : Tn}
abbrev keyOf (ks : List Str) : List Key := ks.map Sum.inr
theorem keyOf_kV (ks : List Str) : (keyOf ks).map kV = ks.map V.str := by rw [List.map_map]; rfl
/-- v tells F of each of the states xs -/
def IsBoth (F : St1 → Option St1) (S : V → St1) (xs : List V) (v : V) (H : Hp) : Prop := ∃ a kvs, v = .ref a ∧ H a = some (.dT kvs) ∧ ∀ z ∈ xs, ∃ u, valV kvs (keyOf (sb (S z))) = some u ∧ IsO (F (S z)) u H
theorem IsBoth.ex {H H' : Hp} {F : St1 → Option St1} {S : V → St1} {xs : List V} {v : V} (e : Ex T H H') (h : IsBoth F S xs v H) : IsBoth F S xs v H' := by
  obtain ⟨a, kvs, h1, h2, h3⟩ := h
  exact ⟨a, kvs, h1, e.obj a _ h2 (fun _ z => by cases z), fun z hz => let ⟨u, a, b⟩ := h3 z hz; ⟨u, a, b.ex e⟩⟩
theorem ev_both {σ : L2.St} {H : Hp} {i j : Nat} {v z : V} {F : St1 → Option St1} {S : V → St1} {xs : List V} (hi : σ[i]? = some (some v)) (hb : IsBoth F S xs v H) (hj : σ[j]? = some (some z)) (hz : z ∈ xs) (hn : NtS H z (S z)) : Ev T (tDGet (tVar i) (tVar j)) σ H (IsO (F (S z))) := fun H1 e t Q q => by
  obtain ⟨a, kvs, h1, h2, h3⟩ := hb.ex e
  obtain ⟨u, h4, h5⟩ := h3 z hz
  obtain ⟨b, rfl, hb'⟩ := hn.ex e
  refine ⟨v, hi, _, hj, a, u, h1, ?_, q u H1 (.refl T H1) t h5⟩
  rw [← h4]
  exact DGet.t h2 (by rw [keyOf_kV]; exact hb')
theorem ev_notN {σ : L2.St} {H : Hp} {te : TE} {o : Option St1} (h : Ev T te σ H (IsO o)) : Ev T (tOp rNotN te (tC .non)) σ H (Is (.bl o.isSome)) :=
  ev_op h (ev_c (v := .non)) (fun _ _ _ e z => z.ex e) fun x y H1 e t px py Q q => ⟨py, by
    have : (!decide (x = .non)) = o.isSome := by
      cases o with
      | none => rw [show x = .non from px]; rfl
      | some p =>
        obtain ⟨a, rfl, _⟩ := px
        rfl
    rw [this]
    exact q _ H1 (.refl T H1) t rfl⟩
theorem ev_isN {σ : L2.St} {H : Hp} {te : TE} {o : Option St1} (h : Ev T te σ H (IsO o)) : Ev T (tOp rIsN te (tC .non)) σ H (Is (.bl (!o.isSome))) :=
  ev_op h (ev_c (v := .non)) (fun _ _ _ e z => z.ex e) fun x y H1 e t px py Q q => ⟨py, by
    have : decide (x = .non) = (!o.isSome) := by
      cases o with
      | none => rw [show x = .non from px]; rfl
      | some p =>
        obtain ⟨a, rfl, _⟩ := px
        rfl
    rw [this]
    exact q _ H1 (.refl T H1) t rfl⟩
end
end PK
end

section
set_option Elab.async false
set_option linter.all false
set_option autoImplicit false
set_option maxRecDepth 100000
set_option maxHeartbeats 3000000
namespace PK
open PySem PySem.Spec PyProof.Rows L2 GxR PW PT
section
variable {P : Program} {w : World} {K : PySem.W.Frag} {mg : Str → Option Value} {base : Heap} {T : Tn}
structure EQ (K : PySem.W.Frag) : Prop where
  m : PySem.W.mroIn K (CD K) (.type "object") = some true
  e : PySem.W.findIn K (.ref (CD K)) "__eq__" = some (some (.builtin "object.__eq__"))
theorem empty_app (l m : List Str) : (l ++ m).isEmpty = (l.isEmpty && m.isEmpty) := by cases l <;> simp
theorem room1 {A : Around} {k : Nat} (hr : Room k A) : A.units + 1 < cLine := by have := hr.un; omega
theorem ev_told {σ : L2.St} {H : Hp} {t : XK → TE} {x : Option Value} {post : V → Hp → Prop}
    (ht : ∀ (E : XK) H0 (Q : VK), Ex T H H0 → Tb T H0 → (x = none → ∀ v H', Ex T H0 H' → Tb T H' → post v H' → Q v H') → (∀ c, x = some c → ∀ H', Ex T H0 H' → Tb T H' → E c none H') → t E σ H0 Q)
    (hx : x = none ∨ x = some (cls K "BadFact") ∨ x = some (cls K "BadDeed")) : Ev T (tLm T (TT9 K) t) σ H fun v H' => (x = none ∧ post v H') ∨ (x = some (cls K "BadFact") ∧ v = .str "fact") ∨ (x = some (cls K "BadDeed") ∧ v = .str "deed") := fun H0 e0 t0 Q q =>
  ⟨t0, fun H1 e1 t1 => ht _ H1 Q (e0.trans e1) t1 (fun hn v H' e' t' p => q v H' (e1.trans e') t' (.inl ⟨hn, p⟩)) fun c hc H' e' t' => by
    rcases hx with h | h | h
    · rw [h] at hc; cases hc
    · rw [h] at hc
      cases hc
      exact .inl ⟨rfl, q _ H' (e1.trans e') t' (.inr (.inl ⟨h, rfl⟩))⟩
    · rw [h] at hc
      cases hc
      exact .inr ⟨rfl, q _ H' (e1.trans e') t' (.inr (.inr ⟨h, rfl⟩))⟩⟩
theorem passLam {X : Cx} {A : Around} {outer : List Env} {s : Shared} {H : Hp} {E : XK} {scope : Scope} {f c' : Addr} : Passes (L2.CX (LamX.lamCx X A outer s H E scope f c').prog (LamX.lamCx X A outer s H E scope f c').w) (LamX.lamCx X A outer s H E scope f c') E := passes_call (takes_of (X := LamX.lamCx X A outer s H E scope f c') rfl rfl rfl rfl) fun _ _ _ _ h => h
def sp_part1 (T : Tn) (K : PySem.W.Frag) : Sp := fun vs H Q _ => ∃ bo u v ro st a b xs S, vs = [bo, u, v, ro, st] ∧ IsBoth (twoO a b) S xs bo H ∧ IsD K a u H ∧ IsD K b v H ∧ okW b.name ∧ Good a ∧ Good b ∧ Nl H ro (row.map .str) ∧ Nl H st xs ∧ Sts H xs S ∧ Tb T H ∧ ∀ H', Ex T H H' → Tb T H' → Q (.bl true) H'
theorem c_part1 (D : HD P w K mg base fa fn tf) (TT : TO K T) (TLm : TL K T) (eq : EQ K) : Cl P w K mg base d_law_part1 14 p_law_part1 (sp_part1 T K) := by
  have A := na_of D
  have hL := TLm.l (d_law_part1.at_, "_law_part1") (List.mem_of_getElem? (i := 1) rfl)
  refine D.cl n_law_part1 sc_law_part1 (fun vs H Q E ⟨bo, u, v, ro, st, a, b, xs, S, e, _⟩ => by rw [e]; rfl) fun A0 outer s H vs Q E hr h => ?_
  obtain ⟨bo, u, v, ro, st, a, b, xs, S, rfl, hbo, ha, hb, hbn, ga, gb, hro, hst, hs, tb, hq⟩ := h
  refine ⟨_, pss_cons (ps_set (i := 5) sc_law_part1.nd rfl (.inr rfl) (pe_told (T := T) (k := 11) (d := d_law_part1) (t := fun E' => tCall (sp_turn T K) [] E' (tCons (tVar 1) (tCons (tVar 2) (tCons (tC (.str "r")) tNil)))) D t_law_part1 (by exact rfl) rfl hL hr (LamX.lamS_by (by kernel_rfl)) rfl (fun _ _ _ _ _ => rfl)
      (fun A outer s H E' f c' hr2 => pe_k (c_turn (T := T) D TT) b_in_turn hr2 (by decide) (by exact rfl) (D.glo m_glo_in_turn) passLam (pa_cons (pv 1) (pa_cons (pv 2) (pa_cons pe_str pa_nil))))))
    (pss_cons (ps_if (pt_cmpR (op_eqA hr.units0) (pv 5) pe_str (nomark _))
      (pss_one (ps_if (pt_cmpR (op_neD hr.units) (pe_lc (own := [("state", 6)]) (te := tVar 6) (tt := tTest (tOp rNotN (tDGet (tVar 0) (tVar 6)) (tC .non))) rfl sc_law_part1.nd (pi_sq (pv 4)) (blkOk_by (by kernel_rfl)) (fun s H C cl fp => pg_name (i := 6) (by exact sc_law_part1.nd) rfl (.inl rfl))
        (fun s H C cl fp => pts_one (pt_cmpR op_notN1 (pe_dget (room1 (by exact hr)) (pv 0) (pv 6) (by intro _ _; rfl)) pe_non (nomark _))) (fun s H C cl fp => pv 6)) (pe_lst pa_nil) (nomark _)) (pss_one (ps_ret pe_bl)) pss_nil))
      (pss_one (ps_if (pw_or (pt_cmpR (op_neD hr.units) (pe_lc (own := [("state", 6)]) (te := tVar 6) (tt := tTest (tOp (rNeD K) (tCall (sp_step T K) [] E0 (tCons (tVar 5) (tCons (tVar 6) tNil))) (tDGet (tVar 0) (tVar 6)))) rfl sc_law_part1.nd (pi_sq (pv 4)) (blkOk_by (by kernel_rfl)) (fun s H C cl fp => pg_name (i := 6) (by exact sc_law_part1.nd) rfl (.inl rfl))
        (fun s H C cl fp => pts_one (pt_cmpR (op_neD (by exact hr.units)) (pe_k (c_step (T := T) D) b_law_step hr (by decide) (by exact rfl) (D.glo m_glo__law_step) passL (pa_cons (pv 5) (pa_cons (pv 6) pa_nil))) (pe_dget (room1 (by exact hr)) (pv 0) (pv 6) (by intro _ _; rfl)) (nomark _))) (fun s H C cl fp => pv 6)) (pe_lst pa_nil) (nomark _))
        (pw_or (pt_cmpR op_ne (pe_fld (pv 5) (by exact rfl)) (pe_op op_add (pe_fld (pv 1) (by exact rfl)) (pe_fld (pv 2) (by exact rfl))) (nomark _)) (pw_or1 (pt_cmpR op_ne (pe_fld (pv 5) (by exact rfl)) pe_str (nomark _))))).pt (pss_one (ps_ret pe_bl)) pss_nil)))
    (pss_cons (ps_if (pw_or (pt_cmpR op_ne (pe_k (c_hurts (T := T) D TT) b_hurts hr (by decide) (by exact rfl) (D.glo m_glo_hurts) passO (pa_cons (pv 1) (pa_cons (pv 2) pa_nil)))
        (pe_cmpR (op_neD hr.units) (pe_op op_cat (pe_lc (own := [("fact", 7)]) (te := tVar 7) (tt := tTest (tOp (rIn K false) (tVar 7) (tFld K (tVar 1) "drops"))) rfl sc_law_part1.nd (pi_sq (pe_fld (pv 2) (by exact rfl))) (blkOk_by (by kernel_rfl)) (fun s H C cl fp => pg_name (i := 7) (by exact sc_law_part1.nd) rfl (.inl rfl)) (fun s H C cl fp => pts_one (pt_cmpR op_in_seq (pv 7) (pe_fld (pv 1) (by exact rfl)) (by with_unfolding_all rfl))) (fun s H C cl fp => pv 7))
          (pe_lc (own := [("fact", 7)]) (te := tVar 7) (tt := tTest (tOp (rIn K false) (tVar 7) (tFld K (tVar 1) "adds"))) rfl sc_law_part1.nd (pi_sq (pe_fld (pv 2) (by exact rfl))) (blkOk_by (by kernel_rfl)) (fun s H C cl fp => pg_name (i := 7) (by exact sc_law_part1.nd) rfl (.inl rfl)) (fun s H C cl fp => pts_one (pt_cmpR op_in_seq (pv 7) (pe_fld (pv 1) (by exact rfl)) (by with_unfolding_all rfl))) (fun s H C cl fp => pv 7))) (pe_lst pa_nil) (nomark _)) (nomark _))
        (pw_or1 (pt_cmpR op_ne (pe_k (c_clash (T := T) D TT) b_clash hr (by decide) (by exact rfl) (D.glo m_glo_clash) passO (pa_cons (pv 1) (pa_cons (pv 2) pa_nil)))
        (pe_cmpR (op_neD hr.units) (pe_lc (own := [("fact", 7)]) (te := tVar 7) (tt := tOr (tAnd (tTest (tOp (rIn K false) (tVar 7) (tFld K (tVar 1) "adds"))) (tTest (tOp (rIn K false) (tVar 7) (tFld K (tVar 2) "drops")))) (tAnd (tTest (tOp (rIn K false) (tVar 7) (tFld K (tVar 1) "drops"))) (tTest (tOp (rIn K false) (tVar 7) (tFld K (tVar 2) "adds"))))) rfl sc_law_part1.nd (pi_sq (pv 3)) (blkOk_by (by kernel_rfl)) (fun s H C cl fp => pg_name (i := 7) (by exact sc_law_part1.nd) rfl (.inl rfl))
          (fun s H C cl fp => pts_one (pw_or (pw_and (pt_cmpR op_in_seq (pv 7) (pe_fld (pv 1) (by exact rfl)) (by with_unfolding_all rfl)) (pw_and1 (pt_cmpR op_in_seq (pv 7) (pe_fld (pv 2) (by exact rfl)) (by with_unfolding_all rfl)))).pt (pw_or1 (pw_and (pt_cmpR op_in_seq (pv 7) (pe_fld (pv 1) (by exact rfl)) (by with_unfolding_all rfl)) (pw_and1 (pt_cmpR op_in_seq (pv 7) (pe_fld (pv 2) (by exact rfl)) (by with_unfolding_all rfl)))).pt)).pt) (fun s H C cl fp => pv 7)) (pe_lst pa_nil) (nomark _)) (nomark _)))).pt (pss_one (ps_ret pe_bl)) pss_nil) (pss_one (ps_ret pe_bl)))), ?_⟩
  have hfr : isFact "r" = true := by decide +kernel
  have okr : okW "r" := ⟨by decide +kernel, by decide +kernel⟩
  have hxt := turn_x (K := K) (n := "r") (a := a) (b := b) hfr
  refine sq_asg tb (ev_told (x := x_turn K (a, b, "r")) (post := fun v H => IsD K (turnA "r" a b).dd v H) (fun E' H0 Q0 e0 t0 q1 q2 => ev_fx (T := T) (H := H) (pre := pre_turn K) (x := x_turn K) (post := fun a v H => IsD K (turnA a.2.2 a.1 a.2.1).dd v H) (σ := start N_law_part1 [bo, u, v, ro, st]) (dvs := []) (E := E') (t := tCons (tVar 1) (tCons (tVar 2) (tCons (tC (.str "r")) tNil))) (Pa := fun vs _ => vs = [u, v, .str "r"]) (a, b, "r") (ea_is (ev_var rfl) (ea_is (ev_var rfl) (ea_is ev_c ea_nil))) (fun vs H1 e ev => ⟨u, v, by rw [ev]; rfl, ha.ex e, hb.ex e, hbn, okr⟩) H0 e0 t0 Q0 q1 q2) (by
    rw [hxt]
    cases (noFollow a b || (turnA "r" a b).bad) with
    | true => exact .inr (.inr rfl)
    | false => exact .inl rfl)) fun to H1 e1 t1 p1 => ?_
  have hbo := hbo.ex e1
  have ha := ha.ex e1
  have hb := hb.ex e1
  have hro := hro.ex e1
  have hst := hst.ex e1
  have hs := hs.ex e1
  -- what comes behind
  have rest : ∀ H2, Ex T H1 H2 → Tb T H2 → tSeq (tIfS (tOr (tTest (tOp rNe (tCall (sp_2 T K hurtsB) [] E (tCons (tVar 1) (tCons (tVar 2) tNil))) (tOp (rNeD K) (tOp rCat (tLc (iSq K (tFld K (tVar 2) "needs")) (gName 7) (tTest (tOp (rIn K false) (tVar 7) (tFld K (tVar 1) "drops"))) (tVar 7) [7]) (tLc (iSq K (tFld K (tVar 2) "bars")) (gName 7) (tTest (tOp (rIn K false) (tVar 7) (tFld K (tVar 1) "adds"))) (tVar 7) [7])) (tLst tNil))))
      (tTest (tOp rNe (tCall (sp_2 T K clashB) [] E (tCons (tVar 1) (tCons (tVar 2) tNil))) (tOp (rNeD K) (tLc (iSq K (tVar 3)) (gName 7) (tOr (tAnd (tTest (tOp (rIn K false) (tVar 7) (tFld K (tVar 1) "adds"))) (tTest (tOp (rIn K false) (tVar 7) (tFld K (tVar 2) "drops")))) (tAnd (tTest (tOp (rIn K false) (tVar 7) (tFld K (tVar 1) "drops"))) (tTest (tOp (rIn K false) (tVar 7) (tFld K (tVar 2) "adds"))))) (tVar 7) [7]) (tLst tNil))))) (tRet (tC (.bl false))) tNext) (tRet (tC (.bl true)))
      { nx := fun _ H' => Q .non H', rt := Q } ((start N_law_part1 [bo, u, v, ro, st]).set 5 (some to)) H2 := fun H2 e2 t2 => by
    have ha2 := ha.ex e2
    have hb2 := hb.ex e2
    have hro2 := hro.ex e2
    refine sq_when t2 (b := false) ((et_or (a := false) (b := false) ((et_test (ev_neB (a := hurtsB a b) (ev_2 (i := 1) (j := 2) rfl ha2 rfl hb2) (ev_neNil (ks := sb (fun x => b.needs x && a.drops x) ++ sb fun x => b.bars x && a.adds x) (fun k hk => okS_sb (p := fun _ => true) k (mem_sub.mpr ⟨in_sb2 k hk, rfl⟩)) (ev_catS (ev_lcP a.drops (ei_sq (ev_dfl .needs A (i := 2) rfl hb2)) (fun _ => rfl) (fun _ => rfl) fun k H3 hk e3 => et_memD (neg := false) .drops A hk rfl (i := 1) rfl (ha2.ex e3)) (ev_lcP a.adds (ei_sq (ev_dfl .bars A (i := 2) rfl hb2)) (fun _ => rfl) (fun _ => rfl) fun k H3 hk e3 => et_memD (neg := false) .adds A hk rfl (i := 1) rfl (ha2.ex e3)))))).is ?_) fun _ => (et_test (ev_neB (a := clashB a b) (ev_2 (i := 1) (j := 2) rfl ha2 rfl hb2) (ev_neNil (ks := sb fun x => true && ((a.adds x && b.drops x) || (a.drops x && b.adds x))) okS_sb (ev_lcP (p := fun _ => true) (fun x => (a.adds x && b.drops x) || (a.drops x && b.adds x)) (ei_sq ((ev_var (v := ro) rfl).imp fun u H3 e3 z => by rw [show u = ro from z, show sb (fun _ => true) = row from by decide +kernel]; exact (hro2.ex e3).sq)) (fun _ => rfl) (fun _ => rfl) fun k H3 hk e3 => et_or (et_and (et_memD (neg := false) .adds A hk rfl (i := 1) rfl (ha2.ex e3)) fun _ => et_memD (neg := false) .drops A hk rfl (i := 2) rfl (hb2.ex e3)) fun _ => et_and (et_memD (neg := false) .drops A hk rfl (i := 1) rfl (ha2.ex e3)) fun _ => et_memD (neg := false) .adds A hk rfl (i := 2) rfl (hb2.ex e3))))).is ?_).is rfl) (fun hb => by cases hb) fun _ H3 e3 t3 => st_ret t3 ev_c fun v2 H4 e4 t4 p4 => by rw [show v2 = .bl true from p4]; exact hq H4 (((e1.trans e2).trans e3).trans e4) t4
    · have : (!(sb (fun x => b.needs x && a.drops x) ++ sb fun x => b.bars x && a.adds x).isEmpty) = hurtsB a b := by
        rw [empty_app, Bool.not_and, isEmpty_sb, isEmpty_sb]
        rfl
      rw [this]
      cases hurtsB a b <;> rfl
    · have : (!(sb fun x => true && ((a.adds x && b.drops x) || (a.drops x && b.adds x))).isEmpty) = clashB a b := by
        rw [isEmpty_sb]
        unfold clashB
        rw [Bool.eq_iff_iff, Bool.or_eq_true, List.any_eq_true, List.any_eq_true, List.any_eq_true]
        simp only [Bool.true_and, Bool.or_eq_true]
        constructor
        · rintro ⟨x, hx, z | z⟩
          · exact .inl ⟨x, hx, z⟩
          · exact .inr ⟨x, hx, by rw [Bool.and_comm]; exact z⟩
        · rintro (⟨x, hx, z⟩ | ⟨x, hx, z⟩)
          · exact ⟨x, hx, .inl z⟩
          · exact ⟨x, hx, .inr (by rw [Bool.and_comm]; exact z)⟩
      rw [this]
      cases clashB a b <;> rfl
  rw [hxt] at p1
  cases hn : (noFollow a b || (turnA "r" a b).bad) with
  | true =>
    rw [hn] at p1
    have eto : to = .str "deed" := by
      rcases p1 with ⟨z, _⟩ | ⟨z, _⟩ | ⟨_, z⟩
      · cases z
      · have z2 : some (cls K "BadDeed") = some (cls K "BadFact") := z
        have z3 : He.ga K "BadDeed" = He.ga K "BadFact" := by injection z2 with z2; injection z2
        have h1 := He.exm_ok (D.fact _ m_exm_BadDeed_BadFact_false)
        rw [z3, He.exm_ok (D.fact _ m_exm_BadFact_BadFact_true)] at h1
        cases h1
      · exact z
    subst eto
    refine sq_if t1 (b := true) (et_test (ev_op2 (ev_var rfl) ev_c fun H2 Q0 q0 => .inl ⟨rfl, by rw [eq_str]; exact q0⟩)) (fun _ H2 e2 t2 => ?_) fun hb => by cases hb
    have none_ : ∀ z, twoO a b (S z) = none := fun z => turn_bad ga gb (by rw [Bool.or_eq_true] at hn; exact hn) (S z)
    refine st_if t2 (b := false) ((et_test (ev_neNilS (S := S) (ys := xs.filter fun z => (twoO a b (S z)).isSome) (ev_sts (fun z => (twoO a b (S z)).isSome) (hs.ex e2) (ei_sq ((ev_var (v := st) rfl).imp fun u H3 e3 z => by rw [show u = st from z]; exact (hst.ex (e2.trans e3)).sq)) (fun _ => rfl) (fun _ => rfl) fun z H3 hz e3 hnt => et_test (ev_notN (ev_both (i := 0) (j := 6) rfl (hbo.ex (e2.trans e3)) rfl hz hnt))) fun y hy => (hs.ex e2).nt y (List.mem_filter.mp hy).1)).is ?_) (fun hb => by cases hb) fun _ H3 e3 t3 => rest H3 (e2.trans e3) t3
    rw [show (xs.filter fun z => (twoO a b (S z)).isSome) = [] from List.filter_eq_nil_iff.mpr fun z _ => by rw [none_ z]; decide]
    rfl
  | false =>
    rw [hn] at p1
    have dto : IsD K (turnA "r" a b).dd to H1 := by
      rcases p1 with ⟨_, z⟩ | ⟨z, _⟩ | ⟨z, _⟩
      · exact z
      · cases z
      · cases z
    obtain ⟨o, dx, n', b', a', r', eo, ho, _⟩ := id dto
    have nf : noFollow a b = false := by rw [Bool.or_eq_false_iff] at hn; exact hn.1
    refine sq_if t1 (b := false) (et_test (ev_op (Pa := Is to) (Pb := Is (.str "deed")) (ev_var rfl) ev_c is_mono fun x y H2 e2 t2 px py Q0 q0 => .inr ⟨o, CD K, dx, _, "deed", by rw [show x = to from px, eo], py, e2.obj o _ ho (fun _ z => by cases z), eq.m, eq.e, q0 _ H2 (.refl T H2) t2 rfl⟩)) (fun hb => by cases hb) fun _ H2 e2 t2 => ?_
    have cost : ∀ {i : Nat} {d : DD} {z : V} {σ : L2.St} {H' : Hp}, σ[i]? = some (some z) → IsD K d z H' → Ev T (tFld K (tVar i) "cost") σ H' (Is (.int d.cost)) := fun {i d z σ H'} hs hd => by
      obtain ⟨o, dx, n, bb, aa, rr, eo, ho, _⟩ := id hd
      subst eo
      exact ev_fld (ev_var hs) ho A.c A.cost rfl
    have name : ∀ {i : Nat} {d : DD} {z : V} {σ : L2.St} {H' : Hp}, σ[i]? = some (some z) → IsD K d z H' → Ev T (tFld K (tVar i) "name") σ H' (Is (.str d.name)) := fun {i d z σ H'} hs hd => by
      obtain ⟨o, dx, n, bb, aa, rr, eo, ho, _⟩ := id hd
      subst eo
      exact ev_fld (ev_var hs) ho A.c A.name rfl
    have dt2 := dto.ex e2
    refine st_if t2 (b := false) (et_or (a := false) (b := false) ((et_test (ev_neNilS (S := S) (ys := xs.filter fun z => !eqO (stepO (turnA "r" a b).dd (S z)) (twoO a b (S z))) (ev_sts (fun z => !eqO (stepO (turnA "r" a b).dd (S z)) (twoO a b (S z))) (hs.ex e2) (ei_sq ((ev_var (v := st) rfl).imp fun u H3 e3 z => by rw [show u = st from z]; exact (hst.ex (e2.trans e3)).sq)) (fun _ => rfl) (fun _ => rfl) fun z H3 hz e3 hnt => et_test (ev_neO (ev_step (i := 5) (j := 6) rfl (dt2.ex e3) rfl hnt.sq) (ev_both (i := 0) (j := 6) rfl (hbo.ex (e2.trans e3)) rfl hz hnt))) fun y hy => (hs.ex e2).nt y (List.mem_filter.mp hy).1)).is ?_) fun _ => et_or (a := false) (b := false) (et_test ((ev_op2 (z := .bl false) (cost rfl dt2) (ev_op2 (z := .int (a.cost + b.cost)) (cost rfl (ha.ex e2)) (cost rfl (hb.ex e2)) fun H3 Q0 q0 => ⟨_, _, rfl, rfl, q0⟩) fun H3 Q0 q0 => ⟨rfl, by rw [show (turnA "r" a b).dd.cost = a.cost + b.cost from rfl]; simpa using q0⟩))) fun _ => et_test (ev_op2 (z := .bl false) (name rfl dt2) ev_c fun H3 Q0 q0 => ⟨rfl, by rw [show (turnA "r" a b).dd.name = "r" from rfl]; simpa using q0⟩)) (fun hb => by cases hb) fun _ H3 e3 t3 => rest H3 (e2.trans e3) t3
    rw [show (xs.filter fun z => !eqO (stepO (turnA "r" a b).dd (S z)) (twoO a b (S z))) = [] from List.filter_eq_nil_iff.mpr fun z _ => by rw [turn_ok nf (S z)]; decide]
    rfl
end
end PK
end

section
set_option Elab.async false
set_option linter.all false
set_option autoImplicit false
set_option maxRecDepth 100000
set_option maxHeartbeats 3000000
namespace PK
open PySem PySem.Spec PyProof.Rows L2 GxR PW PT
section
variable {P : Program} {w : World} {K : PySem.W.Frag} {mg : Str → Option Value} {base : Heap} {T : Tn}
/-- what told wishes of an error -/
def E9 (K : PySem.W.Frag) (Q : VK) : XK := fun c _ H' => (c = cls K "BadFact" ∧ Q (.str "fact") H') ∨ (c = cls K "BadDeed" ∧ Q (.str "deed") H')
/-- f is a lambda with this body -/
structure LamB (P : Program) (w : World) (K : PySem.W.Frag) (mg : Str → Option Value) (base : Heap) (f c' : Addr) (q : Str) (params : Arguments) (body : Expr) (scope : Scope) (pm ctv : Value) (tb : XK → TE) : Prop where
  bind : bindArgs (PySem.W.kla_fn "<lambda>" q params body scope [] pm (.ref c') ctv) ⟨[], []⟩ = pure []
  sc : FnScope [] [] scope
  pe : ∀ (E : XK) (A : Around) (outer : List Env) (s : Shared) (H : Hp), Room 12 (A.deeper (envOfC q scope s.heap.objs.size f (.ref c'))) → PE (cxOf (L2.CX P w) P w K mg base [] q scope f (.ref c') A outer s H E) body (tb E)
def sp_toldV (P : Program) (w : World) (K : PySem.W.Frag) (mg : Str → Option Value) (base : Heap) : Sp := fun vs H Q _ => ∃ f q params body scope c' pm ctv tb, vs = [.ref f] ∧ H f = some (LamO f q params body scope c' pm ctv) ∧ H c' = some (LamX.CodeO c' q) ∧ LamB P w K mg base f c' q params body scope pm ctv tb ∧ tb (E9 K Q) [] H Q
theorem c_toldV (D : HD P w K mg base fa fn tf) : Cl P w K mg base d_law_told 14 p_law_told (sp_toldV P w K mg base) := by
  refine D.cl n_law_told sc_law_told (fun vs H Q E ⟨f, q, params, body, scope, c', pm, ctv, tb, e, _⟩ => by rw [e]; rfl) fun A0 outer s H vs Q E hr h => ?_
  obtain ⟨f, q, params, body, scope, c', pm, ctv, tl, rfl, hf, hc, hl, ht⟩ := h
  have nm : ∀ {x : Str}, He.Fa.glo x ∈ fa → d_law_told.scope.names.lookup x = some .globalImplicit → (x == ("__debug__" : Str)) = false → Names (cxOf (L2.CX P w) P w K mg base N_law_told d_law_told.qual d_law_told.scope (He.fAd K d_law_told.at_) (.ref (He.cT K d_law_told.at_).1) A0 outer s H E) x (.ref (He.ga K x)) := fun {x} h1 h2 h3 => ⟨h2, h3, .inl (D.glo h1)⟩
  refine ⟨_, pss_one (ps_try_many (X := (cxOf (L2.CX P w) P w K mg base N_law_told d_law_told.qual d_law_told.scope (He.fAd K d_law_told.at_) (.ref (He.cT K d_law_told.at_).1) A0 outer s H E))
      (tb := fun W D' σ H => ∃ Ech : XK, (∀ cls d σ' H', Ech cls d H' → W cls d σ' H') ∧ σ[0]? = some (some (.ref f)) ∧ H f = some (LamO f q params body scope c' pm ctv) ∧ H c' = some (LamX.CodeO c' q) ∧ tl Ech [] H D'.rt)
      rfl rfl takes_none5 (fun W pn xe tk _ => ?_)
      (hd_cons (nm m_glo_BadFact (by decide +kernel) (by decide)) (hd_cons (nm m_glo_BadDeed (by decide +kernel) (by decide)) (hd_cons (nm m_glo_BadPlan (by decide +kernel) (by decide)) (hd_cons (nm m_glo_BadPaper (by decide +kernel) (by decide)) (hd_cons (nm m_glo_BadSize (by decide +kernel) (by decide)) (hd_cons (nm m_glo_BadText (by decide +kernel) (by decide))
        (hd_cons (nm m_glo_BadStore (by decide +kernel) (by decide)) (hd_cons (nm m_glo_NoPlan (by decide +kernel) (by decide)) (hd_cons (nm m_glo_NoSuch (by decide +kernel) (by decide)) .nil)))))))))), ?_⟩
  · refine ⟨fun pins s' σ H' D' I h' => ?_⟩
    obtain ⟨Ech, hW, h1, h2, h3, h4⟩ := h'
    have ha := fun (p1 p2 : Pos) => pe_actV (p1 := p1) (p2 := p2) (X := (cxOf (L2.CX P w) P w K mg base N_law_told d_law_told.qual d_law_told.scope (He.fAd K d_law_told.at_) (.ref (He.cT K d_law_told.at_).1) A0 outer s H E).tr pn xe) (k := 12) (i := 0) (a := "what") (E := Ech) hr rfl (.inl rfl) (passes_call tk hW)
    exact (pss_one (ps_ret (ha _ _))).run pins s' σ H' D' I ⟨f, q, params, body, scope, c', pm, ctv, tl Ech, h1, h2, h3, hl.bind, hl.sc, fun A outer s2 H2 hr2 => hl.pe Ech A outer s2 H2 hr2, h4⟩
  · refine ⟨_, fun cl d σ' H' z => ?_, rfl, hf, hc, ht⟩
    rcases z with ⟨e, z⟩ | ⟨e, z⟩
    · rw [e]
      exact ⟨true, He.exm_ok (D.fact _ m_exm_BadFact_BadFact_true), fun _ a _ => z, fun h => by cases h⟩
    · rw [e]
      exact ⟨false, He.exm_ok (D.fact _ m_exm_BadDeed_BadFact_false), fun h => by (cases h), fun _ => ⟨true, He.exm_ok (D.fact _ m_exm_BadDeed_BadDeed_true), fun _ a _ => z, fun h => by cases h⟩⟩
/-- v is (lambda, word): told, the lambda gives the word -/
def TupOk (T : Tn) (P : Program) (w : World) (K : PySem.W.Frag) (mg : Str → Option Value) (base : Heap) (v : V) (H : Hp) : Prop := ∃ t f q params body scope c' pm ctv tb wd, v = .ref t ∧ H t = some (.tup [.ref f, .str wd]) ∧ H f = some (LamO f q params body scope c' pm ctv) ∧ H c' = some (LamX.CodeO c' q) ∧
  LamB P w K mg base f c' q params body scope pm ctv tb ∧ ∀ H' (Q : VK), Tb T H' → (∀ H2, Ex T H' H2 → Tb T H2 → Q (.str wd) H2) → tb (E9 K Q) [] H' Q
theorem TupOk.ex {H H' : Hp} {v : V} (e : Ex T H H') (h : TupOk T P w K mg base v H) : TupOk T P w K mg base v H' := by
  obtain ⟨t, f, q, params, body, scope, c', pm, ctv, tb, wd, h1, h2, h3, h4, h5, h6⟩ := h
  exact ⟨t, f, q, params, body, scope, c', pm, ctv, tb, wd, h1, e.obj t _ h2 (fun _ z => by cases z), e.obj f _ h3 (fun _ z => by unfold LamO at z; cases z), e.obj c' _ h4 (fun ps z => LamX.codeO_ne ps z), h5, h6⟩
/-- (lambda: body, word) -/
theorem ev_pair {σ : L2.St} {H : Hp} {q : Str} {params : Arguments} {body : Expr} {scope : Scope} {wd : Str} (tb : XK → TE) (hl : ∀ f c' pm ctv, LamB P w K mg base f c' q params body scope pm ctv tb) (hb : ∀ H' (Q : VK), Tb T H' → (∀ H2, Ex T H' H2 → Tb T H2 → Q (.str wd) H2) → tb (E9 K Q) [] H' Q) :
    Ev T (tTup (tCons (tLamV T q params body scope) (tCons (tC (.str wd)) tNil))) σ H (TupOk T P w K mg base) := fun H1 e1 t1 Q k =>
  ⟨t1, fun f c' pm ctv H2 e2 t2 h2 h3 => ⟨(by show 2 ≤ sizeLine; rw [sizeLine_eq]; decide), fun t ht => k _ _ (e2.trans (.new ht)) ((Ex.new (T := T) ht).tb t2)
    ⟨t, f, q, params, body, scope, c', pm, ctv, tb, wd, rfl, upd_same, by rw [upd_ne (ne_of_none h2 ht)]; exact h2, by rw [upd_ne (ne_of_none h3 ht)]; exact h3, hl f c' pm ctv, hb⟩⟩⟩
theorem lam_sc {scope : Scope} (h1 : scope.kind = .function) (h2 : scope.isCoroutine = false) (h3 : scope.isGenerator = false) (h4 : ∀ y ∈ scope.names, y.2 ≠ .free) : FnScope [] [] scope := ⟨h1, h2, h3, List.nodup_nil, rfl, (fun _ h => by cases h), h4⟩
/-- a method of a deed that is known by its reading -/
theorem ev_methD {σ : L2.St} {H : Hp} {m : Str} {sp : Sp} {dvs : List V} {E : XK} {te : TE} {ta : TA} {d : DD} {Po : V → Hp → Prop} {Pa : List V → Hp → Prop} (ho : Ev T te σ H (IsD K d)) (hm : ∀ n b a r, (flds d n b a r).lookup m = none) (h : EvA T ta σ H Pa)
    (hs : ∀ x vs H1, Ex T H H1 → Tb T H1 → IsD K d x H1 → Pa vs H1 → SpEv T sp E ((x :: vs) ++ dvs) H1 Po) : Ev T (tMeth (CD K) m sp dvs E te ta) σ H Po := fun H1 e t Q q =>
  ho H1 e t _ fun x H2 e2 t2 p => by
    obtain ⟨o, dx, n, b, a, r, eo, hi, h1, h2, h3, h4⟩ := p
    refine ⟨o, dx, _, eo, hi, hm n b a r, h H2 (e.trans e2) t2 _ fun vs H3 e3 t3 p3 => ?_⟩
    subst eo
    have hd3 : IsD K d (.ref o) H3 := IsD.ex e3 ⟨o, dx, n, b, a, r, rfl, hi, h1, h2, h3, h4⟩
    exact hs _ vs H3 ((e.trans e2).trans e3) t3 hd3 p3 Q fun v H4 e4 t4 p4 => q v H4 ((e2.trans e3).trans e4) t4 p4
def sp_cases (T : Tn) : Sp := fun vs H Q _ => vs = [] ∧ Tb T H ∧ ∀ H', Ex T H H' → Tb T H' → Q (.bl true) H'
def AllP (n : Nat) (Po : V → Hp → Prop) (vs : List V) (H : Hp) : Prop := vs.length = n ∧ ∀ x ∈ vs, Po x H
theorem ea_all0 {σ : L2.St} {H : Hp} {Po : V → Hp → Prop} : EvA T tNil σ H (AllP 0 Po) := fun H1 _ t Q q => q [] H1 (.refl T H1) t ⟨rfl, fun x h => by cases h⟩
theorem ea_all {σ : L2.St} {H : Hp} {n : Nat} {te : TE} {tr : TA} {Po : V → Hp → Prop} (h : Ev T te σ H Po) (m : ∀ v H1 H2, Ex T H1 H2 → Po v H1 → Po v H2) (hr : EvA T tr σ H (AllP n Po)) : EvA T (tCons te tr) σ H (AllP (n + 1) Po) := fun H1 e t Q q =>
  h H1 e t _ fun x H2 e2 t2 p => hr (H2) (e.trans e2) t2 _ fun xs H3 e3 t3 p3 => q (x :: xs) H3 (e2.trans e3) t3 ⟨by rw [List.length_cons, p3.1], fun y hy => by
    rcases List.mem_cons.mp hy with z | z
    · rw [z]; exact m _ _ _ e3 p
    · exact p3.2 y z⟩
theorem okL_nil {H : Hp} {v : V} (h : Li K H v []) : okL K H v [] := ⟨h.sq, by decide, (fun k hk => by cases hk), fun _ k hk => by cases hk⟩
theorem ev_l0 {σ : L2.St} {H : Hp} : Ev T (tLst tNil) σ H fun u H1 => okL K H1 u [] := ev_nilL.imp fun u H1 e z => okL_nil z
theorem ev_l1 {σ : L2.St} {H : Hp} {a : Str} (ha : okW a) (hr : isFact a = true → a ∈ row) : Ev T (tLst (tCons (tC (.str a)) tNil)) σ H fun u H1 => okL K H1 u [a] :=
  (ev_lst (K := K) (Pa := fun vs _ => vs = [.str a]) (ea_is ev_c ea_nil) (fun vs H1 e => by rw [e]; show 1 ≤ 100000; decide) fun _ _ _ _ e => e).imp fun u H1 e ⟨vs, hl, ev⟩ => by
    rw [ev] at hl
    refine ⟨hl.sq, (by show 1 ≤ 1000; decide), fun k hk => by rw [List.mem_singleton.mp hk]; exact ha, fun hf k hk => ?_⟩
    rw [List.mem_singleton.mp hk]
    exact hr (by simpa using hf)
theorem ev_l2 {σ : L2.St} {H : Hp} : Ev T (tLst (tCons (tC (.str "a")) (tCons (tC (.str "b")) tNil))) σ H fun u H1 => okL K H1 u ["a", "b"] :=
  (ev_lst (K := K) (Pa := fun vs _ => vs = [.str "a", .str "b"]) (ea_is ev_c (ea_is ev_c ea_nil)) (fun vs H1 e => by rw [e]; show 2 ≤ 100000; decide) fun _ _ _ _ e => e).imp fun u H1 e ⟨vs, hl, ev⟩ => by
    rw [ev] at hl
    exact okL_row (L := ["a", "b"]) hl.sq (by decide) (by decide +kernel)
theorem ea_deed {σ : L2.St} {H : Hp} {nm : Str} {tn tb ta td : TE} {tr : TA} {n b a d : List Str} {ws : List V} (hn : Ev T tn σ H fun u H1 => okL K H1 u n) (hb : Ev T tb σ H fun u H1 => okL K H1 u b) (ha : Ev T ta σ H fun u H1 => okL K H1 u a) (hd : Ev T td σ H fun u H1 => okL K H1 u d) (hr : EvA T tr σ H fun vs _ => vs = ws) :
    EvA T (tCons (tC (.str nm)) (tCons tn (tCons tb (tCons ta (tCons td tr))))) σ H (fun vs H1 => ∃ u1 u2 u3 u4, vs = .str nm :: u1 :: u2 :: u3 :: u4 :: ws ∧ okL K H1 u1 n ∧ okL K H1 u2 b ∧ okL K H1 u3 a ∧ okL K H1 u4 d) := fun H1 e1 t1 Q q =>
  hn H1 e1 t1 _ fun u1 H2 e2 t2 p1 => hb H2 (e1.trans e2) t2 _ fun u2 H3 e3 t3 p2 => ha H3 ((e1.trans e2).trans e3) t3 _ fun u3 H4 e4 t4 p3 => hd H4 (((e1.trans e2).trans e3).trans e4) t4 _ fun u4 H5 e5 t5 p4 => hr H5 ((((e1.trans e2).trans e3).trans e4).trans e5) t5 _ fun xs H6 e6 t6 p5 =>
    q _ H6 ((((e2.trans e3).trans e4).trans e5).trans e6) t6 ⟨u1, u2, u3, u4, by rw [p5], (p1.ex (e3.trans e4)).ex (e5.trans e6), (p2.ex (e4.trans e5)).ex e6, (p3.ex e5).ex e6, p4.ex e6⟩
theorem ea_plain {σ : L2.St} {H : Hp} {nm : Str} {tn ta td : TE} {n a d : List Str} (hn : Ev T tn σ H fun u H1 => okL K H1 u n) (ha : Ev T ta σ H fun u H1 => okL K H1 u a) (hd : Ev T td σ H fun u H1 => okL K H1 u d) :
    EvA T (tCons (tC (.str nm)) (tCons tn (tCons ta (tCons td tNil)))) σ H (fun vs H1 => ∃ u1 u3 u4, vs = [.str nm, u1, u3, u4] ∧ okL K H1 u1 n ∧ okL K H1 u3 a ∧ okL K H1 u4 d) := fun H1 e1 t1 Q q =>
  hn H1 e1 t1 _ fun u1 H2 e2 t2 p1 => ha H2 (e1.trans e2) t2 _ fun u3 H4 e4 t4 p3 => hd H4 ((e1.trans e2).trans e4) t4 _ fun u4 H5 e5 t5 p4 =>
    q _ H5 ((e2.trans e4).trans e5) t5 ⟨u1, u3, u4, rfl, (p1.ex e4).ex e5, p3.ex e5, p4⟩
theorem okW_p : okW "p" := ⟨by decide +kernel, by decide +kernel⟩
theorem okW_e : okW "" := ⟨by decide +kernel, by decide +kernel⟩
theorem okW_ab : okW "a b" := ⟨by decide +kernel, by decide +kernel⟩
/-- a list of the one fact a, .. -/
theorem ev_la {σ : L2.St} {H : Hp} : Ev T (tLst (tCons (tC (.str "a")) tNil)) σ H fun u H1 => okL K H1 u ["a"] := ev_l1 (okW_row "a" (by decide +kernel)) fun _ => by decide +kernel
theorem ev_lb {σ : L2.St} {H : Hp} : Ev T (tLst (tCons (tC (.str "b")) tNil)) σ H fun u H1 => okL K H1 u ["b"] := ev_l1 (okW_row "b" (by decide +kernel)) fun _ => by decide +kernel
/-- Deed(..) that is refused -/
theorem deed_bad {σ : L2.St} {H : Hp} {Q : VK} {a : DA} {wd : Str} {dvs : List V} {t : TA} {ws : List V} (hx : x_init K a = some (cls K "BadFact") ∧ wd = "fact" ∨ x_init K a = some (cls K "BadDeed") ∧ wd = "deed") (hnm : okW a.nm) (tb : Tb T H)
    (h : EvA T t σ H (fun vs H1 => ∃ u1 u2 u3 u4, vs = .str a.nm :: u1 :: u2 :: u3 :: u4 :: ws ∧ okL K H1 u1 a.needs ∧ okL K H1 u2 a.bars ∧ okL K H1 u3 a.adds ∧ okL K H1 u4 a.drops)) (hd : ws ++ dvs = [.int a.cost]) (q : ∀ H2, Ex T H H2 → Tb T H2 → Q (.str wd) H2) : tMake (CD K) (sp_init T K) dvs (E9 K Q) t σ H Q := by
  have pre : ∀ vs H1, Ex T H H1 → (∃ u1 u2 u3 u4, vs = .str a.nm :: u1 :: u2 :: u3 :: u4 :: ws ∧ okL K H1 u1 a.needs ∧ okL K H1 u2 a.bars ∧ okL K H1 u3 a.adds ∧ okL K H1 u4 a.drops) → pre_init K a (vs ++ dvs) H1 := fun vs H1 e ⟨u1, u2, u3, u4, ev, o1, o2, o3, o4⟩ =>
    ⟨u1, u2, u3, u4, by rw [ev, List.cons_append, List.cons_append, List.cons_append, List.cons_append, List.cons_append, hd], hnm, o1, o2, o3, o4⟩
  rcases hx with ⟨hx, e⟩ | ⟨hx, e⟩
  · exact rz_make a _ hx tb h pre (fun H2 e2 t2 => .inl ⟨rfl, by rw [← e]; exact q H2 e2 t2⟩) Q
  · exact rz_make a _ hx tb h pre (fun H2 e2 t2 => .inr ⟨rfl, by rw [← e]; exact q H2 e2 t2⟩) Q
theorem xi_bad {a : DA} (h1 : isFact a.nm = true) (h2 : a.all.all isFact = true) (h3 : a.bad = true) : x_init K a = some (cls K "BadDeed") := by unfold x_init; rw [h1, h2, h3]; rfl
theorem xi_ok {a : DA} (h1 : isFact a.nm = true) (h2 : a.all.all isFact = true) (h3 : a.bad = false) : x_init K a = none := by unfold x_init; rw [h1, h2, h3]; rfl
theorem xi_fact {a : DA} (h1 : isFact a.nm = false) : x_init K a = some (cls K "BadFact") := by unfold x_init; rw [h1]; rfl
theorem c_cases (D : HD P w K mg base fa fn tf) (TT : TO K T) (TLm : TL K T) : Cl P w K mg base d_law_cases1 18 p_law_cases1 (sp_cases T) := by
  have A := na_of D
  have hL := TLm.l (d_law_cases1.at_, "_law_cases1") (List.mem_of_getElem? (i := 0) rfl)
  refine D.cl n_law_cases1 sc_law_cases1 (fun vs H Q E ⟨e, _⟩ => by rw [e]; rfl) fun A0 outer s H vs Q E hr h => ?_
  obtain ⟨rfl, tb, hq⟩ := h
  have hD := D.tab _ t_law_cases1
  refine ⟨_, pss_cons (ps_set (i := 0) sc_law_cases1.nd rfl (.inl rfl) (pe_lst (pa_cons (pe_tup (pa_cons (pe_lamV (T := T) hD rfl hL.1 hL.2.1 hL.2.2 rfl (by decide +kernel)) (pa_cons pe_str pa_nil))) (pa_cons (pe_tup (pa_cons (pe_lamV (T := T) hD rfl hL.1 hL.2.1 hL.2.2 rfl (by decide +kernel)) (pa_cons pe_str pa_nil))) (pa_cons (pe_tup (pa_cons (pe_lamV (T := T) hD rfl hL.1 hL.2.1 hL.2.2 rfl (by decide +kernel)) (pa_cons pe_str pa_nil)))
      (pa_cons (pe_tup (pa_cons (pe_lamV (T := T) hD rfl hL.1 hL.2.1 hL.2.2 rfl (by decide +kernel)) (pa_cons pe_str pa_nil))) (pa_cons (pe_tup (pa_cons (pe_lamV (T := T) hD rfl hL.1 hL.2.1 hL.2.2 rfl (by decide +kernel)) (pa_cons pe_str pa_nil))) (pa_cons (pe_tup (pa_cons (pe_lamV (T := T) hD rfl hL.1 hL.2.1 hL.2.2 rfl (by decide +kernel)) (pa_cons pe_str pa_nil))) pa_nil))))))))
    (pss_one (ps_ret (pe_and (pe_cmpR (op_eqD hr.units) (pe_lc (own := [("pair", 1)]) (te := tVar 1) (tt := tTest (tOp rNe (tCall (sp_toldV P w K mg base) [] E0 (tCons (tOp (rIxT K) (tVar 1) (tC (.int 0))) tNil)) (tOp (rIxT K) (tVar 1) (tC (.int 1))))) rfl sc_law_cases1.nd (pi_sq (pv 0)) (blkOk_by (by kernel_rfl)) (fun s H C cl fp => pg_name (i := 1) (by exact sc_law_cases1.nd) rfl (.inl rfl))
        (fun s H C cl fp => pts_one (pt_cmpR op_ne (pe_k (c_toldV D) b_law_told hr (by decide) (by exact rfl) (D.glo m_glo__law_told) passL (pa_cons (pe_ix ix_tup (pv 1) pe_int (by intro _ _; rfl)) pa_nil)) (pe_ix ix_tup (pv 1) pe_int (by intro _ _; rfl)) (nomark _))) (fun s H C cl fp => pv 1)) (pe_lst pa_nil) (nomark _))
      (pe_one (pe_cmpR (op_eqD hr.units) (pe_km0 (pl := _) (c_shown (T := T) D TT) b_Deed_shown hr (by decide) A.c (He.meth_ok (D.fact _ m_meth_Deed_shown)) passO (pe_k (c_plain (T := T) D TT) b_plain_4 hr (by decide) (by exact rfl) (D.glo m_glo_plain) passO (pa_cons pe_str (pa_cons (pe_lst (pa_cons pe_str pa_nil)) (pa_cons (pe_lst (pa_cons pe_str pa_nil)) (pa_cons (pe_lst (pa_cons pe_str (pa_cons pe_str pa_nil))) pa_nil))))))
        (pe_tup (pa_cons pe_str (pa_cons (pe_tup (pa_cons pe_str pa_nil)) (pa_cons (pe_tup pa_nil) (pa_cons (pe_tup (pa_cons pe_str pa_nil)) (pa_cons (pe_tup (pa_cons pe_str pa_nil)) (pa_cons pe_int pa_nil))))))) (nomark _)))))), ?_⟩
  have mono : ∀ v H1 H2, Ex T H1 H2 → TupOk T P w K mg base v H1 → TupOk T P w K mg base v H2 := fun _ _ _ e z => z.ex e
  have l1 : ∀ (P' : Prop), P' → P' := fun _ h => h
  refine sq_asg tb (Po := fun v H1 => ∃ vs, Li K H1 v vs ∧ AllP 6 (TupOk T P w K mg base) vs H1) (ev_lst (K := K) (ea_all (ev_pair (fun E => tCall (sp_check T K) [] E (tCons (tC (.str "")) tNil)) (fun f c' pm ctv => ⟨rfl, lam_sc rfl rfl rfl (by decide +kernel), fun E A outer s H hr2 => pe_k (c_check (T := T) D) b_check_fact hr2 (by decide) (by exact rfl) (D.glo m_glo_check_fact) passO (pa_cons pe_str pa_nil)⟩) ?g1) mono
    (ea_all (ev_pair (fun E => tCall (sp_facts T K) [] E (tCons (tLst (tCons (tC (.str "a b")) tNil)) tNil)) (fun f c' pm ctv => ⟨rfl, lam_sc rfl rfl rfl (by decide +kernel), fun E A outer s H hr2 => pe_k (c_facts (T := T) D) b_facts hr2 (by decide) (by exact rfl) (D.glo m_glo_facts) passO (pa_cons (pe_lst (pa_cons pe_str pa_nil)) pa_nil)⟩) ?g2) mono
    (ea_all (ev_pair (fun E => tMake (CD K) (sp_init T K) ((d_Deed_init.dvs K).drop 0) E (tCons (tC (.str "p")) (tCons (tLst (tCons (tC (.str "a")) tNil)) (tCons (tLst (tCons (tC (.str "a")) tNil)) (tCons (tLst tNil) (tCons (tLst tNil) tNil)))))) (fun f c' pm ctv => ⟨rfl, lam_sc rfl rfl rfl (by decide +kernel), fun E A outer s H hr2 => pe_kmk (c_init (T := T) D TT) b_Deed_init_6 hr2 (by decide) (He.mkr_ok (D.fact _ m_mkr_Deed)) (by exact rfl) (D.glo m_glo_Deed) passO (pa_cons pe_str (pa_cons (pe_lst (pa_cons pe_str pa_nil)) (pa_cons (pe_lst (pa_cons pe_str pa_nil)) (pa_cons (pe_lst pa_nil) (pa_cons (pe_lst pa_nil) pa_nil)))))⟩) ?g3) mono
    (ea_all (ev_pair (fun E => tMake (CD K) (sp_init T K) ((d_Deed_init.dvs K).drop 1) E (tCons (tC (.str "p")) (tCons (tLst tNil) (tCons (tLst tNil) (tCons (tLst tNil) (tCons (tLst tNil) (tCons (tOp (rI0 fun i j => V.int (i - j)) (tC (.int 0)) (tC (.int 1))) tNil))))))) (fun f c' pm ctv => ⟨rfl, lam_sc rfl rfl rfl (by decide +kernel), fun E A outer s H hr2 => pe_kmk (c_init (T := T) D TT) b_Deed_init_7 hr2 (by decide) (He.mkr_ok (D.fact _ m_mkr_Deed)) (by exact rfl) (D.glo m_glo_Deed) passO (pa_cons pe_str (pa_cons (pe_lst pa_nil) (pa_cons (pe_lst pa_nil) (pa_cons (pe_lst pa_nil) (pa_cons (pe_lst pa_nil) (pa_cons (pe_op op_sub pe_int pe_int) pa_nil))))))⟩) ?g4) mono
    (ea_all (ev_pair (fun E => tMake (CD K) (sp_init T K) ((d_Deed_init.dvs K).drop 0) E (tCons (tC (.str "")) (tCons (tLst tNil) (tCons (tLst tNil) (tCons (tLst tNil) (tCons (tLst tNil) tNil)))))) (fun f c' pm ctv => ⟨rfl, lam_sc rfl rfl rfl (by decide +kernel), fun E A outer s H hr2 => pe_kmk (c_init (T := T) D TT) b_Deed_init_6 hr2 (by decide) (He.mkr_ok (D.fact _ m_mkr_Deed)) (by exact rfl) (D.glo m_glo_Deed) passO (pa_cons pe_str (pa_cons (pe_lst pa_nil) (pa_cons (pe_lst pa_nil) (pa_cons (pe_lst pa_nil) (pa_cons (pe_lst pa_nil) pa_nil)))))⟩) ?g5) mono
    (ea_all (ev_pair (fun E => tMeth (CD K) "done" (sp_done T K) [] E (tCall (sp_plain T K) ((d_plain.dvs K).drop 0) E (tCons (tC (.str "p")) (tCons (tLst (tCons (tC (.str "a")) tNil)) (tCons (tLst tNil) (tCons (tLst tNil) tNil))))) (tCons (tTup tNil) tNil)) (fun f c' pm ctv => ⟨rfl, lam_sc rfl rfl rfl (by decide +kernel), fun E A outer s H hr2 => pe_km (pl := _) (c_done (T := T) D TT) b_Deed_done hr2 (by decide) (na_of D).c (He.meth_ok (D.fact _ m_meth_Deed_done)) passO (pe_k (c_plain (T := T) D TT) b_plain_4 hr2 (by decide) (by exact rfl) (D.glo m_glo_plain) passO (pa_cons pe_str (pa_cons (pe_lst (pa_cons pe_str pa_nil)) (pa_cons (pe_lst pa_nil) (pa_cons (pe_lst pa_nil) pa_nil))))) (pa_cons (pe_tup pa_nil) pa_nil)⟩) ?g6) mono ea_all0))))))
      (fun vs H1 z => by rw [z.1]; decide) fun vs H1 H2 e z => ⟨z.1, fun x hx => (z.2 x hx).ex e⟩) fun wr H1 e1 t1 ⟨vs, hwr, hlen, hall⟩ => ?_
  case g1 => exact fun H' Q t q => rz_f (T := T) (pre := pre_check) (x := x_check K) (post := post_check) (dvs := []) (E := E9 K Q) (Pa := fun vs _ => vs = [.str ""]) "" (cls K "BadFact") (by unfold x_check; rw [show isFact "" = false from by decide +kernel]; rfl) t (ea_is ev_c ea_nil) (fun vs H1 e ev => ⟨by rw [ev]; rfl, okW_e⟩) (fun H2 e2 t2 => .inl ⟨rfl, q H2 e2 t2⟩) Q
  case g2 => exact fun H' Q t q => rz_facts (L := ["a b"]) (ev_l1 okW_ab fun h => by rw [show isFact "a b" = false from by decide +kernel] at h; cases h) t (by decide +kernel) (fun H2 e2 t2 => .inl ⟨rfl, q H2 e2 t2⟩) Q
  case g3 => exact fun H' Q t q => deed_bad (a := ⟨"p", ["a"], ["a"], [], [], 1⟩) (ws := []) (.inr ⟨xi_bad (by decide +kernel) (by decide +kernel) (by decide +kernel), rfl⟩) okW_p t (ea_deed ev_la ev_la ev_l0 ev_l0 ea_nil) rfl q
  case g4 => exact fun H' Q t q => deed_bad (a := ⟨"p", [], [], [], [], -1⟩) (ws := [.int (-1)]) (.inr ⟨xi_bad (by decide +kernel) (by decide +kernel) (by decide +kernel), rfl⟩) okW_p t (ea_deed ev_l0 ev_l0 ev_l0 ev_l0 (ea_is (ev_op2 ev_c ev_c fun H1 Q q => ⟨0, 1, rfl, rfl, q⟩) ea_nil)) rfl q
  case g5 => exact fun H' Q t q => deed_bad (a := ⟨"", [], [], [], [], 1⟩) (ws := []) (.inl ⟨xi_fact (by decide +kernel), rfl⟩) okW_e t (ea_deed ev_l0 ev_l0 ev_l0 ev_l0 ea_nil) rfl q
  case g6 =>
    intro H' Q t q
    have pl : Ev T (tCall (sp_plain T K) ((d_plain.dvs K).drop 0) (E9 K Q) (tCons (tC (.str "p")) (tCons (tLst (tCons (tC (.str "a")) tNil)) (tCons (tLst tNil) (tCons (tLst tNil) tNil))))) [] H' (IsD K (plainA ⟨"p", ["a"], [], [], [], 1⟩).dd) :=
      ev_f (pre := pre_plain K) (x := fun a => x_init K (plainA a)) (post := fun a v H => IsD K (plainA a).dd v H) ⟨"p", ["a"], [], [], [], 1⟩ (xi_ok (a := plainA ⟨"p", ["a"], [], [], [], 1⟩) (by decide +kernel) (by decide +kernel) (by decide +kernel)) (ea_plain ev_la ev_l0 ev_l0) fun vs H1 e ⟨u1, u3, u4, ev, o1, o3, o4⟩ => ⟨u1, u3, u4, by rw [ev]; rfl, okW_p, o1, o3, o4⟩
    refine pl H' (.refl T _) t _ fun x H2 e2 t2 hd => ?_
    obtain ⟨o, dx, n, b, aa, r, eo, ho, h1, h2, h3, h4⟩ := id hd
    subst eo
    refine ⟨o, dx, _, rfl, ho, rfl, Nat.zero_le _, fun p hp => ?_⟩
    have e3 : Ex T H2 (upd H2 p (.tup [])) := .new hp
    refine ⟨((plainA ⟨"p", ["a"], [], [], [], 1⟩).dd, fun _ => false), ⟨okW_p, _, _, rfl, hd.ex e3, ⟨p, rfl, .inr (SqT.of ?_)⟩⟩, e3.tb t2, fun hn => ?_, fun c hc H4 e4 t4 => .inr ⟨?_, q H4 ((e2.trans e3).trans e4) t4⟩⟩
    · rw [upd_same, show sb (fun _ => false) = [] from by decide +kernel]
      rfl
    · have : fitsB (plainA ⟨"p", ["a"], [], [], [], 1⟩).dd (fun _ => false) = false := by decide +kernel
      unfold x_done at hn
      rw [this] at hn
      cases hn
    · have : fitsB (plainA ⟨"p", ["a"], [], [], [], 1⟩).dd (fun _ => false) = false := by decide +kernel
      unfold x_done at hc
      rw [this] at hc
      cases hc
      rfl
  obtain ⟨aw, rfl, haw⟩ := hwr
  have none_ : Ev T (tLc (iSq K (tVar 0)) (gName 1) (tTest (tOp rNe (tCall (sp_toldV P w K mg base) [] E0 (tCons (tOp (rIxT K) (tVar 1) (tC (.int 0))) tNil)) (tOp (rIxT K) (tVar 1) (tC (.int 1))))) (tVar 1) [1]) ((start N_law_cases1 []).set 0 (some (.ref aw))) H1 fun v H2 => Nl H2 v [] :=
    (ev_lc (xs := vs) (fun _ => false) (fun _ _ _ => False) (ei_sq ((ev_var (v := .ref aw) rfl).imp fun u H3 e3 z => by rw [show u = .ref aw from z]; exact ⟨aw, rfl, .inl (e3.lst haw)⟩)) (by omega) (fun _ => rfl) (fun _ _ _ _ _ h => h) (fun _ _ _ _ _ _ h => h.elim) (fun _ _ _ _ _ _ _ _ h => h) (fun x H2 hx e2 => by
      refine et_test (fun H3 e3 t3 Q q => ?_)
      obtain ⟨t, f, qq, params, body, scope, c', pm, ctv, tb', wd, ex, h2, h3, h4, h5, h6⟩ := ((hall x hx).ex e2).ex e3
      subst ex
      refine ⟨_, rfl, ⟨t, _, 0, .ref f, rfl, rfl, SqT.of h2, rfl, f, qq, params, body, scope, c', pm, ctv, tb', rfl, h3, h4, h5, h6 H3 _ t3 fun H4 e4 t4 => ?_⟩⟩
      refine ⟨_, rfl, ⟨t, _, 1, .str wd, rfl, rfl, SqT.of (e4.obj t _ h2 fun _ z => by cases z), rfl, rfl, ?_⟩⟩
      have : (!decide (V.str wd = V.str wd)) = false := by simp
      rw [this]
      exact q _ H4 e4 t4 rfl) fun _ _ _ _ h => by cases h).imp fun u H2 e ⟨ys, hn, hm⟩ => by
        rw [List.filter_eq_nil_iff.mpr (by simp)] at hm
        cases ys with
        | nil => exact hn
        | cons _ _ => exact hm.elim
  refine st_ret t1 (ev_andV (a := true) (b := true) (ev_eqNilS (S := fun _ _ => false) (ys := []) none_ fun y hy => by cases hy) fun _ => ?_) fun u H2 e2 t2 p => by rw [show u = .bl true from p]; exact hq H2 (e1.trans e2) t2
  have pl : Ev T (tCall (sp_plain T K) ((d_plain.dvs K).drop 0) E (tCons (tC (.str "p")) (tCons (tLst (tCons (tC (.str "a")) tNil)) (tCons (tLst (tCons (tC (.str "b")) tNil)) (tCons (tLst (tCons (tC (.str "a")) (tCons (tC (.str "b")) tNil))) tNil))))) ((start N_law_cases1 []).set 0 (some (.ref aw))) H1 (IsD K (plainA ⟨"p", ["a"], [], ["b"], ["a", "b"], 1⟩).dd) :=
    ev_f (pre := pre_plain K) (x := fun a => x_init K (plainA a)) (post := fun a v H => IsD K (plainA a).dd v H) ⟨"p", ["a"], [], ["b"], ["a", "b"], 1⟩ (xi_ok (a := plainA ⟨"p", ["a"], [], ["b"], ["a", "b"], 1⟩) (by decide +kernel) (by decide +kernel) (by decide +kernel)) (ea_plain ev_la ev_lb ev_l2) fun vs H1 e ⟨u1, u3, u4, ev, o1, o3, o4⟩ => ⟨u1, u3, u4, by rw [ev]; rfl, okW_p, o1, o3, o4⟩
  have sd : shownD (plainA ⟨"p", ["a"], [], ["b"], ["a", "b"], 1⟩).dd = .tuple [.str "p", .tuple [.str "a"], .tuple [], .tuple [.str "b"], .tuple [.str "a"], .int 1] := by
    kernel_rfl
  have t1 : ∀ {σ : L2.St} {H : Hp} {k : Str}, Ev T (tTup (tCons (tC (.str k)) tNil)) σ H fun v H1 => Dp K H1 v (.tuple [.str k]) := fun {σ H k} => (ev_tup (K := K) (Pa := fun vs _ => vs = [.str k]) (ea_is ev_c ea_nil) (fun vs H1 e => by rw [e]; show 1 ≤ 100000; decide) fun _ _ _ _ e => e).imp fun u H1 e ⟨vs, ⟨t, et, hl⟩, ev⟩ => by subst et ev; exact .tup hl (.cons (.str _) .nil)
  have t0 : ∀ {σ : L2.St} {H : Hp}, Ev T (tTup tNil) σ H fun v H1 => Dp K H1 v (.tuple []) := fun {σ H} => (ev_tup (K := K) (Pa := fun vs _ => vs = []) ea_nil (fun vs H1 e => by rw [e]; exact Nat.zero_le _) fun _ _ _ _ e => e).imp fun u H1 e ⟨vs, ⟨t, et, hl⟩, ev⟩ => by subst et ev; exact .tup hl .nil
  have dm : ∀ {d : PyData} (v : V) (Ha Hb : Hp), Ex T Ha Hb → Dp K Ha v d → Dp K Hb v d := fun v Ha Hb e z => Dp.ex e _ v z
  refine ev_op (Pa := fun v H1 => Dp K H1 v (.tuple [.str "p", .tuple [.str "a"], .tuple [], .tuple [.str "b"], .tuple [.str "a"], .int 1])) (Pb := fun v H1 => Dp K H1 v (.tuple [.str "p", .tuple [.str "a"], .tuple [], .tuple [.str "b"], .tuple [.str "a"], .int 1])) (ev_methD (Pa := fun vs _ => vs = []) pl (fun _ _ _ _ => rfl) ea_nil fun x vs H2 e2 t2 hd ev Q q => ⟨_, ⟨x, by rw [ev]; rfl, hd⟩, t2, fun _ v' H3 e3 t3 p3 => q v' H3 e3 t3 (by rw [← sd]; exact p3), fun c hc => by cases hc⟩)
    ((ev_tup (K := K) (Pa := fun vs H1 => DpAll K H1 vs [.str "p", .tuple [.str "a"], .tuple [], .tuple [.str "b"], .tuple [.str "a"], .int 1]) ?args (fun vs H1 z => by
      have : ∀ {vs : List V} {ds : List PyData}, DpAll K H1 vs ds → vs.length = ds.length := fun {vs ds} z => by
        induction ds generalizing vs with
        | nil => cases z; rfl
        | cons d ds ih => cases z with
          | cons z1 z2 => rw [List.length_cons, List.length_cons, ih z2]
      rw [this z]
      decide) fun vs Ha Hb e z => DpAll.ex e _ vs z).imp fun u H2 e ⟨vs, ⟨t, et, hl⟩, z⟩ => by subst et; exact .tup hl z) (fun v Ha Hb e z => Dp.ex e _ v z) fun x y H2 e2 t2 px py Q q => ⟨_, _, px, py, by decide +kernel, by decide +kernel, by
        rw [show PyData.eqv (.tuple [.str "p", .tuple [.str "a"], .tuple [], .tuple [.str "b"], .tuple [.str "a"], .int 1]) (.tuple [.str "p", .tuple [.str "a"], .tuple [], .tuple [.str "b"], .tuple [.str "a"], .int 1]) = true from by decide +kernel]
        exact q _ H2 (.refl T H2) t2 rfl⟩
  case args =>
    refine fun H2 e2 t2 Q q => t1 (σ := (start N_law_cases1 []).set 0 (some (.ref aw))) (k := "a") H2 (.refl T _) t2 _ fun a3 H3 e3 t3 p3 => t0 (σ := (start N_law_cases1 []).set 0 (some (.ref aw))) H3 (.refl T _) t3 _ fun a4 H4 e4 t4 p4 => t1 (σ := (start N_law_cases1 []).set 0 (some (.ref aw))) (k := "b") H4 (.refl T _) t4 _ fun a5 H5 e5 t5 p5 => t1 (σ := (start N_law_cases1 []).set 0 (some (.ref aw))) (k := "a") H5 (.refl T _) t5 _ fun a6 H6 e6 t6 p6 => q _ H6 (((e3.trans e4).trans e5).trans e6) t6
      (.cons (.str _) (.cons (Dp.ex ((e4.trans e5).trans e6) _ _ p3) (.cons (Dp.ex (e5.trans e6) _ _ p4) (.cons (Dp.ex e6 _ _ p5) (.cons p6 (.cons (.int _) .nil))))))
end
end PK
end

section
set_option Elab.async false
set_option linter.all false
set_option autoImplicit false
set_option maxRecDepth 100000
set_option maxHeartbeats 3000000
namespace PK
open PySem PySem.Spec PyProof.Rows L2 GxR PW PT
/-! ### the law's body, statement by statement -/
def forBody : Stmt → List Stmt
  | .For _ _ b _ _ => b
  | _ => []
abbrev lawS (i : Nat) : Stmt := d_law.body.getD i (.Pass ⟨0, 0, 0, 0⟩)
abbrev lb (i : Nat) : Stmt := (forBody (lawS 2)).getD i (.Pass ⟨0, 0, 0, 0⟩)
section
variable {P : Program} {w : World} {K : PySem.W.Frag} {mg : Str → Option Value} {base : Heap} {T : Tn}
abbrev XL (P : Program) (w : World) (K : PySem.W.Frag) (mg : Str → Option Value) (base : Heap) (A0 : Around) (outer : List Env) (s : Shared) (H0 : Hp) (E : XK) : Cx := cxOf (L2.CX P w) P w K mg base N_law d_law.qual d_law.scope (He.fAd K d_law.at_) (.ref (He.cT K d_law.at_).1) A0 outer s H0 E
/-- a statement that goes on, from Pre to Post -/
structure Blk (X : Cx) (st : Stmt) (Pre Post : L2.St → Hp → Prop) : Prop where
  ex : ∃ t, PS X st t ∧ ∀ (D : Ends) (σ : L2.St) (H : Hp), Pre σ H → (∀ σ' H', Post σ' H' → D.nx σ' H') → t D σ H
/-- statements, one behind the other -/
structure Blks (X : Cx) (sts : List Stmt) (Pre Post : L2.St → Hp → Prop) : Prop where
  ex : ∃ t, PSs X sts t ∧ ∀ (D : Ends) (σ : L2.St) (H : Hp), Pre σ H → (∀ σ' H', Post σ' H' → D.nx σ' H') → t D σ H
theorem Blks.one {X : Cx} {st : Stmt} {A B : L2.St → Hp → Prop} (b : Blk X st A B) : Blks X [st] A B := let ⟨t, h, k⟩ := b.ex; ⟨t, pss_one h, k⟩
theorem Blks.cons {X : Cx} {st : Stmt} {sts : List Stmt} {A B C : L2.St → Hp → Prop} (b : Blk X st A B) (r : Blks X sts B C) : Blks X (st :: sts) A C := let ⟨t, h, k⟩ := b.ex; let ⟨u, h2, k2⟩ := r.ex
  ⟨tSeq t u, pss_cons h h2, fun D σ H a n => k { D with nx := u D } σ H a fun σ' H' b => k2 D σ' H' b n⟩
structure LD where
  a : Addr
  u : V
  v : V
  d1 : DD
  d2 : DD
  ro : V
  st : V
  xs : List V
  S : V → St1
  it : V
structure BlkL (X : Cx) (st : Stmt) (Pre Post : LD → L2.St → Hp → Prop) : Prop where
  ex : ∃ t, PS X st t ∧ ∀ (L : LD) (D : Ends) (σ : L2.St) (H : Hp), Pre L σ H → (∀ σ' H', Post L σ' H' → D.nx σ' H') → t D σ H
structure BlksL (X : Cx) (sts : List Stmt) (Pre Post : LD → L2.St → Hp → Prop) : Prop where
  ex : ∃ t, PSs X sts t ∧ ∀ (L : LD) (D : Ends) (σ : L2.St) (H : Hp), Pre L σ H → (∀ σ' H', Post L σ' H' → D.nx σ' H') → t D σ H
/-- two statements -/
structure P2 (X : Cx) (s1 s2 : Stmt) (t : TS) : Prop where
  ex : ∃ ta tb, t = tSeq ta tb ∧ PS X s1 ta ∧ PS X s2 tb
theorem pss2 {X : Cx} {s1 s2 : Stmt} {ta tb : TS} (h1 : PS X s1 ta) (h2 : PS X s2 tb) : P2 X s1 s2 (tSeq ta tb) := ⟨ta, tb, rfl, h1, h2⟩
structure Blk2 (X : Cx) (s1 s2 : Stmt) (Pre Post : L2.St → Hp → Prop) : Prop where
  ex : ∃ t, P2 X s1 s2 t ∧ ∀ (D : Ends) (σ : L2.St) (H : Hp), Pre σ H → (∀ σ' H', Post σ' H' → D.nx σ' H') → t D σ H
structure Blk2L (X : Cx) (s1 s2 : Stmt) (Pre Post : LD → L2.St → Hp → Prop) : Prop where
  ex : ∃ t, P2 X s1 s2 t ∧ ∀ (L : LD) (D : Ends) (σ : L2.St) (H : Hp), Pre L σ H → (∀ σ' H', Post L σ' H' → D.nx σ' H') → t D σ H
theorem BlksL.cons2 {X : Cx} {s1 s2 : Stmt} {sts : List Stmt} {A B C : LD → L2.St → Hp → Prop} (b : Blk2L X s1 s2 A B) (r : BlksL X sts B C) : BlksL X (s1 :: s2 :: sts) A C := by
  obtain ⟨t, h, k⟩ := b.ex
  obtain ⟨ta, tb, rfl, h1, h2⟩ := h.ex
  obtain ⟨u, h3, k2⟩ := r.ex
  exact ⟨tSeq ta (tSeq tb u), pss_cons h1 (pss_cons h2 h3), fun L D σ H a n => k L { D with nx := u D } σ H a fun σ' H' b => k2 L D σ' H' b n⟩
theorem Blks.cons2 {X : Cx} {s1 s2 : Stmt} {sts : List Stmt} {A B C : L2.St → Hp → Prop} (b : Blk2 X s1 s2 A B) (r : Blks X sts B C) : Blks X (s1 :: s2 :: sts) A C := by
  obtain ⟨t, h, k⟩ := b.ex
  obtain ⟨ta, tb, rfl, h1, h2⟩ := h.ex
  obtain ⟨u, h3, k2⟩ := r.ex
  exact ⟨tSeq ta (tSeq tb u), pss_cons h1 (pss_cons h2 h3), fun D σ H a n => k { D with nx := u D } σ H a fun σ' H' b => k2 D σ' H' b n⟩
theorem BlksL.one {X : Cx} {st : Stmt} {A B : LD → L2.St → Hp → Prop} (b : BlkL X st A B) : BlksL X [st] A B := let ⟨t, h, k⟩ := b.ex; ⟨t, pss_one h, k⟩
theorem BlksL.cons {X : Cx} {st : Stmt} {sts : List Stmt} {A B C : LD → L2.St → Hp → Prop} (b : BlkL X st A B) (r : BlksL X sts B C) : BlksL X (st :: sts) A C := let ⟨t, h, k⟩ := b.ex; let ⟨u, h2, k2⟩ := r.ex
  ⟨tSeq t u, pss_cons h h2, fun L D σ H a n => k L { D with nx := u D } σ H a fun σ' H' b => k2 L D σ' H' b n⟩
theorem BlksL.all {X : Cx} {sts : List Stmt} {A B : LD → L2.St → Hp → Prop} (b : BlksL X sts A B) : Blks X sts (fun σ H => ∃ L, A L σ H) (fun σ H => ∃ L, B L σ H) := let ⟨t, h, k⟩ := b.ex
  ⟨t, h, fun D σ H ⟨L, a⟩ n => k L D σ H a fun σ' H' b => n σ' H' ⟨L, b⟩⟩
/-- what stands through the round -/
structure Base (T : Tn) (K : PySem.W.Frag) (L : LD) (σ : L2.St) (H : Hp) : Prop where
  len : σ.length = 24
  s1 : σ[1]? = some (some L.ro)
  s2 : σ[2]? = some (some L.st)
  s5 : σ[5]? = some (some (.ref L.a))
  s6 : σ[6]? = some (some L.u)
  s7 : σ[7]? = some (some L.v)
  row : Nl H L.ro (row.map .str)
  sts : Nl H L.st L.xs
  all : Sts H L.xs L.S
  dice : ∃ x y z, H L.a = some (.lst (dc x y z))
  one : IsD K L.d1 L.u H
  other : IsD K L.d2 L.v H
  n1 : L.d1.name = "p"
  n2 : L.d2.name = "q"
  g1 : Good L.d1
  g2 : Good L.d2
  tb : Tb T H
  it : Nl H L.it [V.ref L.a]
theorem Base.ex {L : LD} {σ : L2.St} {H H' : Hp} (b : Base T K L σ H) (e : Ex T H H') : Base T K L σ H' := ⟨b.len, b.s1, b.s2, b.s5, b.s6, b.s7, b.row.ex e, b.sts.ex e, b.all.ex e, let ⟨x, y, z, h⟩ := b.dice; ⟨x, y, z, e.obj _ _ h fun _ z => by cases z⟩, b.one.ex e, b.other.ex e, b.n1, b.n2, b.g1, b.g2, e.tb b.tb, b.it.ex e⟩
theorem Base.set {L : LD} {σ : L2.St} {H : Hp} (b : Base T K L σ H) {j : Nat} {v : Option V} (h : j ≠ 1 ∧ j ≠ 2 ∧ j ≠ 5 ∧ j ≠ 6 ∧ j ≠ 7) : Base T K L (σ.set j v) H := by
  obtain ⟨h1, h2, h5, h6, h7⟩ := h
  exact ⟨by rw [List.length_set]; exact b.len, by rw [List.getElem?_set_ne h1]; exact b.s1, by rw [List.getElem?_set_ne h2]; exact b.s2, by rw [List.getElem?_set_ne h5]; exact b.s5, by rw [List.getElem?_set_ne h6]; exact b.s6, by rw [List.getElem?_set_ne h7]; exact b.s7, b.row, b.sts, b.all, b.dice, b.one, b.other, b.n1, b.n2, b.g1, b.g2, b.tb, b.it⟩
theorem okW_q : okW "q" := ⟨by decide +kernel, by decide +kernel⟩
/-- B3: if not _law_part2(one, states): return False -/
theorem b3 (D : HD P w K mg base fa fn tf) (TT : TO K T) {A0 : Around} {outer : List Env} {s : Shared} {H0 : Hp} {E : XK} (hr : Room 30 (XL P w K mg base A0 outer s H0 E).A) : BlkL (XL P w K mg base A0 outer s H0 E) (lb 2) (fun L => (Base T K L)) (fun L => (Base T K L)) := by
  refine ⟨_, ps_if (pt_not (pt_val (pe_k (c_part2 (T := T) D TT) b_law_part2 hr (by decide) (by exact rfl) (D.glo m_glo__law_part2) passO (pa_cons (pv 6) (pa_cons (pv 2) pa_nil))))) (pss_one (ps_ret pe_bl)) pss_nil, fun L D' σ H b k => ?_⟩
  refine ⟨_, b.s6, _, b.s2, L.u, L.d1, L.st, L.xs, L.S, rfl, b.one, b.n1, b.g1, b.sts, b.all, b.tb, fun H' e t => ⟨true, rfl, ?_⟩⟩
  exact k _ _ (b.ex e)
/-- B7: helps -/
theorem b7 (D : HD P w K mg base fa fn tf) (TT : TO K T) {A0 : Around} {outer : List Env} {s : Shared} {H0 : Hp} {E : XK} (hr : Room 30 (XL P w K mg base A0 outer s H0 E).A) (Z : LD → L2.St → Hp → Prop) (hZ : ∀ L σ H H', Ex T H H' → Z L σ H → Z L σ H') : BlkL (XL P w K mg base A0 outer s H0 E) (lb 6) (fun L => (fun σ H => Base T K L σ H ∧ Z L σ H)) (fun L => (fun σ H => Base T K L σ H ∧ Z L σ H)) := by
  have A := na_of D
  refine ⟨_, ps_if (pt_cmpR op_ne (pe_k (c_helps (T := T) D TT) b_helps hr (by decide) (by exact rfl) (D.glo m_glo_helps) passO (pa_cons (pv 6) (pa_cons (pv 7) pa_nil)))
        (pe_cmpR (op_neD hr.units) (pe_op op_cat (pe_lc (own := [("fact", 12)]) (te := tVar 12) (tt := tTest (tOp (rIn K false) (tVar 12) (tFld K (tVar 6) "adds"))) rfl sc_law.nd (pi_sq (pe_fld (pv 7) (by exact rfl))) (blkOk_by (by kernel_rfl)) (fun s H C cl fp => pg_name (i := 12) (by exact sc_law.nd) rfl (.inl rfl)) (fun s H C cl fp => pts_one (pt_cmpR op_in_seq (pv 12) (pe_fld (pv 6) (by exact rfl)) (by with_unfolding_all rfl))) (fun s H C cl fp => pv 12))
          (pe_lc (own := [("fact", 12)]) (te := tVar 12) (tt := tTest (tOp (rIn K false) (tVar 12) (tFld K (tVar 6) "drops"))) rfl sc_law.nd (pi_sq (pe_fld (pv 7) (by exact rfl))) (blkOk_by (by kernel_rfl)) (fun s H C cl fp => pg_name (i := 12) (by exact sc_law.nd) rfl (.inl rfl)) (fun s H C cl fp => pts_one (pt_cmpR op_in_seq (pv 12) (pe_fld (pv 6) (by exact rfl)) (by with_unfolding_all rfl))) (fun s H C cl fp => pv 12))) (pe_lst pa_nil) (nomark _)) (nomark _)) (pss_one (ps_ret pe_bl)) pss_nil, fun L D' σ H ⟨b, hz⟩ k => ?_⟩
  have w6 : ∀ x, ((wipe σ [12]).set 12 (some x))[6]? = some (some L.u) := fun x => by
    show ((σ.set 12 none).set 12 (some x))[6]? = _
    rw [List.getElem?_set_ne (by decide), List.getElem?_set_ne (by decide)]
    exact b.s6
  have w12 : ∀ x, ((wipe σ [12]).set 12 (some x))[12]? = some (some x) := fun x => by
    show ((σ.set 12 none).set 12 (some x))[12]? = _
    exact List.getElem?_set_self (by rw [List.length_set, b.len]; decide)
  have ww : ∀ x, wipe ((wipe σ [12]).set 12 (some x)) [12] = wipe σ [12] := fun x => by
    show ((σ.set 12 none).set 12 (some x)).set 12 none = σ.set 12 none
    rw [List.set_set, List.set_set]
  refine st_if (T := T) b.tb (b := false) ((et_test (ev_neB (a := helpsB L.d1 L.d2) (ev_2 (i := 6) (j := 7) b.s6 b.one b.s7 b.other) (ev_neNil (ks := sb (fun x => L.d2.needs x && L.d1.adds x) ++ sb fun x => L.d2.bars x && L.d1.drops x) (fun k hk => okS_sb (p := fun _ => true) k (mem_sub.mpr ⟨in_sb2 k hk, rfl⟩)) (ev_catS (ev_lcP L.d1.adds (ei_sq (ev_dfl .needs A (i := 7) b.s7 b.other)) ww w12 fun k H3 hk e3 => et_memD (neg := false) .adds A hk (w12 _) (i := 6) (w6 _) (b.one.ex e3)) (ev_lcP L.d1.drops (ei_sq (ev_dfl .bars A (i := 7) b.s7 b.other)) ww w12 fun k H3 hk e3 => et_memD (neg := false) .drops A hk (w12 _) (i := 6) (w6 _) (b.one.ex e3)))))).is ?_) (fun hb => by cases hb) fun _ H1 e1 t1 => k _ _ ⟨b.ex e1, hZ _ _ _ _ e1 hz⟩
  rw [empty_app, Bool.not_and, isEmpty_sb, isEmpty_sb]
  show (helpsB L.d1 L.d2 != helpsB L.d1 L.d2) = false
  cases helpsB L.d1 L.d2 <;> rfl
end
end PK
end

section
set_option Elab.async false
set_option linter.all false
set_option autoImplicit false
set_option maxRecDepth 100000
set_option maxHeartbeats 3000000
namespace PK
open PySem PySem.Spec PyProof.Rows L2 GxR PW PT
section
variable {P : Program} {w : World} {K : PySem.W.Frag} {mg : Str → Option Value} {base : Heap} {T : Tn}
theorem wne {σ : L2.St} {i j : Nat} {x : Option V} (h : i ≠ j) : ((wipe σ [j]).set j x)[i]? = σ[i]? := by
  show ((σ.set j none).set j x)[i]? = _
  rw [List.getElem?_set_ne (Ne.symm h), List.getElem?_set_ne (Ne.symm h)]
theorem weq {σ : L2.St} {j : Nat} {x : Option V} (h : j < σ.length) : ((wipe σ [j]).set j x)[j]? = some x := by
  show ((σ.set j none).set j x)[j]? = _
  exact List.getElem?_set_self (by rw [List.length_set]; exact h)
theorem wip {σ : L2.St} {j : Nat} {x : Option V} : wipe ((wipe σ [j]).set j x) [j] = wipe σ [j] := by
  show ((σ.set j none).set j x).set j none = σ.set j none
  rw [List.set_set, List.set_set]
/-- for x in xs, where something known is written: Hb the heap ahead of it -/
theorem st_forB {σ : L2.St} {H Hb : Hp} {D : Ends} {i0 j : Nat} {tbd : TS} {xs : List V} {lv : V} (hl : Nl Hb lv xs) (hs : σ[i0]? = some (some lv)) (e0 : Ex T Hb H) (I : Nat → L2.St → Hp → Prop) (tb0 : Tb T H) (h0 : I 0 σ H)
    (step : ∀ i σ' H' x N, i < xs.length → xs[i]? = some x → Ex T Hb H' → Tb T H' → I i σ' H' → (∀ σ2 H2, Ex T Hb H2 → Tb T H2 → I (i + 1) σ2 H2 → N σ2 H2) → tbd { D with nx := N, ct := N, bk := D.nx } (σ'.set j (some x)) H')
    (done : ∀ σ' H', Ex T Hb H' → Tb T H' → I xs.length σ' H' → D.nx σ' H') : tFor (iSq K (tVar i0)) (gName j) tbd D σ H := by
  obtain ⟨a, rfl, ha⟩ := hl
  have sq : ∀ {H'}, Ex T Hb H' → SqL K H' a xs := fun e => SqL.of (e.obj a _ ha fun _ z => by cases z)
  refine ⟨.ref a, hs, a, rfl, .inl ⟨⟨xs, sq e0⟩, fun i m σ' H' => m = xs.length - i ∧ i ≤ xs.length ∧ Ex T Hb H' ∧ Tb T H' ∧ I i σ' H', ⟨xs.length, by simp, Nat.zero_le _, e0, tb0, h0⟩, ?_⟩⟩
  rintro i m σ' H' ⟨rfl, hi, ex, tb', inv⟩
  by_cases hlt : i < xs.length
  · refine .inr ⟨wk_list.go i H' (sq ex) hlt, fun σ2 H2 => i + 1 ≤ xs.length ∧ Ex T Hb H2 ∧ Tb T H2 ∧ I (i + 1) σ2 H2, fun σ2 H2 z => ⟨xs.length - (i + 1), by omega, rfl, z⟩, fun x H'' y => ?_⟩
    obtain ⟨eH, hx⟩ := wk_list.yld i H' x H'' (sq ex) hlt y
    subst eH
    exact step i σ' H'' x _ hlt hx ex tb' inv fun σ2 H2 e2 t2 i2 => ⟨hlt, e2, t2, i2⟩
  · cases (show i = xs.length by omega)
    exact .inl ⟨wk_list.stop H' (sq ex), done σ' H' ex tb' inv⟩
/-- B2: fits and done -/
theorem b2 (D : HD P w K mg base fa fn tf) (TT : TO K T) (TLm : TL K T) {A0 : Around} {outer : List Env} {s : Shared} {H0 : Hp} {E : XK} (hr : Room 30 (XL P w K mg base A0 outer s H0 E).A) : BlkL (XL P w K mg base A0 outer s H0 E) (lb 1) (fun L => (Base T K L)) (fun L => (Base T K L)) := by
  have A := na_of D
  have hL := TLm.l (d_law.at_, "law") (List.mem_of_getElem? (i := 2) rfl)
  refine ⟨_, ps_for (passes_of rfl) rfl (pi_sq (pv 2)) (pg_name (i := 8) sc_law.nd rfl (.inr rfl)) (pss_cons (ps_set (i := 9) sc_law.nd rfl (.inl rfl) (pe_k (c_step (T := T) D) b_law_step hr (by decide) (by exact rfl) (D.glo m_glo__law_step) passO (pa_cons (pv 6) (pa_cons (pv 8) pa_nil))))
    (pss_one (ps_if (pw_or (pt_cmpR op_ne (pe_km (pl := _) (c_fits (T := T) D TT) b_Deed_fits hr (by decide) A.c (He.meth_ok (D.fact _ m_meth_Deed_fits)) passO (pv 6) (pa_cons (pv 8) pa_nil)) (pe_cmpR op_notN1 (pv 9) pe_non (nomark _)) (nomark _))
      (pw_or1 (pt_cmpR (op_neD hr.units) (pe_told (T := T) (k := 28) (d := d_law) (t := fun E' => tMeth (CD K) "done" (sp_done T K) [] E' (tVar 6) (tCons (tVar 8) tNil)) D t_law (by exact rfl) rfl hL hr (LamX.lamS_by (by kernel_rfl)) rfl (fun _ _ _ _ _ => rfl)
        (fun A1 outer1 s1 H1 E' f c' hr2 => pe_km (pl := _) (c_done (T := T) D TT) b_Deed_done hr2 (by decide) A.c (He.meth_ok (D.fact _ m_meth_Deed_done)) passLam (pv 6) (pa_cons (pv 8) pa_nil))) (pe_ifExp (pt_cmpR op_isN1 (pv 9) pe_non (nomark _)) pe_str (pv 9)) (nomark _)))).pt (pss_one (ps_ret pe_bl)) pss_nil))), fun L D' σ H b k => ?_⟩
  refine st_forB (T := T) b.sts b.s2 (.refl T H) (fun i σ' H' => Base T K L σ' H') b.tb b (fun i σ' H' x N hi hx ex t' b' go => ?_) fun σ' H' ex t' b' => k _ _ b'
  have hxm : x ∈ L.xs := List.mem_of_getElem? hx
  have b1 := b'.set (j := 8) (v := some x) (by decide)
  have hnt := b1.all.nt x hxm
  have s8 : (σ'.set 8 (some x))[8]? = some (some x) := List.getElem?_set_self (by rw [b'.len]; decide)
  refine sq_asg t' (ev_step (i := 6) (j := 8) b1.s6 b1.one s8 hnt.sq) fun du H1 e1 t1 hdu => ?_
  have b2 := (b1.ex e1).set (j := 9) (v := some du) (by decide)
  have s9 : ((σ'.set 8 (some x)).set 9 (some du))[9]? = some (some du) := List.getElem?_set_self (by rw [List.length_set, b'.len]; decide)
  have s8' : ((σ'.set 8 (some x)).set 9 (some du))[8]? = some (some x) := by rw [List.getElem?_set_ne (by decide)]; exact s8
  have hnt2 := hnt.ex e1
  generalize (σ'.set 8 (some x)).set 9 (some du) = σ2 at b2 s9 s8'
  have due : Ev T (tVar 9) σ2 H1 (IsO (stepO L.d1 (L.S x))) := (ev_var s9).imp fun u H2 e z => by rw [show u = du from z]; exact hdu.ex e
  refine st_if (T := T) t1 (b := false) (et_or (a := false) (b := false) ((et_test (ev_neB (a := fitsB L.d1 (L.S x)) (ev_methD (Pa := fun vs _ => vs = [x]) (ev_isD b2.s6 b2.one) (fun _ _ _ _ => rfl) (ea_is (ev_var s8') ea_nil) fun o vs H2 e2 t2 hd ev Q q => ⟨(L.d1, L.S x), ⟨o, x, by rw [ev]; rfl, hd, (hnt2.ex e2).sq⟩, t2, fun _ v' H3 e3 t3 p3 => q v' H3 e3 t3 p3, fun c hc => by cases hc⟩) (ev_notN due))).is ?_) fun _ => et_test ?_) (fun hb => by cases hb) fun _ H2 e2 t2 => go _ _ (ex.trans (e1.trans e2)) t2 (b2.ex e2)
  · cases q : fitsB L.d1 (L.S x) with
    | false => rw [stepO_none q]; rfl
    | true => rw [stepO_some q]; rfl
  · have hxd : x_done K (L.d1, L.S x) = if fitsB L.d1 (L.S x) then none else some (cls K "BadDeed") := rfl
    have told : Ev T (tLm T (TT9 K) fun E' => tMeth (CD K) "done" (sp_done T K) [] E' (tVar 6) (tCons (tVar 8) tNil)) σ2 H1 (fun v H' => (x_done K (L.d1, L.S x) = none ∧ NtS H' v (doneP L.d1 (L.S x))) ∨ (x_done K (L.d1, L.S x) = some (cls K "BadFact") ∧ v = .str "fact") ∨ (x_done K (L.d1, L.S x) = some (cls K "BadDeed") ∧ v = .str "deed")) := by
      refine ev_told (x := x_done K (L.d1, L.S x)) (post := fun v H => NtS H v (doneP L.d1 (L.S x))) (fun E' Ha Q e0 t0 q1 q2 => ?_) ?_
      · refine ⟨L.u, b2.s6, ?_⟩
        obtain ⟨o, dx, n, bb, aa, r, eo, ho, h1, h2, h3, h4⟩ := id (b2.one.ex e0)
        refine ⟨o, dx, _, eo, ho, rfl, x, s8', (L.d1, L.S x), ⟨by show okW L.d1.name; rw [b2.n1]; exact okW_p, _, x, rfl, b2.one.ex e0, (hnt2.ex e0).sq⟩, t0, fun hn v H' e' t' p => q1 hn v H' e' t' p, fun c hc H' e' t' => q2 c hc H' e' t'⟩
      · rw [hxd]
        cases fitsB L.d1 (L.S x) with
        | true => exact .inl rfl
        | false => exact .inr (.inr rfl)
    cases q : fitsB L.d1 (L.S x) with
    | true =>
      have hs := stepO_some q
      rw [hs] at due hdu
      refine ev_op (Pa := IsO (some (doneP L.d1 (L.S x)))) (Pb := IsO (some (doneP L.d1 (L.S x)))) (told.imp fun v H3 e3 z => ?_) (ev_if (b := false) (et_test ((ev_isN due).is rfl)) (fun h => by cases h) fun _ => due) (fun _ _ _ e z => z.ex e) fun y z H3 e3 t3 py pz Q qq => ⟨_, _, dp_o py, dp_o pz, osD_shaped _, osD_shaped _, by
          rw [osD_eqv, show eqO (some (doneP L.d1 (L.S x))) (some (doneP L.d1 (L.S x))) = true from decide_eq_true rfl]
          exact qq _ H3 (.refl T H3) t3 rfl⟩
      rw [hxd, q] at z
      rcases z with ⟨_, z⟩ | ⟨z, _⟩ | ⟨z, _⟩
      · exact z
      · cases z
      · cases z
    | false =>
      have hs := stepO_none q
      rw [hs] at due
      refine ev_op (Pa := Is (.str "deed")) (Pb := Is (.str "deed")) (told.imp fun v H3 e3 z => ?_) (ev_if (b := true) (et_test ((ev_isN due).is rfl)) (fun _ => ev_c) fun h => by cases h) is_mono fun y z H3 e3 t3 py pz Q qq => ⟨.str "deed", .str "deed", by rw [show y = .str "deed" from py]; exact .str _, by rw [show z = .str "deed" from pz]; exact .str _, by decide +kernel, by decide +kernel, by
          rw [show (!PyData.eqv (.str "deed") (.str "deed")) = false from by decide +kernel]
          exact qq _ H3 (.refl T H3) t3 rfl⟩
      rw [hxd, q] at z
      rcases z with ⟨z, _⟩ | ⟨z, _⟩ | ⟨_, z⟩
      · cases z
      · have z2 : some (cls K "BadDeed") = some (cls K "BadFact") := z
        have z3 : He.ga K "BadDeed" = He.ga K "BadFact" := by injection z2 with z2; injection z2
        have h1 := He.exm_ok (D.fact _ m_exm_BadDeed_BadFact_false)
        rw [z3, He.exm_ok (D.fact _ m_exm_BadFact_BadFact_true)] at h1
        cases h1
      · exact z
end
end PK
end

section
set_option Elab.async false
set_option linter.all false
set_option autoImplicit false
set_option maxRecDepth 100000
set_option maxHeartbeats 3000000
namespace PK
open PySem PySem.Spec PyProof.Rows L2 GxR PW PT
section
variable {P : Program} {w : World} {K : PySem.W.Frag} {mg : Str → Option Value} {base : Heap} {T : Tn}
abbrev keyS (S : V → St1) (z : V) : List Key := keyOf (sb (S z))
def kvsOf (S : V → St1) (xs us : List V) : List (List Key × V) := (xs.zip us).map fun p => (keyS S p.1, p.2)
/-- v tells F of each state, in their order -/
def BothX (F : St1 → Option St1) (L : LD) (v : V) (H : Hp) : Prop := ∃ a us, v = .ref a ∧ us.length = L.xs.length ∧ H a = some (.dT (kvsOf L.S L.xs us)) ∧ ∀ p ∈ L.xs.zip us, IsO (F (L.S p.1)) p.2 H
theorem BothX.ex {H H' : Hp} {F : St1 → Option St1} {L : LD} {v : V} (e : Ex T H H') (h : BothX F L v H) : BothX F L v H' := let ⟨a, us, h1, h2, h3, h4⟩ := h
  ⟨a, us, h1, h2, e.obj a _ h3 (fun _ z => by cases z), fun p hp => (h4 p hp).ex e⟩
theorem key_inj {ks ls : List Str} (h : keyOf ks = keyOf ls) : ks = ls := by
  induction ks generalizing ls with
  | nil => cases ls with
    | nil => rfl
    | cons l ls => cases h
  | cons k ks ih => cases ls with
    | nil => cases h
    | cons l ls =>
      have h1 := List.cons.inj h
      have h2 : k = l := by have := h1.1; injection this
      rw [h2, ih h1.2]
theorem val_zip {S : V → St1} : ∀ {xs us : List V}, us.length = xs.length → (xs.map fun v => sb (S v)).Nodup → ∀ z ∈ xs, ∃ u, valV (kvsOf S xs us) (keyS S z) = some u ∧ (z, u) ∈ xs.zip us
  | [], _, _, _, z, hz => by cases hz
  | x :: xs, [], h, _, _, _ => by cases h
  | x :: xs, u :: us, h, nd, z, hz => by
    have nd' := List.nodup_cons.mp nd
    by_cases e : keyS S x = keyS S z
    · have ez : z = x := by
        rcases List.mem_cons.mp hz with w | w
        · exact w
        · have : sb (S z) ∈ xs.map fun v => sb (S v) := List.mem_map.mpr ⟨z, w, rfl⟩
          rw [← key_inj e] at this
          exact absurd this nd'.1
      refine ⟨u, valV_pos e, ?_⟩
      rw [ez]
      exact List.mem_cons_self
    · rcases List.mem_cons.mp hz with w | w
      · rw [w] at e; exact absurd rfl e
      · obtain ⟨u', h1, h2⟩ := val_zip (xs := xs) (us := us) (by simpa using h) nd'.2 z w
        exact ⟨u', (valV_neg e).trans h1, List.mem_cons_of_mem _ h2⟩
theorem BothX.both {H : Hp} {F : St1 → Option St1} {L : LD} {v : V} (hs : Sts H L.xs L.S) (h : BothX F L v H) : IsBoth F L.S L.xs v H := by
  obtain ⟨a, us, h1, h2, h3, h4⟩ := h
  refine ⟨a, _, h1, h3, fun z hz => ?_⟩
  obtain ⟨u, e1, e2⟩ := val_zip h2 hs.nd z hz
  exact ⟨u, e1, h4 _ e2⟩
theorem put_new {S : V → St1} {xs us : List V} {i : Nat} {x u : V} (hx : xs[i]? = some x) (hl : us.length = i) (nd : (xs.map fun v => sb (S v)).Nodup) : putK (kvsOf S (xs.take i) us) (keyS S x) u = kvsOf S (xs.take (i + 1)) (us ++ [u]) := by
  obtain ⟨hi, ex⟩ := List.getElem?_eq_some_iff.mp hx
  have tk : xs.take (i + 1) = xs.take i ++ [x] := by rw [List.take_succ, hx]; rfl
  have hlen : (xs.take i).length = us.length := by rw [List.length_take, hl]; omega
  have hno : ((kvsOf S (xs.take i) us).any fun kv => decide (kv.1 = keyS S x)) = false := by
    rw [List.any_eq_false]
    intro kv hkv
    obtain ⟨p, hp, rfl⟩ := List.mem_map.mp hkv
    have hm : p.1 ∈ xs.take i := (List.of_mem_zip hp).1
    intro e
    have e2 : sb (S p.1) = sb (S x) := key_inj (of_decide_eq_true e)
    obtain ⟨j, hj, ej⟩ := List.getElem_of_mem hm
    rw [List.length_take] at hj
    rw [List.getElem_take] at ej
    have h3 : (xs.map fun v => sb (S v))[j]? = (xs.map fun v => sb (S v))[i]? := by
      rw [List.getElem?_map, List.getElem?_map, hx, List.getElem?_eq_getElem (by omega : j < xs.length), ej]
      exact congrArg some e2
    have := (List.getElem?_inj (by rw [List.length_map]; omega) nd).mp h3
    omega
  unfold putK
  rw [hno, if_neg (by decide), tk]
  unfold kvsOf
  rw [List.zip_append hlen, List.map_append]
  rfl
theorem isO_dt {H : Hp} {o : Option St1} {u : V} {a : Addr} {x y : List (List Key × V)} (ha : H a = some (.dT x)) (h : IsO o u H) : IsO o u (upd H a (.dT y)) := by
  cases o with
  | none => exact h
  | some p =>
    obtain ⟨b, hb, hb'⟩ := h
    exact ⟨b, hb, by rw [upd_ne (fun z => by rw [z, ha] at hb'; cases hb')]; exact hb'⟩
/-- {} filled: F of each state -/
theorem dict_go {E : XK} {L : LD} {σ : L2.St} {H : Hp} {D' : Ends} {f1 f2 dj : Nat} {w1 w2 : V} {d1 d2 : DD} (Z : L2.St → Hp → Prop) (hZ : ∀ σ H H', Ex T H H' → Z σ H → Z σ H') (hS : ∀ σ H j v, j = 8 ∨ j = 11 ∨ j = dj → Z σ H → Z (σ.set j v) H)
    (hdj : dj ≠ 1 ∧ dj ≠ 2 ∧ dj ≠ 5 ∧ dj ≠ 6 ∧ dj ≠ 7 ∧ dj ≠ 8 ∧ dj ≠ 11 ∧ dj < 24) (hf : ∀ σ H, Base T K L σ H → σ[f1]? = some (some w1) ∧ σ[f2]? = some (some w2) ∧ IsD K d1 w1 H ∧ IsD K d2 w2 H) (b : Base T K L σ H) (hz : Z σ H)
    (k : ∀ σ' H' v, Base T K L σ' H' → Z σ' H' → σ'[dj]? = some (some v) → BothX (twoO d1 d2) L v H' → D'.nx σ' H') :
    tSeq (tAsg tDNewT (gName dj)) (tFor (iSq K (tVar 2)) (gName 8) (tSeq (tAsg (tCall (sp_step T K) [] E (tCons (tVar f1) (tCons (tVar 8) tNil))) (gName 11)) (sDPut (tVar dj) (tVar 8) (tIf (tTest (tOp rIsN (tVar 11) (tC .non))) (tC .non) (tCall (sp_step T K) [] E (tCons (tVar f2) (tCons (tVar 11) tNil))))))) D' σ H := by
  obtain ⟨n1, n2, n5, n6, n7, n8, n11, n24⟩ := hdj
  intro p hp
  have e0 : Ex T H (upd H p (.dT [])) := .new hp
  have b0 := b.set (j := dj) (v := some (.ref p)) ⟨n1, n2, n5, n6, n7⟩
  refine st_forB (T := T) (Hb := H) (xs := L.xs) b.sts b0.s2 e0 (fun i σ' H' => Base T K L σ' H ∧ Z σ' H ∧ σ'[dj]? = some (some (.ref p)) ∧ ∃ us, us.length = i ∧ H' p = some (.dT (kvsOf L.S (L.xs.take i) us)) ∧ ∀ q ∈ (L.xs.take i).zip us, IsO (twoO d1 d2 (L.S q.1)) q.2 H') (e0.tb b.tb)
    ⟨b0, hS _ _ _ _ (.inr (.inr rfl)) hz, List.getElem?_set_self (by rw [b.len]; exact n24), [], rfl, upd_same, fun q hq => by simp at hq⟩ (fun i σ' H' x N hi hx ex t' ⟨b', z', hd', us, hl, ho, hall⟩ go => ?_) fun σ' H' ex t' ⟨b', z', hd', us, hl, ho, hall⟩ => ?_
  · have hxm : x ∈ L.xs := List.mem_of_getElem? hx
    have b1 := (b'.set (j := 8) (v := some x) (by decide))
    have z1 := hS _ _ 8 (some x) (.inl rfl) z'
    have s8 : (σ'.set 8 (some x))[8]? = some (some x) := List.getElem?_set_self (by rw [b'.len]; decide)
    have sd : (σ'.set 8 (some x))[dj]? = some (some (.ref p)) := by rw [List.getElem?_set_ne (Ne.symm n8)]; exact hd'
    obtain ⟨q1, q2, q3, q4⟩ := hf _ _ (b1.ex ex)
    have hnt := (b1.ex ex).all.nt x hxm
    refine sq_asg t' (ev_step (i := f1) (j := 8) q1 q3 s8 hnt.sq) fun th H1 e1 t1 hth => ?_
    have b2 := (b1.set (j := 11) (v := some th) (by decide))
    have z2 := hS _ _ 11 (some th) (.inr (.inl rfl)) z1
    have s11 : ((σ'.set 8 (some x)).set 11 (some th))[11]? = some (some th) := List.getElem?_set_self (by rw [List.length_set, b'.len]; decide)
    have s8' : ((σ'.set 8 (some x)).set 11 (some th))[8]? = some (some x) := by rw [List.getElem?_set_ne (by decide)]; exact s8
    have sd' : ((σ'.set 8 (some x)).set 11 (some th))[dj]? = some (some (.ref p)) := by rw [List.getElem?_set_ne (Ne.symm n11)]; exact sd
    generalize (σ'.set 8 (some x)).set 11 (some th) = σ2 at b2 z2 s11 s8' sd'
    obtain ⟨q1', q2', q3', q4'⟩ := hf _ _ (b2.ex (ex.trans e1))
    have there : Ev T (tVar 11) σ2 H1 (IsO (stepO d1 (L.S x))) := (ev_var s11).imp fun u H2 e z => by rw [show u = th from z]; exact hth.ex e
    have val : Ev T (tIf (tTest (tOp rIsN (tVar 11) (tC .non))) (tC .non) (tCall (sp_step T K) [] E (tCons (tVar f2) (tCons (tVar 11) tNil)))) σ2 H1 (IsO (twoO d1 d2 (L.S x))) := by
      unfold twoO
      cases q : stepO d1 (L.S x) with
      | none =>
        rw [q] at there
        exact ev_if (b := true) (et_test ((ev_isN there).is rfl)) (fun _ => ev_c.imp fun u H2 e z => z) fun h => by cases h
      | some p' =>
        rw [q] at there hth
        exact ev_if (b := false) (et_test ((ev_isN there).is rfl)) (fun h => by cases h) fun _ => ev_step (i := f2) (j := 11) q2' q4' s11 (Nt.sq hth)
    refine val H1 (.refl T _) t1 _ fun u H2 e2 t2 hu => ?_
    obtain ⟨xb, hxb, hxb'⟩ := (hnt.ex e1).ex e2
    have ho2 := e2.obj p _ (e1.obj p _ ho fun _ z => by cases z) fun _ z => by cases z
    have hlen' : (kvsOf L.S (L.xs.take i) us).length < sizeLine := by
      unfold kvsOf
      rw [List.length_map, List.length_zip, hl, sizeLine_eq]
      have := b.all.len
      omega
    have hput : DPut H2 p x u (upd H2 p (.dT (putK (kvsOf L.S (L.xs.take i) us) (keyS L.S x) u))) := by
      have := DPut.t (v := u) (k := keyS L.S x) ho2 (by rw [keyOf_kV]; exact hxb') hlen'
      rw [← hxb] at this
      exact this
    refine ⟨_, sd', _, s8', p, _, rfl, hput, go _ _ (Ex.dtm (ex.trans (e1.trans e2)) hp ho2) ?_ ⟨b2, z2, sd', us ++ [u], by rw [List.length_append, hl]; rfl, ?_, ?_⟩⟩
    · exact (Ex.dtm (ex.trans (e1.trans e2)) hp ho2).tb b.tb
    · rw [upd_same, put_new hx hl b.all.nd]
    · intro q hq
      have tk : L.xs.take (i + 1) = L.xs.take i ++ [x] := by rw [List.take_succ, hx]; rfl
      rw [tk, List.zip_append (by rw [List.length_take, hl]; omega)] at hq
      refine isO_dt ho2 ?_
      rcases List.mem_append.mp hq with w | w
      · exact ((hall q w).ex e1).ex e2
      · have : q = (x, u) := by simpa using w
        rw [this]
        exact hu
  · rw [List.take_length] at ho hall
    exact k σ' H' (.ref p) (b'.ex ex) (hZ _ _ _ ex z') hd' ⟨p, us, rfl, hl, ho, hall⟩
end
end PK
end

section
set_option Elab.async false
set_option linter.all false
set_option autoImplicit false
set_option maxRecDepth 100000
set_option maxHeartbeats 3000000
namespace PK
open PySem PySem.Spec PyProof.Rows L2 GxR PW PT
section
variable {P : Program} {w : World} {K : PySem.W.Frag} {mg : Str → Option Value} {base : Heap} {T : Tn}
def Z5 (L : LD) (σ : L2.St) (H : Hp) : Prop := ∃ v, σ[10]? = some (some v) ∧ BothX (twoO L.d1 L.d2) L v H
def Z9 (L : LD) (σ : L2.St) (H : Hp) : Prop := ∃ v, σ[13]? = some (some v) ∧ BothX (twoO L.d2 L.d1) L v H
theorem Z5.ex {L : LD} {σ : L2.St} {H H' : Hp} (e : Ex T H H') (h : Z5 L σ H) : Z5 L σ H' := let ⟨v, a, b⟩ := h; ⟨v, a, b.ex e⟩
theorem Z9.ex {L : LD} {σ : L2.St} {H H' : Hp} (e : Ex T H H') (h : Z9 L σ H) : Z9 L σ H' := let ⟨v, a, b⟩ := h; ⟨v, a, b.ex e⟩
theorem Z5.set {L : LD} {σ : L2.St} {H : Hp} {j : Nat} {v : Option V} (n : j ≠ 10) (h : Z5 L σ H) : Z5 L (σ.set j v) H := let ⟨v, a, b⟩ := h; ⟨v, by rw [List.getElem?_set_ne n]; exact a, b⟩
theorem Z9.set {L : LD} {σ : L2.St} {H : Hp} {j : Nat} {v : Option V} (n : j ≠ 13) (h : Z9 L σ H) : Z9 L (σ.set j v) H := let ⟨v, a, b⟩ := h; ⟨v, by rw [List.getElem?_set_ne n]; exact a, b⟩
theorem b45 (D : HD P w K mg base fa fn tf) {A0 : Around} {outer : List Env} {s : Shared} {H0 : Hp} {E : XK} (hr : Room 30 (XL P w K mg base A0 outer s H0 E).A) : Blk2L (XL P w K mg base A0 outer s H0 E) (lb 3) (lb 4) (fun L => (Base T K L)) (fun L => (fun σ H => Base T K L σ H ∧ Z5 L σ H)) := by
  refine ⟨_, pss2 (ps_set (i := 10) sc_law.nd rfl (.inr rfl) pe_dnewT) ((ps_for (passes_of rfl) rfl (pi_sq (pv 2)) (pg_name (i := 8) sc_law.nd rfl (.inr rfl)) (pss_cons (ps_set (i := 11) sc_law.nd rfl (.inr rfl) (pe_k (c_step (T := T) D) b_law_step hr (by decide) (by exact rfl) (D.glo m_glo__law_step) passO (pa_cons (pv 6) (pa_cons (pv 8) pa_nil))))
    (pss_one (ps_dput (room1 (by exact hr)) (pv 10) (pv 8) (pe_ifExp (pt_cmpR op_isN1 (pv 11) pe_non (nomark _)) pe_non (pe_k (c_step (T := T) D) b_law_step hr (by decide) (by exact rfl) (D.glo m_glo__law_step) passO (pa_cons (pv 7) (pa_cons (pv 11) pa_nil)))) (by exact rfl)))))), fun L D' σ H b k => ?_⟩
  exact dict_go (f1 := 6) (f2 := 7) (dj := 10) (fun _ _ => True) (fun _ _ _ _ h => h) (fun _ _ _ _ _ h => h) (by decide) (fun σ H b => ⟨b.s6, b.s7, b.one, b.other⟩) b trivial fun σ' H' v b' _ hs hb => k σ' H' ⟨b', v, hs, hb⟩
theorem b89 (D : HD P w K mg base fa fn tf) {A0 : Around} {outer : List Env} {s : Shared} {H0 : Hp} {E : XK} (hr : Room 30 (XL P w K mg base A0 outer s H0 E).A) : Blk2L (XL P w K mg base A0 outer s H0 E) (lb 7) (lb 8) (fun L => (fun σ H => Base T K L σ H ∧ Z5 L σ H)) (fun L => (fun σ H => Base T K L σ H ∧ Z5 L σ H ∧ Z9 L σ H)) := by
  refine ⟨_, pss2 (ps_set (i := 13) sc_law.nd rfl (.inr rfl) pe_dnewT) ((ps_for (passes_of rfl) rfl (pi_sq (pv 2)) (pg_name (i := 8) sc_law.nd rfl (.inr rfl)) (pss_cons (ps_set (i := 11) sc_law.nd rfl (.inr rfl) (pe_k (c_step (T := T) D) b_law_step hr (by decide) (by exact rfl) (D.glo m_glo__law_step) passO (pa_cons (pv 7) (pa_cons (pv 8) pa_nil))))
    (pss_one (ps_dput (room1 (by exact hr)) (pv 13) (pv 8) (pe_ifExp (pt_cmpR op_isN1 (pv 11) pe_non (nomark _)) pe_non (pe_k (c_step (T := T) D) b_law_step hr (by decide) (by exact rfl) (D.glo m_glo__law_step) passO (pa_cons (pv 6) (pa_cons (pv 11) pa_nil)))) (by exact rfl)))))), fun L D' σ H ⟨b, z⟩ k => ?_⟩
  exact dict_go (f1 := 7) (f2 := 6) (dj := 13) (Z5 L) (fun _ _ _ e h => h.ex e) (fun _ _ j _ hj h => h.set (by rcases hj with rfl | rfl | rfl <;> decide)) (by decide) (fun σ H b => ⟨b.s7, b.s6, b.other, b.one⟩) b z fun σ' H' v b' z' hs hb => k σ' H' ⟨b', z', v, hs, hb⟩
/-- B6: if not _law_part1(..): return False -/
theorem b6 (D : HD P w K mg base fa fn tf) (TT : TO K T) (TLm : TL K T) (eq : EQ K) {A0 : Around} {outer : List Env} {s : Shared} {H0 : Hp} {E : XK} (hr : Room 30 (XL P w K mg base A0 outer s H0 E).A) : BlkL (XL P w K mg base A0 outer s H0 E) (lb 5) (fun L => (fun σ H => Base T K L σ H ∧ Z5 L σ H)) (fun L => (fun σ H => Base T K L σ H ∧ Z5 L σ H)) := by
  refine ⟨_, ps_if (pt_not (pt_val (pe_k (c_part1 (T := T) D TT TLm eq) b_law_part1 hr (by decide) (by exact rfl) (D.glo m_glo__law_part1) passO (pa_cons (pv 10) (pa_cons (pv 6) (pa_cons (pv 7) (pa_cons (pv 1) (pa_cons (pv 2) pa_nil)))))))) (pss_one (ps_ret pe_bl)) pss_nil, fun L D' σ H ⟨b, v, hv, hb⟩ k => ?_⟩
  refine ⟨_, hv, _, b.s6, _, b.s7, _, b.s1, _, b.s2, v, L.u, L.v, L.ro, L.st, L.d1, L.d2, L.xs, L.S, rfl, hb.both b.all, b.one, b.other, by rw [b.n2]; exact okW_q, b.g1, b.g2, b.row, b.sts, b.all, b.tb, fun H' e t => ⟨true, rfl, ?_⟩⟩
  exact k _ _ ⟨b.ex e, v, hv, hb.ex e⟩
/-! ### free, swapped: by facts -/
theorem hurts_pt {a b : DD} : hurtsB a b = row.any fun x => (b.needs x && a.drops x) || (b.bars x && a.adds x) := by
  unfold hurtsB
  rw [Bool.eq_iff_iff, Bool.or_eq_true, List.any_eq_true, List.any_eq_true, List.any_eq_true]
  constructor
  · rintro (⟨x, hx, z⟩ | ⟨x, hx, z⟩)
    · exact ⟨x, hx, by rw [z]; rfl⟩
    · exact ⟨x, hx, by rw [z, Bool.or_true]⟩
  · rintro ⟨x, hx, z⟩
    rw [Bool.or_eq_true] at z
    rcases z with z | z
    · exact .inl ⟨x, hx, z⟩
    · exact .inr ⟨x, hx, z⟩
theorem free_pt {a b : DD} (h : freeB a b = true) : ∀ x ∈ row, ((b.needs x && a.drops x) || (b.bars x && a.adds x)) = false ∧ ((a.needs x && b.drops x) || (a.bars x && b.adds x)) = false ∧ (a.adds x && b.drops x) = false ∧ (b.adds x && a.drops x) = false := by
  intro x hx
  unfold freeB at h
  rw [hurts_pt, hurts_pt] at h
  unfold clashB at h
  simp only [Bool.and_eq_true, Bool.not_eq_true', List.any_eq_false, Bool.or_eq_false_iff] at h
  obtain ⟨h1, h2, h3, h4⟩ := h
  have a1 := h1 x hx
  have a2 := h2 x hx
  have a3 := h3 x hx
  have a4 := h4 x hx
  exact ⟨by simpa using a1, by simpa using a2, by simpa using a3, by simpa using a4⟩
theorem free_pt1 : ∀ an ab aa ad bn bb ba bd s : Bool, ((bn && ad) || (bb && aa)) = false → ((!an || s) && !(ab && s)) = true → ((!bn || s) && !(bb && s)) = true → ((!bn || ((s && !ad) || aa)) && !(bb && ((s && !ad) || aa))) = true := by decide +kernel
theorem free_pt2 : ∀ aa ad ba bd s : Bool, (aa && bd) = false → (ba && ad) = false → (((((s && !ad) || aa) && !bd) || ba)) = ((((s && !bd) || ba) && !ad) || aa) := by decide +kernel
theorem free_two {a b : DD} (h : freeB a b = true) {s : St1} (ha : fitsB a s = true) (hb : fitsB b s = true) : (twoO a b s).isSome = true ∧ eqO (twoO a b s) (twoO b a s) = true := by
  have f := free_pt h
  have e1 : fitsB b (doneP a s) = true := by
    rw [fits_all, List.all_eq_true] at ha hb ⊢
    exact fun x hx => free_pt1 (a.needs x) (a.bars x) _ _ _ _ (b.adds x) (b.drops x) _ (f x hx).1 (ha x hx) (hb x hx)
  have e2 : fitsB a (doneP b s) = true := by
    rw [fits_all, List.all_eq_true] at ha hb ⊢
    exact fun x hx => free_pt1 (b.needs x) (b.bars x) _ _ _ _ (a.adds x) (a.drops x) _ (f x hx).2.1 (hb x hx) (ha x hx)
  rw [two_some ha e1, two_some hb e2]
  exact ⟨rfl, decide_eq_true (sub_congr fun x hx => free_pt2 _ _ _ _ _ (f x hx).2.2.1 (f x hx).2.2.2)⟩
theorem swap_pt1 : ∀ an ab aa ad bn bb s : Bool, ((bn && ad) || (bb && aa)) = false → ((bn && aa) || (bb && ad)) = false → ((!an || s) && !(ab && s) && ((!bn || ((s && !ad) || aa)) && !(bb && ((s && !ad) || aa)))) = ((!an || s) && !(ab && s) && ((!bn || s) && !(bb && s))) := by decide +kernel
theorem helps_pt {a b : DD} (h : helpsB a b = false) : ∀ x ∈ row, ((b.needs x && a.adds x) || (b.bars x && a.drops x)) = false := by
  intro x hx
  unfold helpsB at h
  rw [Bool.or_eq_false_iff, List.any_eq_false, List.any_eq_false] at h
  have a1 := h.1 x hx
  have a2 := h.2 x hx
  rw [show (b.needs x && a.adds x) = false by simpa using a1, show (b.bars x && a.drops x) = false by simpa using a2]
  rfl
theorem two_fits {a b : DD} {s : St1} : (twoO a b s).isSome = (fitsB a s && fitsB b (doneP a s)) := by
  unfold twoO
  cases q : fitsB a s with
  | false => rw [stepO_none q]; rfl
  | true =>
    rw [stepO_some q]
    show (stepO b (doneP a s)).isSome = _
    cases q2 : fitsB b (doneP a s) with
    | false => rw [stepO_none q2]; rfl
    | true => rw [stepO_some q2]; rfl
theorem swap_two {a b : DD} (h : swapB a b = true) (s : St1) : eqO (twoO a b s) (twoO b a s) = true := by
  unfold swapB at h
  rw [Bool.and_eq_true, Bool.and_eq_true, Bool.not_eq_true', Bool.not_eq_true'] at h
  obtain ⟨h1, h2, h3⟩ := h
  have f := free_pt h1
  have g1 := helps_pt h2
  have g2 := helps_pt h3
  have e1 : (fitsB a s && fitsB b (doneP a s)) = (fitsB a s && fitsB b s) := by
    rw [fits_all, fits_all, fits_all, Bool.eq_iff_iff, Bool.and_eq_true, Bool.and_eq_true]
    simp only [List.all_eq_true]
    constructor
    · rintro ⟨z1, z2⟩
      refine ⟨z1, fun x hx => ?_⟩
      have := swap_pt1 (a.needs x) (a.bars x) (a.adds x) (a.drops x) (b.needs x) (b.bars x) (s x) (f x hx).1 (g1 x hx)
      rw [z1 x hx, show ((!b.needs x || ((s x && !a.drops x) || a.adds x)) && !(b.bars x && ((s x && !a.drops x) || a.adds x))) = true from z2 x hx] at this
      simpa using this.symm
    · rintro ⟨z1, z2⟩
      refine ⟨z1, fun x hx => ?_⟩
      have := swap_pt1 (a.needs x) (a.bars x) (a.adds x) (a.drops x) (b.needs x) (b.bars x) (s x) (f x hx).1 (g1 x hx)
      rw [z1 x hx, z2 x hx] at this
      show ((!b.needs x || ((s x && !a.drops x) || a.adds x)) && !(b.bars x && ((s x && !a.drops x) || a.adds x))) = true
      simpa using this
  have e2 : (fitsB b s && fitsB a (doneP b s)) = (fitsB b s && fitsB a s) := by
    rw [fits_all, fits_all, fits_all, Bool.eq_iff_iff, Bool.and_eq_true, Bool.and_eq_true]
    simp only [List.all_eq_true]
    constructor
    · rintro ⟨z1, z2⟩
      refine ⟨z1, fun x hx => ?_⟩
      have := swap_pt1 (b.needs x) (b.bars x) (b.adds x) (b.drops x) (a.needs x) (a.bars x) (s x) (f x hx).2.1 (g2 x hx)
      rw [z1 x hx, show ((!a.needs x || ((s x && !b.drops x) || b.adds x)) && !(a.bars x && ((s x && !b.drops x) || b.adds x))) = true from z2 x hx] at this
      simpa using this.symm
    · rintro ⟨z1, z2⟩
      refine ⟨z1, fun x hx => ?_⟩
      have := swap_pt1 (b.needs x) (b.bars x) (b.adds x) (b.drops x) (a.needs x) (a.bars x) (s x) (f x hx).2.1 (g2 x hx)
      rw [z1 x hx, z2 x hx] at this
      show ((!a.needs x || ((s x && !b.drops x) || b.adds x)) && !(a.bars x && ((s x && !b.drops x) || b.adds x))) = true
      simpa using this
  cases q : (fitsB a s && fitsB b s) with
  | true =>
    rw [Bool.and_eq_true] at q
    exact (free_two h1 q.1 q.2).2
  | false =>
    have s1 : (twoO a b s).isSome = false := by rw [two_fits, e1, q]
    have s2 : (twoO b a s).isSome = false := by rw [two_fits, e2, Bool.and_comm, q]
    cases t1 : twoO a b s with
    | some p => rw [t1] at s1; cases s1
    | none => cases t2 : twoO b a s with
      | some p => rw [t2] at s2; cases s2
      | none => rfl
end
end PK
end

section
set_option Elab.async false
set_option linter.all false
set_option autoImplicit false
set_option maxRecDepth 100000
set_option maxHeartbeats 3000000
namespace PK
open PySem PySem.Spec PyProof.Rows L2 GxR PW PT
section
variable {P : Program} {w : World} {K : PySem.W.Frag} {mg : Str → Option Value} {base : Heap} {T : Tn}
/-- as st_for, any target -/
theorem st_forG {σ : L2.St} {H : Hp} {D : Ends} {wi : TI} {g : TG} {tbd : TS} {xs : List V} (I : Nat → L2.St → Hp → Prop) (h : EvI T wi σ H xs) (tb0 : Tb T H) (h0 : ∀ H1, Ex T H H1 → Tb T H1 → I 0 σ H1)
    (step : ∀ i σ' H' x N, i < xs.length → xs[i]? = some x → Ex T H H' → Tb T H' → I i σ' H' → (∀ σ2 H2, Ex T H' H2 → Tb T H2 → I (i + 1) σ2 H2 → N σ2 H2) → g x σ' H' fun σ2 H2 => tbd { D with nx := N, ct := N, bk := D.nx } σ2 H2)
    (done : ∀ σ' H', Ex T H H' → Tb T H' → I xs.length σ' H' → D.nx σ' H') : tFor wi g tbd D σ H := h H (.refl T H) tb0 _ fun J St H1 e1 t1 wk st0 stm => by
  refine ⟨fun i m σ' H' => m = xs.length - i ∧ i ≤ xs.length ∧ Ex T H1 H' ∧ Tb T H' ∧ I i σ' H', ⟨xs.length, by simp, Nat.zero_le _, .refl T H1, t1, h0 H1 e1 t1⟩, ?_⟩
  rintro i m σ' H' ⟨rfl, hi, ex, tb', inv⟩
  by_cases hlt : i < xs.length
  · refine .inr ⟨wk.go i H' (stm H' ex) hlt, fun σ2 H2 => i + 1 ≤ xs.length ∧ Ex T H1 H2 ∧ Tb T H2 ∧ I (i + 1) σ2 H2, fun σ2 H2 z => ⟨xs.length - (i + 1), by omega, rfl, z⟩, fun x H'' y => ?_⟩
    obtain ⟨eH, hx⟩ := wk.yld i H' x H'' (stm H' ex) hlt y
    subst eH
    exact step i σ' H'' x _ hlt hx (e1.trans ex) tb' inv fun σ2 H2 e2 t2 i2 => ⟨hlt, ex.trans e2, t2, i2⟩
  · cases (show i = xs.length by omega)
    exact .inl ⟨wk.stop H' (stm H' ex), done σ' H' (e1.trans ex) tb' inv⟩
theorem tfor_call {tl : TE} {g : TG} {tbd : TS} {D : Ends} {σ : L2.St} {H : Hp} (h : tl σ H (fun u H2 => tFor (iSq K (tC u)) g tbd D σ H2)) : tFor (iSq K tl) g tbd D σ H := h
/-- the states of a list that pass -/
theorem ev_stsL {σ : L2.St} {H : Hp} {wi : TI} {tt : TT} {j : Nat} {vs : List Nat} {xs : List V} {S : V → St1} (q : V → Bool) (hs : ∀ v ∈ xs, NtS H v (S v)) (hlen : xs.length ≤ 100000) (h : EvI T wi σ H xs) (hw : ∀ x, wipe ((wipe σ vs).set j (some x)) vs = wipe σ vs) (hj : ∀ x, ((wipe σ vs).set j (some x))[j]? = some (some x))
    (ht : ∀ v H1, v ∈ xs → Ex T H H1 → NtS H1 v (S v) → EvT T tt ((wipe σ vs).set j (some v)) H1 (q v)) : Ev T (tLc wi (gName j) tt (tVar j) vs) σ H fun v H1 => Nl H1 v (xs.filter q) := by
  refine (ev_lc q (fun x y H => y = x ∧ Nt H x ((sb (S x)).map V.str)) h hlen hw (fun x y Ha Hb e z => ⟨z.1, z.2.ex e⟩) (fun x y Ha D' ys hD z w => ?_) (fun x y Ha D' ys zs hD ny z => ⟨z.1, ?_⟩)
    (fun v H1 hv e => ht v H1 hv e ((hs v hv).ex e)) fun v H1 hv e hp => (ev_var (hj v)).imp fun u H2 e2 z => ⟨z, ((hs v hv).ex e).ex e2⟩).imp fun u H1 e ⟨ys, hl, hm⟩ => ?_
  · obtain ⟨b, hb, hb'⟩ := z.2
    rw [z.1, hb] at w
    cases w
    rw [hD] at hb'
    cases hb'
  · obtain ⟨b, hb, hb'⟩ := z.2
    exact ⟨b, hb, by rw [upd_ne (fun w => by rw [w, hD] at hb'; cases hb')]; exact hb'⟩
  · have : ys = (xs.filter q).map id := Made.map (Made.mono (H' := H1) (Pe' := fun x y _ => y = id x) (fun _ _ z => z.1) hm)
    rw [List.map_id] at this
    rw [← this]
    exact hl
/-! ### free by the law's own look -/
def cutsB (a b : DD) : Bool := (row.any fun x => a.drops x && (b.needs x || b.adds x)) || row.any fun x => a.adds x && b.bars x
theorem free_cuts {a b : DD} : freeB a b = (!cutsB a b && !cutsB b a) := by
  have key : ∀ {f g h k l m n : Str → Bool}, (row.any f || row.any g) = (row.any fun x => f x || g x) := by
    intro f g _ _ _ _ _
    rw [Bool.eq_iff_iff, Bool.or_eq_true, List.any_eq_true, List.any_eq_true, List.any_eq_true]
    constructor
    · rintro (⟨x, hx, z⟩ | ⟨x, hx, z⟩)
      · exact ⟨x, hx, by rw [z]; rfl⟩
      · exact ⟨x, hx, by rw [z, Bool.or_true]⟩
    · rintro ⟨x, hx, z⟩
      rw [Bool.or_eq_true] at z
      exact z.elim (fun z => .inl ⟨x, hx, z⟩) fun z => .inr ⟨x, hx, z⟩
  have e : (hurtsB a b || (hurtsB b a || clashB a b)) = (cutsB a b || cutsB b a) := by
    unfold hurtsB clashB cutsB
    rw [key (h := fun _ => true) (k := fun _ => true) (l := fun _ => true) (m := fun _ => true) (n := fun _ => true), key (h := fun _ => true) (k := fun _ => true) (l := fun _ => true) (m := fun _ => true) (n := fun _ => true), key (h := fun _ => true) (k := fun _ => true) (l := fun _ => true) (m := fun _ => true) (n := fun _ => true), key (h := fun _ => true) (k := fun _ => true) (l := fun _ => true) (m := fun _ => true) (n := fun _ => true), key (h := fun _ => true) (k := fun _ => true) (l := fun _ => true) (m := fun _ => true) (n := fun _ => true), key (h := fun _ => true) (k := fun _ => true) (l := fun _ => true) (m := fun _ => true) (n := fun _ => true), key (h := fun _ => true) (k := fun _ => true) (l := fun _ => true) (m := fun _ => true) (n := fun _ => true), key (h := fun _ => true) (k := fun _ => true) (l := fun _ => true) (m := fun _ => true) (n := fun _ => true)]
    refine any_congr fun x _ => ?_
    cases a.needs x <;> cases a.bars x <;> cases a.adds x <;> cases a.drops x <;> cases b.needs x <;> cases b.bars x <;> cases b.adds x <;> cases b.drops x <;> rfl
  unfold freeB
  rw [← Bool.not_or, ← Bool.not_or, ← Bool.not_or, e]
/-- free_now: what the law's own look says -/
def Z11 (L : LD) (σ : L2.St) (_ : Hp) : Prop := σ[14]? = some (some (.bl (freeB L.d1 L.d2)))
abbrev Z59 (L : LD) (σ : L2.St) (H : Hp) : Prop := Z5 L σ H ∧ Z9 L σ H
theorem Z59.ex {L : LD} {σ : L2.St} {H H' : Hp} (e : Ex T H H') (h : Z59 L σ H) : Z59 L σ H' := ⟨h.1.ex e, h.2.ex e⟩
theorem Z59.set {L : LD} {σ : L2.St} {H : Hp} {j : Nat} {v : Option V} (n : j ≠ 10) (m : j ≠ 13) (h : Z59 L σ H) : Z59 L (σ.set j v) H := ⟨h.1.set n, h.2.set m⟩
theorem b1011 (D : HD P w K mg base fa fn tf) {A0 : Around} {outer : List Env} {s : Shared} {H0 : Hp} {E : XK} (hr : Room 30 (XL P w K mg base A0 outer s H0 E).A) : Blk2L (XL P w K mg base A0 outer s H0 E) (lb 9) (lb 10) (fun L => (fun σ H => Base T K L σ H ∧ Z59 L σ H)) (fun L => (fun σ H => Base T K L σ H ∧ Z59 L σ H ∧ Z11 L σ H)) := by
  have A := na_of D
  refine ⟨_, pss2 (ps_set (i := 14) sc_law.nd rfl (.inl rfl) pe_bl) ((ps_for (passes_of rfl) rfl (pi_sq (pe_lst (pa_cons (pe_tup (pa_cons (pv 6) (pa_cons (pv 7) pa_nil))) (pa_cons (pe_tup (pa_cons (pv 7) (pa_cons (pv 6) pa_nil))) pa_nil)))) (pg_tup (n := 2) rfl (pgs_cons (pg_name (i := 15) sc_law.nd rfl (.inl rfl)) (pgs_cons (pg_name (i := 16) sc_law.nd rfl (.inr rfl)) pgs_nil)))
      (pss_one (ps_if (pt_cmpR (op_neD hr.units) (pe_op op_cat
          (pe_lc (own := [("fact", 12)]) (te := tVar 12) (tt := tOr (tTest (tOp (rIn K false) (tVar 12) (tFld K (tVar 16) "needs"))) (tTest (tOp (rIn K false) (tVar 12) (tFld K (tVar 16) "adds")))) rfl sc_law.nd (pi_sq (pe_fld (pv 15) (by exact rfl))) (blkOk_by (by kernel_rfl)) (fun s H C cl fp => pg_name (i := 12) (by exact sc_law.nd) rfl (.inl rfl)) (fun s H C cl fp => pts_one (pw_or (pt_cmpR op_in_seq (pv 12) (pe_fld (pv 16) (by exact rfl)) (by with_unfolding_all rfl)) (pw_or1 (pt_cmpR op_in_seq (pv 12) (pe_fld (pv 16) (by exact rfl)) (by with_unfolding_all rfl)))).pt) (fun s H C cl fp => pv 12))
          (pe_lc (own := [("fact", 12)]) (te := tVar 12) (tt := tTest (tOp (rIn K false) (tVar 12) (tFld K (tVar 16) "bars"))) rfl sc_law.nd (pi_sq (pe_fld (pv 15) (by exact rfl))) (blkOk_by (by kernel_rfl)) (fun s H C cl fp => pg_name (i := 12) (by exact sc_law.nd) rfl (.inl rfl)) (fun s H C cl fp => pts_one (pt_cmpR op_in_seq (pv 12) (pe_fld (pv 16) (by exact rfl)) (by with_unfolding_all rfl))) (fun s H C cl fp => pv 12))) (pe_lst pa_nil) (nomark _))
        (pss_one (ps_set (i := 14) sc_law.nd rfl (.inl rfl) pe_bl)) pss_nil)))), fun L D' σ H ⟨b, z⟩ k => ?_⟩
  refine pu_asg (v := .bl true) pu_c ?_
  have b0 := b.set (j := 14) (v := some (.bl true)) (by decide)
  have z0 := z.set (j := 14) (v := some (.bl true)) (by decide) (by decide)
  have s14 : (σ.set 14 (some (.bl true)))[14]? = some (some (.bl true)) := List.getElem?_set_self (by rw [b.len]; decide)
  generalize σ.set 14 (some (.bl true)) = σ0 at b0 z0 s14
  dsimp only
  refine tfor_call ?_
  -- the list of two pairs
  refine ⟨_, b0.s6, _, b0.s7, (by show 2 ≤ sizeLine; rw [sizeLine_eq]; decide), fun p hp => ⟨_, b0.s7, _, b0.s6, (by show 2 ≤ sizeLine; rw [sizeLine_eq]; decide), fun p2 hp2 => ⟨(by show 2 ≤ sizeLine; rw [sizeLine_eq]; decide), fun p3 hp3 => ?_⟩⟩⟩
  have e1 : Ex T H (upd H p (.tup [L.u, L.v])) := .new hp
  have e2 : Ex T (upd H p (.tup [L.u, L.v])) (upd (upd H p (.tup [L.u, L.v])) p2 (.tup [L.v, L.u])) := .new hp2
  have e3 : Ex T (upd (upd H p (.tup [L.u, L.v])) p2 (.tup [L.v, L.u])) (upd (upd (upd H p (.tup [L.u, L.v])) p2 (.tup [L.v, L.u])) p3 (.lst [.ref p, .ref p2])) := .new hp3
  have h2 : (upd (upd (upd H p (.tup [L.u, L.v])) p2 (.tup [L.v, L.u])) p3 (.lst [.ref p, .ref p2])) p2 = some (.tup [L.v, L.u]) := e3.obj p2 _ upd_same fun _ z => by cases z
  have h1 : (upd (upd (upd H p (.tup [L.u, L.v])) p2 (.tup [L.v, L.u])) p3 (.lst [.ref p, .ref p2])) p = some (.tup [L.u, L.v]) := e3.obj p _ (e2.obj p _ upd_same fun _ z => by cases z) fun _ z => by cases z
  have h3 : (upd (upd (upd H p (.tup [L.u, L.v])) p2 (.tup [L.v, L.u])) p3 (.lst [.ref p, .ref p2])) p3 = some (.lst [.ref p, .ref p2]) := upd_same
  have ee := (e1.trans e2).trans e3
  generalize upd (upd (upd H p (.tup [L.u, L.v])) p2 (.tup [L.v, L.u])) p3 (.lst [.ref p, .ref p2]) = Hs at ee h1 h2 h3 ⊢
  have bs := b0.ex ee
  have zs := z0.ex ee
  -- one turn
  have turn : ∀ {d1 d2 : DD} {a c : V} {σ' : L2.St} {H' : Hp} {N : L2.St → Hp → Prop} {fv : Bool} {rt : VK} {bk : L2.St → Hp → Prop}, Ex T Hs H' → Tb T H' → IsD K d1 a H' → IsD K d2 c H' → Base T K L σ' H' → Z59 L σ' H' → σ'[14]? = some (some (.bl fv)) →
      (∀ σ2 H2, Ex T H' H2 → Tb T H2 → Base T K L σ2 H2 → Z59 L σ2 H2 → σ2[14]? = some (some (.bl (fv && !cutsB d1 d2))) → N σ2 H2) →
      tIfS (tTest (tOp (rNeD K) (tOp rCat (tLc (iSq K (tFld K (tVar 15) "drops")) (gName 12) (tOr (tTest (tOp (rIn K false) (tVar 12) (tFld K (tVar 16) "needs"))) (tTest (tOp (rIn K false) (tVar 12) (tFld K (tVar 16) "adds")))) (tVar 12) [12]) (tLc (iSq K (tFld K (tVar 15) "adds")) (gName 12) (tTest (tOp (rIn K false) (tVar 12) (tFld K (tVar 16) "bars"))) (tVar 12) [12])) (tLst tNil))) (tAsg (tC (.bl false)) (gName 14)) tNext
        { nx := N, ct := N, bk := bk, rt := rt } ((σ'.set 15 (some a)).set 16 (some c)) H' := by
    intro d1 d2 a c σ' H' N fv rt bk ex t' ha hc b' z' hf go
    have s15 : ((σ'.set 15 (some a)).set 16 (some c))[15]? = some (some a) := by rw [List.getElem?_set_ne (by decide)]; exact List.getElem?_set_self (by rw [b'.len]; decide)
    have s16 : ((σ'.set 15 (some a)).set 16 (some c))[16]? = some (some c) := List.getElem?_set_self (by rw [List.length_set, b'.len]; decide)
    have b2 := (b'.set (j := 15) (v := some a) (by decide)).set (j := 16) (v := some c) (by decide)
    have z2 := (z'.set (j := 15) (v := some a) (by decide) (by decide)).set (j := 16) (v := some c) (by decide) (by decide)
    have f2 : ((σ'.set 15 (some a)).set 16 (some c))[14]? = some (some (.bl fv)) := by rw [List.getElem?_set_ne (by decide), List.getElem?_set_ne (by decide)]; exact hf
    generalize (σ'.set 15 (some a)).set 16 (some c) = σ2 at s15 s16 b2 z2 f2
    have l24 : 12 < σ2.length := by rw [b2.len]; decide
    refine st_if (T := T) t' (b := cutsB d1 d2) ((et_test (ev_neNil (ks := sb (fun x => d1.drops x && (d2.needs x || d2.adds x)) ++ sb fun x => d1.adds x && d2.bars x) (fun k hk => okS_sb (p := fun _ => true) k (mem_sub.mpr ⟨in_sb2 k hk, rfl⟩)) (ev_catS (ev_lcP (fun x => d2.needs x || d2.adds x) (ei_sq (ev_dfl .drops A (i := 15) s15 ha)) (fun _ => wip) (fun _ => weq l24) fun k H3 hk e3 => et_or (et_memD (neg := false) .needs A hk (weq l24) (i := 16) ((wne (by decide)).trans s16) (hc.ex e3)) fun _ => et_memD (neg := false) .adds A hk (weq l24) (i := 16) ((wne (by decide)).trans s16) (hc.ex e3)) (ev_lcP d2.bars (ei_sq (ev_dfl .adds A (i := 15) s15 ha)) (fun _ => wip) (fun _ => weq l24) fun k H3 hk e3 => et_memD (neg := false) .bars A hk (weq l24) (i := 16) ((wne (by decide)).trans s16) (hc.ex e3))))).is ?_) (fun hb H3 e3 t3 => ?_) fun hb H3 e3 t3 => ?_
    · rw [empty_app, Bool.not_and, isEmpty_sb, isEmpty_sb]
      rfl
    · refine pu_asg (v := .bl false) pu_c (go _ _ e3 t3 ((b2.ex e3).set (by decide)) ((z2.ex e3).set (by decide) (by decide)) ?_)
      rw [hb, Bool.not_true, Bool.and_false]
      exact List.getElem?_set_self (by rw [b2.len]; decide)
    · refine go _ _ e3 t3 (b2.ex e3) (z2.ex e3) ?_
      rw [hb, Bool.not_false, Bool.and_true]
      exact f2
  refine st_forG (T := T) (xs := [.ref p, .ref p2]) (fun i σ' H' => Base T K L σ' H' ∧ Z59 L σ' H' ∧ σ'[14]? = some (some (.bl (if i = 0 then true else if i = 1 then !cutsB L.d1 L.d2 else (!cutsB L.d1 L.d2 && !cutsB L.d2 L.d1))))) (ei_sq (ev_c.imp fun u H3 e z => by rw [show u = .ref p3 from z]; exact ⟨p3, rfl, .inl (SqL.of (e.obj p3 _ h3 fun _ z => by cases z))⟩)) bs.tb (fun H1 e t => ⟨bs.ex e, zs.ex e, s14⟩) (fun i σ' H' x N hi hx ex t' ⟨b', z', hf⟩ go => ?_) fun σ' H' ex t' ⟨b', z', hf⟩ => k _ _ ⟨b', z', by unfold Z11; rw [free_cuts]; exact hf⟩
  match i, hx, hf with
  | 0, hx, hf =>
    cases hx
    refine ⟨p, _, rfl, SqT.of (ex.obj p _ h1 fun _ z => by cases z), rfl, L.u, _, rfl, L.v, _, rfl, rfl, ?_⟩
    exact turn ex t' b'.one b'.other b' z' hf fun σ2 H2 e2 t2 b2 z2 f2 => go σ2 H2 e2 t2 ⟨b2, z2, f2⟩
  | 1, hx, hf =>
    cases hx
    refine ⟨p2, _, rfl, SqT.of (ex.obj p2 _ h2 fun _ z => by cases z), rfl, L.v, _, rfl, L.u, _, rfl, rfl, ?_⟩
    exact turn ex t' b'.other b'.one b' z' hf fun σ2 H2 e2 t2 b2 z2 f2 => go σ2 H2 e2 t2 ⟨b2, z2, f2⟩
end
end PK
end

section
set_option Elab.async false
set_option linter.all false
set_option autoImplicit false
set_option maxRecDepth 100000
set_option maxHeartbeats 3000000
namespace PK
open PySem PySem.Spec PyProof.Rows L2 GxR PW PT
section
variable {P : Program} {w : World} {K : PySem.W.Frag} {mg : Str → Option Value} {base : Heap} {T : Tn}
theorem ev_fits {σ : L2.St} {H : Hp} {E : XK} {i j : Nat} {u v : V} {d : DD} {s : St1} (hi : σ[i]? = some (some u)) (hd : IsD K d u H) (hj : σ[j]? = some (some v)) (hs : IsS K s v H) : Ev T (tMeth (CD K) "fits" (sp_fits T K) [] E (tVar i) (tCons (tVar j) tNil)) σ H (Is (.bl (fitsB d s))) :=
  ev_methD (Pa := fun vs _ => vs = [v]) (ev_isD hi hd) (fun _ _ _ _ => rfl) (ea_is (ev_var hj) ea_nil) fun o vs H2 e2 t2 hd ev Q q => ⟨(d, s), ⟨o, v, by rw [ev]; rfl, hd, hs.ex e2⟩, t2, fun _ v' H3 e3 t3 p3 => q v' H3 e3 t3 p3, fun c hc => by cases hc⟩
/-- B12: are_free against free_now -/
theorem b12 (D : HD P w K mg base fa fn tf) (TT : TO K T) {A0 : Around} {outer : List Env} {s : Shared} {H0 : Hp} {E : XK} (hr : Room 30 (XL P w K mg base A0 outer s H0 E).A) : BlkL (XL P w K mg base A0 outer s H0 E) (lb 11) (fun L => (fun σ H => Base T K L σ H ∧ Z59 L σ H ∧ Z11 L σ H)) (fun L => (fun σ H => Base T K L σ H ∧ Z59 L σ H)) := by
  refine ⟨_, ps_if (pt_cmpR op_ne (pe_k (c_free (T := T) D TT) b_are_free hr (by decide) (by exact rfl) (D.glo m_glo_are_free) passO (pa_cons (pv 6) (pa_cons (pv 7) pa_nil))) (pv 14) (nomark _)) (pss_one (ps_ret pe_bl)) pss_nil, fun L D' σ H ⟨b, z, zf⟩ k => ?_⟩
  refine st_if (T := T) b.tb (b := false) ((et_test (ev_neB (a := freeB L.d1 L.d2) (ev_2 (i := 6) (j := 7) b.s6 b.one b.s7 b.other) (ev_var zf))).is ?_) (fun hb => by cases hb) fun _ H1 e1 t1 => k _ _ ⟨b.ex e1, z.ex e1⟩
  cases freeB L.d1 L.d2 <;> rfl
def fitL (L : LD) : List V := L.xs.filter fun z => fitsB L.d1 (L.S z) && fitsB L.d2 (L.S z)
def Z13 (L : LD) (σ : L2.St) (H : Hp) : Prop := ∃ v, σ[17]? = some (some v) ∧ Nl H v (fitL L)
/-- B13: fit -/
theorem b13 (D : HD P w K mg base fa fn tf) (TT : TO K T) {A0 : Around} {outer : List Env} {s : Shared} {H0 : Hp} {E : XK} (hr : Room 30 (XL P w K mg base A0 outer s H0 E).A) : BlkL (XL P w K mg base A0 outer s H0 E) (lb 12) (fun L => (fun σ H => Base T K L σ H ∧ Z59 L σ H)) (fun L => (fun σ H => Base T K L σ H ∧ Z59 L σ H ∧ Z13 L σ H)) := by
  have A := na_of D
  refine ⟨_, ps_setLc (i := 17) (own := [("state", 8)]) (te := tVar 8) (tt := tAnd (tB (tMeth (CD K) "fits" (sp_fits T K) [] E0 (tVar 6) (tCons (tVar 8) tNil))) (tB (tMeth (CD K) "fits" (sp_fits T K) [] E0 (tVar 7) (tCons (tVar 8) tNil)))) rfl sc_law.nd rfl rfl (by exact rfl) (pi_sq (pv 2)) (blkOk_by (by kernel_rfl)) (fun s H C cl fp => pg_name (i := 8) (by exact sc_law.nd) rfl (.inl rfl))
        (fun s H C cl fp => pts_one (L2.PW.pt (pw_and (pt_val (pe_km (pl := _) (c_fits (T := T) D TT) b_Deed_fits hr (by decide) A.c (He.meth_ok (D.fact _ m_meth_Deed_fits)) passL (pv 6) (pa_cons (pv 8) pa_nil))) (pw_and1 (pt_val (pe_km (pl := _) (c_fits (T := T) D TT) b_Deed_fits hr (by decide) A.c (He.meth_ok (D.fact _ m_meth_Deed_fits)) passL (pv 7) (pa_cons (pv 8) pa_nil))))))) (fun s H C cl fp => pv 8), fun L D' σ H ⟨b, z⟩ k => ?_⟩
  have l24 : 8 < σ.length := by rw [b.len]; decide
  refine st_asg b.tb (ev_sts (S := L.S) (fun z => fitsB L.d1 (L.S z) && fitsB L.d2 (L.S z)) b.all (ei_sq ((ev_var b.s2).imp fun u H3 e3 z => by rw [show u = L.st from z]; exact (b.sts.ex e3).sq)) (fun _ => wip) (fun _ => weq l24) fun z H1 hz e1 hnt => et_and (et_B (ev_fits (i := 6) (j := 8) ((wne (by decide)).trans b.s6) (b.one.ex e1) (weq l24) hnt.sq)) fun _ => et_B (ev_fits (i := 7) (j := 8) ((wne (by decide)).trans b.s7) (b.other.ex e1) (weq l24) hnt.sq)) fun v H1 e1 t1 hv => ?_
  exact k _ _ ⟨(b.ex e1).set (by decide), (z.ex e1).set (by decide) (by decide), v, List.getElem?_set_self (by rw [b.len]; decide), hv⟩
/-- B14: free ones come to the same -/
theorem b14 (D : HD P w K mg base fa fn tf) (TT : TO K T) {A0 : Around} {outer : List Env} {s : Shared} {H0 : Hp} {E : XK} (hr : Room 30 (XL P w K mg base A0 outer s H0 E).A) : BlkL (XL P w K mg base A0 outer s H0 E) (lb 13) (fun L => (fun σ H => Base T K L σ H ∧ Z59 L σ H ∧ Z13 L σ H)) (fun L => (fun σ H => Base T K L σ H ∧ Z59 L σ H)) := by
  refine ⟨_, ps_if (pw_and (pt_val (pe_k (c_free (T := T) D TT) b_are_free hr (by decide) (by exact rfl) (D.glo m_glo_are_free) passO (pa_cons (pv 6) (pa_cons (pv 7) pa_nil)))) (pw_and1 (pt_cmpR (op_neD hr.units) (pe_lc (own := [("state", 8)]) (te := tVar 8) (tt := tOr (tTest (tOp rIsN (tDGet (tVar 10) (tVar 8)) (tC .non))) (tTest (tOp (rNeD K) (tDGet (tVar 10) (tVar 8)) (tDGet (tVar 13) (tVar 8))))) rfl sc_law.nd (pi_sq (pv 17)) (blkOk_by (by kernel_rfl)) (fun s H C cl fp => pg_name (i := 8) (by exact sc_law.nd) rfl (.inl rfl))
        (fun s H C cl fp => pts_one (L2.PW.pt (pw_or (pt_cmpR op_isN1 (pe_dget (room1 (by exact hr)) (pv 10) (pv 8) (by intro _ _; rfl)) pe_non (nomark _)) (pw_or1 (pt_cmpR (op_neD (by exact hr.units)) (pe_dget (room1 (by exact hr)) (pv 10) (pv 8) (by intro _ _; rfl)) (pe_dget (room1 (by exact hr)) (pv 13) (pv 8) (by intro _ _; rfl)) (nomark _)))))) (fun s H C cl fp => pv 8)) (pe_lst pa_nil) (nomark _)))).pt (pss_one (ps_ret pe_bl)) pss_nil, fun L D' σ H ⟨b, z, v, hv, hn⟩ k => ?_⟩
  have l24 : 8 < σ.length := by rw [b.len]; decide
  obtain ⟨v5, h5, hb5⟩ := z.1
  obtain ⟨v9, h9, hb9⟩ := z.2
  have i5 := hb5.both b.all
  have i9 := hb9.both b.all
  have hsub : ∀ y ∈ fitL L, y ∈ L.xs := fun y hy => (List.mem_filter.mp hy).1
  refine st_if (T := T) b.tb (b := false) ((et_and (a := freeB L.d1 L.d2) (b := !((fitL L).filter fun y => !(twoO L.d1 L.d2 (L.S y)).isSome || !eqO (twoO L.d1 L.d2 (L.S y)) (twoO L.d2 L.d1 (L.S y))).isEmpty) (et_B (ev_2 (i := 6) (j := 7) b.s6 b.one b.s7 b.other)) fun _ => et_test (ev_neNilS (S := L.S) (ev_stsL (S := L.S) (fun y => !(twoO L.d1 L.d2 (L.S y)).isSome || !eqO (twoO L.d1 L.d2 (L.S y)) (twoO L.d2 L.d1 (L.S y))) (fun y hy => b.all.nt y (hsub y hy)) (by unfold fitL; have := List.length_filter_le (fun z => fitsB L.d1 (L.S z) && fitsB L.d2 (L.S z)) L.xs; have := b.all.len; omega) (ei_sq ((ev_var hv).imp fun u H3 e3 z => by rw [show u = v from z]; exact (hn.ex e3).sq)) (fun _ => wip) (fun _ => weq l24) fun y H1 hy e1 hnt =>
    et_or (et_test (ev_isN (ev_both (i := 10) (j := 8) ((wne (by decide)).trans h5) (i5.ex e1) (weq l24) (hsub y hy) hnt))) fun _ => et_test (ev_neO (ev_both (i := 10) (j := 8) ((wne (by decide)).trans h5) (i5.ex e1) (weq l24) (hsub y hy) hnt) (ev_both (i := 13) (j := 8) ((wne (by decide)).trans h9) (i9.ex e1) (weq l24) (hsub y hy) hnt))) fun y hy => b.all.nt y (hsub y (List.mem_filter.mp hy).1))).is ?_) (fun hb => by cases hb) fun _ H1 e1 t1 => k _ _ ⟨b.ex e1, z.ex e1⟩
  cases q : freeB L.d1 L.d2 with
  | false => rfl
  | true =>
    rw [show ((fitL L).filter fun y => !(twoO L.d1 L.d2 (L.S y)).isSome || !eqO (twoO L.d1 L.d2 (L.S y)) (twoO L.d2 L.d1 (L.S y))) = [] from List.filter_eq_nil_iff.mpr fun y hy => by
      have hy2 := (List.mem_filter.mp hy).2
      rw [Bool.and_eq_true] at hy2
      obtain ⟨r1, r2⟩ := free_two q hy2.1 hy2.2
      rw [r1, r2]
      decide]
    rfl
/-! ### a goal, barred facts -/
structure LG where
  g : Str → Bool
  b : Str → Bool
def ZG (G : LG) (σ : L2.St) (H : Hp) : Prop := ∃ x y, σ[18]? = some (some x) ∧ Nl H x ((sb G.g).map .str) ∧ σ[19]? = some (some y) ∧ Nl H y ((sb fun x => G.b x && !G.g x).map .str)
end
end PK
end

section
set_option Elab.async false
set_option linter.all false
set_option autoImplicit false
set_option maxRecDepth 100000
set_option maxHeartbeats 3000000
namespace PK
open PySem PySem.Spec PyProof.Rows L2 GxR PW PT
section
variable {P : Program} {w : World} {K : PySem.W.Frag} {mg : Str → Option Value} {base : Heap} {T : Tn}
theorem Nl.exd' {a : Addr} {H H' : Hp} {x y z : Int} {v : V} {xs : List V} (hn : xs.length ≠ 3) (hd : H a = some (.lst (dc x y z))) (e : Exd T a H H') (h : Nl H v xs) : Nl H' v xs := by
  obtain ⟨b, rfl, q⟩ := h
  exact ⟨b, rfl, e.obj b _ (fun z => by rw [z, hd] at q; have := HO.lst.inj (Option.some.inj q); rw [← this] at hn; exact hn rfl) q fun _ z => by cases z⟩
theorem Base.exd {L : LD} {σ : L2.St} {H H' : Hp} (b : Base T K L σ H) (e : Exd T L.a H H') : Base T K L σ H' := by
  obtain ⟨x, y, z, hd⟩ := b.dice
  exact ⟨b.len, b.s1, b.s2, b.s5, b.s6, b.s7, Nl.exd hd e b.row, Nl.exd' (by rw [b.all.len]; decide) hd e b.sts, Sts.exd hd e b.all, e.dice, IsD.exd hd e b.one, IsD.exd hd e b.other, b.n1, b.n2, b.g1, b.g2, e.tb b.tb, Nl.exd' (xs := [V.ref L.a]) (by show 1 ≠ 3; decide) hd e b.it⟩
def Z16 (g : Str → Bool) (σ : L2.St) (H : Hp) : Prop := ∃ x, σ[18]? = some (some x) ∧ Nl H x ((sb g).map .str)
/-- B16: goal = _law_some(dice, row, 2) -/
theorem b16 (D : HD P w K mg base fa fn tf) {A0 : Around} {outer : List Env} {s : Shared} {H0 : Hp} {E : XK} (hr : Room 30 (XL P w K mg base A0 outer s H0 E).A) : BlkL (XL P w K mg base A0 outer s H0 E) (lb 15) (fun L => (Base T K L)) (fun L => (fun σ H => ∃ g, Base T K L σ H ∧ Z16 g σ H)) := by
  refine ⟨_, ps_set (i := 18) sc_law.nd rfl (.inr rfl) (pe_k (c_some (T := T) D) b_law_some hr (by decide) (by exact rfl) (D.glo m_glo__law_some) passO (pa_cons (pv 5) (pa_cons (pv 1) (pa_cons pe_int pa_nil)))), fun L D' σ H b k => ?_⟩
  obtain ⟨x, y, z, hd⟩ := b.dice
  exact sp_some_go (i := 5) (j := 1) b.s5 b.s1 (fun Q q => q) hd b.row b.tb (by decide) (by decide) fun p u H' e t hu f => k _ _ ⟨p, (b.exd e).set (by decide), u, List.getElem?_set_self (by rw [b.len]; decide), hu⟩
/-- B17: bars -/
theorem b17 (D : HD P w K mg base fa fn tf) {A0 : Around} {outer : List Env} {s : Shared} {H0 : Hp} {E : XK} (hr : Room 30 (XL P w K mg base A0 outer s H0 E).A) : BlkL (XL P w K mg base A0 outer s H0 E) (lb 16) (fun L => (fun σ H => ∃ g, Base T K L σ H ∧ Z16 g σ H)) (fun L => (fun σ H => ∃ G, Base T K L σ H ∧ ZG G σ H)) := by
  refine ⟨_, ps_setLc (i := 19) (own := [("fact", 12)]) (te := tVar 12) (tt := tTest (tOp (rIn K true) (tVar 12) (tVar 18))) rfl sc_law.nd rfl rfl (by exact rfl) (pi_sq (pe_k (c_some (T := T) D) b_law_some hr (by decide) (by exact rfl) (D.glo m_glo__law_some) passO (pa_cons (pv 5) (pa_cons (pv 1) (pa_cons pe_int pa_nil))))) (blkOk_by (by kernel_rfl)) (fun s H C cl fp => pg_name (i := 12) (by exact sc_law.nd) rfl (.inl rfl))
        (fun s H C cl fp => pts_one (pt_cmpR op_notIn_seq (pv 12) (pv 18) (by with_unfolding_all rfl))) (fun s H C cl fp => pv 12), fun L D' σ H ⟨g, b, x, hx, hg⟩ k => ?_⟩
  obtain ⟨dx, dy, dz, hd⟩ := b.dice
  refine tlc_call (sp_some_go (i := 5) (j := 1) b.s5 b.s1 (fun Q q => q) hd b.row b.tb (by decide) (by decide) fun p u H' e t hu f => ?_)
  have b2 := b.exd e
  have hg2 := Nl.exd hd e hg
  have l24 : 12 < σ.length := by rw [b.len]; decide
  have L1 := ev_lcP (T := T) (wi := iSq K (tC u)) (tt := tTest (tOp (rIn K true) (tVar 12) (tVar 18))) (σ := σ) (H := H') (j := 12) (vs := [12]) (p := p) (fun k => !g k) (ei_sq (ev_c.imp fun v H3 e3 z => by rw [show v = u from z]; exact (hu.ex e3).sq)) (fun _ => wip) (fun _ => weq l24) fun k H3 hk e3 => et_memS (neg := true) hk (weq l24) (i := 18) ((wne (by decide)).trans hx) (hg2.ex e3).sq
  refine L1 H' (.refl T H') t _ fun v H2 e2 t2 hv => ?_
  exact k _ _ ⟨⟨g, p⟩, (b2.ex e2).set (by decide), x, v, by rw [List.getElem?_set_ne (by decide)]; exact hx, hg2.ex e2, List.getElem?_set_self (by rw [b.len]; decide), hv⟩
def LG.bb (G : LG) : Str → Bool := fun x => G.b x && !G.g x
def Z18 (K : PySem.W.Frag) (L : LD) (G : LG) (σ : L2.St) (H : Hp) : Prop := ZG G σ H ∧ ∃ v, σ[20]? = some (some v) ∧ IsB K (backO G.g G.bb L.d1) v H
/-- B18: back -/
theorem b18 (D : HD P w K mg base fa fn tf) (TT : TO K T) {A0 : Around} {outer : List Env} {s : Shared} {H0 : Hp} {E : XK} (hr : Room 30 (XL P w K mg base A0 outer s H0 E).A) : BlkL (XL P w K mg base A0 outer s H0 E) (lb 17) (fun L => (fun σ H => ∃ G, Base T K L σ H ∧ ZG G σ H)) (fun L => (fun σ H => ∃ G, Base T K L σ H ∧ Z18 K L G σ H)) := by
  refine ⟨_, ps_set (i := 20) sc_law.nd rfl (.inr rfl) (pe_k (c_back (T := T) D TT) b_back_from hr (by decide) (by exact rfl) (D.glo m_glo_back_from) passO (pa_cons (pv 18) (pa_cons (pv 19) (pa_cons (pv 6) pa_nil)))), fun L D' σ H ⟨G, b, x, y, hx, hg, hy, hb⟩ k => ?_⟩
  refine st_asg (T := T) b.tb (ev_f (a := (G.g, G.bb, L.d1)) (Pa := fun vs _ => vs = [x, y, L.u]) rfl (ea_is (ev_var hx) (ea_is (ev_var hy) (ea_is (ev_var b.s6) ea_nil))) fun vs H1 e ev => ⟨x, y, L.u, by rw [ev]; rfl, (hg.ex e).sq, (hb.ex e).sq, b.one.ex e⟩) fun v H1 e1 t1 hv => ?_
  exact k _ _ ⟨G, (b.ex e1).set (by decide), ⟨x, y, by rw [List.getElem?_set_ne (by decide)]; exact hx, hg.ex e1, by rw [List.getElem?_set_ne (by decide)]; exact hy, hb.ex e1⟩, v, List.getElem?_set_self (by rw [b.len]; decide), hv⟩
end
end PK
end

section
set_option Elab.async false
set_option linter.all false
set_option autoImplicit false
set_option maxRecDepth 100000
set_option maxHeartbeats 3000000
namespace PK
open PySem PySem.Spec PyProof.Rows L2 GxR PW PT
section
variable {P : Program} {w : World} {K : PySem.W.Frag} {mg : Str → Option Value} {base : Heap} {T : Tn}
/-- a list of texts against the empty list -/
theorem ev_eqNil {σ : L2.St} {H : Hp} {ta : TE} {ks : List Str} (ho : okS ks) (h : Ev T ta σ H fun v H1 => Nl H1 v (ks.map V.str)) : Ev T (tOp (rEqD K) ta (tLst tNil)) σ H (Is (.bl ks.isEmpty)) :=
  ev_op (Pb := fun v H1 => Li K H1 v []) h ev_nilL nl_mono fun x y H1 e t ⟨a, ea, qa⟩ ⟨b, eb, qb⟩ Q q => by
    subst ea eb
    refine ⟨.list (ks.map .str), .list [], .lst (SqL.of qa) (dp_strs ks), .lst qb .nil, shaped_of (by simp only [PyData.canLay0]; exact strs_lay ks ho) (by have := strs_depth ks; simp only [PyData.depth]; omega), by decide +kernel, ?_⟩
    have e2 : PyData.eqv (.list (ks.map .str)) (.list []) = ks.isEmpty := by
      cases ks with
      | nil => simp [PyData.eqv, PyData.eqvAll]
      | cons k ks => simp [PyData.eqv, PyData.eqvAll]
    rw [e2]
    exact q _ H1 (.refl T H1) t rfl
/-- whether a state leads to the goal by the deed -/
def mineB (L : LD) (G : LG) (s : St1) : Bool := match stepO L.d1 s with
  | none => false
  | some p => (sb fun x => G.g x && !p x).isEmpty && (sb fun x => G.bb x && p x).isEmpty
def Z20 (L : LD) (G : LG) (σ : L2.St) (H : Hp) : Prop := ∃ v, σ[21]? = some (some v) ∧ Nl H v (L.xs.filter fun z => mineB L G (L.S z))
theorem Z18.ex {L : LD} {G : LG} {σ : L2.St} {H H' : Hp} (e : Ex T H H') (h : Z18 K L G σ H) : Z18 K L G σ H' := by
  obtain ⟨⟨x, y, h1, h2, h3, h4⟩, v, h5, h6⟩ := h
  refine ⟨⟨x, y, h1, h2.ex e, h3, h4.ex e⟩, v, h5, ?_⟩
  cases q : backO G.g G.bb L.d1 with
  | none => rw [q] at h6; exact h6
  | some p =>
    rw [q] at h6
    obtain ⟨a, b, k1, k2, k3⟩ := h6
    exact ⟨a, b, k1.ex e, k2.ex e, k3.ex e⟩
theorem Z18.set {L : LD} {G : LG} {σ : L2.St} {H : Hp} {j : Nat} {v : Option V} (n : j ≠ 18 ∧ j ≠ 19 ∧ j ≠ 20) (h : Z18 K L G σ H) : Z18 K L G (σ.set j v) H := by
  obtain ⟨⟨x, y, h1, h2, h3, h4⟩, v, h5, h6⟩ := h
  exact ⟨⟨x, y, by rw [List.getElem?_set_ne n.1]; exact h1, h2, by rw [List.getElem?_set_ne n.2.1]; exact h3, h4⟩, v, by rw [List.getElem?_set_ne n.2.2]; exact h5, h6⟩
/-- B19, B20: mine -/
theorem b1920 (D : HD P w K mg base fa fn tf) {A0 : Around} {outer : List Env} {s : Shared} {H0 : Hp} {E : XK} (hr : Room 30 (XL P w K mg base A0 outer s H0 E).A) : Blk2L (XL P w K mg base A0 outer s H0 E) (lb 18) (lb 19) (fun L => (fun σ H => ∃ G, Base T K L σ H ∧ Z18 K L G σ H)) (fun L => (fun σ H => ∃ G, Base T K L σ H ∧ Z18 K L G σ H ∧ Z20 L G σ H)) := by
  refine ⟨_, pss2 (ps_set (i := 21) sc_law.nd rfl (.inr rfl) (pe_lst pa_nil)) ((ps_for (passes_of rfl) rfl (pi_sq (pv 2)) (pg_name (i := 8) sc_law.nd rfl (.inr rfl)) (pss_cons (ps_set (i := 11) sc_law.nd rfl (.inr rfl) (pe_k (c_step (T := T) D) b_law_step hr (by decide) (by exact rfl) (D.glo m_glo__law_step) passO (pa_cons (pv 6) (pa_cons (pv 8) pa_nil))))
    (pss_one (ps_if (L2.PW.pt (pw_and (pt_cmpR op_notN1 (pv 11) pe_non (nomark _)) (pw_and (pt_cmpR (op_eqD hr.units) (pe_lc (own := [("fact", 12)]) (te := tVar 12) (tt := tTest (tOp (rIn K true) (tVar 12) (tVar 11))) rfl sc_law.nd (pi_sq (pv 18)) (blkOk_by (by kernel_rfl)) (fun s H C cl fp => pg_name (i := 12) (by exact sc_law.nd) rfl (.inl rfl)) (fun s H C cl fp => pts_one (pt_cmpR op_notIn_seq (pv 12) (pv 11) (by with_unfolding_all rfl))) (fun s H C cl fp => pv 12)) (pe_lst pa_nil) (nomark _))
      (pw_and1 (pt_cmpR (op_eqD hr.units) (pe_lc (own := [("fact", 12)]) (te := tVar 12) (tt := tTest (tOp (rIn K false) (tVar 12) (tVar 11))) rfl sc_law.nd (pi_sq (pv 19)) (blkOk_by (by kernel_rfl)) (fun s H C cl fp => pg_name (i := 12) (by exact sc_law.nd) rfl (.inl rfl)) (fun s H C cl fp => pts_one (pt_cmpR op_in_seq (pv 12) (pv 11) (by with_unfolding_all rfl))) (fun s H C cl fp => pv 12)) (pe_lst pa_nil) (nomark _))))))
      (pss_one (ps_expr (pe_bm PySem.F.plainAttrs_list PySem.F.slot_list_append PySem.F.type_list_append mt_append (pv 21) (pa_cons (pv 8) pa_nil)))) pss_nil))))), fun L D' σ H ⟨G, b, z⟩ k => ?_⟩
  refine ⟨Nat.zero_le _, fun p hp => ?_⟩
  have e0 : Ex T H (upd H p (.lst [])) := .new hp
  have b0 := b.set (j := 21) (v := some (.ref p)) (by decide)
  refine st_forB (T := T) (Hb := H) (xs := L.xs) b.sts b0.s2 e0 (fun i σ' H' => Base T K L σ' H ∧ Z18 K L G σ' H ∧ σ'[21]? = some (some (.ref p)) ∧ H' p = some (.lst ((L.xs.take i).filter fun z => mineB L G (L.S z)))) (e0.tb b.tb)
    ⟨b0, z.set (by decide), List.getElem?_set_self (by rw [b.len]; decide), upd_same⟩ (fun i σ' H' x N hi hx ex t' ⟨b', z', hd', ho⟩ go => ?_) fun σ' H' ex t' ⟨b', z', hd', ho⟩ => ?_
  · have hxm : x ∈ L.xs := List.mem_of_getElem? hx
    have b1 := (b'.set (j := 8) (v := some x) (by decide))
    have z1 := z'.set (j := 8) (v := some x) (by decide)
    have s8 : (σ'.set 8 (some x))[8]? = some (some x) := List.getElem?_set_self (by rw [b'.len]; decide)
    have sd : (σ'.set 8 (some x))[21]? = some (some (.ref p)) := by rw [List.getElem?_set_ne (by decide)]; exact hd'
    have b1e := b1.ex ex
    have hnt := b1e.all.nt x hxm
    refine sq_asg t' (ev_step (i := 6) (j := 8) b1e.s6 b1e.one s8 hnt.sq) fun th H1 e1 t1 hth => ?_
    have b2 := (b1.set (j := 11) (v := some th) (by decide))
    have z2 := z1.set (j := 11) (v := some th) (by decide)
    have s11 : ((σ'.set 8 (some x)).set 11 (some th))[11]? = some (some th) := List.getElem?_set_self (by rw [List.length_set, b'.len]; decide)
    have s8' : ((σ'.set 8 (some x)).set 11 (some th))[8]? = some (some x) := by rw [List.getElem?_set_ne (by decide)]; exact s8
    have sd' : ((σ'.set 8 (some x)).set 11 (some th))[21]? = some (some (.ref p)) := by rw [List.getElem?_set_ne (by decide)]; exact sd
    generalize (σ'.set 8 (some x)).set 11 (some th) = σ2 at b2 z2 s11 s8' sd'
    have l24 : 12 < σ2.length := by rw [b2.len]; decide
    have ee := ex.trans e1
    obtain ⟨⟨gx, gy, h1, h2, h3, h4⟩, _⟩ := z2.ex ee
    have there : Ev T (tVar 11) σ2 H1 (IsO (stepO L.d1 (L.S x))) := (ev_var s11).imp fun u H2 e z => by rw [show u = th from z]; exact hth.ex e
    have ho1 := e1.obj p _ ho fun _ z => by cases z
    have tk : L.xs.take (i + 1) = L.xs.take i ++ [x] := by rw [List.take_succ, hx]; rfl
    refine st_if (T := T) t1 (b := mineB L G (L.S x)) ?_ (fun hb H2 e2 t2 => ?_) fun hb H2 e2 t2 => ?_
    · unfold mineB
      cases q : stepO L.d1 (L.S x) with
      | none =>
        rw [q] at there
        exact (et_and (a := false) (b := true) (et_test ((ev_notN there).is rfl)) fun h => by cases h)
      | some pp =>
        rw [q] at there hth
        have hth2 : NtS H1 th pp := hth
        exact (et_and (a := true) (et_test ((ev_notN there).is rfl)) fun _ => et_and (et_test (ev_eqNil okS_sb (ev_lcP (fun k => !pp k) (ei_sq ((ev_var h1).imp fun u H3 e3 z => by rw [show u = gx from z]; exact (h2.ex e3).sq)) (fun _ => wip) (fun _ => weq l24) fun k H3 hk e3 => et_memS (neg := true) hk (weq l24) (i := 11) ((wne (by decide)).trans s11) (hth2.ex e3).sq))) fun _ =>
          et_test (ev_eqNil okS_sb (ev_lcP pp (ei_sq ((ev_var h3).imp fun u H3 e3 z => by rw [show u = gy from z]; exact (h4.ex e3).sq)) (fun _ => wip) (fun _ => weq l24) fun k H3 hk e3 => et_memS (neg := false) hk (weq l24) (i := 11) ((wne (by decide)).trans s11) (hth2.ex e3).sq)))
    · have ho2 := e2.obj p _ ho1 fun _ z => by cases z
      refine ⟨_, sd', .inl ⟨rfl, _, SqL.of ho2⟩, _, s8', p, _, x, rfl, rfl, ho2, ?_, ?_⟩
      · have h1 := List.length_filter_le (fun z => mineB L G (L.S z)) (L.xs.take i)
        have h2 : (L.xs.take i).length ≤ L.xs.length := by rw [List.length_take]; omega
        have h3 := b.all.len
        rw [sizeLine_eq]
        omega
      · refine go _ _ (Ex.lsm (ee.trans e2) hp ho2) ((Ex.lsm (ee.trans e2) hp ho2).tb b.tb) ⟨b2, z2, sd', ?_⟩
        rw [upd_same, tk, List.filter_append, show ([x].filter fun z => mineB L G (L.S z)) = [x] from by simp [hb]]
    · refine go _ _ (ee.trans e2) t2 ⟨b2, z2, sd', ?_⟩
      rw [tk, List.filter_append, show ([x].filter fun z => mineB L G (L.S z)) = [] from by simp [hb], List.append_nil]
      exact e2.obj p _ ho1 fun _ z => by cases z
  · rw [List.take_length] at ho
    exact k σ' H' ⟨G, b'.ex ex, z'.ex ex, .ref p, hd', p, rfl, ho⟩
end
end PK
end

section
set_option Elab.async false
set_option linter.all false
set_option autoImplicit false
set_option maxRecDepth 100000
set_option maxHeartbeats 3000000
namespace PK
open PySem PySem.Spec PyProof.Rows L2 GxR PW PT
section
variable {P : Program} {w : World} {K : PySem.W.Frag} {mg : Str → Option Value} {base : Heap} {T : Tn}
theorem empty_sb {p : Str → Bool} : (sb p).isEmpty = row.all fun x => !p x := by
  have h := isEmpty_sb (p := p)
  rw [List.any_eq_not_all_not] at h
  cases q : (sb p).isEmpty <;> cases q2 : (row.all fun x => !p x) <;> rw [q, q2] at h <;> first | rfl | cases h
theorem all_and {f g : Str → Bool} : (row.all f && row.all g) = row.all fun x => f x && g x := by
  rw [Bool.eq_iff_iff, Bool.and_eq_true, List.all_eq_true, List.all_eq_true, List.all_eq_true]
  constructor
  · rintro ⟨h1, h2⟩ x hx
    rw [h1 x hx, h2 x hx]
    rfl
  · intro h
    refine ⟨fun x hx => ?_, fun x hx => ?_⟩ <;> have := h x hx <;> rw [Bool.and_eq_true] at this
    · exact this.1
    · exact this.2
def minePt (L : LD) (G : LG) (s : St1) (x : Str) : Bool := (!L.d1.needs x || s x) && !(L.d1.bars x && s x) && ((!(G.g x && !doneP L.d1 s x)) && !(G.bb x && doneP L.d1 s x))
theorem mine_pt {L : LD} {G : LG} {s : St1} : mineB L G s = row.all (minePt L G s) := by
  unfold mineB
  cases q : fitsB L.d1 s with
  | false =>
    rw [stepO_none q]
    rw [fits_all] at q
    cases q2 : row.all (minePt L G s) with
    | false => rfl
    | true =>
      rw [List.all_eq_true] at q2
      rw [List.all_eq_true.mpr fun x hx => by
        have := q2 x hx
        unfold minePt at this
        rw [Bool.and_eq_true] at this
        exact this.1] at q
      cases q
  | true =>
    rw [stepO_some q]
    show ((sb fun x => G.g x && !doneP L.d1 s x).isEmpty && (sb fun x => G.bb x && doneP L.d1 s x).isEmpty) = _
    rw [empty_sb, empty_sb, all_and]
    rw [fits_all, List.all_eq_true] at q
    refine all_congr fun x hx => ?_
    unfold minePt
    rw [q x hx, Bool.true_and]
theorem back_pt1 : ∀ n b a d g bb s : Bool, (a && d) = false → ((g && d) || (bb && a)) = true → ((!n || s) && !(b && s) && ((!(g && !((s && !d) || a))) && !(bb && ((s && !d) || a)))) = false := by decide +kernel
theorem back_pt2 : ∀ n b a d g bb s : Bool, ((n || (g && !a)) && (b || (bb && !d))) = true → ((!n || s) && !(b && s) && ((!(g && !((s && !d) || a))) && !(bb && ((s && !d) || a)))) = false := by decide +kernel
theorem back_pt3 : ∀ n b a d g bb s : Bool, ((g && d) || (bb && a)) = false → ((!((n || (g && !a)) && !s)) && !((b || (bb && !d)) && s)) = ((!n || s) && !(b && s) && ((!(g && !((s && !d) || a))) && !(bb && ((s && !d) || a)))) := by decide +kernel
theorem any_or {f g : Str → Bool} : (row.any f || row.any g) = row.any fun x => f x || g x := by
  rw [Bool.eq_iff_iff, Bool.or_eq_true, List.any_eq_true, List.any_eq_true, List.any_eq_true]
  constructor
  · rintro (⟨x, hx, z⟩ | ⟨x, hx, z⟩)
    · exact ⟨x, hx, by rw [z]; rfl⟩
    · exact ⟨x, hx, by rw [z, Bool.or_true]⟩
  · rintro ⟨x, hx, z⟩
    rw [Bool.or_eq_true] at z
    exact z.elim (fun z => .inl ⟨x, hx, z⟩) fun z => .inr ⟨x, hx, z⟩
/-- what the law asks of back -/
theorem back_none {L : LD} {G : LG} (h : backO G.g G.bb L.d1 = none) (hg : Good L.d1) (hu : givesB G.g G.bb L.d1 = true) (s : St1) : mineB L G s = false := by
  rw [mine_pt]
  have out : ∀ {x : Str}, x ∈ row → minePt L G s x = false → row.all (minePt L G s) = false := fun {x} hx h => by
    cases q : row.all (minePt L G s) with
    | false => rfl
    | true => rw [List.all_eq_true.mp q x hx] at h; cases h
  unfold backO at h
  rw [hu, Bool.not_true, Bool.or_false] at h
  cases q : spoilsB G.g G.bb L.d1 with
  | true =>
    unfold spoilsB at q
    rw [any_or, List.any_eq_true] at q
    obtain ⟨x, hx, q⟩ := q
    exact out hx (back_pt1 _ _ _ _ _ _ _ (hg.2.1 x hx) q)
  | false =>
    rw [q, if_neg (by decide)] at h
    cases q2 : (row.any fun x => aheadN G.g L.d1 x && aheadB G.bb L.d1 x) with
    | false => rw [q2] at h; cases h
    | true =>
      rw [List.any_eq_true] at q2
      obtain ⟨x, hx, q2⟩ := q2
      exact out hx (back_pt2 _ _ _ _ _ _ _ q2)
theorem back_some {L : LD} {G : LG} {n b : St1} (h : backO G.g G.bb L.d1 = some (n, b)) : givesB G.g G.bb L.d1 = true ∧ ∀ s : St1, ((sb fun x => n x && !s x).isEmpty && (sb fun x => b x && s x).isEmpty) = mineB L G s := by
  unfold backO at h
  cases q : (spoilsB G.g G.bb L.d1 || !givesB G.g G.bb L.d1) with
  | true => rw [q] at h; cases h
  | false =>
    rw [q, if_neg (by decide)] at h
    rw [Bool.or_eq_false_iff, Bool.not_eq_false'] at q
    refine ⟨q.2, fun s => ?_⟩
    cases q2 : (row.any fun x => aheadN G.g L.d1 x && aheadB G.bb L.d1 x) with
    | true => rw [q2] at h; cases h
    | false =>
      rw [q2] at h
      cases h
      have sp := q.1
      unfold spoilsB at sp
      rw [any_or, List.any_eq_false] at sp
      rw [empty_sb, empty_sb, all_and, mine_pt]
      exact all_congr fun x hx => back_pt3 _ _ _ _ _ _ _ (by have := sp x hx; simpa using this)
def Z21 (L : LD) (G : LG) (σ : L2.St) (_ : Hp) : Prop := σ[22]? = some (some (.bl (givesB G.g G.bb L.d1)))
/-- B21: useful -/
theorem b21 (D : HD P w K mg base fa fn tf) {A0 : Around} {outer : List Env} {s : Shared} {H0 : Hp} {E : XK} (hr : Room 30 (XL P w K mg base A0 outer s H0 E).A) : BlkL (XL P w K mg base A0 outer s H0 E) (lb 20) (fun L => (fun σ H => ∃ G, Base T K L σ H ∧ Z18 K L G σ H ∧ Z20 L G σ H)) (fun L => (fun σ H => ∃ G, Base T K L σ H ∧ Z18 K L G σ H ∧ Z20 L G σ H ∧ Z21 L G σ H)) := by
  have A := na_of D
  refine ⟨_, ps_set (i := 22) sc_law.nd rfl (.inl rfl) (pe_cmpR (op_neD hr.units) (pe_op op_cat (pe_lc (own := [("fact", 12)]) (te := tVar 12) (tt := tTest (tOp (rIn K false) (tVar 12) (tFld K (tVar 6) "adds"))) rfl sc_law.nd (pi_sq (pv 18)) (blkOk_by (by kernel_rfl)) (fun s H C cl fp => pg_name (i := 12) (by exact sc_law.nd) rfl (.inl rfl)) (fun s H C cl fp => pts_one (pt_cmpR op_in_seq (pv 12) (pe_fld (pv 6) (by exact rfl)) (by with_unfolding_all rfl))) (fun s H C cl fp => pv 12))
          (pe_lc (own := [("fact", 12)]) (te := tVar 12) (tt := tTest (tOp (rIn K false) (tVar 12) (tFld K (tVar 6) "drops"))) rfl sc_law.nd (pi_sq (pv 19)) (blkOk_by (by kernel_rfl)) (fun s H C cl fp => pg_name (i := 12) (by exact sc_law.nd) rfl (.inl rfl)) (fun s H C cl fp => pts_one (pt_cmpR op_in_seq (pv 12) (pe_fld (pv 6) (by exact rfl)) (by with_unfolding_all rfl))) (fun s H C cl fp => pv 12))) (pe_lst pa_nil) (nomark _)), fun L D' σ H ⟨G, b, z, zm⟩ k => ?_⟩
  have l24 : 12 < σ.length := by rw [b.len]; decide
  obtain ⟨⟨gx, gy, h1, h2, h3, h4⟩, _⟩ := id z
  have h4' : Nl H gy ((sb G.bb).map .str) := h4
  refine st_asg (T := T) b.tb ((ev_neNil (ks := sb (fun x => G.g x && L.d1.adds x) ++ sb fun x => G.bb x && L.d1.drops x) (fun k hk => okS_sb (p := fun _ => true) k (mem_sub.mpr ⟨in_sb2 k hk, rfl⟩)) (ev_catS (ev_lcP L.d1.adds (ei_sq ((ev_var h1).imp fun u H3 e3 z => by rw [show u = gx from z]; exact (h2.ex e3).sq)) (fun _ => wip) (fun _ => weq l24) fun k H3 hk e3 => et_memD (neg := false) .adds A hk (weq l24) (i := 6) ((wne (by decide)).trans b.s6) (b.one.ex e3)) (ev_lcP L.d1.drops (ei_sq ((ev_var h3).imp fun u H3 e3 z => by rw [show u = gy from z]; exact (h4'.ex e3).sq)) (fun _ => wip) (fun _ => weq l24) fun k H3 hk e3 => et_memD (neg := false) .drops A hk (weq l24) (i := 6) ((wne (by decide)).trans b.s6) (b.one.ex e3)))).is (by
    rw [empty_app, Bool.not_and, isEmpty_sb, isEmpty_sb])) fun v H1 e1 t1 hv => ?_
  have ev : v = .bl (givesB G.g G.bb L.d1) := hv
  subst ev
  obtain ⟨mv, m1, m2⟩ := zm
  exact k _ _ ⟨G, (b.ex e1).set (by decide), (z.ex e1).set (by decide), ⟨mv, by rw [List.getElem?_set_ne (by decide)]; exact m1, m2.ex e1⟩, List.getElem?_set_self (by rw [b.len]; decide)⟩
end
end PK
end

section
set_option Elab.async false
set_option linter.all false
set_option autoImplicit false
set_option maxRecDepth 100000
set_option maxHeartbeats 3000000
namespace PK
open PySem PySem.Spec PyProof.Rows L2 GxR PW PT
section
variable {P : Program} {w : World} {K : PySem.W.Frag} {mg : Str → Option Value} {base : Heap} {T : Tn}
theorem ev_ixT {σ : L2.St} {H : Hp} {te : TE} {xs : List V} {n : Int} {z : V} (h : Ev T te σ H fun v H1 => Tu K H1 v xs) (he : atI xs n = some z) : Ev T (tOp (rIxT K) te (tC (.int n))) σ H (Is z) := fun H1 e t Q q =>
  h H1 e t _ fun v H2 e2 t2 ⟨a, ea, hq⟩ => ⟨a, xs, n, z, ea, rfl, hq, he, q z H2 e2 t2 rfl⟩
/-- B22: back against mine -/
theorem b22 (D : HD P w K mg base fa fn tf) {A0 : Around} {outer : List Env} {s : Shared} {H0 : Hp} {E : XK} (hr : Room 30 (XL P w K mg base A0 outer s H0 E).A) : BlkL (XL P w K mg base A0 outer s H0 E) (lb 21) (fun L => (fun σ H => ∃ G, Base T K L σ H ∧ Z18 K L G σ H ∧ Z20 L G σ H ∧ Z21 L G σ H)) (fun L => (Base T K L)) := by
  refine ⟨_, ps_if (pt_cmpR op_isN1 (pv 20) pe_non (nomark _))
    (pss_one (ps_if (L2.PW.pt (pw_and (pt_cmpR (op_neD hr.units) (pv 21) (pe_lst pa_nil) (nomark _)) (pw_and1 (pt_val (pv 22))))) (pss_one (ps_ret pe_bl)) pss_nil))
    (pss_one (ps_if (L2.PW.pt (pw_or (pt_cmpR (op_neD hr.units) (pe_lc (own := [("state", 8)]) (te := tVar 8)
        (tt := tTest (tOp rNe (tAndV (tOp (rEqD K) (tLc (iSq K (tOp (rIxT K) (tVar 20) (tC (.int 0)))) (gName 12) (tTest (tOp (rIn K true) (tVar 12) (tVar 8))) (tVar 12) [12]) (tLst tNil)) (tOp (rEqD K) (tLc (iSq K (tOp (rIxT K) (tVar 20) (tC (.int 1)))) (gName 12) (tTest (tOp (rIn K false) (tVar 12) (tVar 8))) (tVar 12) [12]) (tLst tNil))) (tOp (rInD K) (tVar 8) (tVar 21)))) rfl sc_law.nd (pi_sq (pv 2)) (blkOk_by (by kernel_rfl)) (fun s H C cl fp => pg_name (i := 8) (by exact sc_law.nd) rfl (.inr rfl))
        (fun s H C cl fp => pts_one (pt_cmpR op_ne (pe_and (pe_cmpR (op_eqD (by exact hr.units)) (pe_lc (own := [("fact", 12)]) rfl (by exact sc_law.nd) (pi_sq (pe_ix ix_tup (pv 20) pe_int (by intro _ _; rfl))) (blkOk_by (by kernel_rfl)) (fun s H C cl fp => pg_name (i := 12) (by exact sc_law.nd) rfl (.inl rfl)) (fun s H C cl fp => pts_one (pt_cmpR op_notIn_seq (pv 12) (pv 8) (by with_unfolding_all rfl))) (fun s H C cl fp => pv 12)) (pe_lst pa_nil) (nomark _))
          (pe_one (pe_cmpR (op_eqD (by exact hr.units)) (pe_lc (own := [("fact", 12)]) rfl (by exact sc_law.nd) (pi_sq (pe_ix ix_tup (pv 20) pe_int (by intro _ _; rfl))) (blkOk_by (by kernel_rfl)) (fun s H C cl fp => pg_name (i := 12) (by exact sc_law.nd) rfl (.inl rfl)) (fun s H C cl fp => pts_one (pt_cmpR op_in_seq (pv 12) (pv 8) (by with_unfolding_all rfl))) (fun s H C cl fp => pv 12)) (pe_lst pa_nil) (nomark _)))) (pe_cmpR (op_inD (room65 (by exact hr))) (pv 8) (pv 21) (by with_unfolding_all rfl)) (nomark _))) (fun s H C cl fp => pv 8)) (pe_lst pa_nil) (nomark _)) (pw_or1 (pt_not (pt_val (pv 22)))))) (pss_one (ps_ret pe_bl)) pss_nil)), fun L D' σ H ⟨G, b, z, ⟨mv, m1, m2⟩, zu⟩ k => ?_⟩
  have zu' : σ[22]? = some (some (.bl (givesB G.g G.bb L.d1))) := zu
  obtain ⟨_, bv, hbv, hib⟩ := id z
  have hsub : ∀ y ∈ L.xs.filter (fun z => mineB L G (L.S z)), y ∈ L.xs := fun y hy => (List.mem_filter.mp hy).1
  cases q : backO G.g G.bb L.d1 with
  | none =>
    rw [q] at hib
    have eb : bv = .non := hib
    subst eb
    refine st_if (T := T) b.tb (b := true) (et_test (ev_op2 (ev_var hbv) ev_c fun H1 Q q => ⟨rfl, by simpa using q⟩)) (fun _ H1 e1 t1 => ?_) fun hb => by cases hb
    refine st_if (T := T) t1 (b := false) ((et_and (a := !(L.xs.filter fun z => mineB L G (L.S z)).isEmpty) (b := givesB G.g G.bb L.d1) (et_test (ev_neNilS (S := L.S) ((ev_var m1).imp fun u H3 e3 z => by rw [show u = mv from z]; exact (m2.ex e1).ex e3) fun y hy => (b.all.nt y (hsub y hy)).ex e1)) fun _ => et_B (ev_var zu')).is ?_) (fun hb => by cases hb) fun _ H2 e2 t2 => k _ _ (b.ex (e1.trans e2))
    cases hu : givesB G.g G.bb L.d1 with
    | false => rw [Bool.and_false]
    | true =>
      rw [show (L.xs.filter fun z => mineB L G (L.S z)) = [] from List.filter_eq_nil_iff.mpr fun y _ => by rw [back_none q b.g1 hu (L.S y)]; decide]
      rfl
  | some nb =>
    obtain ⟨n, bb⟩ := nb
    rw [q] at hib
    obtain ⟨x, y, ht, hx, hy⟩ := hib
    obtain ⟨hu, hm⟩ := back_some q
    refine st_if (T := T) b.tb (b := false) (et_test (ev_op2 (ev_var hbv) ev_c fun H1 Q q => ⟨rfl, by
      obtain ⟨a, ea, _⟩ := ht
      subst ea
      exact q⟩)) (fun hb => by cases hb) fun _ H1 e1 t1 => ?_
    have bk : ∀ {σ' : L2.St} {H2 : Hp}, Ex T H1 H2 → σ'[20]? = some (some bv) → Ev T (tVar 20) σ' H2 fun v H3 => Tu K H3 v [x, y] := fun {σ' H2} e2 h => (ev_var h).imp fun u H3 e3 z => by rw [show u = bv from z]; exact (ht.ex (e1.trans e2)).ex e3
    have flt := ev_sts (S := L.S) (σ := σ) (H := H1) (wi := iSq K (tVar 2)) (j := 8) (vs := [8]) (tt := tTest (tOp rNe (tAndV (tOp (rEqD K) (tLc (iSq K (tOp (rIxT K) (tVar 20) (tC (.int 0)))) (gName 12) (tTest (tOp (rIn K true) (tVar 12) (tVar 8))) (tVar 12) [12]) (tLst tNil)) (tOp (rEqD K) (tLc (iSq K (tOp (rIxT K) (tVar 20) (tC (.int 1)))) (gName 12) (tTest (tOp (rIn K false) (tVar 12) (tVar 8))) (tVar 12) [12]) (tLst tNil))) (tOp (rInD K) (tVar 8) (tVar 21))))
      (fun _ => false) (b.all.ex e1) (ei_sq ((ev_var b.s2).imp fun u H3 e3 z => by rw [show u = L.st from z]; exact ((b.sts.ex e1).ex e3).sq)) (fun _ => wip) (fun _ => weq (by rw [b.len]; decide)) fun z H2 hz e2 hnt => by
        have l24 : 12 < ((wipe σ [8]).set 8 (some z)).length := by
          show 12 < ((σ.set 8 none).set 8 (some z)).length
          rw [List.length_set, List.length_set, b.len]
          decide
        have s20 : ((wipe σ [8]).set 8 (some z))[20]? = some (some bv) := (wne (by decide)).trans hbv
        have s21 : ((wipe σ [8]).set 8 (some z))[21]? = some (some mv) := (wne (by decide)).trans m1
        have s8 : ((wipe σ [8]).set 8 (some z))[8]? = some (some z) := weq (by rw [b.len]; decide)
        generalize (wipe σ [8]).set 8 (some z) = σ2 at l24 s20 s21 s8
        have ee := e1.trans e2
        refine et_test ((ev_neB (ev_andV (ev_eqNil (ks := sb fun k => n k && !L.S z k) okS_sb (ev_lcP (p := n) (fun k => !L.S z k) (ei_sq ((ev_ixT (z := x) (bk e2 s20) rfl).imp fun u H3 e3 w => by rw [show u = x from w]; exact ((hx.ex ee).ex e3).sq)) (fun _ => wip) (fun _ => weq l24) fun k H3 hk e3 => et_memS (neg := true) hk (weq l24) (i := 8) ((wne (by decide)).trans s8) (hnt.ex e3).sq)) fun _ =>
          ev_eqNil (ks := sb fun k => bb k && L.S z k) okS_sb (ev_lcP (p := bb) (L.S z) (ei_sq ((ev_ixT (z := y) (bk e2 s20) rfl).imp fun u H3 e3 w => by rw [show u = y from w]; exact ((hy.ex ee).ex e3).sq)) (fun _ => wip) (fun _ => weq l24) fun k H3 hk e3 => et_memS (neg := false) hk (weq l24) (i := 8) ((wne (by decide)).trans s8) (hnt.ex e3).sq))
          (ev_op (Pa := Is z) (Pb := fun v H3 => Nl H3 v (L.xs.filter fun z => mineB L G (L.S z))) (Po := Is (.bl (mineB L G (L.S z)))) (ev_var s8) ((ev_var s21).imp fun u H3 e3 w => by rw [show u = mv from w]; exact (m2.ex ee).ex e3) is_mono fun u v H3 e3 t3 pu ⟨a, ea, qa⟩ Q qq => ?_)).is ?_)
        · rw [← hm (L.S z)]
          cases ((sb fun x => n x && !L.S z x).isEmpty && (sb fun x => bb x && L.S z x).isEmpty) <;> rfl
        · subst ea
          rw [show u = z from pu]
          have hall : ∀ w ∈ L.xs.filter (fun z => mineB L G (L.S z)), NtS H3 w (L.S w) := fun w hw => ((b.all.nt w (hsub w hw)).ex ee).ex e3
          have l1 : PyData.canLayAll0 ((sb (L.S z)).map .str) = true := strs_lay _ okS_sb
          refine ⟨tupS (L.S z), (L.xs.filter fun z => mineB L G (L.S z)).map fun y => tupS (L.S y), dp_nt (hnt.ex e3), .lst (SqL.of qa) (dp_states _ hall), tupK_shaped _ okS_sb, shaped_of (by simp only [PyData.canLay0]; exact tups_lay _) (by have := tups_depth (S := L.S) (L.xs.filter fun z => mineB L G (L.S z)); simp only [PyData.depth]; omega), ?_⟩
          have : (((L.xs.filter fun z => mineB L G (L.S z)).map fun y => tupS (L.S y)).any fun w => PyData.eqv w (tupS (L.S z))) = mineB L G (L.S z) := by
            rw [List.any_map, Bool.eq_iff_iff, List.any_eq_true]
            constructor
            · rintro ⟨w, hw, ew⟩
              have e9 : decide (sb (L.S w) = sb (L.S z)) = true := by rw [← tupK_eqv]; exact ew
              have hw2 := (List.mem_filter.mp hw).2
              have cg : mineB L G (L.S w) = mineB L G (L.S z) := by
                rw [mine_pt, mine_pt]
                refine all_congr fun x hx => ?_
                have := sub_eq.mp (of_decide_eq_true e9) x hx
                unfold minePt doneP
                rw [this]
              rw [← cg]
              exact hw2
            · intro hm'
              exact ⟨z, List.mem_filter.mpr ⟨hz, hm'⟩, by show PyData.eqv (tupK (sb (L.S z))) (tupK (sb (L.S z))) = true; rw [tupK_eqv]; exact decide_eq_true rfl⟩
          rw [this]
          exact qq _ H3 (.refl T H3) t3 rfl
    refine st_if (T := T) t1 (b := false) (et_or (a := false) (b := false) ((et_test (ev_neNilS (S := L.S) flt fun y hy => ((b.all.ex e1).nt y (List.mem_filter.mp hy).1))).is ?_) fun _ => ((et_not (et_B (ev_var zu'))).is (by rw [hu]; rfl))) (fun hb => by cases hb) fun _ H2 e2 t2 => k _ _ (b.ex (e1.trans e2))
    rw [List.filter_eq_nil_iff.mpr (by simp)]
    rfl
end
end PK
end

section
set_option Elab.async false
set_option linter.all false
set_option autoImplicit false
set_option maxRecDepth 100000
set_option maxHeartbeats 3000000
namespace PK
open PySem PySem.Spec PyProof.Rows L2 GxR PW PT
section
variable {P : Program} {w : World} {K : PySem.W.Frag} {mg : Str → Option Value} {base : Heap} {T : Tn}
/-- ahead of the deeds -/
structure Base0 (T : Tn) (L : LD) (σ : L2.St) (H : Hp) : Prop where
  len : σ.length = 24
  s1 : σ[1]? = some (some L.ro)
  s2 : σ[2]? = some (some L.st)
  s5 : σ[5]? = some (some (.ref L.a))
  row : Nl H L.ro (row.map .str)
  sts : Nl H L.st L.xs
  all : Sts H L.xs L.S
  dice : ∃ x y z, H L.a = some (.lst (dc x y z))
  tb : Tb T H
  it : Nl H L.it [V.ref L.a]
theorem deed_go {a : Addr} {x y z : Int} {v : V} {nm : Str} {H : Hp} {E : XK} {σ : L2.St} {Q : VK} (hs : σ[5]? = some (some (.ref a))) (hj : σ[1]? = some (some v)) (ho : H a = some (.lst (dc x y z))) (hv : Nl H v (row.map .str)) (tb : Tb T H) (hn : okW nm) (hf : isFact nm = true)
    (k : ∀ d u H', d.name = nm → Good d → Exd T a H H' → Tb T H' → IsD K d u H' → Q u H') : tCall (sp_deed T K) [] E (tCons (tVar 5) (tCons (tC (.str nm)) (tCons (tVar 1) (tCons (tC (.bl true)) (tCons (tC (.bl true)) tNil))))) σ H Q :=
  ⟨_, hs, _, hj, a, x, y, z, v, nm, rfl, ho, hv, tb, hn, hf, fun d u H' h1 h2 h3 h4 h5 _ => k d u H' h1 h2 h3 h4 h5⟩
/-- B1: one, other -/
theorem b1 (D : HD P w K mg base fa fn tf) (TT : TO K T) {A0 : Around} {outer : List Env} {s : Shared} {H0 : Hp} {E : XK} (hr : Room 30 (XL P w K mg base A0 outer s H0 E).A) : BlkL (XL P w K mg base A0 outer s H0 E) (lb 0) (fun L => Base0 T L) (fun L σ H => ∃ L', L'.it = L.it ∧ Base T K L' σ H) := by
  refine ⟨_, ps_asg (pe_tup (pa_cons (pe_k (c_deed (T := T) D TT) b_law_deed hr (by decide) (by exact rfl) (D.glo m_glo__law_deed) passO (pa_cons (pv 5) (pa_cons pe_str (pa_cons (pv 1) (pa_cons pe_bl (pa_cons pe_bl pa_nil)))))) (pa_cons (pe_k (c_deed (T := T) D TT) b_law_deed hr (by decide) (by exact rfl) (D.glo m_glo__law_deed) passO (pa_cons (pv 5) (pa_cons pe_str (pa_cons (pv 1) (pa_cons pe_bl (pa_cons pe_bl pa_nil)))))) pa_nil))) (pg_tup (n := 2) rfl (pgs_cons (pg_name (i := 6) sc_law.nd rfl (.inr rfl)) (pgs_cons (pg_name (i := 7) sc_law.nd rfl (.inr rfl)) pgs_nil))), fun L D' σ H b k => ?_⟩
  obtain ⟨x, y, z, hd⟩ := b.dice
  refine deed_go b.s5 b.s1 hd b.row b.tb okW_p (by decide +kernel) fun d1 u H1 n1 g1 e1 t1 i1 => ?_
  obtain ⟨x1, y1, z1, hd1⟩ := e1.dice
  have r1 := Nl.exd hd e1 b.row
  have st1 := Nl.exd' (by rw [b.all.len]; decide) hd e1 b.sts
  have al1 := Sts.exd hd e1 b.all
  refine deed_go b.s5 b.s1 hd1 r1 t1 okW_q (by decide +kernel) fun d2 v H2 n2 g2 e2 t2 i2 => ?_
  have i1 := IsD.exd hd1 e2 i1
  have r2 := Nl.exd hd1 e2 r1
  have st2 := Nl.exd' (by rw [b.all.len]; decide) hd1 e2 st1
  have al2 := Sts.exd hd1 e2 al1
  obtain ⟨x2, y2, z2, hd2⟩ := e2.dice
  have it2 := Nl.exd' (xs := [V.ref L.a]) (by show 1 ≠ 3; decide) hd1 e2 (Nl.exd' (xs := [V.ref L.a]) (by show 1 ≠ 3; decide) hd e1 b.it)
  refine ⟨(by show 2 ≤ sizeLine; rw [sizeLine_eq]; decide), fun p hp => ⟨p, _, rfl, SqT.of upd_same, rfl, u, _, rfl, v, _, rfl, rfl, k _ _ ⟨⟨L.a, u, v, d1, d2, L.ro, L.st, L.xs, L.S, L.it⟩, rfl, ?_⟩⟩⟩
  have e3 : Ex T H2 (upd H2 p (.tup [u, v])) := .new hp
  have st : ∀ i v', i ≠ 6 → i ≠ 7 → σ[i]? = some v' → ((σ.set 6 (some u)).set 7 (some v))[i]? = some v' := fun i v' h6 h7 h => by rw [List.getElem?_set_ne (Ne.symm h7), List.getElem?_set_ne (Ne.symm h6)]; exact h
  exact ⟨by rw [List.length_set, List.length_set]; exact b.len, st 1 _ (by decide) (by decide) b.s1, st 2 _ (by decide) (by decide) b.s2, st 5 _ (by decide) (by decide) b.s5, by rw [List.getElem?_set_ne (by decide)]; exact List.getElem?_set_self (by rw [b.len]; decide), List.getElem?_set_self (by rw [List.length_set, b.len]; decide), r2.ex e3, st2.ex e3, al2.ex e3, ⟨x2, y2, z2, e3.obj L.a _ hd2 fun _ z => by cases z⟩, i1.ex e3, i2.ex e3, n1, n2, g1, g2, e3.tb t2, it2.ex e3⟩
/-! ### the states made -/
def selS (ms : List V) : List Str := ((List.range 4).filter fun i => decide (ms[i]? = some (.int 1))).map fun i => row.getD i ""
def allSel : List (List Str) := (rowsN 4).map fun r => selS (r.map V.int)
theorem sel_sub : ∀ l ∈ allSel, l = sb fun x => decide (x ∈ l) := by decide +kernel
theorem sel_nd : allSel.Nodup := by decide +kernel
theorem sel_every : ∀ a b c d : Bool, (allSel.any fun l => decide (("a" : Str) ∈ l) == a && (decide (("b" : Str) ∈ l) == b && (decide (("c" : Str) ∈ l) == c && decide (("d" : Str) ∈ l) == d))) = true := by decide +kernel
end
end PK
end

section
set_option Elab.async false
set_option linter.all false
set_option autoImplicit false
set_option maxRecDepth 100000
set_option maxHeartbeats 3000000
namespace PK
open PySem PySem.Spec PyProof.Rows L2 GxR PW PT
section
variable {P : Program} {w : World} {K : PySem.W.Frag} {mg : Str → Option Value} {base : Heap} {T : Tn}
structure BaseS (T : Tn) (K : PySem.W.Frag) (sv : V) (ns : List Int) (ro st : V) (xs : List V) (S : V → St1) (σ : L2.St) (H : Hp) : Prop where
  len : σ.length = 24
  s0 : σ[0]? = some (some sv)
  s1 : σ[1]? = some (some ro)
  s2 : σ[2]? = some (some st)
  scr : Li K H sv (ns.map V.int)
  row : Nl H ro (row.map .str)
  sts : Nl H st xs
  all : Sts H xs S
  tb : Tb T H
def iAt (ms : List V) : V → Bool
  | .int i => decide (0 ≤ i) && decide (ms[i.toNat]? = some (.int 1))
  | _ => false
def rowAt : V → V
  | .int i => .str (row.getD i.toNat "")
  | _ => .non
theorem sel_rng : ∀ r ∈ rowsN 4, ((rngV 0 4).filter (iAt (r.map V.int))).map rowAt = (selS (r.map V.int)).map V.str := by decide +kernel
theorem made_ct {H : Hp} {g : V → List V} : ∀ {fs ys : List V}, Made (fun x y H => Nt H y (g x)) H fs ys → ys.map (ctOf H) = fs.map g ∧ ∀ y ∈ ys, Nt H y (ctOf H y)
  | [], [], _ => ⟨rfl, fun y h => by cases h⟩
  | x :: fs, y :: ys, h => by
    obtain ⟨h1, h2⟩ := h
    obtain ⟨i1, i2⟩ := made_ct h2
    have e := ct_of h1
    refine ⟨by rw [List.map_cons, List.map_cons, i1, e], fun z hz => ?_⟩
    rcases List.mem_cons.mp hz with w | w
    · rw [w, e]; exact h1
    · exact i2 z w
  | [], _ :: _, h => h.elim
  | _ :: _, [], h => h.elim
def decS (c : List V) : St1 := fun x => decide (V.str x ∈ c)
theorem dec_all : allSel.map (fun l => sb (decS (l.map V.str))) = allSel := by decide +kernel
theorem dec_each : ∀ l ∈ allSel, sb (decS (l.map V.str)) = l := by decide +kernel
theorem dec_pt {l : List Str} {x : Str} : decS (l.map V.str) x = decide (x ∈ l) := by
  unfold decS
  refine decide_eq_decide.mpr ?_
  constructor
  · intro h
    obtain ⟨y, hy, e⟩ := List.mem_map.mp h
    cases e
    exact hy
  · exact fun h => List.mem_map.mpr ⟨x, h, rfl⟩
theorem bS (D : HD P w K mg base fa fn tf) {A0 : Around} {outer : List Env} {s : Shared} {H0 : Hp} {E : XK} (hr : Room 30 (XL P w K mg base A0 outer s H0 E).A) (sv : V) (ns : List Int) : Blk2 (XL P w K mg base A0 outer s H0 E) (lawS 0) (lawS 1) (fun σ H => σ = start N_law [sv] ∧ Li K H sv (ns.map V.int) ∧ Tb T H) (fun σ H => ∃ ro st xs S, BaseS T K sv ns ro st xs S σ H) := by
  refine ⟨_, pss2 (ps_set (i := 1) sc_law.nd rfl (.inr rfl) (pe_lst (pa_cons pe_str (pa_cons pe_str (pa_cons pe_str (pa_cons pe_str pa_nil)))))) ((ps_setLc (i := 2) (own := [("marks", 3)]) (tt := tYes) (te := tCB (fun xs H Q => ∃ p ys, xs = [V.ref p] ∧ ((SqL K H p ys ∧ ∀ l, H l = none → Q (.ref l) (upd H l (.tup ys))) ∨ (SqT K H p ys ∧ Q (.ref p) H))) (tCons (tLc (iRng1 (tCons (tC (.int 4)) tNil)) (gName 4) (tTest (tOp rEq (tOp (rIxT K) (tVar 3) (tVar 4)) (tC (.int 1)))) (tOp (rIxL K) (tVar 1) (tVar 4)) [4]) tNil)) rfl sc_law.nd rfl rfl (by exact rfl) (pi_sq (pe_k (c_all (T := T) D) b_law_all hr (by decide) (by exact rfl) (D.glo m_glo__law_all) passO (pa_cons (pe_lst (pa_cons pe_int (pa_cons pe_int pa_nil))) (pa_cons pe_int pa_nil)))) (blkOk_by (by kernel_rfl)) (fun s H C cl fp => pg_name (i := 3) (by exact sc_law.nd) rfl (.inr rfl)) (fun s H C cl fp => pts_nil)
      (fun s H C cl fp => pe_callTy call_tuple_of (by exact rfl) (D.free m_free_tuple) (by decide +kernel) (pa_cons (pe_lc (own := [("k", 4)]) rfl (by exact sc_law.nd) (pi_range1 (by exact rfl) (D.free m_free_range) (pa_cons pe_int pa_nil)) (blkOk_by (by kernel_rfl)) (fun s H C cl fp => pg_name (i := 4) (by exact sc_law.nd) rfl (.inl rfl)) (fun s H C cl fp => pts_one (pt_cmpR op_eq (pe_ix ix_tup (pv 3) (pv 4) (by intro _ _; rfl)) pe_int (nomark _))) (fun s H C cl fp => pe_ix ix_list (pv 1) (pv 4) (by intro _ _; rfl))) pa_nil)))), fun D' σ H ⟨eσ, hs, tb⟩ k => ?_⟩
  subst eσ
  refine sq_asg (T := T) tb (Po := fun v H1 => Nl H1 v (row.map .str)) (fun H1 e t Q q => ⟨(by show 4 ≤ sizeLine; rw [sizeLine_eq]; decide), fun p hp => q _ _ (.new hp) ((Ex.new (T := T) hp).tb t) ⟨p, rfl, upd_same⟩⟩) fun ro H1 e1 t1 hro => ?_
  refine tlc_call ?_
  refine ⟨(by show 2 ≤ sizeLine; rw [sizeLine_eq]; decide), fun p hp => ⟨.ref p, rfl, ⟨p, rfl, SqL.of upd_same⟩, (Ex.new (T := T) hp).tb t1, fun u fs H2 e2 t2 hu hf => ?_⟩⟩
  have e02 := (Ex.new (T := T) hp).trans e2
  have hro2 := hro.ex e02
  have flen : fs.length = 16 := by rw [hf.1, List.length_map]; decide
  have ctm : ∀ f ∈ fs, ∃ r ∈ rowsN 4, ctOf H2 f = r.map V.int := fun f hf' => by
    have h1 : ctOf H2 f ∈ fs.map (ctOf H2) := List.mem_map.mpr ⟨f, hf', rfl⟩
    rw [← hf.map] at h1
    obtain ⟨r, hr, e⟩ := List.mem_map.mp h1
    exact ⟨r, hr, e.symm⟩
  have mk := ev_lc (T := T) (σ := (start N_law [sv]).set 1 (some ro)) (H := H2) (wi := iSq K (tC u)) (j := 3) (vs := [3]) (tt := tYes) (te := tCB (fun xs H Q => ∃ p ys, xs = [V.ref p] ∧ ((SqL K H p ys ∧ ∀ l, H l = none → Q (.ref l) (upd H l (.tup ys))) ∨ (SqT K H p ys ∧ Q (.ref p) H))) (tCons (tLc (iRng1 (tCons (tC (.int 4)) tNil)) (gName 4) (tTest (tOp rEq (tOp (rIxT K) (tVar 3) (tVar 4)) (tC (.int 1)))) (tOp (rIxL K) (tVar 1) (tVar 4)) [4]) tNil)) (xs := fs) (fun _ => true) (fun x y H => Nt H y ((selS (ctOf H2 x)).map V.str)) (ei_sq (ev_c.imp fun v H3 e3 z => by rw [show v = u from z]; exact (hu.ex e3).sq)) (by omega) (fun _ => rfl)
    (fun x y Ha Hb e z => z.ex e) (fun x y Ha D' ys hD ⟨b, hb, hb'⟩ z => by rw [hb] at z; cases z; rw [hD] at hb'; cases hb') (fun x y Ha D' ys zs hD ny ⟨b, hb, hb'⟩ => ⟨b, hb, by rw [upd_ne (fun w => by rw [w, hD] at hb'; cases hb')]; exact hb'⟩)
    (fun x Ha hx e Hb eb tb' Q0 q0 => q0 Hb (.refl T _) tb') (fun x Ha hx e hp => by
      obtain ⟨r, hr4, hct⟩ := ctm x hx
      have hc := (hf.mem hx).ex e
      rw [hct] at hc ⊢
      rw [← sel_rng r hr4]
      refine ev_tupleOf ((ev_lcV (iAt (r.map V.int)) rowAt (ei_range1 (n := 4) (ea_is ev_c ea_nil) (by decide)) (by rw [rngV_len]; decide) (fun _ => rfl) (fun v hv D => ?_) (fun v H3 hv e3 => ?_) fun v H3 hv e3 hpv => ?_).imp fun v H3 e3 z => z.li)
      · obtain ⟨i, hi, rfl⟩ := List.mem_map.mp hv
        intro z; cases z
      · obtain ⟨i, hi, rfl⟩ := List.mem_map.mp hv
        have hi4 : i < 4 := List.mem_range.mp hi
        obtain ⟨r0, r1, r2, r3, er⟩ : ∃ r0 r1 r2 r3, r = [r0, r1, r2, r3] := by
          match r, rowsN_len 4 r hr4 with
          | [r0, r1, r2, r3], _ => exact ⟨r0, r1, r2, r3, rfl⟩
        subst er
        refine et_test (fun H4 e4 t4 Q q => ?_)
        obtain ⟨cb, ecb, hcb⟩ := (hc.ex e3).ex e4
        have go : ∀ (j : Nat) (rj : Int), i = j → atI ([V.int r0, V.int r1, V.int r2, V.int r3]) (0 + ((j : Nat) : Int)) = some (.int rj) → decide (V.int rj = V.int 1) = iAt [V.int r0, V.int r1, V.int r2, V.int r3] (.int (0 + ((j : Nat) : Int))) → tOp rEq (tOp (rIxT K) (tVar 3) (tVar 4)) (tC (.int 1)) ((wipe ((wipe ((start N_law [sv]).set 1 (some ro)) [3]).set 3 (some x)) [4]).set 4 (some (V.int (0 + ((i : Nat) : Int))))) H4 Q := fun j rj ej h1 h2 => by
          subst ej
          refine ⟨x, rfl, _, rfl, cb, [V.int r0, V.int r1, V.int r2, V.int r3], (0 + (i : Nat) : Int), .int rj, ecb, rfl, SqT.of hcb, h1, rfl, ?_⟩
          rw [h2]
          exact q _ H4 (.refl T H4) t4 rfl
        have h4 : i = 0 ∨ i = 1 ∨ i = 2 ∨ i = 3 := by omega
        rcases h4 with e | e | e | e
        · exact go 0 r0 e rfl (by simp [iAt])
        · exact go 1 r1 e rfl (by simp [iAt])
        · exact go 2 r2 e rfl (by simp [iAt])
        · exact go 3 r3 e rfl (by simp [iAt])
      · obtain ⟨i, hi, rfl⟩ := List.mem_map.mp hv
        have hi4 : i < 4 := List.mem_range.mp hi
        intro H4 e4 t4 Q q
        obtain ⟨rb, erb, hrb⟩ := (((hro2.ex e).ex e3).ex e4)
        have h4 : i = 0 ∨ i = 1 ∨ i = 2 ∨ i = 3 := by omega
        have go : ∀ z, atI (row.map V.str) (0 + ((i : Nat) : Int)) = some z → z = rowAt (.int (0 + ((i : Nat) : Int))) → tOp (rIxL K) (tVar 1) (tVar 4) ((wipe ((wipe ((start N_law [sv]).set 1 (some ro)) [3]).set 3 (some x)) [4]).set 4 (some (V.int (0 + ((i : Nat) : Int))))) H4 Q := fun z h1 h2 => ⟨ro, rfl, _, rfl, rb, row.map V.str, (0 + (i : Nat) : Int), z, erb, rfl, SqL.of hrb, h1, q _ H4 (.refl T H4) t4 h2⟩
        rcases h4 with e | e | e | e <;> subst e <;> exact go _ rfl rfl)
  refine mk H2 (.refl T _) t2 _ fun v H3 e3 t3 ⟨ys, hv, hm⟩ => ?_
  rw [List.filter_eq_self.mpr (fun _ _ => rfl)] at hm
  obtain ⟨c1, c2⟩ := made_ct (g := fun x => (selS (ctOf H2 x)).map V.str) hm
  have c3 : ys.map (ctOf H3) = allSel.map (fun l => l.map V.str) := by
    rw [c1]
    have : fs.map (fun x => (selS (ctOf H2 x)).map V.str) = (fs.map (ctOf H2)).map (fun c => (selS c).map V.str) := by rw [List.map_map]; rfl
    rw [this, ← hf.map, List.map_map]
    unfold allSel
    rw [List.map_map]
    rfl
  have c4 : ∀ y ∈ ys, ∃ l ∈ allSel, ctOf H3 y = l.map V.str := fun y hy => by
    have : ctOf H3 y ∈ ys.map (ctOf H3) := List.mem_map.mpr ⟨y, hy, rfl⟩
    rw [c3] at this
    obtain ⟨l, hl, e⟩ := List.mem_map.mp this
    exact ⟨l, hl, e.symm⟩
  refine k _ _ ⟨ro, v, ys, fun y => decS (ctOf H3 y), ⟨rfl, rfl, rfl, rfl, ((hs.ex e1).ex e02).ex e3, (hro2).ex e3, hv, ⟨fun y hy => ?_, fun p => ?_, ?_, ?_⟩, t3⟩⟩
  · obtain ⟨l, hl, e⟩ := c4 y hy
    have := c2 y hy
    show Nt H3 y ((sb (decS (ctOf H3 y))).map V.str)
    rw [e, dec_each l hl]
    rw [e] at this
    exact this
  · have h := sel_every (p "a") (p "b") (p "c") (p "d")
    rw [List.any_eq_true] at h
    obtain ⟨l, hl, e⟩ := h
    have hin : l.map V.str ∈ ys.map (ctOf H3) := by rw [c3]; exact List.mem_map.mpr ⟨l, hl, rfl⟩
    obtain ⟨y, hy, ey⟩ := List.mem_map.mp hin
    refine ⟨y, hy, fun x hx => ?_⟩
    show decS (ctOf H3 y) x = p x
    rw [ey, dec_pt]
    repeat rw [Bool.and_eq_true] at e
    have hx4 : x = "a" ∨ x = "b" ∨ x = "c" ∨ x = "d" := by simpa using hx
    rcases hx4 with rfl | rfl | rfl | rfl
    · exact eq_of_beq e.1
    · exact eq_of_beq e.2.1
    · exact eq_of_beq e.2.2.1
    · exact eq_of_beq e.2.2.2
  · have := congrArg List.length c3
    rw [List.length_map, List.length_map] at this
    rw [this]
    decide +kernel
  · have : (ys.map fun v => sb (decS (ctOf H3 v))) = allSel := by
      have e : (ys.map fun v => sb (decS (ctOf H3 v))) = (ys.map (ctOf H3)).map fun c => sb (decS c) := by rw [List.map_map]; rfl
      rw [e, c3, List.map_map]
      exact dec_all
    rw [this]
    exact sel_nd
end
end PK
end

section
set_option Elab.async false
set_option linter.all false
set_option autoImplicit false
set_option maxRecDepth 100000
set_option maxHeartbeats 3000000
namespace PK
open PySem PySem.Spec PyProof.Rows L2 GxR PW PT
section
variable {P : Program} {w : World} {K : PySem.W.Frag} {mg : Str → Option Value} {base : Heap} {T : Tn}
abbrev sgn : List Str := ["a", "Z", "(", "_"]
def wl : Nat → List (List Str)
  | 0 => [[]]
  | n + 1 => (wl n).flatMap fun l => sgn.map fun s => l ++ [s]
def zIn (w : Str) : Bool := !(Builtin.Str.occurrences w "Z" 0 w.length 1).isEmpty
def wordB (ys : List Str) : Bool := decide ((Txt.join "" ys).length ≤ 1000) && decide ((reprText (Txt.join "" ys)).length ≤ 10000) && (isFact (Txt.join "" ys) == (!decide (Txt.join "" ys = "") && !zIn (Txt.join "" ys))) && decide ((ys.map (·.length)).sum + ys.length * (("" : Str).length) ≤ 16777216) && PyData.strOk (Txt.join "" ys)
theorem words_ok : ∀ n < 4, ∀ ys ∈ wl n, wordB ys = true := by decide +kernel
def ZW (σ : L2.St) (_ : Hp) : Prop := ∃ n ys, n < 4 ∧ ys ∈ wl n ∧ σ[23]? = some (some (.str (Txt.join "" ys)))
theorem sign_at : ∀ r : Int, 0 ≤ r → r < 4 → ∃ s ∈ sgn, ∃ c : Nat, atI ("aZ(_" : Str).cps.toList r = some c ∧ (⟨#[c]⟩ : Str) = s := by
  intro r h0 h4
  have : r = 0 ∨ r = 1 ∨ r = 2 ∨ r = 3 := by omega
  rcases this with rfl | rfl | rfl | rfl
  · exact ⟨"a", by decide +kernel, 97, by decide +kernel, by decide +kernel⟩
  · exact ⟨"Z", by decide +kernel, 90, by decide +kernel, by decide +kernel⟩
  · exact ⟨"(", by decide +kernel, 40, by decide +kernel, by decide +kernel⟩
  · exact ⟨"_", by decide +kernel, 95, by decide +kernel, by decide +kernel⟩
/-- B23: word -/
theorem b23 (D : HD P w K mg base fa fn tf) {A0 : Around} {outer : List Env} {s : Shared} {H0 : Hp} {E : XK} (hr : Room 30 (XL P w K mg base A0 outer s H0 E).A) : BlkL (XL P w K mg base A0 outer s H0 E) (lb 22) (fun L => (Base T K L)) (fun L => (fun σ H => Base T K L σ H ∧ ZW σ H)) := by
  refine ⟨_, ps_set (i := 23) sc_law.nd rfl (.inr rfl) (pe_join pe_str (pe_lc (own := [("k", 4)]) (tt := tYes) (te := tOp rIxS (tC (.str "aZ(_")) (tCall sp_roll [] E0 (tCons (tVar 5) (tCons (tC (.int 4)) tNil)))) rfl sc_law.nd (pi_range1 (by exact rfl) (D.free m_free_range) (pa_cons (pe_k (c_roll D) b_law_roll hr (by decide) (by exact rfl) (D.glo m_glo__law_roll) passO (pa_cons (pv 5) (pa_cons pe_int pa_nil))) pa_nil)) (blkOk_by (by kernel_rfl)) (fun s H C cl fp => pg_name (i := 4) (by exact sc_law.nd) rfl (.inl rfl)) (fun s H C cl fp => pts_nil)
      (fun s H C cl fp => pe_ix ix_str pe_str (pe_k (c_roll D) b_law_roll hr (by decide) (by exact rfl) (D.glo m_glo__law_roll) passL (pa_cons (pv 5) (pa_cons pe_int pa_nil))) (by intro _ _; rfl)))), fun L D' σ H b k => ?_⟩
  obtain ⟨x, y, z, hd⟩ := b.dice
  refine ⟨⟨"", rfl⟩, ?_⟩
  refine sp_roll_go (i := 5) b.s5 (fun Q q => q) hd (by decide) (by decide) fun r x1 y1 z1 hr0 hr4 => ?_
  have e1 : Exd T L.a H (upd H L.a (.lst (dc x1 y1 z1))) := .set hd
  have hd1 : (upd H L.a (.lst (dc x1 y1 z1))) L.a = some (.lst (dc x1 y1 z1)) := upd_same
  have t1 := e1.tb b.tb
  generalize upd H L.a (.lst (dc x1 y1 z1)) = H1 at e1 hd1 t1 ⊢
  refine ⟨r, rfl, by omega, by omega, fun D2 hD => ?_⟩
  have na : L.a ≠ D2 := fun z => by rw [← z, hd1] at hD; cases hD
  refine ⟨fun i m H' => m = r.toNat - i ∧ i ≤ r.toNat ∧ Exd T L.a H1 H' ∧ Tb T H' ∧ ∃ ys ∈ wl i, H' D2 = some (.lst (ys.map .str)) ∧ ys.length = i, ⟨r.toNat, rfl, Nat.zero_le _, Exd.of (T := T) hd1 (.new hD), (Ex.new (T := T) hD).tb t1, [], by decide, upd_same, rfl⟩, ?_⟩
  rintro i m H' ⟨rfl, hi, ex, t', ys, hys, hl, hlen⟩
  by_cases hlt : i < r.toNat
  · refine .inr ⟨hlt, fun H2 => i + 1 ≤ r.toNat ∧ Exd T L.a H1 H2 ∧ Tb T H2 ∧ ∃ ys ∈ wl (i + 1), H2 D2 = some (.lst (ys.map .str)) ∧ ys.length = i + 1, fun H2 z => ⟨r.toNat - (i + 1), by omega, rfl, z⟩, fun xv H2 yd => ?_⟩
    obtain ⟨eH, hx⟩ := yd
    subst eH
    refine ⟨wip, ?_⟩
    unfold tYes
    dsimp only
    rw [if_pos rfl]
    obtain ⟨x2, y2, z2, hd2⟩ := ex.dice
    refine sp_roll_go (i := 5) ((wne (by decide)).trans b.s5) (fun Q q => q) hd2 (by decide) (by decide) fun q x3 y3 z3 hq0 hq4 => ?_
    obtain ⟨sg, hsg, c, hc, ec⟩ := sign_at q hq0 hq4
    have e3 : Exd T L.a H2 (upd H2 L.a (.lst (dc x3 y3 z3))) := .set hd2
    have hl2 : (upd H2 L.a (.lst (dc x3 y3 z3))) D2 = some (.lst (ys.map .str)) := by rw [upd_ne (Ne.symm na)]; exact hl
    refine ⟨"aZ(_", q, c, rfl, rfl, by decide +kernel, hc, ys.map V.str, hl2, by rw [List.length_map, sizeLine_eq]; omega, hlt, ?_, tb_lst hl2 (e3.tb t'), ys ++ [sg], List.mem_flatMap.mpr ⟨ys, hys, List.mem_map.mpr ⟨sg, hsg, rfl⟩⟩, by rw [upd_same, List.map_append, ec]; rfl, by rw [List.length_append, hlen]; rfl⟩
    refine ⟨fun b' o n h qq => ?_, fun _ => tb_lst hl2 (e3.tb t'), x3, y3, z3, by rw [upd_ne na, upd_same]⟩
    rw [upd_ne (fun z => by rw [z, hD] at h; cases h)]
    exact (ex.trans e3).obj b' o n h qq
  · have e : i = r.toNat := by omega
    subst e
    have n4 : r.toNat < 4 := by omega
    have ok := words_ok _ n4 ys hys
    unfold wordB at ok
    simp only [decide_eq_true_eq, Bool.and_eq_true] at ok
    refine .inl ⟨Nat.le_refl _, "", D2, ys, rfl, rfl, .inl (SqL.of hl), ok.1.2, k _ _ ⟨(b.exd (e1.trans ex)).set (by decide), _, ys, n4, hys, List.getElem?_set_self (by rw [b.len]; decide)⟩⟩
/-- B24: check_fact(word) told -/
theorem b24 (D : HD P w K mg base fa fn tf) (TLm : TL K T) {A0 : Around} {outer : List Env} {s : Shared} {H0 : Hp} {E : XK} (hr : Room 30 (XL P w K mg base A0 outer s H0 E).A) : BlkL (XL P w K mg base A0 outer s H0 E) (lb 23) (fun L => (fun σ H => Base T K L σ H ∧ ZW σ H)) (fun L => (Base T K L)) := by
  have hL := TLm.l (d_law.at_, "law") (List.mem_of_getElem? (i := 2) rfl)
  refine ⟨_, ps_if (pt_cmpR (op_neD hr.units) (pe_told (T := T) (k := 28) (d := d_law) (t := fun E' => tCall (sp_check T K) [] E' (tCons (tVar 23) tNil)) D t_law (by exact rfl) rfl hL hr (LamX.lamS_by (by kernel_rfl)) rfl (fun _ _ _ _ _ => rfl)
        (fun A1 outer1 s1 H1 E' f c' hr2 => pe_k (c_check (T := T) D) b_check_fact hr2 (by decide) (by exact rfl) (D.glo m_glo_check_fact) passLam (pa_cons (pv 23) pa_nil)))
      (pe_ifExp (L2.PW.pt (pw_and (pt_cmpR op_ne (pv 23) pe_str (nomark _)) (pw_and1 (pt_cmpR op_notIn_str pe_str (pv 23) (by with_unfolding_all rfl))))) (pv 23) pe_str) (nomark _)) (pss_one (ps_ret pe_bl)) pss_nil, fun L D' σ H ⟨b, n, ys, hn, hys, hw⟩ k => ?_⟩
  have ok := words_ok n hn ys hys
  unfold wordB at ok
  simp only [Bool.and_eq_true, decide_eq_true_eq, beq_iff_eq] at ok
  obtain ⟨⟨⟨⟨k1, k2⟩, k3⟩, _⟩, k5⟩ := ok
  generalize Txt.join "" ys = wd at hw k1 k2 k3 k5
  have told : Ev T (tLm T (TT9 K) fun E' => tCall (sp_check T K) [] E' (tCons (tVar 23) tNil)) σ H (fun v H' => (x_check K wd = none ∧ v = .str wd) ∨ (x_check K wd = some (cls K "BadFact") ∧ v = .str "fact") ∨ (x_check K wd = some (cls K "BadDeed") ∧ v = .str "deed")) := by
    refine ev_told (x := x_check K wd) (post := fun v H => v = .str wd) (fun E' Ha Q e0 t0 q1 q2 => ev_fx (T := T) (H := H) (pre := pre_check) (x := x_check K) (post := post_check) (dvs := []) (E := E') (t := tCons (tVar 23) tNil) (Pa := fun vs _ => vs = [.str wd]) wd (ea_is (ev_var hw) ea_nil) (fun vs H1 e ev => ⟨by rw [ev]; rfl, k1, k2⟩) Ha e0 t0 Q q1 q2) ?_
    unfold x_check
    cases isFact wd with
    | true => exact .inl rfl
    | false => exact .inr (.inl rfl)
  refine st_if (T := T) b.tb (b := false) (et_test (ev_op (Pa := Is (.str (if isFact wd then wd else "fact"))) (Pb := Is (.str (if isFact wd then wd else "fact"))) (told.imp fun v H1 e z => ?_) (ev_if (b := isFact wd) ((et_and (a := !decide (wd = "")) (b := !zIn wd) (et_test (ev_op2 (ev_var hw) ev_c fun H1 Q q => ⟨rfl, by rw [eq_str]; exact q⟩)) fun _ => et_test (ev_op2 ev_c (ev_var hw) fun H1 Q q => ⟨"Z", wd, rfl, rfl, q⟩)).is k3.symm) (fun h => by rw [h]; exact ev_var hw) fun h => by rw [h]; exact ev_c) is_mono fun x y H1 e t px py Q q => ?_)) (fun hb => by cases hb) fun _ H1 e1 t1 => k _ _ (b.ex e1)
  · unfold x_check at z
    show v = _
    cases q : isFact wd with
    | true =>
      rw [q] at z
      rcases z with ⟨_, z⟩ | ⟨z, _⟩ | ⟨z, _⟩
      · exact z
      · cases z
      · cases z
    | false =>
      rw [q] at z
      rcases z with ⟨z, _⟩ | ⟨_, z⟩ | ⟨z, _⟩
      · cases z
      · exact z
      · have z2 : some (cls K "BadFact") = some (cls K "BadDeed") := z
        have z3 : He.ga K "BadDeed" = He.ga K "BadFact" := by injection z2 with z2; injection z2 with z2; exact z2.symm
        have h1 := He.exm_ok (D.fact _ m_exm_BadDeed_BadFact_false)
        rw [z3, He.exm_ok (D.fact _ m_exm_BadFact_BadFact_true)] at h1
        cases h1
  · have sh : SeqAt.shaped (.str (if isFact wd then wd else "fact")) = true := shaped_of (by
      show PyData.strOk _ = true
      cases isFact wd with
      | true => exact k5
      | false => show PyData.strOk "fact" = true; decide +kernel) (by simp [PyData.depth])
    refine ⟨.str (if isFact wd then wd else "fact"), .str (if isFact wd then wd else "fact"), by rw [show x = _ from px]; exact .str _, by rw [show y = _ from py]; exact .str _, sh, sh, ?_⟩
    have : (!PyData.eqv (.str (if isFact wd then wd else "fact")) (.str (if isFact wd then wd else "fact"))) = false := by simp [PyData.eqv]
    rw [this]
    exact q _ H1 (.refl T H1) t rfl
end
end PK
end

section
set_option Elab.async false
set_option linter.all false
set_option autoImplicit false
set_option maxRecDepth 100000
set_option maxHeartbeats 3000000
namespace PK
open PySem PySem.Spec PyProof.Rows L2 GxR PW PT
section
variable {P : Program} {w : World} {K : PySem.W.Frag} {mg : Str → Option Value} {base : Heap} {T : Tn}
theorem room66 {A : Around} {k : Nat} (hr : Room k A) : A.units + 66 < cLine := by have := hr.un; omega
/-- B15: swapped ones -/
theorem b15 (D : HD P w K mg base fa fn tf) (TT : TO K T) {A0 : Around} {outer : List Env} {s : Shared} {H0 : Hp} {E : XK} (hr : Room 30 (XL P w K mg base A0 outer s H0 E).A) : BlkL (XL P w K mg base A0 outer s H0 E) (lb 14) (fun L => (fun σ H => Base T K L σ H ∧ Z59 L σ H)) (fun L => (Base T K L)) := by
  refine ⟨_, ps_if (L2.PW.pt (pw_or (pt_cmpR op_ne (pe_k (c_swap (T := T) D TT) b_may_swap hr (by decide) (by exact rfl) (D.glo m_glo_may_swap) passO (pa_cons (pv 6) (pa_cons (pv 7) pa_nil)))
      (pe_and (pe_k (c_free (T := T) D TT) b_are_free hr (by decide) (by exact rfl) (D.glo m_glo_are_free) passO (pa_cons (pv 6) (pa_cons (pv 7) pa_nil))) (pe_and (pe_not (pe_k (c_helps (T := T) D TT) b_helps hr (by decide) (by exact rfl) (D.glo m_glo_helps) passO (pa_cons (pv 6) (pa_cons (pv 7) pa_nil)))) (pe_one (pe_not (pe_k (c_helps (T := T) D TT) b_helps hr (by decide) (by exact rfl) (D.glo m_glo_helps) passO (pa_cons (pv 7) (pa_cons (pv 6) pa_nil))))))) (nomark _))
      (pw_or1 (L2.PW.pt (pw_and (pt_val (pe_k (c_swap (T := T) D TT) b_may_swap hr (by decide) (by exact rfl) (D.glo m_glo_may_swap) passO (pa_cons (pv 6) (pa_cons (pv 7) pa_nil)))) (pw_and1 (pt_cmpR (op_neDT (room66 hr)) (pv 10) (pv 13) (nomark _)))))))) (pss_one (ps_ret pe_bl)) pss_nil, fun L D' σ H ⟨b, z⟩ k => ?_⟩
  obtain ⟨v5, h5, hb5⟩ := z.1
  obtain ⟨v9, h9, hb9⟩ := z.2
  refine st_if (T := T) b.tb (b := false) (et_or (a := false) (b := false) ((et_test (ev_neB (a := swapB L.d1 L.d2) (ev_2 (i := 6) (j := 7) b.s6 b.one b.s7 b.other) (ev_andV (a := freeB L.d1 L.d2) (ev_2 (i := 6) (j := 7) b.s6 b.one b.s7 b.other) fun _ => ev_andV (a := !helpsB L.d1 L.d2) (b := !helpsB L.d2 L.d1) (ev_notV (ev_2 (i := 6) (j := 7) b.s6 b.one b.s7 b.other)) fun _ => ev_notV (ev_2 (i := 7) (j := 6) b.s7 b.other b.s6 b.one)))).is ?_) fun _ => (et_and (a := swapB L.d1 L.d2) (b := false) (et_B (ev_2 (i := 6) (j := 7) b.s6 b.one b.s7 b.other)) fun hsw => et_test (ev_op (Pa := BothX (twoO L.d1 L.d2) L) (Pb := BothX (twoO L.d2 L.d1) L) ((ev_var h5).imp fun u H3 e3 w => by rw [show u = v5 from w]; exact hb5.ex e3) ((ev_var h9).imp fun u H3 e3 w => by rw [show u = v9 from w]; exact hb9.ex e3) (fun _ _ _ e w => w.ex e) fun x y H3 e3 t3 px py Q q => ?_)).is (Bool.and_false _)) (fun hb => by cases hb) fun _ H1 e1 t1 => k _ _ (b.ex e1)
  · show (swapB L.d1 L.d2 != swapB L.d1 L.d2) = false
    cases swapB L.d1 L.d2 <;> rfl
  · obtain ⟨a, us, rfl, hl, ho, hall⟩ := px
    obtain ⟨a', us', rfl, hl', ho', hall'⟩ := py
    refine ⟨a, a', _, _, rfl, rfl, ho, ho', by unfold kvsOf; rw [List.length_map, List.length_map, List.length_zip, List.length_zip, hl, hl'], fun p hp => ?_, q _ H3 (.refl T H3) t3 rfl⟩
    obtain ⟨zu, hzu, rfl⟩ := List.mem_map.mp hp
    have hzm : zu.1 ∈ L.xs := (List.of_mem_zip hzu).1
    obtain ⟨u', hv', hm'⟩ := val_zip hl' b.all.nd zu.1 hzm
    exact ⟨u', osD (twoO L.d1 L.d2 (L.S zu.1)), osD (twoO L.d2 L.d1 (L.S zu.1)), hv', dp_o (hall zu hzu), dp_o (hall' _ hm'), osD_shaped _, osD_shaped _, by rw [osD_eqv]; exact swap_two hsw (L.S zu.1)⟩
end
end PK
end

section
set_option Elab.async false
set_option linter.all false
set_option autoImplicit false
set_option maxRecDepth 100000
set_option maxHeartbeats 3000000
namespace PK
open PySem PySem.Spec PyProof.Rows L2 GxR PW PT
section
variable {P : Program} {w : World} {K : PySem.W.Frag} {mg : Str → Option Value} {base : Heap} {T : Tn}
/-- the round behind the deeds -/
theorem round1 (D : HD P w K mg base fa fn tf) (TT : TO K T) (TLm : TL K T) (eq : EQ K) {A0 : Around} {outer : List Env} {s : Shared} {H0 : Hp} {E : XK} (hr : Room 30 (XL P w K mg base A0 outer s H0 E).A) :
    BlksL (XL P w K mg base A0 outer s H0 E) [lb 1, lb 2, lb 3, lb 4, lb 5, lb 6, lb 7, lb 8, lb 9, lb 10, lb 11, lb 12, lb 13, lb 14, lb 15, lb 16, lb 17, lb 18, lb 19, lb 20, lb 21, lb 22, lb 23] (fun L => Base T K L) (fun L => Base T K L) :=
  .cons (b2 D TT TLm hr) (.cons (b3 D TT hr) (.cons2 (b45 D hr) (.cons (b6 D TT TLm eq hr) (.cons (b7 D TT hr Z5 fun L σ H H' e z => z.ex e) (.cons2 (b89 D hr) (.cons2 (b1011 D hr) (.cons (b12 D TT hr) (.cons (b13 D TT hr) (.cons (b14 D TT hr) (.cons (b15 D TT hr)
    (.cons (b16 D hr) (.cons (b17 D hr) (.cons (b18 D TT hr) (.cons2 (b1920 D hr) (.cons (b21 D hr) (.cons (b22 D hr) (.cons (b23 D hr) (.one (b24 D TLm hr)))))))))))))))))))
theorem pe_k0 {X : Cx} {d : He.DefD} {j k : Nat} {ps : List Str} {sp : Sp} {dvs : PySem.W.Frag → List V} {x : Str} {p pos : Pos} {E : XK} (c : PW.Cl X.prog X.w X.K X.mg X.base d k ps sp) (b : Bd d ps dvs) (hr : Room j X.A) (hk : k ≤ j) (hg : Gl X x) (hm : X.mg x = some (.ref (He.fAd X.K d.at_))) (hx : Passes (L2.CX X.prog X.w) X E)
    (hdb : (x == ("__debug__" : Str)) = false := by decide) : PE X (.Call (.Name x p) [] [] pos) (tCall sp (dvs X.K) E tNil) := by
  obtain ⟨fd, F, o⟩ := c.ex
  obtain ⟨ds, hv, hb⟩ := b X.K fd F
  exact pe_call0 o (hr.mono hk) hg hm F.kp hb hv hx hdb
theorem forBody_eq : forBody (lawS 2) = [lb 0, lb 1, lb 2, lb 3, lb 4, lb 5, lb 6, lb 7, lb 8, lb 9, lb 10, lb 11, lb 12, lb 13, lb 14, lb 15, lb 16, lb 17, lb 18, lb 19, lb 20, lb 21, lb 22, lb 23] := by kernel_rfl
theorem lawBody_eq : d_law.body = [lawS 0, lawS 1, lawS 2, lawS 3] := by kernel_rfl
def sp_law (T : Tn) (K : PySem.W.Frag) : Sp := fun vs H Q _ => ∃ (v : V) (ns : List Int), vs = [v] ∧ Li K H v (ns.map V.int) ∧ Tb T H ∧ ∀ H', Q (.bl true) H'
theorem c_law (D : HD P w K mg base fa fn tf) (TT : TO K T) (TLm : TL K T) (eq : EQ K) : Cl P w K mg base d_law 31 p_law (sp_law T K) := by
  refine D.cl n_law sc_law (fun vs H Q E ⟨v, ns, e, _⟩ => by rw [e]; rfl) fun A0 outer s H vs Q E hr h => ?_
  obtain ⟨v, ns, rfl, hv, tb, hq⟩ := h
  obtain ⟨tS, hS, kS⟩ := (bS (T := T) D (H0 := H) (E := E) (s := s) (A0 := A0) (outer := outer) hr v ns).ex
  obtain ⟨ta, tb2, rfl, pa1, pa2⟩ := hS.ex
  obtain ⟨t1, h1, k1⟩ := (b1 (T := T) D TT (H0 := H) (E := E) (s := s) (A0 := A0) (outer := outer) hr).ex
  obtain ⟨t2, h2, k2⟩ := (round1 (T := T) D TT TLm eq (H0 := H) (E := E) (s := s) (A0 := A0) (outer := outer) hr).ex
  have hbody : PSs (XL P w K mg base A0 outer s H E) (forBody (lawS 2)) (tSeq t1 t2) := by
    rw [forBody_eq]
    exact pss_cons h1 h2
  have hfor : PS (XL P w K mg base A0 outer s H E) (lawS 2) (tFor (iSq K (tCall (sp_rounds T K) [] E (tCons (tVar 0) (tCons (tC (.int 1)) tNil)))) (gName 5) (tSeq t1 t2)) :=
    ps_for (passes_of rfl) rfl (pi_sq (pe_k (c_rounds (T := T) D) b_law_rounds hr (by decide) (by exact rfl) (D.glo m_glo__law_rounds) passO (pa_cons (pv 0) (pa_cons pe_int pa_nil)))) (pg_name (i := 5) sc_law.nd rfl (.inr rfl)) hbody
  have hAll : PSs (XL P w K mg base A0 outer s H E) d_law.body (tSeq ta (tSeq tb2 (tSeq (tFor (iSq K (tCall (sp_rounds T K) [] E (tCons (tVar 0) (tCons (tC (.int 1)) tNil)))) (gName 5) (tSeq t1 t2)) (tRet (tCall (sp_cases T) [] E tNil))))) := by
    rw [lawBody_eq]
    exact pss_cons pa1 (pss_cons pa2 (pss_cons hfor (pss_one (ps_ret (pe_k0 (c_cases (T := T) D TT TLm) b_law_cases1 hr (by decide) (by exact rfl) (D.glo m_glo__law_cases1) passO)))))
  refine ⟨_, hAll, ?_⟩
  generalize hD0 : ({ nx := fun _ H' => Q .non H', rt := Q } : Ends) = D0
  have hrt : D0.rt = Q := by rw [← hD0]
  refine kS { D0 with nx := tSeq (tFor (iSq K (tCall (sp_rounds T K) [] E (tCons (tVar 0) (tCons (tC (.int 1)) tNil)))) (gName 5) (tSeq t1 t2)) (tRet (tCall (sp_cases T) [] E tNil)) D0 } _ H ⟨rfl, hv, tb⟩ fun σ1 H1 ⟨ro, st, xs, S, b⟩ => ?_
  have go : ∀ (D1 : Ends), (∀ σ H, Tb T H → D1.nx σ H) → tFor (iSq K (tCall (sp_rounds T K) [] E (tCons (tVar 0) (tCons (tC (.int 1)) tNil)))) (gName 5) (tSeq t1 t2) D1 σ1 H1 := fun D1 hn => by
    refine tfor_call ?_
    refine ⟨_, b.s0, v, ns, rfl, b.scr, b.tb, fun u a x y z H2 e2 t2 hu hd => ?_⟩
    obtain ⟨au, rfl, hau⟩ := hu
    refine ⟨au, rfl, .inl ⟨⟨_, SqL.of hau⟩, fun i m σ' H' => (i = 0 ∧ m = 1 ∧ σ' = σ1 ∧ H' = H2) ∨ (i = 1 ∧ m = 0 ∧ ∃ L' : LD, L'.it = .ref au ∧ Base T K L' σ' H'), ⟨1, .inl ⟨rfl, rfl, rfl, rfl⟩⟩, ?_⟩⟩
    rintro i m σ' H' (⟨rfl, rfl, rfl, rfl⟩ | ⟨rfl, rfl, L', hit, b'⟩)
    · refine .inr ⟨⟨_, .ref a, SqL.of hau, rfl⟩, fun σ2 H2 => ∃ L' : LD, L'.it = .ref au ∧ Base T K L' σ2 H2, fun σ2 H2 n => ⟨0, by decide, .inr ⟨rfl, rfl, n⟩⟩, fun xv H3 yd => ?_⟩
      obtain ⟨eH, hx⟩ := yd
      have ex := hx _ (SqL.of hau)
      cases ex
      subst eH
      have b2 : ∀ j, j ≠ 5 → ∀ w', σ'[j]? = some w' → (σ'.set 5 (some (V.ref a)))[j]? = some w' := fun j hj w' h => by rw [List.getElem?_set_ne (Ne.symm hj)]; exact h
      refine k1 ⟨a, .non, .non, ⟨"", fun _ => false, fun _ => false, fun _ => false, fun _ => false, 0⟩, ⟨"", fun _ => false, fun _ => false, fun _ => false, fun _ => false, 0⟩, ro, st, xs, S, .ref au⟩ _ _ _ ⟨by rw [List.length_set]; exact b.len, b2 1 (by decide) _ b.s1, b2 2 (by decide) _ b.s2, List.getElem?_set_self (by rw [b.len]; decide), b.row.ex e2, b.sts.ex e2, b.all.ex e2, ⟨x, y, z, hd⟩, t2, ⟨au, rfl, hau⟩⟩ fun σ3 H3 ⟨L', hi, b3⟩ => ?_
      exact k2 L' _ σ3 H3 b3 fun σ4 H4 b4 => ⟨L', hi, b4⟩
    · obtain ⟨ai, hai, hai'⟩ := b'.it
      rw [hit] at hai
      cases hai
      exact .inl ⟨⟨_, SqL.of hai', Nat.le_refl _⟩, hn σ' H' b'.tb⟩
  refine go _ fun σ H' t => ?_
  show sp_cases T [] H' D0.rt E
  exact ⟨rfl, t, fun H2 _ _ => by rw [hrt]; exact hq H2⟩
end
end PK
end

section
set_option Elab.async false
set_option linter.all false
set_option maxRecDepth 100000
set_option maxHeartbeats 0
namespace PK
open PySem PySem.Spec PyProof.Rows L2 GxR PW PT
def TK (K : PySem.W.Frag) : Tn := ⟨tfG.map fun p => (He.cT K p).2, tfL.map fun p => ((He.cT K p.1).2, (p.2 ++ ".<locals>.") ++ "<lambda>")⟩
theorem nd_inj {K : PySem.W.Frag} (h : (tf.map fun p => (He.cT K p).2).Nodup) {p q : He.Defn} (hp : p ∈ tf) (hq : q ∈ tf) (e : (He.cT K p).2 = (He.cT K q).2) : p = q := by
  obtain ⟨⟨i, hi, rfl⟩, j, hj, rfl⟩ := And.intro (List.getElem_of_mem hp) (List.getElem_of_mem hq)
  have e2 : (tf.map fun p => (He.cT K p).2)[i]? = (tf.map fun p => (He.cT K p).2)[j]? := by
    rw [List.getElem?_map, List.getElem?_map, List.getElem?_eq_getElem hi, List.getElem?_eq_getElem hj]
    exact congrArg some e
  have := (List.getElem?_inj (by rw [List.length_map]; exact hi) h).mp e2
  subst this
  rfl
theorem gl_apart : ∀ p ∈ tfG, ∀ q ∈ tfL, p ≠ q.1 := by decide +kernel
theorem g_in : ∀ p ∈ tfG, p ∈ tf := by decide +kernel
theorem l_in : ∀ q ∈ tfL, q.1 ∈ tf := by decide +kernel
theorem l_inj : ∀ p ∈ tfL, ∀ q ∈ tfL, p.1 = q.1 → p = q := by decide +kernel
theorem to_of {K : PySem.W.Frag} (h : (tf.map fun p => (He.cT K p).2).Nodup) : TO K (TK K) := ⟨fun p hp => ⟨List.mem_map.mpr ⟨p, hp, rfl⟩, fun r hr e => by
  obtain ⟨q, hq, rfl⟩ := List.mem_map.mp hr
  exact gl_apart p hp q hq (nd_inj h (g_in p hp) (l_in q hq) e.symm)⟩⟩
theorem tl_of {K : PySem.W.Frag} (h : (tf.map fun p => (He.cT K p).2).Nodup) : TL K (TK K) := ⟨fun p hp => ⟨List.mem_map.mpr ⟨p, hp, rfl⟩, fun r hr e => by
  obtain ⟨q, hq, rfl⟩ := List.mem_map.mp hr
  have : q = p := l_inj q hq p hp (nd_inj h (l_in q hq) (l_in p hp) e)
  rw [this], fun G hG e => by
  obtain ⟨g, hg, rfl⟩ := List.mem_map.mp hG
  exact gl_apart g hg p hp (nd_inj h (g_in g hg) (l_in p hp) e)⟩⟩
theorem tb_of {K : PySem.W.Frag} {H : Hp} (h : ∀ p ∈ tf, H (He.cT K p).2 = some (.tbl #[])) : Tb (TK K) H := ⟨fun G hG => by
  obtain ⟨p, hp, rfl⟩ := List.mem_map.mp hG
  exact ⟨#[], h p (g_in p hp), trivial⟩, fun r hr => by
  obtain ⟨q, hq, rfl⟩ := List.mem_map.mp hr
  exact .nil (h q.1 (l_in q hq))⟩
theorem fd_one {K : PySem.W.Frag} {x q x2 q2 : Str} {pa pa2 : Arguments} {b b2 : List Stmt} {sc sc2 : Scope} {dv dv2 : List V} {kw kw2 : List (Str × V)} {f : Addr} {fd fd2 : FuncData} (F : FunD K x q pa b sc dv kw f fd) (F2 : FunD K x2 q2 pa2 b2 sc2 dv2 kw2 f fd2) : fd2 = fd := by
  obtain ⟨_, _, _, _, _, _, _, _, _, _, _, l1, _⟩ := F.ex
  obtain ⟨_, _, _, _, _, _, _, _, _, _, _, l2, _⟩ := F2.ex
  have l3 := l1.symm.trans l2
  injection l3 with l3
  injection l3 with _ _ l3 _
  injection l3 with l3
  exact l3.symm
theorem law_bind {K : PySem.W.Frag} {fd : FuncData} (F : FunD K d_law.name d_law.qual d_law.params d_law.body d_law.scope (d_law.dvs K) (d_law.kws K) (He.fAd K d_law.at_) fd) (s : Shared) (u : Value) : BindsTo s fd ⟨[u], []⟩ [(("script" : Str), u)] :=
  FunD.bindsA (ps := ["script"]) F (fun _ _ _ _ _ _ us hl => match us, hl with | [_], _ => rfl) s [u] rfl
theorem law_ex {w : World} {mg : Str → Option Value} {h : Heap} {K : PySem.W.Frag} (KX : K.In h) (c : He.SaysX fa fn [] tf exB w h K) (G : h.Ns mainGlobals mg) : ∃ (fd : FuncData), (∀ (s : Shared) (u : Value), BindsTo s fd ⟨[u], []⟩ [(("script" : Str), u)]) ∧
    ∀ base : Heap, K.In base → base.Ns mainGlobals mg → (∀ p ∈ tf.map (He.cT K), LamX.TabB base mg p.1 p.2) → FnOk P w K mg base (L2.CX P w) 31 (He.fAd K d_law.at_) fd p_law (sp_law (TK K) K) := by
  have cd : He.SaysD fa fn K := c.t.d
  have mo := c.more
  have mo1 := Bool.and_eq_true_iff.mp mo
  have mo2 := Bool.and_eq_true_iff.mp mo1.1
  have nd : (tf.map fun p => (He.cT K p).2).Nodup := of_decide_eq_true mo2.1
  have eq : PK.EQ K := ⟨of_decide_eq_true mo2.2, of_decide_eq_true mo1.2⟩
  obtain ⟨fd, F⟩ := cd.defs n_law
  refine ⟨fd, law_bind F, fun base KB GB TB => ?_⟩
  have D : PW.HD P w K mg base fa fn tf := ⟨KB, GB, fun f hf => cd.facts hf, fun d hd => cd.defs hd, fun p hp => TB _ (List.mem_map.mpr ⟨p, hp, rfl⟩)⟩
  obtain ⟨fd2, F2, ok⟩ := (PK.c_law (T := PK.TK K) D (PK.to_of nd) (PK.tl_of nd) eq).ex
  cases fd_one F F2
  exact ok
theorem law_at {l : PySem.W.OpenLaw} {P : Program} (hP : l.prog = P) {w : World} {mg : Str → Option Value} {h : Heap} {K : PySem.W.Frag} {f : Addr} (KX : K.In h) (c : He.SaysX fa fn [] tf exB w h K) (G : h.Ns mainGlobals mg) (hf : mg "law" = some (.ref f)) : LamX.LawAtS l w K (L2.CX P w) 31 63 "script" mg f h := by
  have cd : He.SaysD fa fn K := c.t.d
  have e : f = He.fAd K d_law.at_ := by
    have := hf.symm.trans (He.glo_ok KX G (cd.facts PT.m_glo_law))
    injection this with this
    injection this with this
  subst hP
  subst e
  obtain ⟨fd, hb, hF⟩ := law_ex (P := l.prog) KX c G
  refine ⟨fd, tf.map (He.cT K), sp_law (TK K) K, fun p hp => ?_, fun p hp => ?_, fun p hp => ?_, hb, fun H a ns hl hbits hT hS => ?_, hF⟩
  · obtain ⟨q, hq, rfl⟩ := List.mem_map.mp hp
    exact c.empty q hq
  · obtain ⟨q, hq, rfl⟩ := List.mem_map.mp hp
    exact c.out q hq
  · obtain ⟨q, hq, rfl⟩ := List.mem_map.mp hp
    exact PySem.W.codeHd_of_K KX (c.hd q hq)
  · exact ⟨.ref a, ns, rfl, ⟨a, rfl, hS⟩, tb_of fun p hp => hT _ (List.mem_map.mpr ⟨p, hp, rfl⟩), fun _ => rfl⟩
end PK
open PySem PySem.W PyProof.Rows PySem.Calls
theorem PySem.Challenge.cw_planwright_k01_deeds_and_states_holds : PySem.Challenge.rw_planwright_k01_deeds_and_states.Holds := by
  w_on; o_law
  refine HandSHeadRun.head_any (r := OpenLaw.row PySem.Challenge.rw_planwright_k01_deeds_and_states) (q := view (OpenLaw.row PySem.Challenge.rw_planwright_k01_deeds_and_states).prog [38]) (H := PT.hk) (ob := PT.ob) (M := 6000) (loose := PT.names) (d := HandSHeadRun.topDef (OpenLaw.row PySem.Challenge.rw_planwright_k01_deeds_and_states).prog 38) (kwd := []) PT.ob_eq
    (by kernel_rfl) (fun s => by kernel_rfl) PT.run (by kernel_rfl) (by kernel_rfl) (by kernel_rfl) (by rfl) (by first | assumption | decide +kernel) (by decide +kernel) ⟨rfl, rfl, rfl, rfl, rfl, by decide +kernel⟩ ?hw ?hc
  case hw => w_witness2
  case hc =>
    refine LamX.walk_ofTsE (l := PySem.Challenge.rw_planwright_k01_deeds_and_states) (n := 63) (k := 31) (x := "script") (CX := fun w => L2.CX (PySem.Challenge.rw_planwright_k01_deeds_and_states).prog w) rfl (by decide) (by kernel_rfl) ⟨rfl, by decide, by decide⟩ ?F (fun _ _ _ _ _ z => ?G)
    case G =>
      obtain ⟨_, _, _, _, _, _, _, _, _, _, _, _, z⟩ := z
      exact z
    case F =>
      intro w mg fa h Y G hmg0
      obtain ⟨K, KX, c⟩ := Y
      have hmg : mg (("law" : PySem.Str)) = some (.ref fa) := by
        have e : (HandSHeadRun.topDef (OpenLaw.row PySem.Challenge.rw_planwright_k01_deeds_and_states).prog 38).name = ("law" : PySem.Str) := by kernel_rfl
        rw [← e]
        exact hmg0
      exact ⟨K, KX, PK.law_at rfl KX c G hmg⟩
end
