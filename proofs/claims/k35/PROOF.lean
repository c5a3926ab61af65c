import PyProof.Rows.All
import Wide.All
import OpenK.AllK
import Wide.FinOn
import PyProof.EqAt
import PyProof.EqKinds
import PyProof.TupleCall
import HandS.Base
import HandS.Call
import HandS.List
import HandS.Comp
import HandS.Ends
import HandS.Exc
import HandS.ExcOwn
import HandS.TryMany
import HandS.ExcCtx
import HandS.Hot
import HandS.HotCalls
import HandS.ExcIs
import HandS.ExcField
import HandS.IsInst
import HandS.Codes
import HandS.Words
import PySem.Challenge.RW_stillmay_k35_drawn_up_by_the_rule
import KE.KStateDown
import HandS.Head0
import HandS.Head1
import HandS.Head2
import HandS.HeadEnd
import HandS.HeadHook1
import HandS.HeadHook2
import HandS.Strs
import HandS.ForMost
import HandS.Wide
import HandS.Defaults
import HandS.Flow
import HandS.TupAny
import HandS.Conv
import KE.KIndexOf
import HandS.WordsExc
import HandS.Deep
import HandS.Small
import HandS.NoneIn
import HandS.Zip
import HandS.Steps
import HandS.DictComp
import HandS.More
import HandS.WideMore
import HandS.Iter
import KE.GoesMore
import KE.GoesEnum
import HandS.Set
import HandS.SetFor
import HandS.Style
import HandS.SortInts
import HandS.Replace
import HandS.SortKw
import HandS.OwnEq
import HandS.Dict
import HandS.RaiseMore
import HandS.RepeatKit
import PyProof.TupleOfSeq
import KE.KBytesNew
import PyProof.NeKinds
import PyProof.InstEq
import HandS.Remove
import HandS.TupSets
import PyProof.ListStr
set_option Elab.async false
set_option linter.all false
set_option maxRecDepth 100000
set_option maxHeartbeats 0
set_option exponentiation.threshold 500
namespace PySem
namespace MyX
open PySem.W PySem.Calls PyProof.Rows PySem.HandSPX Builtin Builtin.ObjectAttr
/-! ### own error classes over Exception, with an init that keeps one argument -/
abbrev eTail : List Value := [.type "Exception", .type "BaseException", .type "object"]
def refsE : List Value → Bool
  | .ref _ :: r => refsE r
  | l => l == eTail
theorem refsE_cases : ∀ l : List Value, refsE l = true → (∃ c r, l = .ref c :: r ∧ refsE r = true) ∨ l = eTail
  | [], e => .inr (beq_iff_eq.mp e)
  | .ref c :: r, e => .inl ⟨c, r, rfl, e⟩
  | .none :: _, e => .inr (beq_iff_eq.mp e)
  | .ellipsis :: _, e => .inr (beq_iff_eq.mp e)
  | .notImplemented :: _, e => .inr (beq_iff_eq.mp e)
  | .bool _ :: _, e => .inr (beq_iff_eq.mp e)
  | .int _ _ :: _, e => .inr (beq_iff_eq.mp e)
  | .float _ _ :: _, e => .inr (beq_iff_eq.mp e)
  | .str _ _ :: _, e => .inr (beq_iff_eq.mp e)
  | .bytes _ _ :: _, e => .inr (beq_iff_eq.mp e)
  | .type _ :: _, e => .inr (beq_iff_eq.mp e)
  | .builtin _ :: _, e => .inr (beq_iff_eq.mp e)
theorem refsE_pass (self : Value) : ∀ l : List Value, refsE l = true → refuseLoop self "__setattr__" l = pure () := by
  intro l
  induction l with
  | nil => intro e; exact absurd e (by decide)
  | cons a r ih =>
    intro e
    rcases refsE_cases (a :: r) e with ⟨c, r', q, h⟩ | q
    · obtain ⟨rfl, rfl⟩ := List.cons.inj q
      rw [refuseLoop_ref]; exact ih h
    · rw [q]; exact F.store_Exception.passes self
theorem refsE_contains (X : String) : ∀ l : List Value, refsE l = true → l.contains (.type X) = eTail.contains (.type X) := by
  intro l
  induction l with
  | nil => intro e; exact absurd e (by decide)
  | cons a r ih =>
    intro e
    rcases refsE_cases (a :: r) e with ⟨c, r', q, h⟩ | q
    · obtain ⟨rfl, rfl⟩ := List.cons.inj q
      rw [List.contains_cons, ih h]; rfl
    · rw [q]
theorem refsE_ne {l : List Value} (e : refsE l = true) : l.isEmpty = false := by
  cases l with
  | nil => exact absurd e (by decide)
  | cons _ _ => rfl
section
variable {prog : Program} {w : World} {A : Around} {E : Value → Shared → Prop} {R : Result → Shared → Prop} {hp : Heap} {g : Array GenState} {d : Drawn} {t : Nat} {os : OsState}
theorem exc_osaE {K : W.Frag} {name : Str} {tk : Tok} {v : Value} {x C : Addr} {fv : Array Value} {cd : ClassData}
    (X : K.In hp) (hx : hp.get? x = some { cls := .ref C, data := .fields fv }) (hcd : W.clsIn K C = some cd) (hm : refsE cd.mro = true) (hh : cd.hasDict = true) (ha : W.findIn K (.ref C) name = some none)
    (hq : ∀ h' tk' dx, (∀ b o, b ≠ x → hp.get? b = some o → h'.get? b = some o) → hp.objs.size ≤ dx → dx ≠ x → h'.get? x = some { cls := .ref C, dict := some dx, data := .fields fv } →
      h'.Ns1 dx (fun y => if y = name then some v else none) → R (.ok (.ret .none)) ⟨h', g, d, tk', os⟩) :
    codeAny (model prog w) A (.call (.builtin "object.__setattr__") ⟨[.ref x, .str name tk, v], []⟩) R ⟨hp, g, d, t, os⟩ := by
  have I : W.InstAt hp x { cls := .ref C, data := .fields fv } C none := ⟨hx, rfl, rfl, trivial⟩
  have SF := F.store_object
  have ne := refsE_ne hm
  have hob : cd.mro.contains (.type "object") = true := (refsE_contains "object" _ hm).trans (by decide +kernel)
  have hxs : x ≠ hp.objs.size := Nat.ne_of_lt (Heap.lt_size hx)
  have sub : W.Looks (model prog w) hp (isInstance (.ref x) (.type "object")) true := I.type.andThen (W.looks_mroIn X (by unfold W.mroIn; rw [hcd, Option.bind_some, if_neg (by rw [ne]; decide), hob]))
  refine codeAny_call_builtin SF.slot.plain SF.entry (@W.check_slot (model prog w) _ _ ⟨hp, g, d, t, os⟩ "object.__setattr__" "object" "__setattr__" (.ref x) [.str name tk, v] [] _ SF.kind SF.split sub (SF.args (.ref x) (.str name tk) v) ?_)
  have hmr : W.Looks (model prog w) hp (mroOf (.ref C)) cd.mro := (W.looks_clsIn X hcd).andThen .now
  have L3 : W.Looks (model prog w) hp (storeTaker? none) none := .now
  have hcls : W.Looks (model prog w) hp (classData C) cd := W.looks_clsIn X hcd
  rw [W.osa_eq, refuse_eq]
  refine wpAny_bind (wpAny_bind (I.type.at (wpAny_bind (hmr.at ?_))))
  rw [refsE_pass _ _ hm]
  refine wpAny_pure (wpAny_bind (I.type.at (wpAny_bind ((W.looks_findIn X ha).at (wpAny_bind (L3.at ?_))))))
  show wpAny _ _ (storeInOwnDict (.ref x) (.ref C) (.str name tk) name v false) _ _ _
  obtain ⟨nm, bs, mro, ns, qn, hd, sn, sb, ab, col, del⟩ := cd
  dsimp only at hh
  subst hh
  unfold storeInOwnDict ownDictForStores
  repeat (first | with_reducible refine store_in_new ?_ ?_ | with_reducible refine wpAny_loadPart_at hx ?_ | with_reducible refine hcls.at ?_ | wp_step)
  · exact ⟨_, #[], _, (Heap.get?_update_ne _ _ _ _ hxs.symm).trans (Heap.get?_push_at rfl rfl), rfl, fun e he => absurd he (by simp), fun _ => rfl⟩
  · intro h' tk' hn' hs
    have hx₁ : (hp.push { cls := .type "dict", data := .dict #[] }).get? x = some { cls := .ref C, data := .fields fv } := Heap.get?_push_of_some _ hx
    refine hq h' tk' hp.objs.size (fun b o hb ho => ?_) (Nat.le_refl _) hxs.symm ?_ hn'
    · exact (hs.2 b (Nat.ne_of_lt (Heap.lt_size ho))).trans ((Heap.get?_update_ne _ _ _ _ hb).trans (Heap.get?_push_of_some _ ho))
    · exact (hs.2 x hxs).trans (Heap.get?_update_self _ hx₁ rfl)
end
/-! the text of such an init -/
def iA (n : Str) (p1 p2 : Pos) : Arguments := { posonlyargs := [], args := [{ arg := "self", annotation := none, pos := p1 }, { arg := n, annotation := none, pos := p2 }], vararg := none, kwonlyargs := [], kw_defaults := [], kwarg := none, defaults := [] }
def iB (n : Str) (q1 q2 q3 q4 : Pos) : List Stmt := [.Assign [.Attribute (.Name "self" q1) n q2] (.Name n q3) q4]
def iS (n : Str) : Scope := { kind := .function, names := [(PySem.Str.ofString "self", .local), (n, .local)], isGenerator := false, isCoroutine := false, more := [] }
/-- what the written part says of such a class at C, of its init at fI -/
structure ErrC (K : Frag) (C fI : Addr) (n : Str) : Prop where
  cls : ∃ nm q N bs bm sn sub ab col dd k0 k1 k2 k3 k5, K.lookup C = some (excClassObj nm q C N bs bm true sn sub ab col dd k0 k1 k2 k3 k5 "Exception.__new__") ∧ refsE bm = true
  sa : findIn K (.ref C) "__setattr__" = some (some (.builtin "object.__setattr__"))
  ga : findIn K (.ref C) "__getattribute__" = some (some (.builtin "BaseException.__getattribute__"))
  gg : findIn K (.ref C) "__getattr__" = some none
  noN : findIn K (.ref C) n = some none
  iC : findIn K (.ref C) "__init__" = some (some (.ref fI))
  tC : typeIn K (.ref fI) = some (.type "function")
  kC : keepIn K (.ref C) = true
  exC : subIn K (.ref C) (.type "BaseException") = some true
  tyC : typeIn K (.ref C) = some (.type "type")
  hdC : hasDictIn K C = true
  nn : n ≠ "self" ∧ (n == ("__debug__" : Str)) = false
  fn : ∃ (oc : Value) (od : Option Addr) (kV doc pm : Value) (an : Option Addr) (cdv ct : Value) (osl : Array (Option Value)) (ql : Str) (p1 p2 q1 q2 q3 q4 : Pos),
    K.lookup fI = some ⟨oc, od, .func (fnOf "__init__" ql (iA n p1 p2) (iB n q1 q2 q3 q4) (iS n) .none kV doc pm an cdv ct), osl⟩ ∧ codeIn K cdv ql = true ∧
      ∀ u v : Value, bindArgs (fnOf "__init__" ql (iA n p1 p2) (iB n q1 q2 q3 q4) (iS n) .none kV doc pm an cdv ct) ⟨[u, v], []⟩ = pure [(PySem.Str.ofString "self", u), (n, v)]
theorem kept_but {K : Frag} {h h' : Heap} {x : Addr} (X : K.In h) (hx : K.lookup x = none) (k : ∀ b o, b ≠ x → h.get? b = some o → h'.get? b = some o) : K.In h' := fun a o e =>
  k a o (fun z => by rw [z, hx] at e; cases e) (X a o e)
theorem ldC {M : Model} {s : Shared} {name : Str} {scope : Scope} {L a : Addr} {cd : Value} {m : Str → Option Value} {x : Str} {pos : Pos} {v : Value} {Q : Value → Shared → Prop} {A : Around} {E : Value → Shared → Prop} (hn : s.heap.Ns L m) (hv : m x = some v) (h : Q v s)
    (hd : (x == ("__debug__" : Str)) = false) (hl : (envOfC name scope L a cd).kindOf x = some .local) (hk : scope.kind = .function := by rfl) :
    wpAny M A (eval (.Name x pos) (envOfC name scope L a cd)) Q E s := wpAny_Name (wpAny_loadName_local hk hl hn hv h) hd
/-- what init leaves of a fresh exception at x -/
structure InitEnd (h h' : Heap) (x C dx t1 : Addr) (n : Str) (v : Value) : Prop where
  keep : ∀ b o, b ≠ x → h.get? b = some o → h'.get? b = some o
  obj : h'.get? x = some { cls := .ref C, dict := some dx, data := .fields #[.ref t1, .none, .none, .none, .bool false, .none] }
  dbig : h.objs.size ≤ dx
  dne : dx ≠ x
  ns : h'.Ns1 dx (fun y => if y = n then some v else none)
structure OwnMade (h h' : Heap) (e C d : Addr) (n : Str) (v : Value) : Prop where
  keep : ∀ b o, h.get? b = some o → h'.get? b = some o
  new : h.objs.size ≤ e
  obj : ∃ oe vs, h'.get? e = some oe ∧ oe.cls = .ref C ∧ oe.dict = some d ∧ oe.data = .fields vs ∧ vs[1]? = some .none ∧ vs[2]? = some .none
  dbig : h.objs.size ≤ d
  dne : d ≠ e
  ns : h'.Ns1 d (fun y => if y = n then some v else none)
theorem lk_self {n : Str} (h : n ≠ "self") : (iS n).names.lookup ("self" : Str) = some .local := by
  show List.lookup ("self" : Str) [(PySem.Str.ofString "self", NameKind.local), (n, NameKind.local)] = some .local
  rfl
theorem lk_n {n : Str} : (iS n).names.lookup n = some .local := by
  show List.lookup n [(PySem.Str.ofString "self", NameKind.local), (n, NameKind.local)] = some .local
  rw [List.lookup_cons]
  cases n == PySem.Str.ofString "self" with
  | true => rfl
  | false => rw [List.lookup_cons_self]
section
variable {prog : Program} {w : World} {A : Around} {E : Value → Shared → Prop} {R : Result → Shared → Prop} {s : Shared} {K : Frag} {C fI : Addr} {n : Str}
theorem err_init (T : ErrC K C fI n) {x t0 : Addr} {v : Value} (X : K.In s.heap) (hlim : s.heap.NoLimit) (hx : s.heap.get? x = some (excO C t0)) (hnx : K.lookup x = none) (hroom : A.depth < recursionLimit)
    (hq : ∀ h' tk dx, InitEnd s.heap h' x C dx t0 n v → R (.ok (.ret .none)) { s with heap := h', toks := tk }) :
    codeAny (model prog w) A (.call (.ref fI) ⟨[.ref x, v], []⟩) R s := by
  obtain ⟨oc, od, kV, doc, pm, an, cdv, ct, osl, ql, p1, p2, q1, q2, q3, q4, ho, hcd, hbd⟩ := T.fn
  obtain ⟨nm, q, N, bs, bm, sn, sub, ab, col, dd, k0, k1, k2, k3, k5, hC, hbm⟩ := T.cls
  have hcl : clsIn K C = some { name := nm, bases := bs, mro := .ref C :: bm, ns := N, qualname := q, hasDict := true, slotNames := sn, subclasses := sub, abstract := ab, collection := col, hasDel := false } := by unfold clsIn; rw [hC] <;> rfl
  refine Att.call_fn (binds := [(PySem.Str.ofString "self", .ref x), (n, v)]) X hlim ho hcd hroom (BindsTo.of_eq (hbd _ _)) ?_ (fun s₁ IC => ?_) rfl rfl rfl
  · rw [List.all_cons, List.all_cons, List.all_nil]
    show (((iS n).names.lookup ("self" : Str) == some NameKind.local || (iS n).names.lookup ("self" : Str) == some NameKind.cell) && (((iS n).names.lookup n == some NameKind.local || (iS n).names.lookup n == some NameKind.cell) && true)) = true
    rw [lk_self T.nn.1, lk_n]
    rfl
  obtain ⟨h₁, tk₁, rfl⟩ := IC.toInCall.same
  have k : ∀ b o, s.heap.get? b = some o → h₁.get? b = some o := IC.toInCall.keep
  have hn := IC.toInCall.ns
  have hxL : s.heap.objs.size ≠ x := Nat.ne_of_gt (Heap.lt_size hx)
  have X₁ : K.In h₁ := X.keeps k
  have hx₁ := k _ _ hx
  have kself : (envOfC ql (iS n) s.heap.objs.size fI cdv).kindOf ("self" : Str) = some .local := lk_self T.nn.1
  have kn : (envOfC ql (iS n) s.heap.objs.size fI cdv).kindOf n = some .local := lk_n
  have nd : (["self", n] : List Str).Nodup := List.nodup_cons.mpr ⟨fun hm => T.nn.1 (List.mem_singleton.mp hm).symm, by simp⟩
  -- self.n = n
  show wpAny _ _ (execs _ _) _ _ _
  refine wpAny_execs_cons (plainObj_wpAny_Assign_Attribute ?_)
  refine ldC (v := v) hn (L2.bindL_get (P := ["self", n]) (vs := [.ref x, v]) (i := 1) nd rfl rfl kn) (ldC (v := .ref x) hn (L2.bindL_get (P := ["self", n]) (vs := [.ref x, v]) (i := 0) nd rfl rfl kself) ?_ (by decide) kself) T.nn.2 kn
  refine set_plain X₁ (ox := excO C t0) (od := none) ⟨hx₁, rfl, rfl, trivial⟩ T.sa ?_
  refine exc_osaE X₁ hx₁ hcl (show refsE (.ref C :: bm) = true from hbm) rfl T.noN (fun h₃ tk₃ dx k₃ dn dne hx₃ hn₃ => ?_)
  show wpAny _ _ (execs _ _) _ _ _
  have z : s.heap.objs.size < h₁.objs.size := hn.lt
  exact wpAny_execs_nil (hq h₃ tk₃ dx ⟨fun b o hb e => k₃ b o hb (k b o e), hx₃, Nat.le_of_lt (Nat.lt_of_lt_of_le z dn), dne, hn₃⟩)
theorem one_size (v : Value) : [v].length ≤ sizeLine := by
  rw [sizeLine_eq]
  exact (by decide : 1 ≤ 16777216)
theorem err_made (T : ErrC K C fI n) {v : Value} (X : K.In s.heap) (hlim : s.heap.NoLimit) (hroom : A.depth + 1 < recursionLimit)
    (hq : ∀ h' tk e d, OwnMade s.heap h' e C d n v → R (.ok (.ret (.ref e))) { s with heap := h', toks := tk }) :
    codeAny (model prog w) A (.call (.ref C) ⟨[v], []⟩) R s := by
  obtain ⟨nm, q, N, bs, bm, sn, sub, ab, col, dd, k0, k1, k2, k3, k5, hC, hbm⟩ := T.cls
  obtain ⟨hp, g, dr, tk, os⟩ := s
  have k : ∀ b o, hp.get? b = some o → ((hp.push (kdv_tup [v])).push (excO C hp.objs.size)).get? b = some o := fun b o e => Heap.get?_push_of_some _ (Heap.get?_push_of_some _ e)
  have hget : ((hp.push (kdv_tup [v])).push (excO C hp.objs.size)).get? (hp.objs.size + 1) = some (excO C hp.objs.size) := by heap_get
  have hnx : K.lookup (hp.objs.size + 1) = none := by
    cases e : K.lookup (hp.objs.size + 1) with
    | none => rfl
    | some o =>
      have z : hp.get? (hp.objs.size + 1) = some o := X _ _ e
      exact absurd (Nat.lt_of_succ_lt (Heap.lt_size z)) (Nat.lt_irrefl _)
  refine call_own F.excBase_Exception (fun X => refsE_contains X bm hbm) (X _ _ hC) (looks_findIn X T.iC) (fun self => bind_fn X self T.tC) (one_size v) ?_
  refine err_init (s := ⟨(hp.push (kdv_tup [v])).push (excO C hp.objs.size), g, dr, tk, os⟩) T (X.keeps k) (hlim.keeps k) hget hnx ?_ fun h' tk' dx ⟨k', hx, dn, dne, hns⟩ => ?_
  · show A.depth + 1 < recursionLimit
    exact hroom
  · have old : ∀ b o, hp.get? b = some o → h'.get? b = some o := fun b o e => k' b o (Nat.ne_of_lt (Nat.lt_succ_of_lt (Heap.lt_size e))) (k b o e)
    have z : hp.objs.size + 1 + 1 ≤ dx := by
      first
        | (simpa only [Heap.size_push] using dn)
        | exact dn
        | (have q := dn; rw [Heap.size_push, Heap.size_push] at q; exact q)
    exact ⟨rfl, hq h' tk' (hp.objs.size + 1) dx ⟨old, Nat.le_succ _, ⟨_, _, hx, rfl, rfl, rfl, rfl, rfl⟩, Nat.le_trans (Nat.le_trans (Nat.le_succ _) (Nat.le_succ _)) z, dne, hns⟩⟩
end
end MyX
end PySem
namespace L2
open PySem PySem.Spec PyProof.Rows
theorem relO_err {n : Str} {v : V} {v' : Value} (r : RelV v v') (f : Str) : RelO (List.lookup f [(n, v)]) (if f = n then some v' else none) := by
  by_cases hw : f = n
  · subst hw
    rw [if_pos rfl]
    have q : List.lookup f [(f, v)] = some v := by simp [List.lookup]
    rw [q]
    exact r
  · rw [if_neg hw]
    have qw : (f == n) = false := by simpa using hw
    have q2 : List.lookup f [(n, v)] = none := by simp [List.lookup, qw]
    rw [q2]
    trivial
section
variable {X : Cx} {C fI : Addr} {n : Str}
/-- C(e) -/
def tMkErr (C : Addr) (n : Str) (ta : TA) : St → Hp → XK → Prop := fun σ H Q => ta σ H fun vs H1 => ∃ v, vs = [v] ∧ ∀ d, H1 d = none → Q (.ref C) (some d) (upd H1 d (.xd [(n, v)]))
theorem pmk_err {cn : Str} {a : Expr} {ta : TA} {p pos : Pos} {k : Nat} (T : PySem.MyX.ErrC X.K C fI n) (hm : X.mg cn = some (.ref C)) (hr : Room k X.A) (ha : PA X [a] ta) (hg : Gl X cn := by rfl)
    (hdb : (cn == ("__debug__" : Str)) = false := by decide)
    (he : starEach (a :: []) X.env = (false, eval a X.env) :: starEach [] X.env := by rfl) (hpl : (backTo pos (starEach [] X.env)).any (·.1) = false := by rfl) :
    L2N.PMk X (.Call (.Name cn p) [a] [] pos) (tMkErr C n ta) := by
  intro pins s σ H Q I h
  refine wpAny_Call_Name_kw (ld_glob I hg hm ?_ hdb)
  refine PySem.W.callWith_K (h₀ := X.base) I.ok.mod.kin T.kC (thn (ha.run pos pins s σ H _ I h) fun us s1 hh => ?_) he hpl
  obtain ⟨vs, H1, I1, r1, v, ev, q1⟩ := hh
  subst ev
  refine ⟨I1.kIn, ?_⟩
  cases r1 with
  | cons rv rn =>
    rename_i v' us'
    cases rn
    show wpAny _ _ (call (.ref C) [v']) _ _ _
    have hlim := I1.nolimit
    obtain ⟨hp, g, dr, tk, os⟩ := s1
    refine wpAny_call (PySem.MyX.err_made T I1.kIn hlim (by have := hr.dp; omega) fun h' tk' e d M => ?_)
    show L2N.MkP X pins σ Q (.ref e) ⟨h', g, dr, tk', os⟩
    obtain ⟨oe, fv, hoe, hc, hd, hdat, h1, h2⟩ := M.obj
    have hns := M.ns
    obtain ⟨G', g1, g2⟩ := restrict h' fun b => decide (b ≠ e)
    have gk : ∀ b, b ≠ e → G'.get? b = h'.get? b := fun b hb => g1 b (decide_eq_true hb)
    have ge : G'.get? e = none := g2 e (by simp)
    have old : ∀ b o, hp.get? b = some o → G'.get? b = some o := fun b o q => (gk b (Nat.ne_of_lt (Nat.lt_of_lt_of_le (Heap.lt_size q) M.new))).trans (M.keep b o q)
    have ob : ObjOk X.prog X.w (upd H1 d (.xd [(n, v)])) G' d (.xd [(n, v)]) :=
      ⟨_, hns.at (fun o q => (gk d M.dne).trans q), fun f => relO_err rv f⟩
    have J : Inv X pins σ (upd H1 d (.xd [(n, v)])) ⟨G', g, dr, tk', os⟩ := I1.laid (t' := tk') old M.dbig ob
    refine ⟨e, oe, fv, ⟨G', g, dr, tk', os⟩, _, .ref C, some d, rfl, J, fun b o q => ?_, ge, hoe, ⟨hc, hd, fun vs' e' => ?_⟩, hdat, h1, ?_, rfl, I1.bare, raises_own T.exC T.tyC, q1 d (I1.hok.fresh M.dbig)⟩
    · by_cases hb : b = e
      · have q' : G'.get? b = some o := q
        rw [hb, ge] at q'; cases q'
      · exact (gk b hb).symm.trans q
    · rw [hdat] at e'
      injection e' with e2
      rw [← e2]
      exact h2
    · rw [upd_ne (Ne.symm M.dne)]
      exact I1.hok.fresh M.new
/-- raise C(e) -/
def tRaiseErr (C : Addr) (n : Str) (W : WX) (ta : TA) : TS := fun _ σ H => tMkErr C n ta σ H fun cls d H' => W cls d σ H'
theorem ps_raiseErr {cn : Str} {a : Expr} {ta : TA} {W : WX} {p pos pos2 : Pos} {k : Nat} (hc : X.calm = true) (T : PySem.MyX.ErrC X.K C fI n) (hm : X.mg cn = some (.ref C)) (hr : Room k X.A) (tk : L2N.Takes X W) (ha : PA X [a] ta) (hg : Gl X cn := by rfl)
    (hdb : (cn == ("__debug__" : Str)) = false := by decide)
    (he : starEach (a :: []) X.env = (false, eval a X.env) :: starEach [] X.env := by rfl) (hpl : (backTo pos (starEach [] X.env)).any (·.1) = false := by rfl) :
    PS X (.Raise (some (.Call (.Name cn p) [a] [] pos)) none pos2) (tRaiseErr C n W ta) := L2N.ps_raise hc tk (pmk_err T hm hr ha hg hdb he hpl)
/-- e.n, e the exception that the suite holds (at a; its class cls, its dict d) -/
def tByErr (n : Str) (C : Addr) (a : Addr) (cls : Value) (d : Option Addr) (te : TE) : TE := fun σ H Q => te σ H fun x H1 => x = .ref a ∧ cls = .ref C ∧ ∃ (dd : Addr) (v : V), d = some dd ∧ H1 dd = some (.xd [(n, v)]) ∧ Q v H1
theorem pe_byErr {a : Addr} {oe : Obj} {cls : Value} {d : Option Addr} {pn : List (Addr × Obj)} {e : Expr} {te : TE} {pos : Pos} (T : PySem.MyX.ErrC X.K C fI n) (hz : Zc cls d oe) (hf : ∃ vs, oe.data = .fields vs) (he : PE (X.suite a ((a, oe) :: pn)) e te)
    (hb : attributeBase e n X.env (eval e X.env) = eval e X.env := by rfl) :
    PE (X.suite a ((a, oe) :: pn)) (.Attribute e n pos) (tByErr n C a cls d te) := by
  refine ⟨fun pins s σ H Q I h => ?_⟩
  refine attr_of hb (thn (he.run pins s σ H _ I h) fun u s1 hh => ?_)
  obtain ⟨x, H1, I1, rx, ex, ec, dd, v, ed, ea, q⟩ := hh
  subst ex
  obtain rfl : u = Value.ref a := rx
  subst ec
  subst ed
  obtain ⟨ha, _⟩ := I1.pin (a, oe) (List.mem_append_left _ List.mem_cons_self)
  obtain ⟨vs, hd⟩ := hf
  have hx : ObjOk X.prog X.w H1 s1.heap dd (.xd [(n, v)]) := I1.hok dd _ ea
  obtain ⟨mA, hns, hr⟩ := hx
  obtain ⟨od, ho, hl⟩ := lookIn_ns hns
  have l : List.lookup n [(n, v)] = some v := by simp [List.lookup]
  obtain ⟨u, hu, ru⟩ := RelO.some_of (v := v) (o := mA n) (by rw [← l]; exact hr n)
  have J : PySem.W.InstAt s1.heap a oe C (some od) := ⟨ha, hz.1, by unfold PySem.W.notCls; rw [hd] <;> rfl, by rw [hz.2]; exact ho⟩
  exact HandSPX.exc_get I1.kIn J T.ga T.gg T.exC (PySem.W.findObj_own T.hdC T.noN rfl (by rw [hl, hu])) (handed_of ru) ⟨v, H1, I1.tok _, ru, q⟩
end
end L2

namespace L2
open PySem PySem.Spec PyProof.Rows
/-! ### several except clauses, each with a name or without -/
abbrev SuT : Type := Addr → Value → Option Addr → TS
def goneD (i : Nat) (D : Ends) : Ends := { nx := fun s h => D.nx (s.set i none) h, rt := D.rt, bk := fun s h => D.bk (s.set i none) h, ct := fun s h => D.ct (s.set i none) h }
def wHds (K : PySem.W.Frag) (Wout : WX) (D : Ends) : List (Value × Option Nat × SuT) → WX
  | [] => Wout
  | (c, none, ts) :: r => fun cls d σ H => ∃ b, PySem.W.exmOne K cls c = some b ∧ (b = true → ∀ a, H a = none → ts a cls d D σ H) ∧ (b = false → wHds K Wout D r cls d σ H)
  | (c, some i, ts) :: r => fun cls d σ H => ∃ b, PySem.W.exmOne K cls c = some b ∧ (b = true → ∀ a, H a = none → ts a cls d (goneD i D) (σ.set i (some (.ref a))) H) ∧ (b = false → wHds K Wout D r cls d σ H)
/-- the suites are read where the caught object is known to have no context -/
abbrev SuOk (X : Cx) (ss : List Stmt) (ts : SuT) : Prop := ∀ (a : Addr) (oe : Obj) (cls : Value) (d : Option Addr) (pn : List (Addr × Obj)), L2N.Zn cls d oe → (∃ vs, oe.data = .fields vs) → PSs (X.suite a ((a, oe) :: pn)) ss (ts a cls d)
inductive Hds (X : Cx) : List ExceptHandler → List (Value × Option Nat × SuT) → Prop
  | nil : Hds X [] []
  | plain {x : Str} {c : Value} {ts : SuT} {b₀ : Stmt} {suite : List Stmt} {np pos' : Pos} {hds : List ExceptHandler} {l : List (Value × Option Nat × SuT)} (hc : Names X x c) (hsu : SuOk X (b₀ :: suite) ts) (r : Hds X hds l) :
      Hds X (.ExceptHandler (some (.Name x np)) none (b₀ :: suite) pos' :: hds) ((c, none, ts) :: l)
  | named {x n : Str} {c : Value} {i : Nat} {ts : SuT} {b₀ : Stmt} {suite : List Stmt} {np pos' : Pos} {hds : List ExceptHandler} {l : List (Value × Option Nat × SuT)} (hN : X.N.Nodup) (hi : X.N[i]? = some n) (hln : X.env.kindOf n = some .local)
      (hc : Names X x c) (hsu : SuOk X (b₀ :: suite) ts) (r : Hds X hds l) :
      Hds X (.ExceptHandler (some (.Name x np)) (some n) (b₀ :: suite) pos' :: hds) ((c, some i, ts) :: l)
/-- the error at a has come down to X's own frame and stands in s; sI: the state without it -/
structure Down (X : Cx) (pins : List (Addr × Obj)) (σ : St) (H : Hp) (B : Heap) (a : Addr) (cls : Value) (d : Option Addr) (sI s : Shared) : Prop where
  was : Inv X pins σ H sI
  nb : ∀ b o, sI.heap.get? b = some o → b ∉ frs X.stack → B.get? b = some o
  up : sI.heap.UpToSlots s.heap
  os : s.os = sI.os
  bare : AllBare s.gens
  free : H a = none
  fly : HandSPX.FlyingZ B (X.env :: X.outer) a (L2N.Zn cls d) s.heap
section
variable {X : Cx} {pins : List (Addr × Obj)} {σ : St} {H : Hp} {B : Heap} {a : Addr} {cls : Value} {d : Option Addr} {sI s : Shared}
theorem Down.inv (K : Down X pins σ H B a cls d sI s) : Inv X pins σ H s := K.was.landed K.nb K.fly.1 K.up K.os K.bare
theorem Down.apart (K : Down X pins σ H B a cls d sI s) (hf : X.env.frame = some X.env.locals) : a ≠ X.env.locals ∧ a ∉ X.fs := by
  have no : a ∉ frs (X.env :: X.outer) := fun hm => by
    obtain ⟨oe, vs, e1, _, e3⟩ := K.fly.there
    obtain ⟨_, o', e2, nf⟩ := K.fly.2.2.1.mem hm
    rw [e1] at e2
    cases e2
    exact nf _ e3
  refine ⟨fun z => no ?_, fun hm => no ?_⟩
  · exact List.mem_filterMap.mpr ⟨X.env, List.mem_cons_self, by rw [hf, z]⟩
  · obtain ⟨e, he, q⟩ := List.mem_filterMap.mp hm
    exact List.mem_filterMap.mpr ⟨e, List.mem_cons_of_mem _ he, q⟩
/-- the same at a heap where only the flight has been set -/
theorem Down.next (K : Down X pins σ H B a cls d sI s) {h' : Heap} (fl : HandSPX.FlyingZ B (X.env :: X.outer) a (L2N.Zn cls d) h') (up : s.heap.UpToSlots h') : Down X pins σ H B a cls d sI { s with heap := h' } :=
  ⟨K.was, K.nb, K.up.trans up, K.os, K.bare, K.free, fl⟩
/-- the context of a suite, as soon as the object is looked at -/
theorem Down.at (K : Down X pins σ H B a cls d sI s) (hf : X.env.frame = some X.env.locals) : ∃ oe, L2N.Zn cls d oe ∧ (∃ vs, oe.data = .fields vs) ∧ s.heap.get? a = some oe ∧ Inv (X.suite a ((a, oe) :: (X.pn ++ pins))) [] σ H s := by
  obtain ⟨oe, vs, e1, e2, e3⟩ := K.fly.there
  obtain ⟨n1, n2⟩ := K.apart hf
  exact ⟨oe, e2, ⟨vs, e3⟩, e1, K.inv.suite e1 e3 K.free n1 n2⟩
theorem Down.look (K : Down X pins σ H B a cls d sI s) (hf : X.env.frame = some X.env.locals) {x : Str} {c : Value} {np : Pos} {b : Bool} {E : Value → Shared → Prop} {Q : Bool → Shared → Prop} (hc : Names X x c) (hb : PySem.W.exmOne X.K cls c = some b) (q : Q b s) :
    wpAny (model X.prog X.w) (X.A.mark (some (.ref a))) (eval (.Name x np) X.env) (fun v s1 => wpAny (model X.prog X.w) (X.A.mark (some (.ref a))) (excMatches (.ref a) v) Q E s1) E s := by
  obtain ⟨oe, z, _, e1, S⟩ := K.at hf
  have LT : PySem.W.Looks (model X.prog X.w) s.heap (typeOf (.ref a)) cls := fun A Q E s' k q => wpAny_typeOf_ref (k _ _ e1) (by rw [z.1]; exact q)
  have m : wpAny (model X.prog X.w) (X.A.mark (some (.ref a))) (excMatches (.ref a) c) Q E s := (PySem.W.exm_one (M := model X.prog X.w) K.inv.kIn LT hb).here q
  obtain ⟨hg, hdb, hm | ⟨hm, hv, hnn⟩⟩ := hc
  · exact ld_glob (X := X.suite a ((a, oe) :: (X.pn ++ pins))) S hg hm m hdb
  · exact ld_blt (X := X.suite a ((a, oe) :: (X.pn ++ pins))) S hg hm hv m hnn hdb
/-- no clause has taken it: it flies on -/
theorem Down.pass (K : Down X pins σ H B a cls d sI s) (hs : X.stack = X.env :: X.outer) (hf : X.env.frame = some X.env.locals) {Wout : WX} (tk : L2N.Takes X Wout) (w : Wout cls d σ H) {Q : Flow → Shared → Prop} :
    wpAny (model X.prog X.w) X.A (handleBy (.ref a) X.env []) Q X.xe s := by
  obtain ⟨_, _, _, oe, vs, T, oT, ts, he, _, hd, h1, _⟩ := id K.fly
  refine wpAny_handleBy_nil ?_
  unfold PySem.passOn
  refine wpAny_bind (wpAny_field he hd h1 ?_)
  rw [if_neg (show ¬ ((Value.ref T == Value.none) = true) from by simp)]
  have on : wpAny (model X.prog X.w) X.A (setFlight (.ref a) X.env.frame) (fun _ s4 => wpAny (model X.prog X.w) X.A (throw (.ref a) : Sem Flow) Q X.xe s4) X.xe s := by
    rw [hf]
    refine HandSPX.setFlight_upZ K.fly fun h4 held up4 => wpAny_throw (tk _ _ ?_)
    exact ⟨a, B, sI, pins, σ, H, cls, d, rfl, K.was, K.nb, K.up.trans up4, .inr (.inr (by rw [hs]; exact held)), K.free, K.os, K.bare, w⟩
  first
    | exact wpAny_bind (wpAny_pure (wpAny_bind on))
    | exact wpAny_bind on
/-- what a suite leaves, where the clause's name goes behind it -/
theorem sp_gone {oe : Obj} {i : Nat} {n : Str} {pos : Pos} {D : Ends} {f : Flow} {s6 : Shared} (ok : X.Ok) (hN : X.N.Nodup) (hi : X.N[i]? = some n) (hl : X.env.kindOf n = some .local) (hsp : SP (X.suite a ((a, oe) :: (X.pn ++ pins))) [] (goneD i D) f s6) :
    wpAny (model X.prog X.w) X.A (do bindName X.env n .none; unbindBehindTheSuite X.env n pos) (fun _ s7 => SP X pins D f s7) X.xe s6 := by
  cases f with
  | ret u =>
    obtain ⟨v, t, H6, S6, r, q⟩ := hsp
    exact gone_ok (S6.unsuite ok) hN hi hl fun _ J => ⟨v, _, H6, J, r, q⟩
  | next =>
    obtain ⟨t, H6, S6, q⟩ := hsp
    exact gone_ok (S6.unsuite ok) hN hi hl fun _ J => ⟨_, H6, J, q⟩
  | brk =>
    obtain ⟨t, H6, S6, q⟩ := hsp
    exact gone_ok (S6.unsuite ok) hN hi hl fun _ J => ⟨_, H6, J, q⟩
  | cont =>
    obtain ⟨t, H6, S6, q⟩ := hsp
    exact gone_ok (S6.unsuite ok) hN hi hl fun _ J => ⟨_, H6, J, q⟩
theorem sp_out {oe : Obj} {D : Ends} {f : Flow} {s6 : Shared} (ok : X.Ok) (hsp : SP (X.suite a ((a, oe) :: (X.pn ++ pins))) [] D f s6) : SP X pins D f s6 := by
  cases f with
  | ret u =>
    obtain ⟨v, t, H6, S6, r, q⟩ := hsp
    exact ⟨v, t, H6, S6.unsuite ok, r, q⟩
  | next =>
    obtain ⟨t, H6, S6, q⟩ := hsp
    exact ⟨t, H6, S6.unsuite ok, q⟩
  | brk =>
    obtain ⟨t, H6, S6, q⟩ := hsp
    exact ⟨t, H6, S6.unsuite ok, q⟩
  | cont =>
    obtain ⟨t, H6, S6, q⟩ := hsp
    exact ⟨t, H6, S6.unsuite ok, q⟩
theorem sp_try {xe : Value → Shared → Prop} {D : Ends} {f : Flow} {s1 : Shared} (ok : X.Ok) (hsp : SP (X.tr (X.pn ++ pins) xe) [] D f s1) : SP X pins D f s1 := by
  cases f with
  | ret u =>
    obtain ⟨v, t, H6, S6, r, q⟩ := hsp
    exact ⟨v, t, H6, S6.ofTry ok, r, q⟩
  | next =>
    obtain ⟨t, H6, S6, q⟩ := hsp
    exact ⟨t, H6, S6.ofTry ok, q⟩
  | brk =>
    obtain ⟨t, H6, S6, q⟩ := hsp
    exact ⟨t, H6, S6.ofTry ok, q⟩
  | cont =>
    obtain ⟨t, H6, S6, q⟩ := hsp
    exact ⟨t, H6, S6.ofTry ok, q⟩
/-- the clauses from some one on -/
theorem Hds.go {Wout : WX} {D : Ends} (hs : X.stack = X.env :: X.outer) (hf : X.env.frame = some X.env.locals) (tk : L2N.Takes X Wout) (K : Down X pins σ H B a cls d sI s) {hds : List ExceptHandler} {l : List (Value × Option Nat × SuT)} (hk : Hds X hds l) :
    wHds X.K Wout D l cls d σ H → wpAny (model X.prog X.w) X.A (handleBy (.ref a) X.env hds) (SP X pins D) X.xe s := by
  have ok := K.inv.ok
  induction hk with
  | nil => exact fun w => K.pass hs hf tk w
  | @plain x c ts b₀ suite np pos' hds2 l2 hc hsu r ih =>
    rintro ⟨b, hb, yes, no⟩
    refine wpAny_handleBy_cons (codeAny_handlers_test (K.look hf hc hb ?_)) (by intro q; cases q)
    cases b with
    | false => exact ih (no rfl)
    | true =>
      refine codeAny_handlers_suite (HandSPX.lands_againZ K.fly fun h4 fl4 up4 => ?_)
      obtain ⟨oe, z, hv, _, S⟩ := (K.next fl4 up4).at hf
      exact wpAny_mono ((hsu a oe cls d (X.pn ++ pins) z hv).run [] _ _ _ _ S (yes rfl a K.free)) (fun f s6 hsp => sp_out ok hsp) fun _ _ z => z.elim
  | @named x n c i ts b₀ suite np pos' hds2 l2 hN hi hl hc hsu r ih =>
    rintro ⟨b, hb, yes, no⟩
    refine wpAny_handleBy_cons (codeAny_handlers_test (K.look hf hc hb ?_)) (by intro q; cases q)
    cases b with
    | false => exact ih (no rfl)
    | true =>
      refine codeAny_handlers_suite_as (HandSPX.lands_againZ K.fly fun h4 fl4 up4 => ?_)
      obtain ⟨oe, z, hv, _, S⟩ := (K.next fl4 up4).at hf
      refine store_ok (X := X.suite a ((a, oe) :: (X.pn ++ pins))) (v := .ref a) S hN hi (.inl hl) rfl (fun s5 S5 => ?_) (.inr hl)
      exact wpAny_mono ((hsu a oe cls d (X.pn ++ pins) z hv).run [] s5 _ _ _ S5 (yes rfl a K.free)) (fun f s6 hsp => sp_gone ok hN hi hl hsp) fun _ _ z => z.elim
end
section
variable {X : Cx} {body : List Stmt} {h₀ : ExceptHandler} {hds : List ExceptHandler} {l : List (Value × Option Nat × SuT)} {pos : Pos} {tb : WX → TS} {Wout : WX}
theorem ps_try_hds (hs : X.stack = X.env :: X.outer) (hf : X.env.frame = some X.env.locals) (tk : L2N.Takes X Wout)
    (hb : ∀ (W : WX) (pn : List (Addr × Obj)) (xe : Value → Shared → Prop), L2N.Takes (X.tr pn xe) W → PassesOwn (model X.prog X.w) X.A X.env xe → PSs (X.tr pn xe) body (tb W))
    (hh : Hds X (h₀ :: hds) l) : PS X (.Try body (h₀ :: hds) [] [] pos) (fun D σ H => tb (wHds X.K Wout D l) D σ H) := by
  refine ⟨fun pins s σ H D I h => ?_⟩
  have ok := I.ok
  refine wpAny_Try_except ?_
  have took : ∀ (xe : Value → Shared → Prop), (∀ u s', L2N.XE (X.tr (X.pn ++ pins) xe) (wHds X.K Wout D l) u s' →
      wpAny (model X.prog X.w) X.A (noteFrame u X.env) (fun _ s2 => wpAny (model X.prog X.w) X.A (setFlight u none) (fun _ s3 => wpAny (model X.prog X.w) X.A (handleBy u X.env (h₀ :: hds)) (SP X pins D) X.xe s3) X.xe s2) X.xe s') := fun xe u s' xx => ?_
  · refine wpAny_mono ((hb (wHds X.K Wout D l) (X.pn ++ pins) _ (took _) PassesOwn.looking).run [] s σ H D (I.toTry _) h) (fun f s1 hsp => ?_) (fun e s1 he => he)
    have q : SP X pins D f s1 := sp_try ok hsp
    cases f with
    | next => exact wpAny_execs_nil q
    | brk => exact q
    | cont => exact q
    | ret u => exact q
  · obtain ⟨a, B, sI, pins', σ', H', cls, d, rfl, J', nb, up, sky, na, os, ag, w⟩ := xx
    have sky' : Sky B (X.env :: X.outer) a (L2N.Zn cls d) X.env.locals s'.heap := by rw [← hs]; exact sky
    show wpAny (model X.prog X.w) X.A (noteFrame (.ref a) X.env) _ _ _
    refine L2N.Sky.land L2N.Zn.steady (by rw [ok.frames, hs]) hf sky' fun h3 fl3 up3 => ?_
    exact hh.go hs hf tk (s := { s' with heap := h3 }) ⟨J'.ofTry ok, nb, up.trans up3, os, ag, na, fl3⟩ w
end
end L2
/-! ### isinstance of a caught error that has its own dict -/
namespace PySem.W
open PySem PySem.Spec PySem.Calls PyProof.Rows
section
variable {prog : Program} {w : World} {A : Around} {E : Value → Shared → Prop} {s : Shared} {K : Frag} {x D : Addr} {ox : Obj} {od : Option Obj}
theorem findObj_dataD {C : Addr} {name : Str} {a g : Value} (hc : (clsIn K C).isSome = true) (ha : findIn K (.ref C) name = some (some a)) (hg : specialIn K a "__get__" = some (some g)) (ht : takesIn K a = some true) : findObj K C od name = some (.bind g a) := by
  obtain ⟨cd, hc⟩ := Option.isSome_iff_exists.mp hc
  unfold findObj
  rw [hc, Option.bind_some, ha, Option.bind_some]
  simp [hg, ht]
theorem kin_classD {Q : Option Value → Shared → Prop} (hga : findIn K (.ref D) "__getattribute__" = some (some (.builtin "BaseException.__getattribute__"))) (hgt : findIn K (.ref D) "__getattr__" = some none) (hsub : subIn K (.ref D) (.type "BaseException") = some true)
    (hdct : hasDictIn K D = true) (ha : findIn K (.ref D) "__class__" = some (some (.builtin "object.__class__")))
    (hn : specialIn K (.builtin "object.__class__") "__get__" = some (some (.builtin "getset_descriptor.__get__"))) (htk : takesIn K (.builtin "object.__class__") = some true) (hm : mroIn K D (.type "object") = some true)
    (X : K.In s.heap) (I : InstAt s.heap x ox D od) (h : Q (some (.ref D)) { s with toks := s.toks + 1 }) : wpAny (model prog w) A (getAttr? (.ref x) "__class__") Q E s := by
  have hf : findObj K D od "__class__" = some (.bind (.builtin "getset_descriptor.__get__") (.builtin "object.__class__")) := findObj_dataD (by obtain ⟨cd, hc, _⟩ := any_some hdct; rw [hc]; rfl) ha hn htk
  obtain ⟨hp, g, d, t, os⟩ := s
  have L0 := I.type (M := model prog w)
  have L1 := looks_findIn (M := model prog w) X hga
  have L2 := looks_findIn (M := model prog w) X hgt
  have L3 := looks_find (M := model prog w) X I hf
  have sub : Looks (model prog w) hp (isInstance (.ref x) (.type "BaseException")) true := L0.andThen (looks_subIn X hsub)
  have hx0 : (false && onTheHeap (Value.builtin "BaseException.__getattribute__")) = false := rfl
  have hx2 : (Value.builtin "BaseException.__getattribute__" == Value.builtin "object.__getattribute__") = false := by decide +kernel
  have hx1 : (onTheHeap (Value.ref D) && Value.builtin "BaseException.__getattribute__" == Value.builtin "object.__getattribute__") = false := by rw [hx2]; rfl
  unfold getAttr? getAttrBy? getAttrBy
  refine wpAny_bind (wpAny_mkText (wpAny_bind (wpAny_attempt (wpAny_holding (wpAny_bind (L0.at (wpAny_bind (L1.at ?_))))))))
  show wpAny _ _ (if (onTheHeap (Value.ref D) && Value.builtin "BaseException.__getattribute__" == Value.builtin "object.__getattribute__") = true then _ else _) _ _ _
  rw [hx1, if_neg Bool.false_ne_true]
  unfold getAttrByItsOwn hookBefore
  refine wpAny_bind ?_
  rw [if_pos (show onTheHeap (Value.ref D) = true from rfl)]
  refine L2.at ?_
  refine wpAny_bind (wpAny_attempt (wpAny_holding ?_))
  unfold callGetattribute
  rw [hx0, if_neg Bool.false_ne_true]
  unfold boundAndCalled
  rw [PySem.F.excAttr_ValueError.ga.bind (.ref x)]
  refine wpAny_bind (wpAny_pure ?_)
  show wpAny _ _ (call (.builtin "BaseException.__getattribute__") [.ref x, .str "__class__" t]) _ _ _
  refine wpAny_call (codeAny_call_builtin PySem.F.excAttr_ValueError.ga.plain PySem.F.entry_bexc_ga ?_)
  refine @check_slot (model prog w) _ _ ⟨hp, g, d, t + 1, os⟩ "BaseException.__getattribute__" "BaseException" "__getattribute__" (.ref x) [.str "__class__" t] [] _ (by decide +kernel) (by decide +kernel) sub (PySem.F.args_bexc_ga (.ref x) (.str "__class__" t)) ?_
  unfold Builtin.«object.__getattribute__»
  refine wpAny_bind (wpAny_of_eq (a := ((Value.ref x : Value), [Value.str "__class__" t])) (by first | rfl | (simp only [slotArgs]; rfl)) ?_)
  refine wpAny_bind (wpAny_pure (wpAny_bind (L0.at (wpAny_bind (L3.at ?_)))))
  show wpAny _ _ (holding [Value.builtin "object.__class__"] (call (.builtin "getset_descriptor.__get__") [.builtin "object.__class__", .ref x, .ref D]) >>= ret) _ _ _
  refine wpAny_bind (wpAny_holding (wpAny_call (class_get (s := ⟨hp, g, d, t + 1, os⟩) (ox := ox) (od := od) X I hm ?_)))
  refine wpAny_pure ?_
  show wpAny _ _ (handedOut (.ref D)) _ _ _
  rw [handedOut_of (v := .ref D) rfl]
  first
    | exact wpAny_pure (wpAny_pure h)
    | exact wpAny_pure h
    | exact wpAny_pure (wpAny_bind (wpAny_pure (wpAny_pure h)))
theorem kitx_excD (hga : findIn K (.ref D) "__getattribute__" = some (some (.builtin "BaseException.__getattribute__"))) (hgt : findIn K (.ref D) "__getattr__" = some none) (hsub : subIn K (.ref D) (.type "BaseException") = some true) (hdct : hasDictIn K D = true) (ha : findIn K (.ref D) "__class__" = some (some (.builtin "object.__class__")))
    (hn : specialIn K (.builtin "object.__class__") "__get__" = some (some (.builtin "getset_descriptor.__get__"))) (htk : takesIn K (.builtin "object.__class__") = some true) (hm : mroIn K D (.type "object") = some true) :
    KitX K (.ref x) (.ref D) (fun h => InstAt h x ox D od) where
  ty := fun _ _ _ I => I.type
  it := fun _ _ X _ => by
    obtain ⟨cdD, hcD, _⟩ := any_some hdct
    unfold clsIn at hcD
    split at hcD
    · rename_i c' d' cd' sl' ho
      intro A' Q' E' s' k q
      unfold isType loadHead
      exact wpAny_bind (wpAny_loadPart (k _ _ (X _ _ ho)) (wpAny_pure q))
    · cases hcD
  ne := fun h tp dd its n sl X htp => by
    obtain ⟨cdD, hcD, _⟩ := any_some hdct
    refine Bool.eq_false_iff.mpr fun q => ?_
    have e : D = tp := Value.ref.inj (beq_iff_eq.mp q)
    subst e
    unfold clsIn at hcD
    split at hcD
    · rename_i c' d' cd' sl' ho
      have z := (X _ _ ho).symm.trans htp
      cases z
    · cases hcD
  ca := fun X I k => kin_classD hga hgt hsub hdct ha hn htk hm X I k
end
end PySem.W
namespace L2
open PySem PySem.Spec PyProof.Rows
theorem inst_of {X : Cx} {a D dd : Addr} {oe : Obj} {pn pins : List (Addr × Obj)} {σ : St} {H : Hp} {s : Shared} {fs : List (Str × V)} (hz : Zc (.ref D) (some dd) oe) (hf : ∃ vs, oe.data = .fields vs) (I : Inv (X.suite a ((a, oe) :: pn)) pins σ H s) (ed : H dd = some (.xd fs)) :
    ∃ od, PySem.W.InstAt s.heap a oe D (some od) := by
  obtain ⟨hget, _⟩ := I.pin (a, oe) (List.mem_append.mpr (.inl List.mem_cons_self))
  obtain ⟨vs, hv⟩ := hf
  have hx : ObjOk X.prog X.w H s.heap dd (.xd fs) := I.hok dd _ ed
  obtain ⟨mA, hns, hr⟩ := hx
  obtain ⟨od, ho, hl⟩ := lookIn_ns hns
  refine ⟨od, ?_⟩
  obtain ⟨oc, oo, oda, osl⟩ := oe
  obtain ⟨h1, h2⟩ := hz
  dsimp only at h1 h2 hv
  subst h1 h2 hv
  exact ⟨hget, rfl, rfl, ho⟩
/-- isinstance(e, c), e the error that the suite holds: of the class at D, with a dict of its own -/
def rIsD (K : PySem.W.Frag) (a : Addr) (cls : Value) (d : Option Addr) : List V → Hp → VK → Prop := fun xs H Q => ∃ (D : Addr) (c : V) (cv : Value) (b : Bool) (dd : Addr) (fs : List (Str × V)), cls = .ref D ∧ ExcC K D ∧ xs = [.ref a, c] ∧ ClsV c cv ∧ PySem.W.kitOne K (.ref D) cv = some b ∧ d = some dd ∧ H dd = some (.xd fs) ∧ Q (.bl b) H
theorem call_isD {X : Cx} {a : Addr} {cls : Value} {d : Option Addr} {oe : Obj} {pn : List (Addr × Obj)} (hz : Zc cls d oe) (hf : ∃ vs, oe.data = .fields vs) : CallR (X.suite a ((a, oe) :: pn)) (.builtin "isinstance") (rIsD X.K a cls d) := by
  intro pins s σ H xs us Q I r h
  obtain ⟨D, c, cv, b, dd, fs, rfl, C, rfl, hcv, e, rfl, ed, q⟩ := h
  cases r with
  | cons rx rr =>
    cases rr with
    | cons rt rr =>
      cases rr
      cases rx
      have ec := hcv.eq rt
      subst ec
      obtain ⟨od, J⟩ := inst_of hz hf I ed
      exact PySem.W.kia_one (PySem.W.kitx_excD C.hg C.hk C.hs C.hd C.ha C.hn C.ht C.hm) I.kIn J e (fun z => nomatch z) fun tk => ⟨.bl b, H, I.kept (t' := tk) fun _ _ z => z, rfl, q⟩
/-- isinstance(e, (c, ..)), the tuple made before -/
def rIsDT (K : PySem.W.Frag) (a : Addr) (cls : Value) (d : Option Addr) : List V → Hp → VK → Prop := fun xs H Q => ∃ (D tp : Addr) (cs : List V) (us : List Value) (b : Bool) (dd : Addr) (fs : List (Str × V)), cls = .ref D ∧ ExcC K D ∧ xs = [.ref a, .ref tp] ∧ H tp = some (.tup cs) ∧ Paired ClsV cs us ∧ PySem.W.kitAny K (.ref D) us = some b ∧ d = some dd ∧ H dd = some (.xd fs) ∧ Q (.bl b) H
theorem call_isDT {X : Cx} {a : Addr} {cls : Value} {d : Option Addr} {oe : Obj} {pn : List (Addr × Obj)} (hz : Zc cls d oe) (hf : ∃ vs, oe.data = .fields vs) : CallR (X.suite a ((a, oe) :: pn)) (.builtin "isinstance") (rIsDT X.K a cls d) := by
  intro pins s σ H xs us Q I r h
  obtain ⟨D, tp, cs, ws, b, dd, fs, rfl, C, rfl, et, hcs, e, rfl, ed, q⟩ := h
  cases r with
  | cons rx rr =>
    cases rr with
    | cons rt rr =>
      cases rr
      cases rx
      cases rt
      obtain ⟨_, its, rv, o, h1, h2, h3⟩ := (show ObjOk X.prog X.w H s.heap tp (.tup cs) from I.hok tp _ et)
      have ei := ClsV.all hcs rv
      subst ei
      obtain ⟨od, J⟩ := inst_of hz hf I ed
      obtain ⟨oc, oo, oda, osl⟩ := o
      dsimp only at h2 h3
      subst h2
      obtain ⟨n, h3⟩ := h3
      subst h3
      exact PySem.W.kia_tup (PySem.W.kitx_excD C.hg C.hk C.hs C.hd C.ha C.hn C.ht C.hm) I.kIn J h1 e (fun z => nomatch z) fun tk => ⟨.bl b, H, I.kept (t' := tk) fun _ _ z => z, rfl, q⟩
end L2

namespace HotX
open PySem PySem.Spec PyProof.Rows
section
variable {prog : Program} {w : World} {A : Around} {E : Value → Shared → Prop} {s : Shared}
theorem pyNext_list_end_hot {it l x1 : Addr} {i : Nat} {items} {Q : Option Value → Shared → Prop} (hot : HotAt A x1 s.heap)
    (hit : s.heap.IsListIter it l i) (hl : s.heap.IsList l items) (hx : items[i]? = none)
    (hQ : ∀ h', Heap.ExtBut it s.heap h' → Q none { s with heap := h' }) : wpAny (model prog w) A (pyNext (.ref it)) Q E s := by
  obtain ⟨hh, o1, vs1, h1, d1, c1⟩ := hot
  obtain ⟨o, ho, hc, hd⟩ := id hit
  obtain ⟨ol, hol, _, nl, hdl⟩ := hl
  have ne : x1 ≠ it := fun z => by
    rw [z, ho] at h1
    have e := Option.some.inj h1
    rw [← e, hd] at d1
    have e2 := Data.fields.inj d1
    rw [← e2] at c1
    simp at c1
  unfold pyNext
  refine wpAny_bind (wpAny_attempt (wpAny_callSpecial?_slot (name := Str.ofString "__next__") hit.typeIs slot_listiter_next
    (wpAny_call_entry slot_listiter_next hit.typeIs entry_listiter_next ?_ (args_listiter_next _))))
  show wpAny _ _ (field (.ref it) 0 >>= _) _ _ s
  refine wpAny_bind (wpAny_field ho hd (x := .ref l) rfl ?_)
  show wpAny _ _ (if (Value.ref l == Value.none) = true then _ else _) _ _ s
  rw [if_neg (show ¬ ((Value.ref l == Value.none) = true) from Bool.false_ne_true)]
  show wpAny _ _ (field (.ref it) 1 >>= _) _ _ s
  refine wpAny_bind (wpAny_field ho hd (x := .int i 0) rfl ?_)
  show wpAny _ _ (seqItems? (.ref l) >>= _) _ _ s
  refine wpAny_bind (wpAny_seqItems hol hdl ?_)
  simp only [Int.toNat_natCast, hx]
  refine wpAny_bind (wpAny_rule (wpAny_bind (wpAny_setField ho hd (by simp) ?_)))
  show wpAny _ _ (newExc (.type "StopIteration") [] >>= _) _ _ _
  refine wpAny_bind ?_
  simp only [newExc, newTuple]
  refine wpAny_bind (wpAny_newObj_type ?_ (by size_fits))
  refine wpAny_bind (m := firstArgMember _ _) (wpAny_of_eq (a := Value.none) (by first | rfl | (simp only [firstArgMember]; rfl)) ?_)
  refine wpAny_newObj_type ?_ (by size_fits)
  have h1' : ∀ f, (s.heap.update it f).get? x1 = some o1 := fun f => by
    rw [Heap.get?_update_other _ _ (Ne.symm ne)]
    exact h1
  refine raiseNew_hot ⟨hh, o1, vs1, Heap.get?_push_of_some _ (Heap.get?_push_of_some _ (h1' _)), d1, c1⟩ (Nat.ne_of_lt (Heap.lt_size (Heap.get?_push_of_some _ (h1' _)))) (Heap.get?_push_size _ rfl) rfl (by first | (simp; done) | (simp; omega) | (simp only [Array.size_append]; simp; omega)) ?_
  refine wpAny_bind (wpAny_isInstance (T := "StopIteration") (b := true) ⟨_, Heap.get?_update_self _ (Heap.get?_push_size _ rfl) rfl, rfl⟩ isSubtype_stop ?_)
  refine wpAny_pure (hQ _ fun b ob hb e => ?_)
  have e2 : ∀ f, (s.heap.update it f).get? b = some ob := fun f => by
    rw [Heap.get?_update_other _ _ (Ne.symm hb)]
    exact e
  rw [Heap.get?_update_other _ _ (Nat.ne_of_gt (Heap.lt_size (Heap.get?_push_of_some _ (e2 _))))]
  exact Heap.get?_push_of_some _ (Heap.get?_push_of_some _ (e2 _))
/-- a list's iterator, walked where an error is handled -/
theorem walks_listH (I ax x1 : Addr) (hne : ax ≠ I) (hn1 : x1 ≠ I) (hh : A.handled = some (.ref x1)) (items : Array Value) :
    Walks prog w A I [I, ax, x1] [I] items.size (fun i v => items[i]? = some v) (fun i h => h.IsListIter I ax i ∧ h.IsList ax items ∧ ∃ o1 vs1, h.get? x1 = some o1 ∧ o1.data = .fields vs1 ∧ vs1[2]? = some .none) where
  sub := fun b hb => by simp at hb; simp [hb]
  frame := fun _ _ _ st hk => ⟨st.1.at fun o e => hk I (by simp) o e, st.2.1.at fun o e => hk ax (by simp) o e, by
    obtain ⟨o1, vs1, a, b, c⟩ := st.2.2
    exact ⟨o1, vs1, hk x1 (by simp) _ a, b, c⟩⟩
  item := fun i s Q E hi st hQ => by
    refine wpAny_pyNext_list_item st.1 st.2.1 (x := items[i]) (by simp [hi]) fun h' hit' hs' => ?_
    obtain ⟨o1, vs1, a, b, c⟩ := st.2.2
    exact hQ _ h' s.toks (by simp [hi]) ⟨hit', st.2.1.extBut hs'.extBut hne, o1, vs1, hs'.extBut x1 _ hn1 a, b, c⟩ fun b o hb e => hs'.extBut b o (fun h => hb (by simp [h])) e
  done := fun s Q E st hQ => by
    obtain ⟨o1, vs1, a, b, c⟩ := st.2.2
    exact pyNext_list_end_hot ⟨hh, o1, vs1, a, b, c⟩ st.1 st.2.1 (by simp) fun h' he' => hQ h' s.toks fun b o hb e => he' b o (fun h => hb (by simp [h])) e
  self := fun _ _ _ _ st hQ => wpAny_pyIter_listiter st.1 hQ
end
end HotX
namespace L2
open PySem PySem.Spec PyProof.Rows
/-! ### all(xs) of a list of bools, where an error is handled -/
theorem cr_allH {X : Cx} (hc : L2H.HotC X) : CallR X (.builtin "all") (rAll X.K) := by
  intro pins s σ H vs us Q I r h
  obtain ⟨a, bs, rfl, hs, q⟩ := h
  obtain ⟨its, rv, hl, _⟩ := I.list hs
  rw [Vals.ref1 r]
  have hb := rv.bls
  obtain ⟨x1, hh, o1, vs1, g1, d1, c1⟩ := hc.at I
  have hn1 : x1 ≠ s.heap.objs.size := Nat.ne_of_lt (Heap.lt_size g1)
  refine call_all_walk (iter_any hl.isList fun s₂ e2 st hne => ?_)
  subst e2
  refine ⟨_, _, _, _, _, _, _, rfl, HotX.walks_listH (A := X.A.in1) _ a x1 hne hn1 hh its.toArray, ⟨st.1, st.2, o1, vs1, Heap.get?_push_of_some _ g1, d1, c1⟩, truth_bools hb, fun h' tk hk => ?_⟩
  refine ⟨.bl _, H, I.kept fun b o eo => hk b o (fun hmem => ?_) (Heap.get?_push_of_some _ eo), ?_, q⟩
  · rcases List.mem_cons.mp hmem with e1 | hmem
    · exact absurd (e1 ▸ Heap.lt_size eo) (Nat.lt_irrefl _)
    · cases hmem
  · show Value.bool _ = Value.bool _
    rw [← all_range, hb, List.size_toArray, List.length_map]
/-! ### a list comprehension where an error is handled: its block keeps the pins, among them the handled error -/
abbrev Cx.blkH (X : Cx) (s : Shared) (H : Hp) (scope : Scope) (ce : Env) (fp : List Addr) : Cx := (X.blk s H scope ce fp).tr X.pn fun _ _ => False
section
variable {X : Cx} {pins : List (Addr × Obj)} {σ : St} {H : Hp} {s : Shared}
theorem blk_pins {scope : Scope} {ce : Env} {fp : List Addr} {t : St} {s4 : Shared} (I : Inv X pins σ H s) (Ib : Inv (X.blk s H scope ce fp) [] t H s4) (kp : ∀ b o, s.heap.get? b = some o → s4.heap.get? b = some o) (hL : ce.locals = s.heap.objs.size) :
    Inv (X.blkH s H scope ce fp) [] t H s4 := by
  refine ⟨Ib.ok.toTry _ _, Ib.os, Ib.bare, Ib.base, Ib.loc, Ib.cell, Ib.free, Ib.freeC, fun p hp => ?_, Ib.hok, Ib.len⟩
  have hp1 : p ∈ X.pn ++ pins := List.mem_append_left _ (by simpa using hp)
  obtain ⟨g, n, ne, nf, dd⟩ := I.pin p hp1
  exact ⟨kp _ _ g, n, by rw [show (X.blkH s H scope ce fp).env.locals = ce.locals from rfl, hL]; exact Nat.ne_of_lt (Heap.lt_size g), fun hm => (List.mem_cons.mp (I.stkSub p.1 hm)).elim ne nf, dd⟩
end
/-- the loop ahead of some turn -/
def LcSt (Y : Cx) (t : St) (fp : List Addr) (tn : Nat → Heap → Prop) (W : Nat → Nat → Hp → Prop) (n : Nat) (s : Shared) : Prop := ∃ i H, Inv Y [] t H s ∧ tn i s.heap ∧ (∀ b ∈ fp, H b = none) ∧ W i n H
/-- one turn of the block in the context Y, that bears the handled error -/
theorem lc_turnH {Y : Cx} {σ : St} {vs fp : List Nat} {tn : Nat → Heap → Prop} {J : It} {it D : Addr} {W : Nat → Nat → Hp → Prop} {Q : VK} {elt tg : Expr} {ifs : List Expr} {g : TG} {tt : TT} {te : TE} {R : Result → Shared → Prop} {E : Value → Shared → Prop}
    (hot : L2H.HotC Y) (pg : PG Y tg g) (pt : PTs Y ifs tt) (pe : PE Y elt te) (hE : Y.xe = fun _ _ => False) (T : L2H.TurnH Y.prog Y.w Y.K tg J fp it tn)
    (stat : ∀ {t : St} {H : Hp} {s : Shared}, Inv Y [] t H s → (∀ b ∈ fp, H b = none) → ∀ b ∈ fp, FpOk Y [] H b)
    (turn : ∀ i m H, W i m H → (J.stop i H ∧ Q (.ref D) H) ∨ (J.go i H ∧ ∃ Nx : Hp → Prop, (∀ H', Nx H' → ∃ m', m' < m ∧ W (i + 1) m' H') ∧ ∀ x H', J.yld i H x H' → g x (wipe σ vs) H' fun σ2 H2 => wipe σ2 vs = wipe σ vs ∧ tt σ2 H2 fun b H3 =>
      if b = true then te σ2 H3 fun y H4 => ∃ acc, H4 D = some (.lst acc) ∧ acc.length < sizeLine ∧ Nx (upd H4 D (.lst (acc ++ [y]))) else Nx H3))
    (out : ∀ H s, Inv Y [] (wipe σ vs) H s → Q (.ref D) H → R (.ok .next) s) (n : Nat) (s : Shared) (hI : LcSt Y (wipe σ vs) fp tn W n s) :
    wpAny (model Y.prog Y.w) Y.A (pyNext (.ref it)) (fun r s₁ => match r with
      | none => R (.ok .next) s₁
      | some v => wpAny (model Y.prog Y.w) Y.A (letOwnedTupleGo tg (.ref it) v) (fun _ s₁' => wpAny (model Y.prog Y.w) Y.A (assign tg Y.env v) (fun _ s₂ =>
          wpAny (model Y.prog Y.w) Y.A (forIn ifs true fun c r => if r = true then do let ok ← isTrue c Y.env (eval c Y.env); pure (ForInStep.yield ok) else pure (ForInStep.yield r)) (fun ok s₃ =>
            if ok = true then wpAny (model Y.prog Y.w) Y.A (eval elt Y.env) (fun x s₄ =>
              wpAny (model Y.prog Y.w) Y.A (call (.builtin "list.append") [.ref D, x]) (fun _ s₅ => ∃ m, m < n ∧ LcSt Y (wipe σ vs) fp tn W m s₅) E s₄) E s₃
            else ∃ m, m < n ∧ LcSt Y (wipe σ vs) fp tn W m s₃) E s₂) E s₁') E s₁) E s := by
  obtain ⟨i, H5, I5, st5, n5, w5⟩ := hI
  have no : ∀ {α : Type} {t : Sem α} {P P' : α → Shared → Prop} {s : Shared}, wpAny (model Y.prog Y.w) Y.A t P Y.xe s → (∀ a s, P a s → P' a s) → wpAny (model Y.prog Y.w) Y.A t P' E s := fun h k => wpAny_mono h k fun _ _ z => by
    rw [hE] at z
    exact z.elim
  rcases turn i n H5 w5 with ⟨stop, qq⟩ | ⟨go, Nx, hNx, step⟩
  · refine no (T.done Y rfl rfl rfl hot i [] s _ H5 Y.xe I5 (stat I5 n5) st5 stop) fun r s6 ⟨hr, I6⟩ => ?_
    subst hr
    exact out H5 s6 I6 qq
  refine no (T.item Y rfl rfl rfl hot i [] s _ H5 Y.xe I5 (stat I5 n5) st5 go) fun r s6 ⟨u, hr, h6⟩ => ?_
  subst hr
  refine no h6 fun _ s7 ⟨x, H7, I7, r7, y7, st7, n7⟩ => ?_
  have P7 := I7.pinned (stat I7 n7) (T.obj _ _ st7)
  -- behind the turn: the iterator's objects stand as they stood, the block's own names are forgotten
  have fin : ∀ {t8 : St} {s' : Shared} {H' : Hp}, wipe t8 vs = wipe σ vs → Inv Y ([] ++ pinsAt fp s7.heap) t8 H' s' → Nx H' → ∃ m, m < n ∧ LcSt Y (wipe σ vs) fp tn W m s' := fun {t8 s' H'} hw J8 nx => by
    obtain ⟨m', hm, w'⟩ := hNx H' nx
    have at_ : ∀ b ∈ fp, ∀ o, s7.heap.get? b = some o → s'.heap.get? b = some o ∧ H' b = none := fun b hb o e => by
      have z := J8.pin (b, o) (List.mem_append_right _ (List.mem_append_right _ (mem_pinsAt hb e)))
      exact ⟨z.1, z.2.1⟩
    have len : (wipe σ vs).length = t8.length := by rw [← hw, wipe_length]
    refine ⟨m', hm, i + 1, H', (J8.unpinned (pins := [])).weak len (fun j v e => ?_), T.keep _ _ _ st7 fun b hb o e => (at_ b hb o e).1, fun b hb => ?_, w'⟩
    · rw [← hw] at e
      exact (wipe_some e).1
    · obtain ⟨o, e, _⟩ := T.obj _ _ st7 b hb
      exact (at_ b hb o e).2
  refine no (pg.run _ s7 _ H7 x u _ P7 r7 (step x H7 y7)) fun _ s8 ⟨t8, H8, I8, hw, q8⟩ => ?_
  refine no (pt.run _ s8 t8 H8 _ I8 q8) fun b s9 ⟨H9, I9, q9⟩ => ?_
  cases b with
  | false => exact fin hw I9 q9
  | true =>
    refine no (pe.run _ s9 t8 H9 _ I9 q9) fun z s10 ⟨yv, H10, I10, r10, acc, hD, hz, nx⟩ => ?_
    exact app_ok (X := Y) I10 hD hz r10 fun s11 I11 => fin hw I11 nx
section
variable {X : Cx}
theorem pe_lcH {elt tg iter : Expr} {ifs : List Expr} {scope : Scope} {own : List (Str × Nat)} {pos : Pos} {wi : TI} {g : TG} {tt : TT} {te : TE} (hc : L2H.HotC X) (hN : X.N.Nodup) (hi : L2H.PIH X tg iter wi) (ok : BlkOk X.N X.env.scope scope own)
    (hg : ∀ (s : Shared) (H : Hp) (C : Addr) (cl : List (Str × Addr)) (fp : List Addr), PG (X.blkH s H scope (compEnvC scope cl C X.env) fp) tg g) (ht : ∀ (s : Shared) (H : Hp) (C : Addr) (cl : List (Str × Addr)) (fp : List Addr), PTs (X.blkH s H scope (compEnvC scope cl C X.env) fp) ifs tt)
    (he : ∀ (s : Shared) (H : Hp) (C : Addr) (cl : List (Str × Addr)) (fp : List Addr), PE (X.blkH s H scope (compEnvC scope cl C X.env) fp) elt te) (hs : ∀ x, foldedSetIterable iter X.env x = pure x := by intro _; rfl) :
    PE X (.ListComp elt [⟨tg, iter, ifs, 0⟩] scope pos) (tLc wi g tt te (own.map (·.2))) := by
  refine ⟨fun pins s σ H Q I h => ?_⟩
  rw [eval_ListComp]
  have hfree : ∀ y ∈ scope.names, y.2 = .free → ∃ c, X.env.cells.lookup y.1 = some c := fun y hy e => (ok.free y hy e).elim (fun k => I.ok.has _ (.inl k)) fun k => I.ok.has _ (.inr k)
  refine wpAny_comprehension_free rfl hs (closure_ok hfree) ok.kind (fun y hy e => by rw [ok.uniq y hy, e]) (thn (hi.run pins s σ H _ I h) fun xv s1 hx => thn hx fun itv s2 h2 => ?_)
  obtain ⟨it, fp, tn, J, H2, e, I2, T, st2, f2, q⟩ := h2
  subst e
  refine wpAny_newObj_type (newEnv_comp ?_) (by show 0 ≤ sizeLine; decide)
  -- the new list at D, the state s3 with it
  obtain ⟨D, hD⟩ : ∃ D, s2.heap.objs.size = D := ⟨_, rfl⟩
  obtain ⟨W, ⟨m0, w0⟩, turn⟩ := q D (I2.hok.fresh (Nat.le_of_eq hD))
  have I3 : Inv X pins σ (upd H2 D (.lst [])) { s2 with heap := s2.heap.push { cls := .type "list", data := .seq ([] : List Value).toArray } } :=
    I2.laid (t' := s2.toks) (fun b o e => Heap.get?_push_of_some _ e) (Nat.le_of_eq hD) ⟨Nat.zero_le _, [], 0, .nil, by rw [← hD]; exact Heap.get?_push_size _ rfl⟩
  obtain ⟨s3, hs3⟩ : ∃ s3 : Shared, ({ s2 with heap := s2.heap.push { cls := .type "list", data := .seq ([] : List Value).toArray } } : Shared) = s3 := ⟨_, rfl⟩
  have k3 : ∀ b o, s2.heap.get? b = some o → s3.heap.get? b = some o := fun b o e => by
    rw [← hs3]
    exact Heap.get?_push_of_some _ e
  have z3 : s3.heap.objs.size = s2.heap.objs.size + 1 := by
    rw [← hs3]
    exact Heap.size_push ..
  rw [hD, hs3]
  rw [hs3] at I3
  have lt : ∀ b ∈ fp, b < s2.heap.objs.size := fun b hb => by
    obtain ⟨o, e, _⟩ := T.obj _ _ st2 b hb
    exact Heap.lt_size e
  have f3 : ∀ b ∈ fp, FpOk X pins (upd H2 D (.lst [])) b ∧ b < s3.heap.objs.size := fun b hb => by
    refine ⟨⟨?_, (f2 b hb).2⟩, by rw [z3]; exact Nat.lt_succ_of_lt (lt b hb)⟩
    rw [upd_ne (by rw [← hD]; exact Nat.ne_of_lt (lt b hb))]
    exact (f2 b hb).1
  obtain ⟨H3, hH3⟩ : ∃ H3, upd H2 D (.lst []) = H3 := ⟨_, rfl⟩
  rw [hH3] at I3 w0 f3
  -- the block
  have kb : ∀ b o, s3.heap.get? b = some o → (pushCells (s3.heap.push { cls := .type "dict", data := .dict #[] }) scope.names).get? b = some o := fun b o e => pushCells_keeps _ _ _ _ (Heap.get?_push_of_some _ e)
  have I4 := blk_pins I3 (block_start I3 ok hN f3) kb rfl
  have pg := hg s3 H3 s3.heap.objs.size (cellsFrom (s3.heap.objs.size + 1) scope.names (cloFrom X.env.cells scope.names [])) fp
  have pt := ht s3 H3 s3.heap.objs.size (cellsFrom (s3.heap.objs.size + 1) scope.names (cloFrom X.env.cells scope.names [])) fp
  have pe := he s3 H3 s3.heap.objs.size (cellsFrom (s3.heap.objs.size + 1) scope.names (cloFrom X.env.cells scope.names [])) fp
  obtain ⟨ce, hce⟩ : ∃ ce, compEnvC scope (cellsFrom (s3.heap.objs.size + 1) scope.names (cloFrom X.env.cells scope.names [])) s3.heap.objs.size X.env = ce := ⟨_, rfl⟩
  have cL : ce.locals = s3.heap.objs.size := by
    rw [← hce]
    rfl
  show codeAny _ _ (.compStart (.ListComp elt [⟨tg, iter, ifs, 0⟩] scope pos) 0 (.ref it) (.ref D) (compEnvC scope (cellsFrom (s3.heap.objs.size + 1) scope.names (cloFrom X.env.cells scope.names [])) s3.heap.objs.size X.env)) _ _
  rw [hce] at I4 pg pt pe ⊢
  have hot : L2H.HotC (X.blkH s3 H3 scope ce fp) := by
    obtain ⟨p, a, b⟩ := hc
    exact ⟨p, a, b⟩
  have stat : ∀ {t : St} {H' : Hp} {s' : Shared}, Inv (X.blkH s3 H3 scope ce fp) [] t H' s' → (∀ b ∈ fp, H' b = none) → ∀ b ∈ fp, FpOk (X.blkH s3 H3 scope ce fp) [] H' b := fun {t H' s'} I' hn b hb =>
    ⟨hn b hb, (I'.ok.exf b hb).1, I'.ok.exfs b hb, .inl hb, fun x c e => (I'.ok.exf b hb).2 x c e, fun p hp => (f3 b hb).1.2.2.2.2.2 p (List.mem_append_left _ (by simpa using hp))⟩
  have loop := compLoop_any (prog := X.prog) (w := X.w) (A := X.A) (R := compPost (model X.prog X.w) X.A X.xe none (EP X pins σ Q) (.ref D) s3.heap.objs.size) (elt := elt) (target := tg) (iter := iter) (ifs := ifs) (scope := scope) (pos := pos) (it := .ref it) (acc := .ref D) (env := ce)
    (LcSt (X.blkH s3 H3 scope ce fp) (wipe σ (own.map (·.2))) fp tn W) (fun n s hI => lc_turnH (Y := X.blkH s3 H3 scope ce fp) (Q := Q) hot pg pt pe rfl T stat turn (fun H5 s6 I6 qq => ?_) n s hI) m0
    ⟨0, H3, I4, T.keep _ _ _ st2 fun b _ o e => kb b o (k3 b o e), fun b hb => (f3 b hb).1.1, w0⟩
  · exact codeAny_compStart_list loop (T.self X.A 0 _ _ _ (T.keep _ _ _ st2 fun b _ o e => kb b o (k3 b o e)) loop)
  · -- the block is left: the def's own context again
    have I7 : Inv X pins σ H5 s6 := I3.call' (ch := fp) I6.os I6.base I6.hok I6.bare fun b hb => ⟨(f3 b hb).1.2.2.2.1, (f3 b hb).1.2.1, (f3 b hb).1.2.2.2.2.1, (f3 b hb).1.2.2.2.2.2⟩
    have nC : H5 s3.heap.objs.size = none := by
      have z : H5 ce.locals = none := I6.free
      rwa [cL] at z
    obtain ⟨m, hn, _⟩ := I6.loc
    have hn : s6.heap.Ns ce.locals m := hn
    rw [cL] at hn
    obtain ⟨a0, a1, a2, a3, a4, a5⟩ := I3.fpOk (Nat.le_refl _) nC
    exact ⟨m, hn, fun h'' sb => ⟨.ref D, H5, I7.turned (t' := s6.toks) (fun b o hb e => (sb.2 b hb).trans e) a0 a1 a3 a4 a5, rfl, qq⟩⟩
/-- the context of the suite bears the handled error -/
theorem hot_suite {a : Addr} {oe : Obj} {cls : Value} {d : Option Addr} {pn : List (Addr × Obj)} (hz : L2N.Zn cls d oe) (hf : ∃ vs, oe.data = .fields vs) : L2H.HotC (X.suite a ((a, oe) :: pn)) := by
  obtain ⟨vs, hv⟩ := hf
  exact ⟨(a, oe), ⟨rfl, vs, hv, hz.2.2 vs hv⟩, List.mem_cons_self⟩
end
end L2

namespace My
open PySem PySem.Spec PyProof.Rows L2
def top (i : Nat) : Stmt := PySem.Challenge.pw_stillmay_k35_drawn_up_by_the_rule.main.body.getD i (.Pass ⟨0, 0, 0, 0⟩)
abbrev s_BadValue : Stmt := inClass (top 2) 0
abbrev s_BadSide : Stmt := inClass (top 3) 0
abbrev s_is_sequence : Stmt := top 7
abbrev s_is_pair : Stmt := top 8
abbrev s_is_word : Stmt := top 9
abbrev s_is_name : Stmt := top 10
abbrev s_are_names : Stmt := top 11
abbrev s_is_fixtures : Stmt := top 14
abbrev s_drawn_up : Stmt := top 15
abbrev s__check_sides : Stmt := top 16
abbrev s__is_full_round : Stmt := top 17
abbrev s__drawn_round : Stmt := top 18
abbrev s__law_mixed : Stmt := top 20
abbrev s__law_start : Stmt := top 21
abbrev s__law_take : Stmt := top 22
abbrev s__law_same : Stmt := top 23
abbrev s__law_names : Stmt := top 24
abbrev s__law_wrong_sides : Stmt := top 25
abbrev s__law_drawn : Stmt := top 26
abbrev s__law_refused : Stmt := top 27
abbrev s_law : Stmt := top 28
end My

namespace My
open PySem PySem.Spec PyProof.Rows L2
/-! ### what the head's heap says of the error classes -/
def clsB (K : PySem.W.Frag) (C : Addr) : Bool := match K.lookup C with
  | some ⟨.type "type", _, .cls cd, sl⟩ => (match cd.mro, sl.toList with
    | .ref C2 :: bm, [_, _, _, _, some (.builtin n), _] => decide (C2 = C) && (decide (n = "Exception.__new__") && (!cd.hasDel && (cd.hasDict && PySem.MyX.refsE bm)))
    | _, _ => false)
  | _ => false
theorem clsB_ok {K : PySem.W.Frag} {C : Addr} (q : clsB K C = true) : ∃ nm q N bs bm sn sub ab col dd k0 k1 k2 k3 k5, K.lookup C = some (excClassObj nm q C N bs bm true sn sub ab col dd k0 k1 k2 k3 k5 "Exception.__new__") ∧ PySem.MyX.refsE bm = true := by
  unfold clsB at q
  split at q
  · rename_i dd cd sl ho
    split at q
    · rename_i C2 bm k0 k1 k2 k3 n k5 hm hs
      obtain ⟨q1, q⟩ := He.ba q
      obtain ⟨q2, q⟩ := He.ba q
      obtain ⟨q3, q⟩ := He.ba q
      obtain ⟨q4, q5⟩ := He.ba q
      have e1 := of_decide_eq_true q1
      have e2 := of_decide_eq_true q2
      subst e1 e2
      obtain ⟨nm, bs, mro, ns, qn, hd, sn, sub, ab, col, del⟩ := cd
      dsimp only at hm q3 q4
      have e3 : del = false := by cases del with
        | false => rfl
        | true => cases q3
      subst hm e3 q4
      have hsl : sl = #[k0, k1, k2, k3, some (.builtin "Exception.__new__"), k5] := by
        obtain ⟨l⟩ := sl
        simp only at hs
        rw [hs]
      subst hsl
      exact ⟨nm, qn, ns, bs, bm, sn, sub, ab, col, dd, k0, k1, k2, k3, k5, ho, q5⟩
    · cases q
  · cases q
def errB (K : PySem.W.Frag) (C fI : Addr) (n : Str) : Bool := clsB K C && (He.eqO (PySem.W.findIn K (.ref C) "__setattr__") (some (some (.builtin "object.__setattr__"))) && (He.eqO (PySem.W.findIn K (.ref C) "__getattribute__") (some (some (.builtin "BaseException.__getattribute__"))) &&
  (He.eqO (PySem.W.findIn K (.ref C) "__getattr__") (some none) && (He.eqO (PySem.W.findIn K (.ref C) n) (some none) && (He.eqO (PySem.W.findIn K (.ref C) "__init__") (some (some (.ref fI))) && (decide (PySem.W.typeIn K (.ref fI) = some (.type "function")) && (PySem.W.keepIn K (.ref C) &&
  (decide (PySem.W.subIn K (.ref C) (.type "BaseException") = some true) && (decide (PySem.W.typeIn K (.ref C) = some (.type "type")) && PySem.W.hasDictIn K C)))))))))
def excB (K : PySem.W.Frag) (D : Addr) : Bool := He.eqO (PySem.W.findIn K (.ref D) "__class__") (some (some (.builtin "object.__class__"))) && (He.eqO (PySem.W.specialIn K (.builtin "object.__class__") "__get__") (some (some (.builtin "getset_descriptor.__get__"))) &&
  (decide (PySem.W.takesIn K (.builtin "object.__class__") = some true) && decide (PySem.W.mroIn K D (.type "object") = some true)))
def er (K : PySem.W.Frag) (n : Str) (a : Str) : Bool := errB K (He.ga K n) (He.ma K (He.ga K n) "__init__") a
/-- the module's thing has no dict of its own -/
def ndB (K : PySem.W.Frag) (x : Str) : Bool := match K.lookup (He.ga K x) with
  | some o => o.dict.isNone
  | none => false
theorem ndB_ok {K : PySem.W.Frag} {x : Str} (h : ndB K x = true) : ∃ o, K.lookup (He.ga K x) = some o ∧ o.dict = none := by
  unfold ndB at h
  split at h
  · rename_i o e
    exact ⟨o, e, by simpa using h⟩
  · cases h
def ex (K : PySem.W.Frag) : Bool := (er K "BadValue" "at" && (er K "BadSide" "name" && (He.tupB K "COUNTS" [.int (2), .int (4), .int (6), .int (8)] && (ndB K "COUNTS" && (excB K (He.ga K "BadValue") && (excB K (He.ga K "BadSide") && (decide (PySem.W.kitOne K (.ref (He.ga K "BadValue")) (.ref (He.ga K "BadValue")) = some true) && (decide (PySem.W.kitOne K (.ref (He.ga K "BadSide")) (.ref (He.ga K "BadValue")) = some false) && (decide (PySem.W.kitOne K (.ref (He.ga K "BadValue")) (.ref (He.ga K "BadSide")) = some false) && (decide (PySem.W.kitOne K (.ref (He.ga K "BadSide")) (.ref (He.ga K "BadSide")) = some true) && (decide (PySem.W.kitOne K (.ref (He.ga K "BadValue")) (.ref (He.ga K "LeagueError")) = some true) && decide (PySem.W.kitOne K (.ref (He.ga K "BadSide")) (.ref (He.ga K "LeagueError")) = some true))))))))))))
theorem errC_of {K : PySem.W.Frag} {C fI : Addr} {n : Str} (h : errB K C fI n = true) (nn : n ≠ "self" ∧ (n == ("__debug__" : Str)) = false)
    (fn : ∃ (oc : Value) (od : Option Addr) (kV doc pm : Value) (an : Option Addr) (cdv ct : Value) (osl : Array (Option Value)) (ql : Str) (p1 p2 q1 q2 q3 q4 : Pos),
      K.lookup fI = some ⟨oc, od, .func (PySem.W.fnOf "__init__" ql (PySem.MyX.iA n p1 p2) (PySem.MyX.iB n q1 q2 q3 q4) (PySem.MyX.iS n) .none kV doc pm an cdv ct), osl⟩ ∧ PySem.W.codeIn K cdv ql = true ∧
        ∀ u v : Value, bindArgs (PySem.W.fnOf "__init__" ql (PySem.MyX.iA n p1 p2) (PySem.MyX.iB n q1 q2 q3 q4) (PySem.MyX.iS n) .none kV doc pm an cdv ct) ⟨[u, v], []⟩ = pure [(PySem.Str.ofString "self", u), (n, v)]) : PySem.MyX.ErrC K C fI n := by
  unfold errB at h
  obtain ⟨c0, h⟩ := He.ba h
  obtain ⟨c1, h⟩ := He.ba h
  obtain ⟨c2, h⟩ := He.ba h
  obtain ⟨c3, h⟩ := He.ba h
  obtain ⟨c4, h⟩ := He.ba h
  obtain ⟨c5, h⟩ := He.ba h
  obtain ⟨c6, h⟩ := He.ba h
  obtain ⟨c7, h⟩ := He.ba h
  obtain ⟨c8, h⟩ := He.ba h
  obtain ⟨c9, c10⟩ := He.ba h
  exact ⟨clsB_ok c0, He.eqO_ok c1, He.eqO_ok c2, He.eqO_ok c3, He.eqO_ok c4, He.eqO_ok c5, of_decide_eq_true c6, c7, of_decide_eq_true c8, of_decide_eq_true c9, c10, nn, fn⟩
theorem excC_of {K : PySem.W.Frag} {C fI : Addr} {n : Str} (E : PySem.MyX.ErrC K C fI n) (h : excB K C = true) : ExcC K C := by
  unfold excB at h
  obtain ⟨c1, h⟩ := He.ba h
  obtain ⟨c2, h⟩ := He.ba h
  obtain ⟨c3, c4⟩ := He.ba h
  exact ⟨E.ga, E.gg, E.exC, E.hdC, He.eqO_ok c1, He.eqO_ok c2, of_decide_eq_true c3, of_decide_eq_true c4⟩
/-! ### the Hook: facts by names, and a Bool of one's own -/
def obsX (n : Nat) (fa : List He.Fa) (fn : List He.DefD) (ex : PySem.W.Frag → Bool) (g : Addr → Option Obj) : Bool × He.AlD := (ex (He.frG g (He.asD g n)), He.obsD fa fn (He.frG g (He.asD g n)))
def hookX (n : Nat) (fa : List He.Fa) (fn : List He.DefD) (ex : PySem.W.Frag → Bool) : PySem.W.Hook where
  α := Bool × He.AlD
  obs := fun s => obsX n fa fn ex s.heap.get?
  val := fun _ => (true, He.valD fn)
  says := fun _ h => ∃ K : PySem.W.Frag, K.In h ∧ ex K = true ∧ He.SaysD fa fn K
  of := fun _ _ e => ⟨_, He.frG_in, congrArg Prod.fst e, congrArg Prod.snd e⟩
  keeps := fun _ _ _ ⟨K, hK, c⟩ k => ⟨K, PySem.W.Frag.In.keeps hK k, c⟩
theorem obsX_eq {n : Nat} {fa : List He.Fa} {fn : List He.DefD} {ex : PySem.W.Frag → Bool} {g : Addr → Option Obj} {s : Shared} (h : ∀ a, g a = s.heap.get? a) : obsX n fa fn ex g = (hookX n fa fn ex).obs s := by
  have e : g = s.heap.get? := funext h
  rw [e] <;> rfl
def d_is_sequence : He.DefD := ⟨("is_sequence", none), "is_sequence", "is_sequence", defArgs s_is_sequence, defBody s_is_sequence, defScope s_is_sequence, [], []⟩
def d_is_pair : He.DefD := ⟨("is_pair", none), "is_pair", "is_pair", defArgs s_is_pair, defBody s_is_pair, defScope s_is_pair, [], []⟩
def d_is_word : He.DefD := ⟨("is_word", none), "is_word", "is_word", defArgs s_is_word, defBody s_is_word, defScope s_is_word, [], []⟩
def d_is_name : He.DefD := ⟨("is_name", none), "is_name", "is_name", defArgs s_is_name, defBody s_is_name, defScope s_is_name, [], []⟩
def d_are_names : He.DefD := ⟨("are_names", none), "are_names", "are_names", defArgs s_are_names, defBody s_are_names, defScope s_are_names, [], []⟩
def d_is_fixtures : He.DefD := ⟨("is_fixtures", none), "is_fixtures", "is_fixtures", defArgs s_is_fixtures, defBody s_is_fixtures, defScope s_is_fixtures, [], []⟩
def d_drawn_up : He.DefD := ⟨("drawn_up", none), "drawn_up", "drawn_up", defArgs s_drawn_up, defBody s_drawn_up, defScope s_drawn_up, [], []⟩
def d__check_sides : He.DefD := ⟨("_check_sides", none), "_check_sides", "_check_sides", defArgs s__check_sides, defBody s__check_sides, defScope s__check_sides, [], []⟩
def d__is_full_round : He.DefD := ⟨("_is_full_round", none), "_is_full_round", "_is_full_round", defArgs s__is_full_round, defBody s__is_full_round, defScope s__is_full_round, [], []⟩
def d__drawn_round : He.DefD := ⟨("_drawn_round", none), "_drawn_round", "_drawn_round", defArgs s__drawn_round, defBody s__drawn_round, defScope s__drawn_round, [], []⟩
def d__law_mixed : He.DefD := ⟨("_law_mixed", none), "_law_mixed", "_law_mixed", defArgs s__law_mixed, defBody s__law_mixed, defScope s__law_mixed, [], []⟩
def d__law_start : He.DefD := ⟨("_law_start", none), "_law_start", "_law_start", defArgs s__law_start, defBody s__law_start, defScope s__law_start, [], []⟩
def d__law_take : He.DefD := ⟨("_law_take", none), "_law_take", "_law_take", defArgs s__law_take, defBody s__law_take, defScope s__law_take, [], []⟩
def d__law_same : He.DefD := ⟨("_law_same", none), "_law_same", "_law_same", defArgs s__law_same, defBody s__law_same, defScope s__law_same, [], []⟩
def d__law_names : He.DefD := ⟨("_law_names", none), "_law_names", "_law_names", defArgs s__law_names, defBody s__law_names, defScope s__law_names, [], []⟩
def d__law_wrong_sides : He.DefD := ⟨("_law_wrong_sides", none), "_law_wrong_sides", "_law_wrong_sides", defArgs s__law_wrong_sides, defBody s__law_wrong_sides, defScope s__law_wrong_sides, [], []⟩
def d__law_drawn : He.DefD := ⟨("_law_drawn", none), "_law_drawn", "_law_drawn", defArgs s__law_drawn, defBody s__law_drawn, defScope s__law_drawn, [], []⟩
def d__law_refused : He.DefD := ⟨("_law_refused", none), "_law_refused", "_law_refused", defArgs s__law_refused, defBody s__law_refused, defScope s__law_refused, [], []⟩
def d_law : He.DefD := ⟨("law", none), "law", "law", defArgs s_law, defBody s_law, defScope s_law, [], []⟩
def e_BadValue : He.DefD := ⟨("BadValue", some "__init__"), "__init__", "BadValue.__init__", defArgs s_BadValue, defBody s_BadValue, defScope s_BadValue, [], []⟩
def e_BadSide : He.DefD := ⟨("BadSide", some "__init__"), "__init__", "BadSide.__init__", defArgs s_BadSide, defBody s_BadSide, defScope s_BadSide, [], []⟩
def fn : List He.DefD := [d_is_sequence, d_is_pair, d_is_word, d_is_name, d_are_names, d_is_fixtures, d_drawn_up, d__check_sides, d__is_full_round, d__drawn_round, d__law_mixed, d__law_start, d__law_take, d__law_same, d__law_names, d__law_wrong_sides, d__law_drawn, d__law_refused, d_law, e_BadValue, e_BadSide]
def fa : List He.Fa := [.glo "is_sequence", .glo "is_pair", .glo "is_word", .glo "is_name", .glo "are_names", .glo "is_fixtures", .glo "drawn_up", .glo "_check_sides", .glo "_is_full_round", .glo "_drawn_round", .glo "_law_mixed", .glo "_law_start", .glo "_law_take", .glo "_law_same", .glo "_law_names", .glo "_law_wrong_sides", .glo "_law_drawn", .glo "_law_refused", .glo "law", .glo "BadValue", .glo "BadSide", .glo "LeagueError", .free "int", .free "len", .free "list", .free "abs", .free "max", .free "min", .free "range", .free "isinstance", .free "all", .free "any", .free "tuple", .free "str", .free "bool", .free "set", .free "dict", .free "enumerate", .free "zip", .free "sum", .free "sorted", .free "repr", .free "reversed", .str "LETTERS" "abcdefghijklmnopqrstuvwxyz", .int "LONGEST_NAME" 8, .glo "COUNTS", .exm "BadValue" "BadValue" true, .exm "BadValue" "BadSide" false, .exm "BadValue" "LeagueError" true, .exm "BadSide" "BadValue" false, .exm "BadSide" "BadSide" true, .exm "BadSide" "LeagueError" true]
abbrev R : PySem.W.OpenRow := PySem.W.OpenLaw.row PySem.Challenge.rw_stillmay_k35_drawn_up_by_the_rule
abbrev hk : PySem.W.Hook := hookX 5 fa fn ex
def ob (s : PySem.W.SharedT) : Bool × He.AlD := obsX 5 fa fn ex (HandSHeadRun.getT s)
theorem ob_eq (s : PySem.W.SharedT) : ob s = hk.obs s.abs := obsX_eq (HandSHeadRun.getT_eq s)
def loose : List Str := (["LeagueError", "BadValue", "BadSide", "LETTERS", "LONGEST_NAME", "is_sequence", "is_pair", "is_word", "is_name", "are_names", "COUNTS", "is_fixtures"] : List Str) ++ (["drawn_up", "_check_sides", "_is_full_round", "_drawn_round", "_law_mixed", "_law_start", "_law_take", "_law_same", "_law_names", "_law_wrong_sides", "_law_drawn", "_law_refused"] : List Str)
theorem run (w : World) : HandSHeadRun.RunEq R (PySem.W.view R.prog [28]) hk ob 9000 loose w := by
  intro os
  kernel_rfl
end My

/-! set(xs) of any number of texts (fewer than 4000), some perhaps twice; len of it -/
namespace MyS
open PySem PySem.Spec PyProof.Rows
/-- the texts of a row, each once -/
def put1 (acc : List Str) (x : Str) : List Str := if acc.contains x then acc else acc ++ [x]
def uq (xs : List Str) : List Str := xs.foldl put1 []
theorem uq_snoc (xs : List Str) (x : Str) : uq (xs ++ [x]) = put1 (uq xs) x := by
  unfold uq
  rw [List.foldl_append]
  rfl
theorem put1_has (acc : List Str) (x k : Str) : (put1 acc x).contains k = (acc.contains k || decide (k = x)) := by
  unfold put1
  split
  · rename_i h
    by_cases e : k = x
    · rw [e, h]; rfl
    · rw [decide_eq_false e, Bool.or_false]
  · rw [List.contains_eq_any_beq, List.contains_eq_any_beq, List.any_append]
    congr 1
    by_cases e : k = x
    · rw [decide_eq_true e, e]; simp
    · rw [decide_eq_false e]; simp [e]
theorem put1_len (acc : List Str) (x : Str) : (put1 acc x).length = if acc.contains x then acc.length else acc.length + 1 := by
  unfold put1
  split <;> simp
theorem uq_take {xs : List Str} {i : Nat} (h : i < xs.length) : uq (xs.take (i + 1)) = put1 (uq (xs.take i)) (xs.getD i Str.empty) := by
  rw [List.take_succ, List.getElem?_eq_getElem h]
  have e : xs.getD i Str.empty = xs[i] := by simp [List.getD, List.getElem?_eq_getElem h]
  rw [e]
  exact uq_snoc _ _
theorem uq_le : ∀ (n : Nat) (xs : List Str), xs.length = n → (uq xs).length ≤ n := by
  intro n
  induction n with
  | zero =>
    intro xs h
    rw [List.eq_nil_of_length_eq_zero h]
    exact Nat.le_refl 0
  | succ n ih =>
    intro xs h
    have hx : xs ≠ [] := fun z => by rw [z] at h; cases h
    have e := List.dropLast_concat_getLast hx
    rw [← e, uq_snoc, put1_len]
    have := ih xs.dropLast (by rw [List.length_dropLast, h]; rfl)
    split <;> omega
theorem uq_le' (xs : List Str) : (uq xs).length ≤ xs.length := uq_le _ xs rfl
theorem uq_mem (xs : List Str) (k : Str) : (uq xs).contains k = xs.contains k := by
  have gen : ∀ (xs acc : List Str), (xs.foldl put1 acc).contains k = (acc.contains k || xs.contains k) := by
    intro xs
    induction xs with
    | nil => intro acc; simp
    | cons x r ih =>
      intro acc
      rw [List.foldl_cons, ih, put1_has, List.contains_cons, Bool.or_assoc]
      congr 2
  have z := gen xs []
  rw [List.contains_nil, Bool.false_or] at z
  exact z
theorem uq_nodup : ∀ (n : Nat) (xs : List Str), xs.length = n → xs.Nodup → uq xs = xs := by
  intro n
  induction n with
  | zero =>
    intro xs h _
    rw [List.eq_nil_of_length_eq_zero h]
    rfl
  | succ n ih =>
    intro xs h nd
    have hx : xs ≠ [] := fun z => by rw [z] at h; cases h
    have e := List.dropLast_concat_getLast hx
    rw [← e] at nd
    rw [List.nodup_append] at nd
    have i1 := ih xs.dropLast (by rw [List.length_dropLast, h]; rfl) nd.1
    have no : xs.dropLast.contains (xs.getLast hx) = false := by
      rw [Bool.eq_false_iff]
      intro c
      exact nd.2.2 _ (List.contains_iff_mem.mp c) _ (List.mem_singleton.mpr rfl) rfl
    conv => lhs; rw [← e]
    rw [uq_snoc, i1]
    unfold put1
    rw [no]
    exact e
theorem uq_lt : ∀ (n : Nat) (xs : List Str), xs.length = n → ¬ xs.Nodup → (uq xs).length < xs.length := by
  intro n
  induction n with
  | zero =>
    intro xs h nd
    rw [List.eq_nil_of_length_eq_zero h] at nd
    exact absurd List.nodup_nil nd
  | succ n ih =>
    intro xs h nd
    have hx : xs ≠ [] := fun z => by rw [z] at h; cases h
    have e := List.dropLast_concat_getLast hx
    have hl : xs.dropLast.length = n := by rw [List.length_dropLast, h]; rfl
    rw [h, ← e, uq_snoc, put1_len]
    by_cases c : xs.dropLast.Nodup
    · have hm : xs.getLast hx ∈ xs.dropLast := by
        refine Classical.byContradiction fun no => nd ?_
        rw [← e, List.nodup_append]
        refine ⟨c, by simp, fun a ha b hb q => no ?_⟩
        rw [List.mem_singleton.mp hb] at q
        rw [← q]
        exact ha
      have hc : (uq xs.dropLast).contains (xs.getLast hx) = true := by rw [uq_mem]; exact List.contains_iff_mem.mpr hm
      rw [hc, if_pos rfl]
      have := uq_le' xs.dropLast
      omega
    · have := ih _ hl c
      split <;> omega
theorem uq_same {xs : List Str} : decide ((uq xs).length = xs.length) = decide xs.Nodup := by
  by_cases h : xs.Nodup
  · rw [uq_nodup _ xs rfl h, decide_eq_true h, decide_eq_true rfl]
  · rw [decide_eq_false h, decide_eq_false (Nat.ne_of_lt (uq_lt _ xs rfl h))]
theorem keepSet {P : Program} {w : World} {h h' : Heap} {a : Addr} {S : Str → Bool} {n : Nat} (R : h.SetOf (strKind P w) a S n) (k : ∀ o, h.get? a = some o → h'.get? a = some o) : h'.SetOf (strKind P w) a S n :=
  match R with
  | ⟨o, x1, x2, x3, e, r⟩ => ⟨o, x1, x2, x3, k o e, r⟩
section
variable {prog : Program} {w : World} {A : Around} {R : Result → Shared → Prop} {I : Addr} {fp wr : List Addr} {G : Array GenState → Array GenState → Prop} {n : Nat} {P : Nat → Value → Prop} {St : Nat → Shared → Prop}
theorem update_texts (W : WalksS prog w A.in1 I fp wr G n P St) {a : Addr} (haf : a ∉ fp) {xs : List Str} (hx : xs.length = n) (hb : n + 1 < scanBound) (hv : ∀ i v, P i v → ∃ t, v = .str (xs.getD i Str.empty) t) :
    ∀ (m i : Nat) (s : Shared), i + m = n → St i s → s.heap.SetOf (strKind prog w) a (fun k => (uq (xs.take i)).contains k) (uq (xs.take i)).length →
      (∀ s2, Moved (a :: wr) G s s2 → s2.heap.SetOf (strKind prog w) a (fun k => (uq xs).contains k) (uq xs).length → R (.ok (.ret .none)) s2) →
      codeAny (model prog w) A (.builtin "set.update.loop" ⟨[.ref a, .ref I], []⟩) R s := by
  have haw : a ∉ wr := fun q => haf (W.sub _ q)
  have up : ∀ b ∈ wr, b ∈ a :: wr := fun b q => List.mem_cons_of_mem _ q
  intro m
  induction m with
  | zero =>
    intro i s e st hS hR
    obtain rfl : i = n := e
    refine codeAny_builtin PyProof.Rows.F.entry_set_update_loop ?_
    rw [Around.under_plainId PyProof.Rows.F.plain_set_update_loop _]
    show wpAny _ A.in1 (pyNext (.ref I) >>= _) _ _ s
    refine wpAny_bind (W.done s _ _ st fun s2 mv => ?_)
    have hS2 := keepSet hS fun o q => mv.heap a o haw q
    rw [List.take_of_length_le (Nat.le_of_eq hx)] at hS2
    exact wpAny_pure (hR s2 (mv.mono up) hS2)
  | succ m ih =>
    intro i s e st hS hR
    have lt : i < n := by omega
    refine codeAny_builtin PyProof.Rows.F.entry_set_update_loop ?_
    rw [Around.under_plainId PyProof.Rows.F.plain_set_update_loop _]
    show wpAny _ A.in1 (pyNext (.ref I) >>= _) _ _ s
    refine wpAny_bind (W.item i s _ _ lt st fun v s2 pv st2 mv => ?_)
    obtain ⟨t, rfl⟩ := hv i v pv
    have hS2 := keepSet hS fun o q => mv.heap a o haw q
    show wpAny _ A.in1 (holding [Value.str (xs.getD i Str.empty) t] (setAdd a (.str (xs.getD i Str.empty) t)) >>= _) _ _ s2
    refine wpAny_bind (wpAny_holding ?_)
    unfold setAdd
    refine wpAny_holding (wpAny_bind ((strKind prog w).pyHash (k := xs.getD i Str.empty) (strKind_is _ _ _ _) ?_))
    have room : (uq (xs.take i)).length + 1 < scanBound := by
      have q1 := uq_le' (xs.take i)
      have q2 := List.length_take_le i xs
      omega
    refine wpAny_setAddHashed_of (knd := strKind prog w) (s := { s2 with toks := s2.toks + 1 }) (strKind_is _ _ _ _) rfl hS2 room fun h3 sb hS3 => ?_
    have eq := uq_take (xs := xs) (i := i) (by omega)
    have hS4 : h3.SetOf (strKind prog w) a (fun k => (uq (xs.take (i + 1))).contains k) (uq (xs.take (i + 1))).length :=
      SetOf_congr hS3 (fun k => by rw [eq, put1_has]) (by rw [eq, put1_len])
    refine wpAny_pure ⟨plainId_quiet PyProof.Rows.F.plain_set_update_loop _, ih (i + 1) _ (by omega) (W.frame _ s2 _ _ st2 (Nat.le_succ _) fun b hbf o q => ?_) hS4 fun s5 mv5 hS5 => ?_⟩
    · rw [sb.2 b fun z => haf (z ▸ hbf)]
      exact q
    · refine hR s5 (Moved.trans W.gtrans ((mv.mono up).then_heap (Nat.le_succ _) fun b o nb q => ?_) mv5) hS5
      rw [sb.2 b fun z => nb (z ▸ List.mem_cons_self)]
      exact q
end
/-- what set(..) wants of the object q: its class, its walk -/
structure Src (prog : Program) (w : World) (T : String) (itO : Obj) (q : Addr) (n : Nat) (P : Nat → Value → Prop) (oq : Obj) : Prop where
  cls : oq.cls = .type T
  alive : itO.isFreed = false
  noSet : isSubtype (.type T) (.type "set") = pure false
  noFrz : isSubtype (.type T) (.type "frozenset") = pure false
  noDict : (Value.type T == Value.type "dict") = false
  opens : ∀ (A : Around) (E : Value → Shared → Prop) (s : Shared) (Q : Value → Shared → Prop), s.heap.get? q = some oq → Q (.ref s.heap.objs.size) { s with heap := s.heap.push itO } → wpAny (model prog w) A (pyIter (.ref q)) Q E s
  walk : ∀ (A : Around) (I : Addr), A.handled = none → q ≠ I → ∃ St, Walks prog w A I [I, q] [I] n P St ∧ ∀ h : Heap, h.get? I = some itO → h.get? q = some oq → St 0 h
theorem src_list {prog : Program} {w : World} {h : Heap} {q : Addr} {items : Array Value} (H : h.IsList q items) : ∃ oq, h.get? q = some oq ∧ Src prog w "list" { cls := .type "list_iterator", data := .fields #[.ref q, .int 0 0] } q items.size (fun i v => items[i]? = some v) oq := by
  obtain ⟨oq, h1, h2, k, h3⟩ := H
  refine ⟨oq, h1, h2, rfl, PySem.F.sub_list_set, PySem.F.sub_list_frozenset, by decide, fun A E s Q e hq => wpAny_pyIter_list ⟨oq, e, h2, k, h3⟩ hq, fun A I hh ne => ⟨_, Walks.list hh I q ne items, fun h5 e1 e2 => ⟨⟨_, e1, rfl, rfl⟩, ⟨oq, e2, h2, k, h3⟩⟩⟩⟩
theorem src_tuple {prog : Program} {w : World} {h : Heap} {q : Addr} {items : Array Value} (H : h.IsTuple q items) : ∃ oq, h.get? q = some oq ∧ Src prog w "tuple" { cls := .type "tuple_iterator", data := .fields #[.ref q, .int 0 0] } q items.size (fun i v => items[i]? = some v) oq := by
  obtain ⟨oq, h1, h2, k, h3⟩ := H
  refine ⟨oq, h1, h2, rfl, PySem.F.sub_tuple_set, PySem.F.sub_tuple_frozenset, by decide, fun A E s Q e hq => wpAny_pyIter_tuple ⟨oq, e, h2, k, h3⟩ hq, fun A I hh ne => ⟨_, Walks.tuple hh I q ne items, fun h5 e1 e2 => ⟨⟨_, e1, rfl, rfl⟩, ⟨oq, e2, h2, k, h3⟩⟩⟩⟩
abbrev setO (led : Bool) : Obj := { cls := .type "set", dict := none, data := .set #[] 0 (.fresh 0 0 led) }
section
variable {prog : Program} {w : World} {A : Around} {E : Value → Shared → Prop} {s : Shared}
/-- how a set's making ends -/
def SetEnd (prog : Program) (w : World) (xs : List Str) (s : Shared) (s2 : Shared) : Prop := ∃ h2 t2, s2 = { s with heap := h2, toks := t2 } ∧ h2.SetOf (strKind prog w) s.heap.objs.size (fun k => (uq xs).contains k) (uq xs).length ∧ ∀ b o, b < s.heap.objs.size → s.heap.get? b = some o → h2.get? b = some o
theorem call_set_src {T : String} {itO oq : Obj} {q : Addr} {xs : List Str} {P : Nat → Value → Prop} {Q : Value → Shared → Prop} (S : Src prog w T itO q xs.length P oq) (hh : A.handled = none) (hb : xs.length + 1 < scanBound) (hv : ∀ i v, P i v → ∃ t, v = .str (xs.getD i Str.empty) t) (hq : s.heap.get? q = some oq)
    (k : ∀ s2, SetEnd prog w xs s s2 → Q (.ref s.heap.objs.size) s2) : wpAny (model prog w) A (call (.type "set") [.ref q]) Q E s := by
  obtain ⟨_, _, mro⟩ := PySem.F.called_set.mro
  obtain ⟨made, sub, m1, m2, m3⟩ := And.intro PySem.F.called_set.made (And.intro PySem.F.called_set.sub (And.intro PySem.F.called_set.notType (And.intro PySem.F.called_set.canCreate (PySem.F.typeCall_set_1 (.ref q)))))
  refine wpAny_call (codeAny_of_tree (show wpAny _ _ (callAny (.type "set") _) _ _ _ from wpAny_pure ⟨Code.quiet_builtin _ (by decide +kernel), codeAny_builtin PySem.F.entry_type_call ?_⟩))
  rw [Around.under_plain (weight_type_call_type "set" [.ref q] []) rfl]
  repeat any_goals (first | assumption | wp_step)
  refine codeAny_mono (code_set_new_1 (.ref q) (E := E) (Q₁ := fun u s1 => ∃ led : Bool, u = .ref s.heap.objs.size ∧ s1 = { s with heap := s.heap.push (setO led) }) fun led => ⟨led, rfl, rfl⟩) fun r1 s1 h1 => ?_
  cases r1 with
  | error e => exact h1
  | ok f1 =>
    cases f1 with
    | next => exact h1.elim
    | brk => exact h1.elim
    | cont => exact h1.elim
    | ret u =>
      obtain ⟨led, rfl, rfl⟩ := h1
      have g1 : (s.heap.push (setO led)).get? s.heap.objs.size = some (setO led) := Heap.get?_push_size _ rfl
      have ty : Shared.TypeIs { s with heap := s.heap.push (setO led) } (.ref s.heap.objs.size) "set" := ⟨_, g1, rfl⟩
      obtain ⟨li, bi⟩ := And.intro PySem.F.called_set.init.lookup (PySem.F.called_set.init.bind (.ref s.heap.objs.size))
      repeat any_goals (first | assumption | wp_step)
      refine codeAny_mono (codeAny_call_builtin (R := wants (fun r s2 => r = .none ∧ SetEnd prog w xs s s2) E) PySem.F.called_set.init.plain PySem.F.entry_set_init (check_set_init_1 ty ?_)) fun r2 s2 h2 => ?_
      · have gq : (s.heap.push (setO led)).get? q = some oq := Heap.get?_push_of_some _ hq
        obtain ⟨cq, dq, xq, sq⟩ := oq
        obtain rfl : cq = .type T := S.cls
        obtain ⟨a1, a2, a3⟩ := And.intro S.noSet (And.intro S.noFrz S.noDict)
        unfold Builtin.«set.__init__» Builtin.Frozenset.updateFrom noKeywords
        generalize eIter : pyIter = PI
        wp_walk
        subst eIter
        refine S.opens _ _ _ _ gq ?_
        refine wpAny_bind (wpAny_runValue ?_)
        have lt : q < s.heap.objs.size := Heap.lt_size hq
        have ne : q ≠ (s.heap.push (setO led)).objs.size := by
          rw [Heap.size_push]
          exact Nat.ne_of_lt (Nat.lt_succ_of_lt lt)
        obtain ⟨St, W, st⟩ := S.walk A.in1.in1.in1 _ (by simp [hh]) ne
        have nin : s.heap.objs.size ∉ [(s.heap.push (setO led)).objs.size, q] := by
          rw [Heap.size_push]
          intro z
          rcases List.mem_cons.mp z with z | z
          · exact absurd z (Nat.ne_of_lt (Nat.lt_succ_self _))
          · exact absurd (List.mem_singleton.mp z) (Nat.ne_of_gt lt)
        have g2 : ((s.heap.push (setO led)).push itO).get? s.heap.objs.size = some (setO led) := Heap.get?_push_of_some _ g1
        refine update_texts W.toS nin rfl hb hv xs.length 0 _ (Nat.zero_add _) (st _ (Heap.get?_push_size _ S.alive) (Heap.get?_push_of_some _ gq))
          (SetOf_congr ((setObjOf_fresh (knd := strKind prog w) led).setOf g2 (by unfold scanBound; omega)) (fun _ => rfl) rfl) fun s5 mv hS => ?_
        obtain ⟨h5, g5, d5, t5, o5⟩ := s5
        obtain ⟨eg, ed, eo⟩ : g5 = s.gens ∧ d5 = s.drawn ∧ o5 = s.os := ⟨mv.gens, mv.drawn, mv.os⟩
        subst eg ed eo
        show wpAny _ _ _ _ _ _
        refine wpAny_pure (show wpAny _ _ (ret Value.none) _ _ _ from wpAny_pure ⟨rfl, h5, t5, rfl, hS, fun b o blt e => ?_⟩)
        refine mv.heap b o (fun z => ?_) (Heap.get?_push_of_some _ (Heap.get?_push_of_some _ e))
        rcases List.mem_cons.mp z with z | z
        · exact Nat.ne_of_lt blt z
        · have z3 := List.mem_singleton.mp z
          rw [Heap.size_push] at z3
          rw [z3] at blt
          exact absurd blt (Nat.not_lt.mpr (Nat.le_succ _))
      · cases r2 with
        | error e => exact h2
        | ok f2 =>
          cases f2 with
          | ret r =>
            obtain ⟨rfl, en⟩ := h2
            repeat any_goals (first | assumption | wp_step)
            exact k _ en
          | _ => exact h2.elim
end
end MyS
namespace L2
open PySem PySem.Spec PyProof.Rows
/-- len(set(xs)), xs a list or tuple of texts -/
def tLenTx (K : PySem.W.Frag) (ta : TE) : TE := fun σ H Q => ta σ H fun x H1 => ∃ l, ∃ xs : List Str, x = .ref l ∧ (SqL K H1 l (xs.map V.str) ∨ SqT K H1 l (xs.map V.str)) ∧ xs.length ≤ 4000 ∧ Q (.int (MyS.uq xs).length) H1
theorem str_at : ∀ {xs : List Str} {us : List Value}, Vals (xs.map V.str) us → us.length = xs.length ∧ ∀ (i : Nat) (v : Value), us[i]? = some v → ∃ t, v = .str (xs.getD i Str.empty) t
  | [], _, .nil => ⟨rfl, fun i v h => by simp at h⟩
  | x :: xs, _, .cons r t => by
    obtain ⟨e, f⟩ := str_at t
    refine ⟨by rw [List.length_cons, List.length_cons, e], fun i v h => ?_⟩
    cases i with
    | zero =>
      obtain ⟨k, e2⟩ := r
      rw [List.getElem?_cons_zero] at h
      exact ⟨k, by rw [← Option.some.inj h, e2]; rfl⟩
    | succ i =>
      rw [List.getElem?_cons_succ] at h
      exact f i v h
section
variable {X : Cx}
theorem pe_lenTx {a : Expr} {ta : TE} {p p2 q pos : Pos} (hc : X.calm = true) (hg : Gl X "len") (hm : X.mg "len" = none) (hg2 : Gl X "set") (hm2 : X.mg "set" = none) (ha : PE X a ta)
    (na : starEach [a] X.env = (false, eval a X.env) :: starEach [] X.env := by rfl) : PE X (.Call (.Name "len" p) [.Call (.Name "set" p2) [a] [] q] [] pos) (tLenTx X.K ta) := by
  refine ⟨fun pins s σ H Q I h => Call_ (ld_blt I hg hm boot_len (PyProof.Rows.callWith_builtin1 (PyProof.Rows.args_cons (Call_ (ld_blt I hg2 hm2 boot_set ?_)) rfl) rfl rfl))⟩
  refine PyProof.Rows.callWith_type1 (PyProof.Rows.args_cons (thn (ha.run pins s σ H _ I h) fun v s1 ⟨x, H1, I1, r1, q1⟩ => PyProof.Rows.args_nil ?_) na) na rfl
  obtain ⟨l, xs, rfl, sq, h1, q1⟩ := q1
  cases r1
  have fin : ∀ s2, MyS.SetEnd X.prog X.w xs s1 s2 → wpAny (model X.prog X.w) X.A (spliced (backTo pos (starEach [] X.env))) (fun vs s3 => wpAny (model X.prog X.w) X.A (call (.builtin "len") (Value.ref s1.heap.objs.size :: vs)) (EP X pins σ Q) X.xe s3) X.xe s2 := by
    rintro s2 ⟨h2, t2, rfl, hS, kp⟩
    refine PyProof.Rows.args_nil ?_
    obtain ⟨o, es, ep, t, ho, ex, hd, _, _, _, hf, hn⟩ := hS
    have I2 : Inv X pins σ H1 { s1 with heap := h2, toks := t2 } := I1.kept fun b o e => kp b o (Heap.lt_size e) e
    have lz := MyS.uq_le' xs
    exact call_len_set ho ex hd hf (by rw [hn] <;> omega) ⟨.int (MyS.uq xs).length, H1, I2.tok _, ⟨_, by rw [hn]⟩, q1⟩
  rcases sq with sq | sq
  · obtain ⟨its, r, pl, hz⟩ := I1.list sq
    obtain ⟨e, at_⟩ := str_at r
    obtain ⟨oq, hq, S⟩ := MyS.src_list (prog := X.prog) (w := X.w) pl.isList
    rw [List.size_toArray, e] at S
    exact MyS.call_set_src S (I1.ok.hd hc) (by unfold scanBound; omega) (fun i v z => at_ i v (by simpa using z)) hq fin
  · obtain ⟨its, r, pl, hz⟩ := I1.tuple sq
    obtain ⟨e, at_⟩ := str_at r
    obtain ⟨oq, hq, S⟩ := MyS.src_tuple (prog := X.prog) (w := X.w) pl
    rw [List.size_toArray, e] at S
    exact MyS.call_set_src S (I1.ok.hd hc) (by unfold scanBound; omega) (fun i v z => at_ i v (by simpa using z)) hq fin
end
end L2

/-! words that every law of this set wants: heaps but for one place, the stream of draws, data of a small depth -/
namespace My
open PySem PySem.Spec PyProof.Rows L2
theorem ix_seqK {X : Cx} {K : PySem.W.Frag} (h : X.K = K) : IxR X (rIx K) := by
  rw [← h]
  exact ix_seq
theorem ix_listK {X : Cx} {K : PySem.W.Frag} (h : X.K = K) : IxR X (rIxL K) := by
  rw [← h]
  exact ix_list
theorem ifT {c : Bool} {A B : Prop} (hc : c = true) (h : A) : if c = true then A else B := by rw [if_pos hc]; exact h
theorem ifF {c : Bool} {A B : Prop} (hc : c = false) (h : B) : if c = true then A else B := by rw [hc]; exact iteF h
def But (a : Addr) (H H' : Hp) : Prop := ∀ b o, H b = some o → b ≠ a → H' b = some o
theorem But.refl {a : Addr} {H : Hp} : But a H H := fun _ _ h _ => h
theorem But.trans {a : Addr} {H H1 H2 : Hp} (x : But a H H1) (y : But a H1 H2) : But a H H2 := fun b o h n => y b o (x b o h n) n
theorem But.upd {a : Addr} {H H1 : Hp} {o : HO} (x : But a H H1) : But a H (upd H1 a o) := fun b u h n => by
  rw [upd_ne n]
  exact x b u h n
theorem But.same {a : Addr} {H H1 : Hp} (x : Same H H1) : But a H H1 := fun b u h _ => x b u h
theorem same_new {H : Hp} {p : Addr} (h : H p = none) (o : HO) : Same H (upd H p o) := fun b u q => by rw [upd_ne (ne_of_none q h)]; exact q
/-- the stream's six cells: the script's list, how many cells are taken, the number at hand, how many draws it still gives, the mixed number, its kind -/
abbrev fl (l : Addr) (i x c m o : Int) : List V := [.ref l, .int i, .int x, .int c, .int m, .int o]
def FlowAt (H : Hp) (a : Addr) : Prop := ∃ (l : Addr) (ns : List Int) (i x c m o : Int), H a = some (.lst (fl l i x c m o)) ∧ H l = some (.lst (ns.map V.int)) ∧ (0 ≤ i ∧ i ≤ (ns.length : Int)) ∧ ns.length ≤ 63
theorem fl_ne {H : Hp} {a l : Addr} {i x c m o : Int} {ns : List Int} (h : H a = some (.lst (fl l i x c m o))) (h2 : H l = some (.lst (ns.map V.int))) : l ≠ a := fun e => by
  rw [e, h] at h2
  have q := HO.lst.inj (Option.some.inj h2)
  cases ns with
  | nil => cases q
  | cons n r =>
    have z : V.ref l = V.int n := (List.cons.inj q).1
    cases z
theorem FlowAt.keep {H H' : Hp} {a : Addr} (h : FlowAt H a) (k : Same H H') : FlowAt H' a := by
  obtain ⟨l, ns, i, x, c, m, o, h1, h2, h3, h4⟩ := h
  exact ⟨l, ns, i, x, c, m, o, k _ _ h1, k _ _ h2, h3, h4⟩
section
variable {X : Cx} {a b e o i : Expr} {ta tb te to ti : TE} {pos p' : Pos}
theorem pix (ha : PE X a ta) (hb : PE X b tb) (hs : PlainIx b := by intro _ _; rfl) : PE X (.Subscript a b pos) (tOp (rIxL X.K) ta tb) := pe_ix ix_list ha hb hs
end
theorem both {c A : Prop} [Decidable c] {P : Hp → Prop} {H : Hp} {a : Addr} (h0 : FlowAt H a) (h1 : (∀ H1, FlowAt H1 a → But a H H1 → P H1) → A) (main : ∀ H1, FlowAt H1 a → But a H H1 → P H1) : if c then A else P H := by
  by_cases h : c
  · rw [if_pos h]
    exact h1 main
  · rw [if_neg h]
    exact main H h0 But.refl
def spLoad : Sp := fun vs H Q _ => ∃ a, vs = [.ref a] ∧ FlowAt H a ∧ ∀ H', FlowAt H' a → But a H H' → Q .non H'
def mx (n : Int) : Int := if n > 1 then n else 1
def spDraw : Sp := fun vs H Q _ => ∃ (a : Addr) (n : Int), vs = [.ref a, .int n] ∧ FlowAt H a ∧ n.natAbs < 2 ^ 400 ∧ ∀ H' (r : Int), FlowAt H' a → But a H H' → 0 ≤ r → r < mx n → Q (.int r) H'
theorem mx_pos (n : Int) : 0 < mx n := by
  unfold mx
  split <;> omega
theorem mx_big {n : Int} (h : n.natAbs < 2 ^ 400) : (mx n).natAbs < 2 ^ 400 := by
  unfold mx
  split
  · exact h
  · exact (show (1 : Nat) < 2 ^ 400 from Nat.lt_of_lt_of_le (show 1 < 2 ^ 1 from by decide) (Nat.pow_le_pow_right (show 2 > 0 from by decide) (show 1 ≤ 400 from by decide)))
def spFlow (K : PySem.W.Frag) : Sp := fun vs H Q _ => ∃ (a : Addr) (ns : List Int), vs = [.ref a] ∧ SqL K H a (ns.map V.int) ∧ ns.length ≤ 63 ∧ ∀ H' p, H p = none → FlowAt H' p → Same H H' → Q (.ref p) H'
def spPick (K : PySem.W.Frag) : Sp := fun vs H Q _ => ∃ (a t : Addr) (xs : List V), vs = [.ref a, .ref t] ∧ FlowAt H a ∧ SqL K H t xs ∧ (∀ H', But a H H' → SqL K H' t xs) ∧ 0 < xs.length ∧ xs.length < 100000 ∧ ∀ H' x, FlowAt H' a → But a H H' → x ∈ xs → Q x H'
/-- a def's body where an error is handled -/
theorem FunD.okH {P : Program} {w : World} {K : PySem.W.Frag} {mg : Str → Option Value} {base : Heap} {x qual : Str} {params : Arguments} {body : List Stmt} {scope : Scope} {dvs : List V} {kws : List (Str × V)} {f : Addr} {fd : FuncData} {CX : CXT} {N ps : List Str} {k : Nat} {sp : Sp}
    (F : FunD K x qual params body scope dvs kws f fd) (S : FnScope N ps scope) (len : ∀ vs H Q E, sp vs H Q E → vs.length = ps.length)
    (hbody : ∀ (cdv : Value) (A : Around) (outer : List Env) (s : Shared) (H : Hp) (vs : List V) (Q : VK) (E : XK) (p : Addr × Obj), L2H.Hot1 A p → L2H.RoomH k (A.deeper (envOfC qual scope s.heap.objs.size f cdv)) → sp vs H Q E →
      ∃ t, PSs (L2H.cxH CX P w K mg base N qual scope f cdv A outer s H E p) body t ∧ t { nx := fun _ H' => Q .non H', rt := Q } (L2.start N vs) H) : L2H.FnH P w K mg base CX (k + 1) f fd ps sp := by
  obtain ⟨oc, od, dV, kV, doc, pm, an, cdv, ct, osl, rfl, lk, hcd, _, _⟩ := F.ex
  exact L2H.fn_ofH lk hcd S len fun A outer s H vs Q E p hot hr hsp => hbody cdv A outer s H vs Q E p hot hr hsp
end My

/-! defs by name, texts by their signs, names -/
namespace My
open PySem PySem.Spec PyProof.Rows L2 SX
/-- the def x of the module, as the text has it at st -/
structure Have (K : PySem.W.Frag) (mg : Str → Option Value) (x : Str) (st : Stmt) : Prop where
  ex : ∃ f fd, FunD K x x (defArgs st) (defBody st) (defScope st) [] [] f fd ∧ mg x = some (.ref f)
section
variable {P : Program} {w : World} {K : PySem.W.Frag} {mg : Str → Option Value} {base : Heap}
theorem cal {x : Str} {st : Stmt} {N ps : List Str} {k : Nat} {sp : Sp} (T : Have K mg x st) (S : C8.scC N ps (defScope st) = true)
    (b : ∀ (kV doc pm : Value) (an : Option Addr) (cdv ct : Value) (us : List Value), us.length = ps.length → bindArgs (PySem.W.fnOf x x (defArgs st) (defBody st) (defScope st) .none kV doc pm an cdv ct) ⟨us, []⟩ = pure (ps.zip us))
    (len : ∀ vs H Q E, sp vs H Q E → vs.length = ps.length)
    (hbody : ∀ (f : Addr) (cdv : Value) (A : Around) (outer : List Env) (s : Shared) (H : Hp) (vs : List V) (Q : VK) (E : XK), Room k (A.deeper (envOfC x (defScope st) s.heap.objs.size f cdv)) → sp vs H Q E →
      ∃ t, PSs (cxOf CX0 P w K mg base N x (defScope st) f cdv A outer s H E).nox (defBody st) t ∧ t { nx := fun _ H' => Q .non H', rt := Q } (L2.start N vs) H) : C8.Cal P w K mg base (k + 1) x sp [] := by
  obtain ⟨f, fd, F, g⟩ := T.ex
  refine ⟨f, fd, ps, [], F.ok (CX := CX0) (C8.fnScope_by S) len fun cdv A outer s H vs Q E hr h => ?_, g, F.kp, F.bindsN b, .nil⟩
  obtain ⟨t, h1, h2⟩ := hbody f cdv A outer s H vs Q E hr h
  exact ⟨t, PSs.nox h1, h2⟩
/-- a def that may raise -/
structure CalX (P : Program) (w : World) (K : PySem.W.Frag) (mg : Str → Option Value) (base : Heap) (k : Nat) (x : Str) (sp : Sp) : Prop where
  ex : ∃ (f : Addr) (fd : FuncData) (ps : List Str), FnOk P w K mg base (L2N.CX P w) k f fd ps sp ∧ mg x = some (.ref f) ∧ PySem.W.keepIn K (.ref f) = true ∧ Binds K fd ps []
theorem calX {x : Str} {st : Stmt} {N ps : List Str} {k : Nat} {sp : Sp} (T : Have K mg x st) (S : C8.scC N ps (defScope st) = true)
    (b : ∀ (kV doc pm : Value) (an : Option Addr) (cdv ct : Value) (us : List Value), us.length = ps.length → bindArgs (PySem.W.fnOf x x (defArgs st) (defBody st) (defScope st) .none kV doc pm an cdv ct) ⟨us, []⟩ = pure (ps.zip us))
    (len : ∀ vs H Q E, sp vs H Q E → vs.length = ps.length)
    (hbody : ∀ (f : Addr) (cdv : Value) (A : Around) (outer : List Env) (s : Shared) (H : Hp) (vs : List V) (Q : VK) (E : XK), Room k (A.deeper (envOfC x (defScope st) s.heap.objs.size f cdv)) → sp vs H Q E →
      ∃ t, PSs (cxOf (L2N.CX P w) P w K mg base N x (defScope st) f cdv A outer s H E) (defBody st) t ∧ t { nx := fun _ H' => Q .non H', rt := Q } (L2.start N vs) H) : CalX P w K mg base (k + 1) x sp := by
  obtain ⟨f, fd, F, g⟩ := T.ex
  exact ⟨f, fd, ps, F.ok (CX := L2N.CX P w) (C8.fnScope_by S) len fun cdv A outer s H vs Q E hr h => hbody f cdv A outer s H vs Q E hr h, g, F.kp, F.bindsN b⟩
end
/-! ### texts by their signs -/
theorem len_S (l : List Nat) : (S l).length = l.length := S_len l
theorem eta_S (x : Str) : ∃ l, x = S l := ⟨x.cps.toList, (S_tl x).symm⟩
theorem join0 : ∀ ls : List (List Nat), TL.joinL [] ls = ls.flatten
  | [] => rfl
  | [p] => by rw [List.flatten_cons, List.flatten_nil, List.append_nil]; rfl
  | p :: q :: r => by
    show p ++ ([] ++ TL.joinL [] (q :: r)) = _
    rw [join0 (q :: r), List.nil_append]
    rfl
def Low (c : Nat) : Prop := 97 ≤ c ∧ c < 123
def abcL : List Nat := (List.range 26).map (97 + ·)
theorem abc_eq : ("abcdefghijklmnopqrstuvwxyz" : Str) = S abcL := by decide +kernel
theorem abc_at {i : Int} (h0 : 0 ≤ i) (h1 : i < 26) : ∃ c, atI ("abcdefghijklmnopqrstuvwxyz" : Str).cps.toList i = some c ∧ Low c := by
  obtain ⟨n, rfl⟩ : ∃ n : Nat, i = n := ⟨i.toNat, by omega⟩
  rw [abc_eq]
  refine ⟨97 + n, atI_nat (j := n) ?_, by unfold Low; omega⟩
  show abcL[n]? = _
  unfold abcL
  rw [List.getElem?_map, List.getElem?_range (by omega)]
  rfl
theorem low_abc {c : Nat} : decide (c ∈ ("abcdefghijklmnopqrstuvwxyz" : Str).cps.toList) = true ↔ Low c := by
  rw [abc_eq, decide_eq_true_iff]
  show c ∈ abcL ↔ _
  unfold abcL Low
  rw [List.mem_map]
  constructor
  · rintro ⟨i, hi, rfl⟩
    have := List.mem_range.mp hi
    omega
  · intro h
    exact ⟨c - 97, List.mem_range.mpr (by omega), by omega⟩
/-- a name of a side -/
def IsName (s : Str) : Prop := ∃ l, s = S l ∧ 1 ≤ l.length ∧ l.length ≤ 8 ∧ ∀ c ∈ l, Low c
theorem IsName.len {s : Str} (h : IsName s) : 1 ≤ s.length ∧ s.length ≤ 8 := by
  obtain ⟨l, rfl, h1, h2, _⟩ := h
  rw [len_S]
  exact ⟨h1, h2⟩
theorem small_len {s : Str} (h : s.length ≤ 1000) : s.length ≤ sizeLine := Nat.le_trans h (by decide)
theorem inV_str (s : Str) : ∀ xs : List Str, inV (.str s) (xs.map V.str) = xs.contains s
  | [] => rfl
  | x :: xs => by
    rw [List.map_cons, List.contains_cons]
    show (eqV (.str x) (.str s) || inV (.str s) (xs.map V.str)) = _
    rw [inV_str s xs]
    congr 1
    show (x == s) = (s == x)
    by_cases e : x = s
    · rw [e]
    · rw [beq_eq_false_iff_ne.mpr e, beq_eq_false_iff_ne.mpr (Ne.symm e)]
theorem flat_strs : ∀ xs : List Str, (xs.map V.str).all flatV = true
  | [] => rfl
  | x :: xs => by
    rw [List.map_cons, List.all_cons, flat_strs xs]
    rfl
/-! ### the stream of draws, its list's address told -/
def FlowL (H : Hp) (a l : Addr) : Prop := ∃ (ns : List Int) (i x c m o : Int), H a = some (.lst (fl l i x c m o)) ∧ H l = some (.lst (ns.map V.int)) ∧ (0 ≤ i ∧ i ≤ (ns.length : Int)) ∧ ns.length ≤ 63
theorem FlowL.keep {H H' : Hp} {a l : Addr} (h : FlowL H a l) (k : Same H H') : FlowL H' a l := by
  obtain ⟨ns, i, x, c, m, o, h1, h2, h3, h4⟩ := h
  exact ⟨ns, i, x, c, m, o, k _ _ h1, k _ _ h2, h3, h4⟩
theorem FlowL.neq {H : Hp} {a l b : Addr} (h : FlowL H a l) (n : H b = none) : b ≠ a ∧ b ≠ l := by
  obtain ⟨ns, i, x, c, m, o, h1, h2, _⟩ := h
  refine ⟨fun e => ?_, fun e => ?_⟩
  · rw [e, h1] at n
    cases n
  · rw [e, h2] at n
    cases n
/-- a store elsewhere -/
theorem FlowL.upd {H : Hp} {a l b : Addr} {o : HO} (h : FlowL H a l) (n : b ≠ a ∧ b ≠ l) : FlowL (L2.upd H b o) a l := by
  obtain ⟨ns, i, x, c, m, o, h1, h2, h3⟩ := h
  exact ⟨ns, i, x, c, m, o, by rw [upd_ne (Ne.symm n.1)]; exact h1, by rw [upd_ne (Ne.symm n.2)]; exact h2, h3⟩
theorem FlowL.ne {H : Hp} {a l : Addr} (h : FlowL H a l) : l ≠ a := by
  obtain ⟨ns, i, x, c, m, o, h1, h2, _⟩ := h
  exact fl_ne h1 h2
theorem But.upd' {a : Addr} {H0 H1 : Hp} {b : Addr} {o : HO} (x : But a H0 H1) (n : H0 b = none) : But a H0 (L2.upd H1 b o) := fun d u h nd => by
  rw [upd_ne (ne_of_none h n)]
  exact x d u h nd
theorem bothL {c A : Prop} [Decidable c] {P : Hp → Prop} {H : Hp} {a l : Addr} (h0 : FlowL H a l) (h1 : (∀ H1, FlowL H1 a l → But a H H1 → P H1) → A) (main : ∀ H1, FlowL H1 a l → But a H H1 → P H1) : if c then A else P H := by
  by_cases h : c
  · rw [if_pos h]
    exact h1 main
  · rw [if_neg h]
    exact main H h0 But.refl
def spLoadL : Sp := fun vs H Q _ => ∃ a l, vs = [.ref a] ∧ FlowL H a l ∧ ∀ H', FlowL H' a l → But a H H' → Q .non H'
def spDrawL : Sp := fun vs H Q _ => ∃ (a l : Addr) (n : Int), vs = [.ref a, .int n] ∧ FlowL H a l ∧ n.natAbs < 2 ^ 400 ∧ ∀ H' (r : Int), FlowL H' a l → But a H H' → 0 ≤ r → r < mx n → Q (.int r) H'
def spFlowL (K : PySem.W.Frag) : Sp := fun vs H Q _ => ∃ (a : Addr) (ns : List Int), vs = [.ref a] ∧ SqL K H a (ns.map V.int) ∧ ns.length ≤ 63 ∧ ∀ H' p l, H p = none → FlowL H' p l → Same H H' → Q (.ref p) H'
def spPickL (K : PySem.W.Frag) : Sp := fun vs H Q _ => ∃ (a l t : Addr) (xs : List V), vs = [.ref a, .ref t] ∧ FlowL H a l ∧ SqL K H t xs ∧ (∀ H', But a H H' → SqL K H' t xs) ∧ 0 < xs.length ∧ xs.length < 100000 ∧ ∀ H' x, FlowL H' a l → But a H H' → x ∈ xs → Q x H'
/-! ### rules whose part K is told, for the blocks of comprehensions -/
section
variable {X : Cx} {K : PySem.W.Frag}
theorem op_inK (h : X.K = K) : OpR X (compareOp .In) (rIn K false) := by rw [← h]; exact op_in_seq
theorem op_notInK (h : X.K = K) : OpR X (compareOp .NotIn) (rIn K true) := by rw [← h]; exact op_notIn_seq
theorem ix_tupK (h : X.K = K) : IxR X (rIxT K) := by rw [← h]; exact ix_tup
theorem sl_listK (h : X.K = K) : SlR X (rSlL K) := by rw [← h]; exact sl_list
def rLenK (K : PySem.W.Frag) : List V → Hp → VK → Prop := fun xs H Q => ∃ p ys, xs = [.ref p] ∧ (SqL K H p ys ∨ SqT K H p ys) ∧ Q (.int (ys.length : Nat)) H
theorem call_lenK (h : X.K = K) : CallR X (.builtin "len") (rLenK K) := by rw [← h]; exact call_len_seq
theorem call_isiK (h : X.K = K) : CallR X (.builtin "isinstance") (rIsi K) := by rw [← h]; exact call_isi
end
end My

/-! tuples that are known to the object: no dict of their own, so that their methods are found -/
namespace L2
open PySem PySem.Spec PyProof.Rows
/-- a tuple that is known to the object -/
def TupG (K : PySem.W.Frag) (H : Hp) (a : Addr) (xs : List V) : Prop :=
  (∃ o : Obj, o.dict = none ∧ H a = some (.frz o (.tup xs))) ∨
    ∃ (o : Obj) (ys : Array Value) (m : Nat), K.lookup a = some o ∧ o.dict = none ∧ o.cls = .type "tuple" ∧ o.data = .seq ys m ∧ ys.size ≤ sizeLine ∧ Vals xs ys.toList
theorem TupG.sqT {K : PySem.W.Frag} {H : Hp} {a : Addr} {xs : List V} (h : TupG K H a xs) : SqT K H a xs := by
  rcases h with ⟨o, _, e⟩ | ⟨o, ys, m, e1, _, e2, e3⟩
  · exact .inl (.inr ⟨o, e⟩)
  · exact .inr ⟨o, ys, m, e1, e2, e3⟩
/-- what is wanted of a new one -/
def NewG (H : Hp) (xs : List V) (Q : VK) : Prop := ∀ (p : Addr) (o : Obj), o.dict = none → H p = none → Q (.ref p) (upd H p (.frz o (.tup xs)))
section
variable {X : Cx} {pins : List (Addr × Obj)} {σ : St} {H : Hp} {s : Shared} {Q : VK}
theorem made_tup {xs : List V} {us : List Value} (I : Inv X pins σ H s) (rv : Vals xs us) (hz : xs.length ≤ sizeLine) (q : NewG H xs Q) :
    EP X pins σ Q (.ref s.heap.objs.size) { s with heap := s.heap.push { cls := .type "tuple", data := .seq us.toArray } } := by
  have no : H s.heap.objs.size = none := I.hok.fresh (Nat.le_refl _)
  have fit : ObjOk X.prog X.w (upd H s.heap.objs.size (.frz { cls := .type "tuple", data := .seq us.toArray } (.tup xs))) (s.heap.push { cls := .type "tuple", data := .seq us.toArray }) s.heap.objs.size (.frz { cls := .type "tuple", data := .seq us.toArray } (.tup xs)) :=
    ⟨Heap.get?_push_size _ rfl, hz, us, rv, IsTup.new _ _⟩
  exact ⟨.ref s.heap.objs.size, _, I.laid (t' := s.toks) (fun _ _ g => Heap.get?_push_of_some _ g) (Nat.le_refl _) fit, rfl, q _ { cls := .type "tuple", data := .seq us.toArray } rfl no⟩
def tTupG (t : TA) : TE := fun τ J R => t τ J fun xs J1 => xs.length ≤ sizeLine ∧ NewG J1 xs R
theorem pe_tupG {es : List Expr} {pos : Pos} {t : TA} {j} (h : PA X es t) : PE X (.Tuple es j pos) (tTupG t) := by
  refine ⟨fun pn s0 τ J R I q => wpAny_Tuple_spliced (thn (h.run pos pn s0 τ J _ I q) ?_)⟩
  rintro us s1 ⟨xs, J1, I1, rv, z, q1⟩
  have zl : us.length ≤ sizeLine := by rw [← rv.length]; exact z
  exact ⟨zl, made_tup I1 rv z q1⟩
def rCatG (K : PySem.W.Frag) : R2 := fun x y J R => ∃ a b xs ys, x = .ref a ∧ y = .ref b ∧ SqT K J a xs ∧ SqT K J b ys ∧ xs.length + ys.length ≤ sizeLine ∧
  (xs = [] → R (.ref b) J) ∧ (ys = [] → R (.ref a) J) ∧ NewG J (xs ++ ys) R
theorem op_catG : OpR X (binaryOp .Add) (rCatG X.K) := by
  intro pn s0 τ J x y v u R I rx ry h
  obtain ⟨a, b, xs, ys, rfl, rfl, ha, hb, z, q0, q1, q2⟩ := h
  by_cases hx : xs = []
  · exact op_catA pn s0 τ J _ _ v u R I rx ry ⟨a, b, xs, ys, rfl, rfl, ha, hb, z, q0, fun n => absurd hx n, fun n => absurd hx n⟩
  · cases rx
    cases ry
    obtain ⟨us, r1, g1, _⟩ := I.tuple ha
    obtain ⟨ws, r2, g2, _⟩ := I.tuple hb
    refine HT.cat_tup g1 g2 (fun n => hx (r1.nil_iff.mp n)) (fun n => ⟨.ref a, J, I, rfl, q1 (r2.nil_iff.mp n)⟩) (fun _ => ?_) (by rw [← r1.length, ← r2.length]; exact z)
    exact made_tup I (r1.append r2) (by rw [List.length_append]; exact z) q2
def rSlG (K : PySem.W.Frag) : V → Option Int → Option Int → Hp → VK → Prop := fun x lo hi J R => ∃ a xs, x = .ref a ∧ SqT K J a xs ∧ (cutV xs lo hi = xs → R (.ref a) J) ∧ NewG J (cutV xs lo hi) R
theorem sl_tupG : SlR X (rSlG X.K) := by
  intro pn s0 τ J x v vl vu lo hi sl R I rx hs pl pu h
  obtain ⟨a, xs, rfl, hx, q1, q2⟩ := h
  by_cases hw : HT.sIx xs.length 0 lo = 0 ∧ HT.sIx xs.length xs.length hi = xs.length
  · refine sl_tupA pn s0 τ J _ v vl vu lo hi sl R I rx hs pl pu ⟨a, xs, rfl, hx, fun _ => q1 ?_, fun n => absurd hw n⟩
    unfold cutV
    rw [hw.1, hw.2]
    simp
  · cases rx
    obtain ⟨us, rv, g, z⟩ := I.tuple hx
    have e : us.toArray.size = xs.length := by rw [List.size_toArray]; exact rv.length.symm
    refine ⟨"tuple", _, PyProof.Rows.slot_tuple_getitem.lookup, g.typeIs, HT.getItem_tuple_cut g hs pl pu (by rw [e]; exact hw) ?_ (by rw [e]; exact z)⟩
    rw [e]
    exact made_tup I ((rv.drop _).take _) (Nat.le_trans (cutV_length xs lo hi) z) q2
theorem call_tupG : CallR X (.type "tuple") (fun vs J R => ∃ p ys, vs = [.ref p] ∧ ((SqL X.K J p ys ∧ NewG J ys R) ∨ (SqT X.K J p ys ∧ R (.ref p) J))) := by
  intro pn s0 τ J vs us R I r h
  obtain ⟨p, ys, rfl, ⟨hq, q⟩ | ⟨hq, q⟩⟩ := h
  · obtain ⟨u, rfl, rx⟩ := vals1 r
    cases rx
    obtain ⟨ws, rv, g, z⟩ := I.list hq
    refine call_tuple_list g.isList (fun h' kp => ?_) (by simp only [List.size_toArray]; rw [← rv.length]; exact z)
    exact made_tup (I.kept (t' := s0.toks) kp) rv z q
  · exact call_tuple_of pn s0 τ J _ us R I r ⟨p, ys, rfl, .inr ⟨hq, q⟩⟩
def tTupRgG (te : St → Hp → (Int → Int → Hp → Prop) → Prop) : TE := fun τ J R => te τ J fun a b J1 => RgOk a b ∧ NewG J1 (rgV a b) R
theorem pe_tupRgG {e : Expr} {p pos : Pos} {te : St → Hp → (Int → Int → Hp → Prop) → Prop} (hc : X.calm = true) (hg : Gl X "tuple") (hm : X.mg "tuple" = none) (he : PRg X e te) (na : starEach [e] X.env = (false, eval e X.env) :: starEach [] X.env := by rfl) : PE X (.Call (.Name "tuple" p) [e] [] pos) (tTupRgG te) := by
  refine ⟨fun pn s0 τ J R I h => Call_ (ld_blt I hg hm boot_tuple (PyProof.Rows.callWith_type1 (PyProof.Rows.args_cons (thn (he pn s0 τ J _ I h) ?_) na) na))⟩
  rintro x s1 ⟨r, a, b, t, u, v, J1, rfl, hr, I1, ok, q⟩
  refine PyProof.Rows.args_nil ?_
  obtain ⟨b1, b2, b3, b4, b5⟩ := ok
  refine call_tuple_range (n := (b - a).toNat) (I1.ok.hd hc) hr (small_one b1 b2 b3 b4) (rangeSize_nat a b) b5 fun h' tk acc hk hi => ?_
  have z : (rgV a b).length ≤ sizeLine := by rw [rgV_length, sizeLine_eq]; omega
  have := made_tup (Q := R) (us := acc.toList) (I1.kept (t' := tk) hk) (vals_rg hi) z q
  rwa [Array.toArray_toList] at this
/-- o.m(e ..), o a tuple that is known -/
def tTM (K : PySem.W.Frag) (r : V → List V → Hp → VK → Prop) (to : TE) (t : TA) : TE := fun τ J R => to τ J fun x J1 => (∃ a xs, x = .ref a ∧ TupG K J1 a xs) ∧ t τ J1 fun vs J2 => r x vs J2 R
theorem pe_tm {o e : Expr} {es : List Expr} {id : String} {name : Str} {apos cpos : Pos} {r : V → List V → Hp → VK → Prop} {to : TE} {t : TA} (slot : Slot "tuple" name id) (hty : typeOf (.builtin id) = pure (.type "method_descriptor")) (hm : MtR X id r) (ho : PE X o to) (ha : PA X (e :: es) t)
    (hbase : attributeBase o name X.env (eval o X.env) = eval o X.env := by rfl)
    (hfew : ((backTo cpos (starEach (e :: es) X.env)).all (fun x => !x.1) && (backToKw cpos (keywordEach [] X.env)).all (fun x => x.1.isSome)
      && decide ((e :: es).length + ([] : List Keyword).length + (if ([] : List Keyword).isEmpty then 0 else 1) < 30)) = true := by rfl)
    (hline : (apos.endLine == cpos.line) = true := by rfl) (hs : starEach (e :: es) X.env = (false, eval e X.env) :: starEach es X.env := by rfl) (hplain : (backTo cpos (starEach es X.env)).any (·.1) = false := by rfl) :
    PE X (.Call (.Attribute o name apos) (e :: es) [] cpos) (tTM X.K r to t) := by
  refine ⟨fun pn s0 τ J R I h => wpAny_Call_method_late hbase hfew hline rfl (thn (ho.run pn s0 τ J _ I h) ?_)⟩
  rintro v s1 ⟨x, J1, I1, rx, ⟨a, xs, rfl, g⟩, q1⟩
  obtain rfl : v = .ref a := rx
  have kno : ∃ ob, s1.heap.get? a = some ob ∧ ob.dict = none := by
    rcases g with ⟨ob, d, e⟩ | ⟨ob, _, _, e, d, _⟩
    · exact ⟨ob, (I1.hok a _ e).1, d⟩
    · exact ⟨ob, I1.kIn _ _ e, d⟩
  obtain ⟨us, rv, ht, _⟩ := I1.tuple g.sqT
  refine ⟨"tuple", id, PySem.F.plainAttrs_tuple, slot, hty, ht.typeIs, fun b eb => ?_, ?_⟩
  · cases eb
    exact kno
  have hA := ha.run cpos pn s1 τ J1 _ I1 q1
  rw [hs] at hA ⊢
  refine Calls.callWith_builtin (by show (false || (backTo cpos (starEach es X.env)).any (·.1)) = false; rw [hplain]; rfl) (Calls.evalArgs_plain (thn hA ?_))
  rintro ws s2 ⟨vs, J2, I2, r2, q2⟩
  exact hm pn s2 τ J2 (.ref a) vs (.ref a) ws R I2 rfl r2 q2
theorem nth_strs {ys : List Str} {us : List Value} (rv : Vals (ys.map V.str) us) : StrsAre us ys := by
  simpa using rv.strs
def rTIx (K : PySem.W.Frag) : V → List V → Hp → VK → Prop := fun x vs J R => ∃ p, x = .ref p ∧ ((∃ (ys : List Str) (k : Str), vs = [.str k] ∧ SqT K J p (ys.map V.str) ∧ k ∈ ys ∧ R (.int (ys.idxOf k : Nat)) J) ∨ ∃ (ns : List Int) (k : Int), vs = [.int k] ∧ SqT K J p (ns.map V.int) ∧ k ∈ ns ∧ R (.int (ns.idxOf k : Nat)) J)
theorem mt_tix : MtR X "tuple.index" (rTIx X.K) := by
  intro pn s0 τ J x vs v us R I rx rs h
  obtain ⟨p, rfl, ⟨ys, k, rfl, hq, hk, q⟩ | ⟨ns, k, rfl, hq, hk, q⟩⟩ := h
  · cases rx
    obtain ⟨u, rfl, t, rfl⟩ := vals1 rs
    obtain ⟨ws, rv, g, _⟩ := I.tuple hq
    exact SeqAt.tuple_index_strs g (nth_strs rv) hk ⟨.int (ys.idxOf k : Nat), J, I.tok _, ⟨_, rfl⟩, q⟩
  · cases rx
    obtain ⟨u, rfl, t, rfl⟩ := vals1 rs
    obtain ⟨ws, rv, g, _⟩ := I.tuple hq
    exact SeqAt.tuple_index_ints g (by simpa using rv.ints) hk ⟨.int (ns.idxOf k : Nat), J, I.tok _, ⟨_, rfl⟩, q⟩
end
end L2

/-! a def's promise where it is known that no repr is under way -/
namespace L2
open PySem PySem.Spec PyProof.Rows
structure Rm (k : Nat) (A : Around) : Prop extends Room k A where
  gd : A.guards = some []
theorem Rm.mono {j k : Nat} {A : Around} (r : Rm k A) (h : j ≤ k) : Rm j A := ⟨r.toRoom.mono h, r.gd⟩
theorem Rm.deeper {k : Nat} {A : Around} (r : Rm (k + 1) A) (v : Env) : Rm k (A.deeper v) := ⟨r.toRoom.deeper v, r.gd⟩
theorem Rm.make {k : Nat} {A : Around} (r : Rm (k + 1) A) (C : Addr) (us : List Value) (kw : List (Str × Value)) : Rm k (A.under (.builtin "type.__call__" ⟨.ref C :: us, kw⟩)) :=
  ⟨r.toRoom.make C us kw, by show pushGuards (Code.builtin "type.__call__" ⟨.ref C :: us, kw⟩).guards A.guards = some []; rw [r.gd]; rfl⟩
structure FnG (P : Program) (w : World) (K : PySem.W.Frag) (mg : Str → Option Value) (base : Heap) (CX : CXT) (k : Nat) (f : Addr) (fd : FuncData) (ps : List Str) (sp : Sp) : Prop where
  len : ∀ vs H Q E, sp vs H Q E → vs.length = ps.length
  run : ∀ (A : Around) (up : List Env) (s : Shared) (H : Hp) (args : Args) (us : List Value) (vs : List V) (Q : VK) (E : XK), Rm k A → Env0 P w K mg base A up s H → BindsTo s fd args (ps.zip us) → Vals vs us → sp vs H Q E →
    codeAny (model P w) A (.call (.ref f) args) (CR CX up P w H s Q E) s
section
variable {P : Program} {w : World} {K : PySem.W.Frag} {mg : Str → Option Value} {base : Heap} {CX : CXT} {k : Nat} {f : Addr} {fd : FuncData} {ps : List Str} {sp : Sp}
theorem FnG.mono {j : Nat} (F : FnG P w K mg base CX j f fd ps sp) (h : j ≤ k) : FnG P w K mg base CX k f fd ps sp :=
  ⟨F.len, fun A up s H args us vs Q E r => F.run A up s H args us vs Q E (r.mono h)⟩
theorem fnG_of {x qual : Str} {params : Arguments} {body : List Stmt} {scope : Scope} {dV kV doc pm cdv ct oc : Value} {an od : Option Addr} {osl : Array (Option Value)} {N : List Str}
    (at_ : K.lookup f = some ⟨oc, od, .func (PySem.W.fnOf x qual params body scope dV kV doc pm an cdv ct), osl⟩) (code : PySem.W.codeIn K cdv qual = true) (S : FnScope N ps scope) (len : ∀ vs H Q E, sp vs H Q E → vs.length = ps.length)
    (body_ : ∀ (A : Around) (up : List Env) (s : Shared) (H : Hp) (vs : List V) (Q : VK) (E : XK), Rm k (A.deeper (envOfC qual scope s.heap.objs.size f cdv)) → sp vs H Q E →
      ∃ t, PSs (cxOf CX P w K mg base N qual scope f cdv A up s H E) body t ∧ t { nx := fun _ J => Q .non J, rt := Q } (start N vs) H) :
    FnG P w K mg base CX (k + 1) f (PySem.W.fnOf x qual params body scope dV kV doc pm an cdv ct) ps sp := by
  refine ⟨len, fun A up s H args us vs Q E room env bound rv want => ?_⟩
  have many := len _ _ _ _ want
  have inK : K.In s.heap := env.mod.kin.keeps fun b o e => (env.bs b o e).1
  have free : s.heap.NoLimit := env.mod.nolimit.keeps fun b o e => (env.bs b o e).1
  have kinds : ∀ y ∈ ps.zip us, scope.names.lookup y.1 = some .local ∨ (scope.names.lookup y.1 = some .cell ∧ ((cellsFrom (s.heap.objs.size + 1) scope.names []).lookup y.1).isSome = true) := by
    rintro ⟨n, v⟩ hy
    exact (S.par n (List.of_mem_zip hy).1).imp id fun c => ⟨c, PySem.W.cellsFrom_some _ _ _ (.inl c)⟩
  refine codeAny_call_function room.depth (inK _ _ at_) rfl S.co S.gen rfl (PySem.W.codeRec_of inK code) (bound _ _ _ _ ?_)
  refine wpAny_newFunctionEnv_cells S.kind kinds fun v ev s1 made => ?_
  subst ev
  obtain ⟨t, rd, go⟩ := body_ A up s H vs Q E (room.deeper _) want
  have J0 : Inv (cxOf CX P w K mg base N qual scope f cdv A up s H E) [] (start N vs) H s1 := inv_start S room.hd env many rv made
  refine ⟨free.keeps made.toInCall.keep, codeAny_func (wpAny_mono (rd.run [] s1 (start N vs) H _ J0 go) (fun fl s2 hs => ?_) fun _ _ hs => hs)⟩
  cases fl with
  | ret u =>
    obtain ⟨v, σ', J, I, r2, q⟩ := hs
    exact ⟨v, J, I.os, I.bare, I.base, I.hok, r2, q⟩
  | next =>
    obtain ⟨σ', J, I, q⟩ := hs
    exact ⟨V.non, J, I.os, I.bare, I.base, I.hok, rfl, q⟩
  | brk => exact hs.elim fun _ z => z.elim fun _ z => False.elim z.2
  | cont => exact hs.elim fun _ z => z.elim fun _ z => False.elim z.2
theorem FunD.okG {x qual : Str} {params : Arguments} {body : List Stmt} {scope : Scope} {N : List Str} (F : FunD K x qual params body scope [] [] f fd) (S : FnScope N ps scope) (len : ∀ vs H Q E, sp vs H Q E → vs.length = ps.length)
    (body_ : ∀ (cdv : Value) (A : Around) (up : List Env) (s : Shared) (H : Hp) (vs : List V) (Q : VK) (E : XK), Rm k (A.deeper (envOfC qual scope s.heap.objs.size f cdv)) → sp vs H Q E →
      ∃ t, PSs (cxOf CX P w K mg base N qual scope f cdv A up s H E) body t ∧ t { nx := fun _ J => Q .non J, rt := Q } (start N vs) H) : FnG P w K mg base CX (k + 1) f fd ps sp := by
  obtain ⟨oc, od, dV, kV, doc, pm, an, cdv, ct, osl, rfl, at_, code, _, _⟩ := F.ex
  exact fnG_of at_ code S len fun A up s H vs Q E => body_ cdv A up s H vs Q E
end
section
variable {X : Cx} {k : Nat} {f : Addr} {fd : FuncData} {ps : List Str} {sp : Sp} {CX : CXT}
/-- the call of such a def -/
theorem run_fnG {E : St → XK} {pins : List (Addr × Obj)} {σ : St} {H : Hp} {s : Shared} {Q : VK} {us : List Value} {vs : List V} (F : FnG X.prog X.w X.K X.mg X.base CX k f fd ps sp) (r : Rm k X.A) (b : Binds X.K fd ps []) (hx : PassesAt CX X σ (E σ))
    (I : Inv X pins σ H s) (rv : Vals vs us) (h : sp vs H Q (E σ)) : wpAny (model X.prog X.w) X.A (call (.ref f) us) (EP X pins σ Q) X.xe s := by
  have n : us.length = ps.length := rv.length.symm.trans (F.len _ _ _ _ h)
  have bb := b s us I.kIn (by rw [List.append_nil]; exact n)
  rw [List.append_nil] at bb
  refine wpAny_call (codeAny_mono (F.run X.A X.stack s H ⟨us, []⟩ us vs Q (E σ) r I.env0 bb rv h) ?_)
  rintro (e | fl) s2 hq
  · exact hx pins H s e s2 I hq
  · cases fl with
    | ret u => exact I.after hq
    | next => exact hq.elim
    | brk => exact hq.elim
    | cont => exact hq.elim
/-- f(e, ..) -/
def tCallG (sp : Sp) (W : WX) (t : TA) : TE := fun τ J R => t τ J fun vs J1 => sp vs J1 R (WE W τ)
theorem pe_callG {x : Str} {p pos : Pos} {e : Expr} {es : List Expr} {t : TA} {j : Nat} {Wv : WX} (F : FnG X.prog X.w X.K X.mg X.base (L2N.CX X.prog X.w) k f fd ps sp) (r : Rm j X.A) (hk : k ≤ j) (hg : Gl X x) (hm : X.mg x = some (.ref f)) (kp : PySem.W.keepIn X.K (.ref f) = true) (b : Binds X.K fd ps []) (tk : L2N.Takes X Wv)
    (pa : PA X (e :: es) t) (hdb : (x == ("__debug__" : Str)) = false) (h1 : starEach (e :: es) X.env = (false, eval e X.env) :: starEach es X.env) (h2 : (backTo pos (starEach es X.env)).any (·.1) = false) :
    PE X (.Call (.Name x p) (e :: es) [] pos) (tCallG sp Wv t) := by
  refine ⟨fun pn s0 τ J R I h => wpAny_Call_Name_kw (ld_glob I hg hm ?_ hdb)⟩
  refine PySem.W.callWith_K (h₀ := X.base) I.ok.mod.kin kp (thn (pa.run pos pn s0 τ J _ I h) ?_) h1 h2
  rintro us s1 ⟨vs, J1, I1, rv, q⟩
  exact ⟨I1.kIn, run_fnG (E := WE Wv) F (r.mono hk) b (L2N.passAt tk τ) I1 rv q⟩
end
/-! ### the law's end -/
section
theorem law_callG {P : Program} {w : World} {K : PySem.W.Frag} {mg mb : Str → Option Value} {CX : CXT} {k : Nat} {fa a : Addr} {fd : FuncData} {x : Str} {sp : Sp} {s : Shared} {vs : List Value} {ns : List Int}
    (kin : K.In s.heap) (gl : s.heap.Ns mainGlobals mg) (bl : s.heap.Ns builtinsNs mb) (blt : ∀ x : Str, x ≠ "__name__" → mb x = bootBuiltins x) (lim : s.heap.NoLimit) (gens : s.gens = #[])
    (script : s.heap.get? a = some { cls := .type "list", data := .seq vs.toArray }) (isI : IntsAre vs ns) (short : ns.length ≤ sizeLine) (room : Rm k callerA)
    (F : ∀ base : Heap, K.In base → base.Ns mainGlobals mg → FnG P w K mg base CX k fa fd [x] sp) (bind_ : ∀ (s : Shared) (u : Value), BindsTo s fd ⟨[u], []⟩ [(x, u)])
    (want : ∀ H : Hp, Only H → SqL K H a (ns.map V.int) → sp [.ref a] H (fun v _ => v = .bl true) fun _ _ _ => False)
    (noX : ∀ H e s', CX [] H s (fun _ _ _ => False) e s' → False) :
    codeAny (model P w) callerA (.call (.ref fa) ⟨[.ref a], []⟩) (fun r s' => r = .ok (.ret (.bool true)) ∧ OldK s.heap s'.heap ∧ s'.os = s.os ∧ AllBare s'.gens) s := by
  have rv := vals_ints isI
  have main : ∀ H : Hp, (∀ b, H b = none ∨ (b = a ∧ K.lookup a = none ∧ H b = some (.frz { cls := .type "list", data := .seq vs.toArray } (.lst (ns.map V.int))))) → SqL K H a (ns.map V.int) → HOk P w H s.heap →
      codeAny (model P w) callerA (.call (.ref fa) ⟨[.ref a], []⟩) (fun r s' => r = .ok (.ret (.bool true)) ∧ OldK s.heap s'.heap ∧ s'.os = s.os ∧ AllBare s'.gens) s := by
    intro H one sq hok
    have only : Only H := fun b => (one b).imp id fun z => ⟨_, _, z.2.2⟩
    have plain : ∀ {b : Addr} {o : Obj} {es : Array DictEntry} {ep : Nat}, s.heap.get? b = some o → o.data = .dict es ep → H b = none := by
      intro b o es ep e d
      rcases one b with z | ⟨rfl, _⟩
      · exact z
      · rw [script] at e
        cases e
        cases d
    have into : ∀ {b : Addr} {m : Str → Option Value}, s.heap.Ns b m → (hidT s.heap H).Ns b m := fun ⟨o, es, ep, e, d, r⟩ => ⟨o, es, ep, hidT_get e (plain e d), d, r⟩
    have kb : K.In (hidT s.heap H) := fun b o e => hidT_get (kin b o e) <| by
      rcases one b with z | ⟨rfl, z, _⟩
      · exact z
      · rw [z] at e
        cases e
    have limb : (hidT s.heap H).NoLimit := lim.elim fun mc z => ⟨mc, into z.1, z.2⟩
    have env : Env0 P w K mg (hidT s.heap H) callerA [] s H := ⟨rfl, ⟨kb, into gl, ⟨mb, into bl, blt⟩, limb⟩, fun b o e => of_hidT e, Nat.le_of_eq (hidT_size _ _), trivial, fun b z => (List.not_mem_nil z).elim, hok, .of_eq gens⟩
    refine codeAny_mono ((F _ kb (into gl)).run callerA [] s H ⟨[.ref a], []⟩ [.ref a] [.ref a] _ _ room env (bind_ s (.ref a)) (.cons rfl .nil) (want H only sq)) ?_
    rintro (e | fl) s' h
    · exact (noX H e s' h).elim
    · cases fl with
      | next => exact h.elim
      | brk => exact h.elim
      | cont => exact h.elim
      | ret u =>
        obtain ⟨v, J, os, bare, un, hok', rr, q⟩ := h
        obtain rfl : v = .bl true := q
        obtain rfl : u = Value.bool true := rr
        refine ⟨rfl, OldK.of_keep fun b o e => ?_, os, bare⟩
        rcases one b with z | ⟨rfl, _, z⟩
        · exact un.keep b o e z (fun n => (List.not_mem_nil n).elim) (by simp)
        · have z2 := un.frzs b _ _ z
          have e2 := (hok' b _ z2).1
          rw [script] at e
          cases e
          exact e2
  cases hk : K.lookup a with
  | some o =>
    have e := kin a o hk
    rw [script] at e
    cases e
    refine main (fun _ => none) (fun _ => .inl rfl) (.inr ⟨_, vs.toArray, _, hk, rfl, rfl, rfl, by rw [List.size_toArray, isI.length]; exact short, by simpa using rv⟩) ?_
    intro b u z
    exact absurd (show (none : Option HO) = some u from z) (by simp)
  | none =>
    refine main (fun b => if b = a then some (.frz { cls := .type "list", data := .seq vs.toArray } (.lst (ns.map V.int))) else none) (fun b => ?_) (.inl (.inr ⟨_, if_pos rfl⟩)) ?_
    · by_cases e : b = a
      · exact .inr ⟨e, hk, if_pos e⟩
      · exact .inl (if_neg e)
    · intro b u z
      by_cases e : b = a
      · have z2 := (if_pos e).symm.trans z
        cases z2
        subst e
        exact ⟨script, by rw [List.length_map]; exact short, vs, _, rv, script⟩
      · have z2 := (if_neg e).symm.trans z
        cases z2
theorem walk_ofG {l : PySem.W.OpenLaw} {n k : Nat} {q : Program} {loose : List Str} {XP : (Str → Option Value) → Heap → Prop} {YP : World → Heap → Prop} {d : DefRec} {CX : CXT} {x : Str}
    (most : l.most = some n) (short : n ≤ sizeLine) (nodef : d.params.defaults = []) (room : Rm k callerA)
    (F : ∀ (w : World) (mg : Str → Option Value) (fa : Addr) (h : Heap), YP w h → h.Ns mainGlobals mg → mg d.name = some (.ref fa) →
      ∃ (K : PySem.W.Frag) (fd : FuncData) (sp : Sp), K.In h ∧ (∀ (s : Shared) (u : Value), BindsTo s fd ⟨[u], []⟩ [(x, u)]) ∧
        (∀ (H : Hp) (a : Addr) (ns : List Int), ns.length ≤ n → Only H → SqL K H a (ns.map V.int) → sp [.ref a] H (fun v _ => v = .bl true) fun _ _ _ => False) ∧
        ∀ base : Heap, K.In base → base.Ns mainGlobals mg → FnG l.prog w K mg base CX k fa fd [x] sp)
    (noX : ∀ (H : Hp) (s : Shared) (e : Value) (s' : Shared), CX [] H s (fun _ _ _ => False) e s' → False) :
    PySem.W.WalkO q loose XP YP l.row.toRowW d [] (fun f vs => PySem.call f vs) := by
  refine Att.attach_call most nodef ?_
  intro w s0 s1 mg mb fa o pm cd doc a vs ns G Y ho hd hcd hmg hobj hints hlen hgens
  obtain ⟨K, fd, sp, kin, hb, hsp, hF⟩ := F w mg fa _ Y G.T.g hmg
  exact law_callG kin G.T.g G.T.b G.T.builtins G.T.nolimit hgens hobj hints (Nat.le_trans hlen short) room hF hb (fun H hO hS => hsp H a ns hlen hO hS) fun H e s' => noX H s1 e s'
end
end L2

/-! a second reading, over trees of data and a row of cells: values, the bond to the abstract heap, expressions and statements -/
namespace L3
open PySem PySem.Spec PyProof.Rows L2
/-- data: tuples by what they hold, everything that may change by its number -/
inductive D where
  | non | bl (b : Bool) | int (i : Int) | str (x : Str) | tup (ds : List D) | loc (n : Nat)
  /-- a list that nobody changes -/
  | kls (ds : List D)
  /-- a pair that an iterator made -/
  | pr (ds : List D)
/-- what stands at a number -/
inductive Nd where
  | lst (ds : List D) | dic (kvs : List (Key × D)) | dit (kvs : List (List Key × D)) | ins (c : Str) (fs : List (Str × D))
abbrev MH := List Nd
abbrev Ev := List (Option D)

abbrev TupIs (K : PySem.W.Frag) (H : Hp) (a : Addr) (xs : List V) : Prop := TupG K H a xs
theorem TupIs.sq {K : PySem.W.Frag} {H : Hp} {a : Addr} {xs : List V} (h : TupIs K H a xs) : SqT K H a xs := h.sqT
def KlsIs (K : PySem.W.Frag) (H : Hp) (a : Addr) (xs : List V) : Prop :=
  (∃ o, H a = some (.frz o (.lst xs))) ∨
    ∃ (o : Obj) (its : Array Value) (n : Nat), K.lookup a = some o ∧ o.cls = .type "list" ∧ o.dict = none ∧ o.data = .seq its n ∧ its.size ≤ sizeLine ∧ Vals xs its.toList
theorem KlsIs.sq {K : PySem.W.Frag} {H : Hp} {a : Addr} {xs : List V} (h : KlsIs K H a xs) : SqL K H a xs := h.elim (fun e => .inl (.inr e)) .inr
mutual
inductive RD (K : PySem.W.Frag) (φ : List Addr) (H : Hp) : D → V → Prop
  | non : RD K φ H .non .non
  | bl (b : Bool) : RD K φ H (.bl b) (.bl b)
  | int (i : Int) : RD K φ H (.int i) (.int i)
  | str (x : Str) : RD K φ H (.str x) (.str x)
  | tup {ds : List D} {a : Addr} {xs : List V} : TupIs K H a xs → RDs K φ H ds xs → RD K φ H (.tup ds) (.ref a)
  | pr {ds : List D} {a : Addr} {xs : List V} : H a = some (.tup xs) → RDs K φ H ds xs → RD K φ H (.pr ds) (.ref a)
  | loc {n : Nat} {a : Addr} : φ[n]? = some a → RD K φ H (.loc n) (.ref a)
  | kls {ds : List D} {a : Addr} {xs : List V} : KlsIs K H a xs → RDs K φ H ds xs → RD K φ H (.kls ds) (.ref a)
inductive RDs (K : PySem.W.Frag) (φ : List Addr) (H : Hp) : List D → List V → Prop
  | nil : RDs K φ H [] []
  | cons {d : D} {ds : List D} {v : V} {vs : List V} : RD K φ H d v → RDs K φ H ds vs → RDs K φ H (d :: ds) (v :: vs)
end
/-- what data lean on -/
structure Mo (φ : List Addr) (H : Hp) (φ' : List Addr) (H' : Hp) : Prop where
  pre : ∀ (n : Nat) (a : Addr), φ[n]? = some a → φ'[n]? = some a
  tup : ∀ a xs, H a = some (.tup xs) → H' a = some (.tup xs)
  frz : ∀ a o u, H a = some (.frz o u) → H' a = some (.frz o u)
/-- from one state to a later one -/
structure Ext (φ : List Addr) (H : Hp) (φ' : List Addr) (H' : Hp) : Prop extends Mo φ H φ' H' where
  keep : ∀ a o, H a = some o → a ∉ φ → H' a = some o ∧ a ∉ φ'
section
variable {K : PySem.W.Frag} {φ φ' φ'' : List Addr} {H H' H'' : Hp}
theorem Mo.refl : Mo φ H φ H := ⟨fun _ _ h => h, fun _ _ h => h, fun _ _ _ h => h⟩
theorem Ext.refl : Ext φ H φ H := ⟨.refl, fun _ _ h n => ⟨h, n⟩⟩
theorem Ext.trans (x : Ext φ H φ' H') (y : Ext φ' H' φ'' H'') : Ext φ H φ'' H'' :=
  ⟨⟨fun n a h => y.pre n a (x.pre n a h), fun a xs h => y.tup a xs (x.tup a xs h), fun a o u h => y.frz a o u (x.frz a o u h)⟩, fun a o h n => y.keep a o (x.keep a o h n).1 (x.keep a o h n).2⟩
theorem KlsIs.ext {a : Addr} {xs : List V} (h : KlsIs K H a xs) (x : Mo φ H φ' H') : KlsIs K H' a xs := h.imp (fun ⟨o, e⟩ => ⟨o, x.frz _ _ _ e⟩) id
theorem TupIs.ext {a : Addr} {xs : List V} (h : TupIs K H a xs) (x : Mo φ H φ' H') : TupIs K H' a xs := h.imp (fun ⟨o, d, e⟩ => ⟨o, d, x.frz _ _ _ e⟩) id
mutual
theorem RD.ext (x : Mo φ H φ' H') : ∀ (d : D) (v : V), RD K φ H d v → RD K φ' H' d v
  | .non, _, .non => .non
  | .bl _, _, .bl b => .bl b
  | .int _, _, .int i => .int i
  | .str _, _, .str s => .str s
  | .tup ds, _, .tup h r => .tup (TupIs.ext h x) (RDs.ext x ds _ r)
  | .pr ds, _, .pr h r => .pr (x.tup _ _ h) (RDs.ext x ds _ r)
  | .loc _, _, .loc h => .loc (x.pre _ _ h)
  | .kls ds, _, .kls h r => .kls (h.ext x) (RDs.ext x ds _ r)
theorem RDs.ext (x : Mo φ H φ' H') : ∀ (ds : List D) (vs : List V), RDs K φ H ds vs → RDs K φ' H' ds vs
  | [], _, .nil => .nil
  | d :: ds, _, .cons h r => .cons (RD.ext x d _ h) (RDs.ext x ds _ r)
end
theorem RD.to {d : D} {v : V} (h : RD K φ H d v) (x : Mo φ H φ' H') : RD K φ' H' d v := RD.ext x d v h
theorem RDs.to {d : List D} {v : List V} (h : RDs K φ H d v) (x : Mo φ H φ' H') : RDs K φ' H' d v := RDs.ext x d v h
theorem RDs.len : ∀ {ds : List D} {vs : List V}, RDs K φ H ds vs → ds.length = vs.length
  | _, _, .nil => rfl
  | _, _, .cons _ r => by rw [List.length_cons, List.length_cons, r.len]
theorem RDs.at_ : ∀ {ds : List D} {vs : List V} {i : Nat} {d : D}, RDs K φ H ds vs → ds[i]? = some d → ∃ v, vs[i]? = some v ∧ RD K φ H d v
  | _, _, _, _, .nil, e => by simp at e
  | _, _, 0, _, .cons r _, e => by simp at e; subst e; exact ⟨_, rfl, r⟩
  | _, _, i + 1, _, .cons _ t, e => by
    obtain ⟨v, h1, h2⟩ := RDs.at_ (i := i) t (by simpa using e)
    exact ⟨v, by simpa using h1, h2⟩
theorem RDs.app : ∀ {ds es : List D} {vs us : List V}, RDs K φ H ds vs → RDs K φ H es us → RDs K φ H (ds ++ es) (vs ++ us)
  | _, _, _, _, .nil, s => s
  | _, _, _, _, .cons r t, s => .cons r (RDs.app t s)
theorem RDs.set {d : D} {v : V} (r : RD K φ H d v) : ∀ {ds : List D} {vs : List V} (i : Nat), RDs K φ H ds vs → RDs K φ H (ds.set i d) (vs.set i v)
  | _, _, _, .nil => .nil
  | _, _, 0, .cons _ t => .cons r t
  | _, _, i + 1, .cons q t => .cons q (RDs.set r i t)
theorem RDs.take : ∀ {ds : List D} {vs : List V} (n : Nat), RDs K φ H ds vs → RDs K φ H (ds.take n) (vs.take n)
  | _, _, 0, _ => .nil
  | _, _, _ + 1, .nil => .nil
  | _, _, n + 1, .cons r t => .cons r (RDs.take n t)
theorem RDs.drop : ∀ {ds : List D} {vs : List V} (n : Nat), RDs K φ H ds vs → RDs K φ H (ds.drop n) (vs.drop n)
  | _, _, 0, r => r
  | _, _, _ + 1, .nil => .nil
  | _, _, n + 1, .cons _ t => RDs.drop n t
theorem RDs.snoc {ds : List D} {vs : List V} {d : D} {v : V} (r : RDs K φ H ds vs) (q : RD K φ H d v) : RDs K φ H (ds ++ [d]) (vs ++ [v]) := r.app (.cons q .nil)
theorem RDs.ofPair : ∀ {ds : List D} {vs : List V}, ds.length = vs.length → (∀ (i : Nat) (d : D) (v : V), ds[i]? = some d → vs[i]? = some v → RD K φ H d v) → RDs K φ H ds vs
  | [], [], _, _ => .nil
  | d :: ds, v :: vs, hl, h => .cons (h 0 d v rfl rfl) (RDs.ofPair (by simpa using hl) fun i d v e f => h (i + 1) d v (by simpa using e) (by simpa using f))
end
/-- named things -/
abbrev RKs (K : PySem.W.Frag) (φ : List Addr) (H : Hp) {κ : Type} : List (κ × D) → List (κ × V) → Prop := Paired fun p q => p.1 = q.1 ∧ RD K φ H p.2 q.2
def RN (K : PySem.W.Frag) (φ : List Addr) (H : Hp) (a : Addr) : Nd → Prop
  | .lst ds => ∃ vs, H a = some (.lst vs) ∧ RDs K φ H ds vs
  | .dic kvs => ∃ vs, H a = some (.dK vs) ∧ RKs K φ H kvs vs
  | .dit kvs => ∃ vs, H a = some (.dT vs) ∧ RKs K φ H kvs vs
  | .ins c fs => ∃ dx vs, H a = some (.ins (He.ga K c) dx vs) ∧ RKs K φ H fs vs
structure RH (K : PySem.W.Frag) (φ : List Addr) (h : MH) (H : Hp) : Prop where
  len : φ.length = h.length
  nd : φ.Nodup
  at_ : ∀ (n : Nat) (a : Addr) (x : Nd), φ[n]? = some a → h[n]? = some x → RN K φ H a x
/-- an error: its class, what it bears -/
structure Xc where
  c : Str
  fs : List (Str × D)
def RX (K : PySem.W.Frag) (φ : List Addr) (H : Hp) (x : Xc) (cls : Value) (dx : Option Addr) : Prop := cls = .ref (He.ga K x.c) ∧ ∃ d fvs, dx = some d ∧ H d = some (.xd fvs) ∧ RKs K φ H x.fs fvs
/-- the error that is handled: its slot, its address, what it is -/
abbrev Er := Option (Nat × Addr × Xc × Value × Option Addr)
def Er.z (er : Er) (K : PySem.W.Frag) (φ : List Addr) (H : Hp) (σ : L2.St) : Prop := match er with
  | none => True
  | some (i, a, x, cls, d) => σ[i]? = some (some (.ref a)) ∧ RX K φ H x cls d
/-- the wish about errors that leave, the error at hand -/
structure Wz where
  w : WX
  er : Er := none
def Wz.ok (W : Wz) (j : Nat) : Bool := match W.er with | none => true | some p => p.1 != j
structure RS (K : PySem.W.Frag) (er : Er) (φ : List Addr) (H : Hp) (ρ : Ev) (σ : L2.St) : Prop where
  len : ρ.length = σ.length
  at_ : ∀ (i : Nat) (d : D), ρ[i]? = some (some d) → ∃ v, σ[i]? = some (some v) ∧ RD K φ H d v
  z : er.z K φ H σ
section
variable {K : PySem.W.Frag} {φ φ' φ'' : List Addr} {H H' H'' : Hp} {h h' : MH} {ρ : Ev} {σ : L2.St} {er : Er}
theorem RKs.to {κ : Type} {ks : List (κ × D)} {vs : List (κ × V)} (r : RKs K φ H ks vs) (x : Mo φ H φ' H') : RKs K φ' H' ks vs := Paired.mapP r fun p q z => ⟨z.1, z.2.to x⟩
theorem Er.z_set {W : Wz} {i : Nat} {v : Option V} (hw : W.ok i = true) (z : W.er.z K φ H σ) : W.er.z K φ H (σ.set i v) := by
  unfold Wz.ok at hw
  cases e : W.er with
  | none => trivial
  | some p =>
    rw [e] at hw z
    refine ⟨?_, z.2⟩
    rw [List.getElem?_set_ne (by simpa using Ne.symm (bne_iff_ne.mp hw))]
    exact z.1
theorem RS.set {W : Wz} {i : Nat} {d : D} {v : V} (r : RS K W.er φ H ρ σ) (hw : W.ok i = true) (q : RD K φ H d v) : RS K W.er φ H (ρ.set i (some d)) (σ.set i (some v)) := by
  refine ⟨by rw [List.length_set, List.length_set, r.len], fun j e hj => ?_, Er.z_set hw r.z⟩
  by_cases hij : i = j
  · subst hij
    by_cases hl : i < ρ.length
    · rw [List.getElem?_set_self hl] at hj
      cases hj
      exact ⟨v, by rw [List.getElem?_set_self (by rw [← r.len]; exact hl)], q⟩
    · rw [List.getElem?_eq_none (by rw [List.length_set]; omega)] at hj
      cases hj
  · rw [List.getElem?_set_ne hij] at hj ⊢
    exact r.at_ j e hj
theorem RS.unset {i : Nat} (r : RS K er φ H ρ σ) : RS K none φ H (ρ.set i none) (σ.set i none) := by
  refine ⟨by rw [List.length_set, List.length_set, r.len], fun j e hj => ?_, trivial⟩
  by_cases hij : i = j
  · subst hij
    by_cases hl : i < ρ.length
    · rw [List.getElem?_set_self hl] at hj; cases hj
    · rw [List.getElem?_eq_none (by rw [List.length_set]; omega)] at hj; cases hj
  · rw [List.getElem?_set_ne hij] at hj ⊢
    exact r.at_ j e hj
theorem RN.to {a : Addr} {x : Nd} (r : RN K φ H a x) (e : Mo φ H φ' H') (k : H' a = H a) : RN K φ' H' a x := by
  cases x with
  | lst ds => obtain ⟨vs, h1, h2⟩ := r; exact ⟨vs, k.trans h1, h2.to e⟩
  | dic ds => obtain ⟨vs, h1, h2⟩ := r; exact ⟨vs, k.trans h1, RKs.to h2 e⟩
  | dit ds => obtain ⟨vs, h1, h2⟩ := r; exact ⟨vs, k.trans h1, RKs.to h2 e⟩
  | ins c ds => obtain ⟨dx, vs, h1, h2⟩ := r; exact ⟨dx, vs, k.trans h1, RKs.to h2 e⟩
theorem RN.ho {a : Addr} {x : Nd} (r : RN K φ H a x) : ∃ o, H a = some o ∧ (∀ xs, o ≠ .tup xs) ∧ (∀ xs, o ≠ .xd xs) ∧ ∀ b u, o ≠ .frz b u := by
  cases x with
  | lst ds => obtain ⟨vs, h1, _⟩ := r; exact ⟨_, h1, (fun _ z => nomatch z), (fun _ z => nomatch z), (fun _ _ z => nomatch z)⟩
  | dic ds => obtain ⟨vs, h1, _⟩ := r; exact ⟨_, h1, (fun _ z => nomatch z), (fun _ z => nomatch z), (fun _ _ z => nomatch z)⟩
  | dit ds => obtain ⟨vs, h1, _⟩ := r; exact ⟨_, h1, (fun _ z => nomatch z), (fun _ z => nomatch z), (fun _ _ z => nomatch z)⟩
  | ins c ds => obtain ⟨dx, vs, h1, _⟩ := r; exact ⟨_, h1, (fun _ z => nomatch z), (fun _ z => nomatch z), (fun _ _ z => nomatch z)⟩
theorem RH.lt (r : RH K φ h H) {n : Nat} {a : Addr} (e : φ[n]? = some a) : n < h.length := by
  have := (List.getElem?_eq_some_iff.mp e).1
  rw [← r.len]; exact this
theorem RH.get (r : RH K φ h H) {n : Nat} {a : Addr} (e : φ[n]? = some a) : ∃ x, h[n]? = some x ∧ RN K φ H a x :=
  ⟨_, List.getElem?_eq_getElem (r.lt e), r.at_ n a _ e (List.getElem?_eq_getElem (r.lt e))⟩
theorem RH.addr (r : RH K φ h H) {n : Nat} {x : Nd} (e : h[n]? = some x) : ∃ a, φ[n]? = some a ∧ RN K φ H a x := by
  have hl : n < φ.length := by rw [r.len]; exact (List.getElem?_eq_some_iff.mp e).1
  exact ⟨_, List.getElem?_eq_getElem hl, r.at_ n _ x (List.getElem?_eq_getElem hl) e⟩
theorem RH.ho (r : RH K φ h H) {a : Addr} (e : a ∈ φ) : ∃ o, H a = some o ∧ (∀ xs, o ≠ .tup xs) ∧ (∀ xs, o ≠ .xd xs) ∧ ∀ b u, o ≠ .frz b u := by
  obtain ⟨n, hn⟩ := List.mem_iff_getElem?.mp e
  obtain ⟨x, _, q⟩ := r.get hn
  exact q.ho
theorem RH.fresh (r : RH K φ h H) {a : Addr} (e : H a = none) : a ∉ φ := fun z => by
  obtain ⟨o, q, _⟩ := r.ho z
  rw [e] at q; cases q
theorem RH.tupn (r : RH K φ h H) {a : Addr} {xs : List V} (e : H a = some (.tup xs)) : a ∉ φ := fun z => by
  obtain ⟨o, q, n⟩ := r.ho z
  rw [e] at q
  exact n.1 xs (Option.some.inj q).symm
theorem RH.xdn (r : RH K φ h H) {a : Addr} {xs : List (Str × V)} (e : H a = some (.xd xs)) : a ∉ φ := fun z => by
  obtain ⟨o, q, n⟩ := r.ho z
  rw [e] at q
  exact n.2.1 xs (Option.some.inj q).symm
theorem RX.to {x : Xc} {cls : Value} {dx : Option Addr} (r : RX K φ H x cls dx) (rh : RH K φ h H) (e : Ext φ H φ' H') : RX K φ' H' x cls dx :=
  let ⟨a, d, fvs, b, c, f⟩ := r; ⟨a, d, fvs, b, (e.keep _ _ c (rh.xdn c)).1, RKs.to f e.toMo⟩
theorem RS.to (r : RS K er φ H ρ σ) (rh : RH K φ h H) (x : Ext φ H φ' H') : RS K er φ' H' ρ σ := ⟨r.len, fun i d e => let ⟨v, e1, e2⟩ := r.at_ i d e; ⟨v, e1, e2.to x.toMo⟩, by
  have z := r.z
  cases er with
  | none => trivial
  | some p => exact ⟨z.1, RX.to z.2 rh x⟩⟩
theorem RS.none_ (r : RS K er φ H ρ σ) : RS K none φ H ρ σ := ⟨r.len, r.at_, trivial⟩
theorem nodup_at {l : List Addr} (nd : l.Nodup) {i j : Nat} {a : Addr} (e : l[i]? = some a) (f : l[j]? = some a) : i = j := by
  obtain ⟨h1, e1⟩ := List.getElem?_eq_some_iff.mp e
  obtain ⟨h2, e2⟩ := List.getElem?_eq_some_iff.mp f
  exact (List.getElem_inj nd).mp (e1.trans e2.symm)
/-- something new that bears no number -/
theorem RH.new (r : RH K φ h H) {p : Addr} (e : H p = none) (o : HO) : RH K φ h (upd H p o) ∧ Ext φ H φ (upd H p o) := by
  have x : Ext φ H φ (upd H p o) := ⟨⟨fun _ _ h => h, fun a xs q => by rw [upd_ne (ne_of_none q e)]; exact q, fun a o u q => by rw [upd_ne (ne_of_none q e)]; exact q⟩, fun a o q n => ⟨by rw [upd_ne (ne_of_none q e)]; exact q, n⟩⟩
  refine ⟨⟨r.len, r.nd, fun n a y e1 e2 => (r.at_ n a y e1 e2).to x.toMo ?_⟩, x⟩
  obtain ⟨o', q, _⟩ := (r.at_ n a y e1 e2).ho
  exact upd_ne (ne_of_none q e)
theorem Mo.reg {p : Addr} : Mo φ H (φ ++ [p]) H := ⟨fun n a q => by rw [List.getElem?_append_left (List.getElem?_eq_some_iff.mp q).1]; exact q, fun _ _ h => h, fun _ _ _ h => h⟩
/-- .. that gets the next number -/
theorem Ext.reg {φ0 : List Addr} {H0 : Hp} (x : Ext φ0 H0 φ H) {p : Addr} (e : H0 p = none) : Ext φ0 H0 (φ ++ [p]) H :=
  ⟨⟨fun n a q => (Mo.reg (H := H)).pre n a (x.pre n a q), x.tup, x.frz⟩, fun a o q n => by
    obtain ⟨q1, q2⟩ := x.keep a o q n
    refine ⟨q1, fun z => ?_⟩
    rcases List.mem_append.mp z with z | z
    · exact q2 z
    · have z' : a = p := by simpa using z
      rw [z', e] at q; cases q⟩
theorem RH.reg (r : RH K φ h H) {p : Addr} (e : p ∉ φ) {x : Nd} (q : RN K (φ ++ [p]) H p x) : RH K (φ ++ [p]) (h ++ [x]) H := by
  refine ⟨by rw [List.length_append, List.length_append, r.len]; rfl, ?_, fun n a y e1 e2 => ?_⟩
  · rw [List.nodup_append]
    exact ⟨r.nd, by simp, fun a ha b hb z => e (by rw [z] at ha; simpa [show b = p by simpa using hb] using ha)⟩
  · by_cases hn : n < φ.length
    · rw [List.getElem?_append_left hn] at e1
      rw [List.getElem?_append_left (by rw [← r.len]; exact hn)] at e2
      exact (r.at_ n a y e1 e2).to Mo.reg rfl
    · have hn' : n = φ.length := by
        have := (List.getElem?_eq_some_iff.mp e1).1
        rw [List.length_append] at this
        simp at this
        omega
      subst hn'
      rw [List.getElem?_append_right (Nat.le_refl _)] at e1
      rw [r.len, List.getElem?_append_right (Nat.le_refl _)] at e2
      simp at e1 e2
      subst e1 e2
      exact q
/-- a new object with the next number -/
theorem RH.push (r : RH K φ h H) {p : Addr} (e : H p = none) {o : HO} {x : Nd} (q : RN K (φ ++ [p]) (upd H p o) p x) : RH K (φ ++ [p]) (h ++ [x]) (upd H p o) ∧ Ext φ H (φ ++ [p]) (upd H p o) :=
  ⟨(r.new e o).1.reg (r.fresh e) q, (r.new e o).2.reg e⟩
theorem get_last : (h ++ [x])[h.length]? = some (x : Nd) := by simp
/-- an object changed -/
theorem RH.chg (r : RH K φ h H) {n : Nat} {a : Addr} (e : φ[n]? = some a) {o : HO} {x : Nd} (q : Mo φ H φ (upd H a o) → RN K φ (upd H a o) a x) : RH K φ (h.set n x) (upd H a o) ∧ Ext φ H φ (upd H a o) := by
  obtain ⟨o0, ho, hn⟩ := r.ho (List.mem_iff_getElem?.mpr ⟨n, e⟩)
  have hx : Ext φ H φ (L2.upd H a o) := ⟨⟨fun _ _ h => h, fun b xs z => by
    rw [upd_ne (fun y => by rw [y, ho] at z; exact hn.1 xs (Option.some.inj z))]; exact z, fun b o u z => by
    rw [upd_ne (fun y => by rw [y, ho] at z; exact hn.2.2 o u (Option.some.inj z))]; exact z⟩, fun b o z nb => ⟨by
    rw [upd_ne (fun y => nb (by rw [y]; exact List.mem_iff_getElem?.mpr ⟨n, e⟩))]; exact z, nb⟩⟩
  refine ⟨⟨by rw [List.length_set, r.len], r.nd, fun m b y e1 e2 => ?_⟩, hx⟩
  by_cases hm : n = m
  · subst hm
    rw [e] at e1
    cases e1
    rw [List.getElem?_set_self (r.lt e)] at e2
    cases e2
    exact q hx.toMo
  · rw [List.getElem?_set_ne hm] at e2
    refine (r.at_ m b y e1 e2).to hx.toMo (upd_ne fun z => hm ?_)
    subst z
    exact nodup_at r.nd e e1
end

/-! ### readings -/
abbrev XQ := Xc → MH → Prop
abbrev ME := Ev → MH → (D → MH → Prop) → XQ → Prop
abbrev MT := Ev → MH → (Bool → MH → Prop) → XQ → Prop
abbrev MA := Ev → MH → (List D → MH → Prop) → XQ → Prop
section
variable (K : PySem.W.Frag) (φ : List Addr) (H : Hp)
def Ok1 (Qm : D → MH → Prop) (Q : VK) : Prop := ∀ φ' h' H' d v, Ext φ H φ' H' → RH K φ' h' H' → RD K φ' H' d v → Qm d h' → Q v H'
def OkT (Qm : Bool → MH → Prop) (Q : Bool → Hp → Prop) : Prop := ∀ φ' h' H' b, Ext φ H φ' H' → RH K φ' h' H' → Qm b h' → Q b H'
def OkA (Qm : List D → MH → Prop) (Q : List V → Hp → Prop) : Prop := ∀ φ' h' H' ds vs, Ext φ H φ' H' → RH K φ' h' H' → RDs K φ' H' ds vs → Qm ds h' → Q vs H'
def OkX (σ : L2.St) (Xm : XQ) (W : Wz) : Prop := ∀ φ' h' H' x cls dx, Ext φ H φ' H' → RH K φ' h' H' → RX K φ' H' x cls dx → Xm x h' → W.w cls dx σ H'
end
section
variable {K : PySem.W.Frag} {φ φ' : List Addr} {H H' : Hp}
theorem Ok1.to {Qm Q} (o : Ok1 K φ H Qm Q) (x : Ext φ H φ' H') : Ok1 K φ' H' Qm Q := fun _ _ _ _ _ y => o _ _ _ _ _ (x.trans y)
theorem OkT.to {Qm Q} (o : OkT K φ H Qm Q) (x : Ext φ H φ' H') : OkT K φ' H' Qm Q := fun _ _ _ _ y => o _ _ _ _ (x.trans y)
theorem OkA.to {Qm Q} (o : OkA K φ H Qm Q) (x : Ext φ H φ' H') : OkA K φ' H' Qm Q := fun _ _ _ _ _ y => o _ _ _ _ _ (x.trans y)
theorem OkX.to {σ Xm W} (o : OkX K φ H σ Xm W) (x : Ext φ H φ' H') : OkX K φ' H' σ Xm W := fun _ _ _ _ _ _ y => o _ _ _ _ _ _ (x.trans y)
end
def SimE (K : PySem.W.Frag) (W : Wz) (t : TE) (m : ME) : Prop := ∀ φ ρ σ h H Qm Q Xm, RH K φ h H → RS K W.er φ H ρ σ → m ρ h Qm Xm → Ok1 K φ H Qm Q → OkX K φ H σ Xm W → t σ H Q
def SimT (K : PySem.W.Frag) (W : Wz) (t : TT) (m : MT) : Prop := ∀ φ ρ σ h H Qm Q Xm, RH K φ h H → RS K W.er φ H ρ σ → m ρ h Qm Xm → OkT K φ H Qm Q → OkX K φ H σ Xm W → t σ H Q
def SimA (K : PySem.W.Frag) (W : Wz) (t : TA) (m : MA) : Prop := ∀ φ ρ σ h H Qm Q Xm, RH K φ h H → RS K W.er φ H ρ σ → m ρ h Qm Xm → OkA K φ H Qm Q → OkX K φ H σ Xm W → t σ H Q
/-- the widest reading -/
def cE (X : Cx) (e : Expr) : TE := fun σ H Q => ∀ (pins : List (Addr × Obj)) (s : Shared), Inv X pins σ H s → wpAny (model X.prog X.w) X.A (eval e X.env) (EP X pins σ Q) X.xe s
def cT (X : Cx) (e : Expr) : TT := fun σ H Q => ∀ (pins : List (Addr × Obj)) (s : Shared), Inv X pins σ H s → wpAny (model X.prog X.w) X.A (isTrue e X.env (eval e X.env)) (TP X pins σ Q) X.xe s
def cW (X : Cx) (e : Expr) : TT := fun σ H Q => ∀ (whole : Sem Value) (pins : List (Addr × Obj)) (s : Shared), Inv X pins σ H s → wpAny (model X.prog X.w) X.A (isTrue e X.env whole) (TP X pins σ Q) X.xe s
def cA (X : Cx) (es : List Expr) : TA := fun σ H Q => ∀ (pos : Pos) (pins : List (Addr × Obj)) (s : Shared), Inv X pins σ H s → wpAny (model X.prog X.w) X.A (spliced (backTo pos (starEach es X.env))) (AP X pins σ Q) X.xe s
theorem cE.pe {X : Cx} {e : Expr} : PE X e (cE X e) := ⟨fun pins s _ _ _ I h => h pins s I⟩
theorem cT.pt {X : Cx} {e : Expr} : PT X e (cT X e) := ⟨fun pins s _ _ _ I h => h pins s I⟩
theorem cW.pw {X : Cx} {e : Expr} : PW X e (cW X e) := ⟨fun wh pins s _ _ _ I h => h wh pins s I⟩
theorem cA.pa {X : Cx} {es : List Expr} : PA X es (cA X es) := ⟨fun pos pins s _ _ _ I h => h pos pins s I⟩
structure CE (X : Cx) (W : Wz) (e : Expr) (m : ME) : Prop where
  sim : SimE X.K W (cE X e) m
structure CT (X : Cx) (W : Wz) (e : Expr) (m : MT) : Prop where
  sim : SimT X.K W (cT X e) m
structure CW (X : Cx) (W : Wz) (e : Expr) (m : MT) : Prop where
  sim : SimT X.K W (cW X e) m
structure CA (X : Cx) (W : Wz) (es : List Expr) (m : MA) : Prop where
  sim : SimA X.K W (cA X es) m
section
variable {X : Cx} {W : Wz} {e : Expr} {es : List Expr}
theorem CE.of {t : TE} {m : ME} (p : PE X e t) (s : SimE X.K W t m) : CE X W e m := ⟨fun φ ρ σ h H Qm Q Xm a b c d f pins sh I => p.run pins sh σ H Q I (s φ ρ σ h H Qm Q Xm a b c d f)⟩
theorem CT.of {t : TT} {m : MT} (p : PT X e t) (s : SimT X.K W t m) : CT X W e m := ⟨fun φ ρ σ h H Qm Q Xm a b c d f pins sh I => p.run pins sh σ H Q I (s φ ρ σ h H Qm Q Xm a b c d f)⟩
theorem CW.of {t : TT} {m : MT} (p : PW X e t) (s : SimT X.K W t m) : CW X W e m := ⟨fun φ ρ σ h H Qm Q Xm a b c d f wh pins sh I => p.run wh pins sh σ H Q I (s φ ρ σ h H Qm Q Xm a b c d f)⟩
theorem CA.of {t : TA} {m : MA} (p : PA X es t) (s : SimA X.K W t m) : CA X W es m := ⟨fun φ ρ σ h H Qm Q Xm a b c d f pos pins sh I => p.run pos pins sh σ H Q I (s φ ρ σ h H Qm Q Xm a b c d f)⟩
end

/-! ### names, constants -/
/-- by a truth -/
def ifB (b : Bool) (A B : Prop) : Prop := match b with | true => A | false => B
theorem ifB_T {b : Bool} {A B : Prop} (h : b = true) (q : A) : ifB b A B := by subst h; exact q
theorem ifB_F {b : Bool} {A B : Prop} (h : b = false) (q : B) : ifB b A B := by subst h; exact q
theorem ifB_of {b : Bool} {A B : Prop} (q : b = true → A) (r : b = false → B) : ifB b A B := by cases b with | true => exact q rfl | false => exact r rfl
theorem ifB_dec {p : Prop} [Decidable p] {A B : Prop} (q : p → A) (r : ¬ p → B) : ifB (decide p) A B := ifB_of (fun h => q (of_decide_eq_true h)) (fun h => r (of_decide_eq_false h))
def mVar (i : Nat) : ME := fun ρ h Q _ => match ρ[i]? with | some (some d) => Q d h | _ => False
abbrev mC (d : D) : ME := fun _ h Q _ => Q d h
section
variable {X : Cx} {W : Wz} {a b c e : Expr} {pos : Pos}
theorem go_var {i : Nat} {ρ : Ev} {h : MH} {d : D} {Q : D → MH → Prop} {E : XQ} (e : ρ[i]? = some (some d)) (q : Q d h) : mVar i ρ h Q E := by unfold mVar; rw [e]; exact q
theorem cv (i : Nat) {x : Str} (hN : X.N[i]? = some x := by rfl) (hv : Vis X.env.scope x := by first | exact Or.inl rfl | exact Or.inr (Or.inl rfl) | exact Or.inr (Or.inr rfl)) (hd : (x == ("__debug__" : Str)) = false := by decide)
    (hcd : (x == ("__classdict__" : Str)) = false := by decide) : CE X W (.Name x pos) (mVar i) := .of (pe_var hN hv hd hcd) fun φ ρ σ h H Qm Q Xm rh rs m ok _ => by
  unfold mVar at m
  split at m
  · rename_i d e
    obtain ⟨v, e1, e2⟩ := rs.at_ i d e
    exact ⟨v, e1, ok _ _ _ _ _ .refl rh e2 m⟩
  · exact m.elim
theorem ce_of_const {v : V} {d : D} (p : PE X e (tC v)) (r : ∀ φ H, RD X.K φ H d v) : CE X W e (mC d) := .of p fun φ ρ σ h H Qm Q Xm rh rs m ok _ => ok _ _ _ _ _ .refl rh (r φ H) m
theorem ce_int {i j} : CE X W (.Constant (.int i) j pos) (mC (.int i)) := ce_of_const pe_int fun _ _ => .int i
theorem ce_bl {b j} : CE X W (.Constant (.bool b) j pos) (mC (.bl b)) := ce_of_const pe_bl fun _ _ => .bl b
theorem ce_non {j} : CE X W (.Constant .none j pos) (mC .non) := ce_of_const pe_non fun _ _ => .non
theorem ce_str {x j} : CE X W (.Constant (.str x) j pos) (mC (.str x)) := ce_of_const pe_str fun _ _ => .str x

/-! ### operators -/
abbrev MO := D → D → MH → (D → MH → Prop) → Prop
def OpM (K : PySem.W.Frag) (r : R2) (m : MO) : Prop := ∀ φ h H dx dy x y Qm Q, RH K φ h H → RD K φ H dx x → RD K φ H dy y → m dx dy h Qm → Ok1 K φ H Qm Q → r x y H Q
structure OpC (X : Cx) (f : Value → Value → Sem Value) (m : MO) : Prop where
  ex : ∃ r, OpR X f r ∧ OpM X.K r m
abbrev mOp (m : MO) (ma mb : ME) : ME := fun ρ h Q E => ma ρ h (fun x h1 => mb ρ h1 (fun y h2 => m x y h2 Q) E) E
theorem sim_op {K : PySem.W.Frag} {ta tb : TE} {ma mb : ME} {r : R2} {m : MO} (ha : SimE K W ta ma) (hb : SimE K W tb mb) (hm : OpM K r m) : SimE K W (tOp r ta tb) (mOp m ma mb) := fun φ ρ σ h H Qm Q Xm rh rs q ok ox =>
  ha φ ρ σ h H _ _ _ rh rs q (fun φ1 h1 H1 dx x e1 rh1 rx q1 => hb φ1 ρ σ h1 H1 _ _ _ rh1 (rs.to rh e1) q1 (fun φ2 h2 H2 dy y e2 rh2 ry q2 => hm φ2 h2 H2 dx dy x y Qm Q rh2 (rx.to e2.toMo) ry q2 (ok.to (e1.trans e2))) (ox.to e1)) ox
theorem ce_op {op : Operator} {ma mb : ME} {m : MO} (ho : OpC X (binaryOp op) m) (ha : CE X W a ma) (hb : CE X W b mb) : CE X W (.BinOp a op b pos) (mOp m ma mb) :=
  let ⟨_, h1, h2⟩ := ho.ex; .of (pe_op h1 cE.pe cE.pe) (sim_op ha.sim hb.sim h2)
theorem ce_cmp {op : CmpOp} {ma mb : ME} {m : MO} (ho : OpC X (compareOp op) m) (ha : CE X W a ma) (hb : CE X W b mb) (hm : behindInMarks op b = false) : CE X W (.Compare a [op] [b] pos) (mOp m ma mb) :=
  let ⟨_, h1, h2⟩ := ho.ex; .of (pe_cmpR h1 cE.pe cE.pe hm) (sim_op ha.sim hb.sim h2)
abbrev isB (k : Bool → MH → Prop) : D → MH → Prop := fun d h => match d with | .bl b => k b h | _ => False
abbrev mTst (m : ME) : MT := fun ρ h Q E => m ρ h (isB Q) E
theorem sim_tst {K : PySem.W.Frag} {t : TE} {m : ME} (ha : SimE K W t m) : SimT K W (tTest t) (mTst m) := fun φ ρ σ h H Qm Q Xm rh rs q ok ox =>
  ha φ ρ σ h H _ _ _ rh rs q (fun φ1 h1 H1 d v e1 rh1 rx q1 => by
    unfold isB at q1
    split at q1
    · cases rx; exact ⟨_, rfl, ok _ _ _ _ e1 rh1 q1⟩
    · exact q1.elim) ox
theorem ct_cmp {op : CmpOp} {ma mb : ME} {m : MO} (ho : OpC X (compareOp op) m) (ha : CE X W a ma) (hb : CE X W b mb) (hm : behindInMarks op b = false) : CT X W (.Compare a [op] [b] pos) (mTst (mOp m ma mb)) :=
  let ⟨_, h1, h2⟩ := ho.ex; .of (pt_cmpR h1 cE.pe cE.pe hm) (sim_tst (sim_op ha.sim hb.sim h2))
theorem ct_val {m : ME} (ha : CE X W a m) (he : ∀ whole, isTrue a X.env whole = (do let v ← whole; standAt a.pos; holding [v] (truthy v)) := by intro _; rfl) : CT X W a (mTst m) := .of (pt_val cE.pe he) (sim_tst ha.sim)
abbrev mUn (m : D → MH → (D → MH → Prop) → Prop) (ma : ME) : ME := fun ρ h Q E => ma ρ h (fun x h1 => m x h1 Q) E
abbrev mNeg : D → MH → (D → MH → Prop) → Prop := fun d h Q => match d with | .int i => Q (.int (-i)) h | _ => False
theorem ce_neg {ma : ME} (ha : CE X W a ma) : CE X W (.UnaryOp .USub a pos) (mUn mNeg ma) := .of (pe_un un_neg cE.pe) fun φ ρ σ h H Qm Q Xm rh rs q ok ox =>
  ha.sim φ ρ σ h H _ _ _ rh rs q (fun φ1 h1 H1 d v e1 rh1 rx q1 => by
    unfold mNeg at q1
    split at q1
    · cases rx; exact ⟨_, rfl, ok _ _ _ _ _ e1 rh1 (.int _) q1⟩
    · exact q1.elim) ox
abbrev mNot (ma : ME) : ME := fun ρ h Q E => ma ρ h (isB fun b h => Q (.bl (!b)) h) E
theorem ce_not {ma : ME} (ha : CE X W a ma) : CE X W (.UnaryOp .Not a pos) (mNot ma) := .of (pe_not cE.pe) fun φ ρ σ h H Qm Q Xm rh rs q ok ox =>
  ha.sim φ ρ σ h H _ _ _ rh rs q (fun φ1 h1 H1 d v e1 rh1 rx q1 => by
    unfold isB at q1
    split at q1
    · cases rx; exact ⟨_, rfl, ok _ _ _ _ _ e1 rh1 (.bl _) q1⟩
    · exact q1.elim) ox
abbrev mAnd (ma mb : ME) : ME := fun ρ h Q E => ma ρ h (isB fun b h1 => ifB b (mb ρ h1 Q E) (Q (.bl false) h1)) E
abbrev mOr (ma mb : ME) : ME := fun ρ h Q E => ma ρ h (isB fun b h1 => ifB b (Q (.bl true) h1) (mb ρ h1 Q E)) E
theorem ce_one {op} {ma : ME} (ha : CE X W a ma) : CE X W (.BoolOp op [a] pos) ma := .of (pe_one cE.pe) ha.sim
theorem ce_and {rest : List Expr} {ma mb : ME} (ha : CE X W a ma) (hb : CE X W (.BoolOp .And (b :: rest) pos) mb) : CE X W (.BoolOp .And (a :: b :: rest) pos) (mAnd ma mb) := .of (pe_and cE.pe cE.pe) fun φ ρ σ h H Qm Q Xm rh rs q ok ox =>
  ha.sim φ ρ σ h H _ _ _ rh rs q (fun φ1 h1 H1 d v e1 rh1 rx q1 => by
    unfold isB at q1
    split at q1
    · cases rx
      rename_i k
      refine ⟨_, rfl, ?_⟩
      cases k with
      | true => exact hb.sim φ1 ρ σ h1 H1 _ _ _ rh1 (rs.to rh e1) q1 (ok.to e1) (ox.to e1)
      | false => exact ok _ _ _ _ _ e1 rh1 (.bl _) q1
    · exact q1.elim) ox
theorem ce_or {rest : List Expr} {ma mb : ME} (ha : CE X W a ma) (hb : CE X W (.BoolOp .Or (b :: rest) pos) mb) : CE X W (.BoolOp .Or (a :: b :: rest) pos) (mOr ma mb) := .of (pe_or cE.pe cE.pe) fun φ ρ σ h H Qm Q Xm rh rs q ok ox =>
  ha.sim φ ρ σ h H _ _ _ rh rs q (fun φ1 h1 H1 d v e1 rh1 rx q1 => by
    unfold isB at q1
    split at q1
    · cases rx
      rename_i k
      refine ⟨_, rfl, ?_⟩
      cases k with
      | false => exact hb.sim φ1 ρ σ h1 H1 _ _ _ rh1 (rs.to rh e1) q1 (ok.to e1) (ox.to e1)
      | true => exact ok _ _ _ _ _ e1 rh1 (.bl _) q1
    · exact q1.elim) ox
abbrev mTAnd (ma mb : MT) : MT := fun ρ h Q E => ma ρ h (fun b h1 => ifB b (mb ρ h1 Q E) (Q false h1)) E
abbrev mTOr (ma mb : MT) : MT := fun ρ h Q E => ma ρ h (fun b h1 => ifB b (Q true h1) (mb ρ h1 Q E)) E
abbrev mTNot (ma : MT) : MT := fun ρ h Q E => ma ρ h (fun b h1 => Q (!b) h1) E
theorem cw_and1 {ma : MT} (ha : CT X W a ma) : CW X W (.BoolOp .And [a] pos) ma := .of (pw_and1 cT.pt) ha.sim
theorem cw_or1 {ma : MT} (ha : CT X W a ma) : CW X W (.BoolOp .Or [a] pos) ma := .of (pw_or1 cT.pt) ha.sim
theorem cw_and {rest : List Expr} {ma mb : MT} (ha : CT X W a ma) (hb : CW X W (.BoolOp .And (b :: rest) pos) mb) : CW X W (.BoolOp .And (a :: b :: rest) pos) (mTAnd ma mb) := .of (pw_and cT.pt cW.pw) fun φ ρ σ h H Qm Q Xm rh rs q ok ox =>
  ha.sim φ ρ σ h H _ _ _ rh rs q (fun φ1 h1 H1 k e1 rh1 q1 => by
    cases k with
    | true => exact hb.sim φ1 ρ σ h1 H1 _ _ _ rh1 (rs.to rh e1) q1 (ok.to e1) (ox.to e1)
    | false => exact ok _ _ _ _ e1 rh1 q1) ox
theorem cw_or {rest : List Expr} {ma mb : MT} (ha : CT X W a ma) (hb : CW X W (.BoolOp .Or (b :: rest) pos) mb) : CW X W (.BoolOp .Or (a :: b :: rest) pos) (mTOr ma mb) := .of (pw_or cT.pt cW.pw) fun φ ρ σ h H Qm Q Xm rh rs q ok ox =>
  ha.sim φ ρ σ h H _ _ _ rh rs q (fun φ1 h1 H1 k e1 rh1 q1 => by
    cases k with
    | false => exact hb.sim φ1 ρ σ h1 H1 _ _ _ rh1 (rs.to rh e1) q1 (ok.to e1) (ox.to e1)
    | true => exact ok _ _ _ _ e1 rh1 q1) ox
theorem CW.ct {m : MT} (h : CW X W e m) : CT X W e m := .of cW.pw.pt h.sim
theorem ct_not {ma : MT} (ha : CT X W a ma) : CT X W (.UnaryOp .Not a pos) (mTNot ma) := .of (pt_not cT.pt) fun φ ρ σ h H Qm Q Xm rh rs q ok ox =>
  ha.sim φ ρ σ h H _ _ _ rh rs q (fun φ1 h1 H1 k e1 rh1 q1 => ok _ _ _ _ e1 rh1 q1) ox
abbrev mIfE (c : MT) (ma mb : ME) : ME := fun ρ h Q E => c ρ h (fun k h1 => ifB k (ma ρ h1 Q E) (mb ρ h1 Q E)) E
theorem ce_ifExp {mc : MT} {ma mb : ME} (hc : CT X W c mc) (ha : CE X W a ma) (hb : CE X W b mb) : CE X W (.IfExp c a b pos) (mIfE mc ma mb) := .of (pe_ifExp cT.pt cE.pe cE.pe) fun φ ρ σ h H Qm Q Xm rh rs q ok ox =>
  hc.sim φ ρ σ h H _ _ _ rh rs q (fun φ1 h1 H1 k e1 rh1 q1 => by
    cases k with
    | true => exact ha.sim φ1 ρ σ h1 H1 _ _ _ rh1 (rs.to rh e1) q1 (ok.to e1) (ox.to e1)
    | false => exact hb.sim φ1 ρ σ h1 H1 _ _ _ rh1 (rs.to rh e1) q1 (ok.to e1) (ox.to e1)) ox
/-- a < b < c -/
abbrev mChain (m m' : MO) (ma mb mc : ME) : ME := fun ρ h Q E => ma ρ h (fun x h1 => mb ρ h1 (fun y h2 => m x y h2 (isB fun k h3 => ifB k (mc ρ h3 (fun z h4 => m' y z h4 fun d h5 => isB (fun b h6 => Q (.bl b) h6) d h5) E) (Q (.bl false) h3))) E) E

/-! ### argument lists, displays -/
abbrev maNil : MA := fun _ h Q _ => Q [] h
abbrev maCons (ma : ME) (mr : MA) : MA := fun ρ h Q E => ma ρ h (fun x h1 => mr ρ h1 (fun xs h2 => Q (x :: xs) h2) E) E
theorem ca_nil : CA X W [] maNil := .of pa_nil fun φ ρ σ h H Qm Q Xm rh rs q ok ox => ok _ _ _ _ _ .refl rh .nil q
theorem ca_cons {es : List Expr} {ma : ME} {mr : MA} (ha : CE X W e ma) (hr : CA X W es mr) (hs : starEach (e :: es) X.env = (false, eval e X.env) :: starEach es X.env := by rfl) : CA X W (e :: es) (maCons ma mr) := .of (pa_cons cE.pe cA.pa hs) fun φ ρ σ h H Qm Q Xm rh rs q ok ox =>
  ha.sim φ ρ σ h H _ _ _ rh rs q (fun φ1 h1 H1 d v e1 rh1 rx q1 => hr.sim φ1 ρ σ h1 H1 _ _ _ rh1 (rs.to rh e1) q1 (fun φ2 h2 H2 ds vs e2 rh2 r2 q2 => ok _ _ _ _ _ (e1.trans e2) rh2 (.cons (rx.to e2.toMo) r2) q2) (ox.to e1)) ox
abbrev mTup (m : MA) : ME := fun ρ h Q E => m ρ h (fun ds h1 => ds.length ≤ 1000 ∧ Q (.tup ds) h1) E
abbrev mLst (m : MA) : ME := fun ρ h Q E => m ρ h (fun ds h1 => ds.length ≤ 1000 ∧ Q (.loc h1.length) (h1 ++ [.lst ds])) E
theorem sz {n : Nat} (h : n ≤ 1000) : n ≤ sizeLine := Nat.le_trans h (by decide)
theorem push_tup {K : PySem.W.Frag} {φ : List Addr} {h : MH} {H : Hp} {p : Addr} {o : Obj} {ds : List D} {vs : List V} (rh : RH K φ h H) (hp : H p = none) (od : o.dict = none) (r : RDs K φ H ds vs) :
    RH K φ h (upd H p (.frz o (.tup vs))) ∧ Ext φ H φ (upd H p (.frz o (.tup vs))) ∧ RD K φ (upd H p (.frz o (.tup vs))) (.tup ds) (.ref p) := by
  obtain ⟨r1, e⟩ := rh.new hp (.frz o (.tup vs))
  exact ⟨r1, e, .tup (.inl ⟨o, od, upd_same⟩) (r.to e.toMo)⟩
theorem newG_of {K : PySem.W.Frag} {φ : List Addr} {h : MH} {H : Hp} {ds : List D} {vs : List V} {Qm : D → MH → Prop} {Q : VK} (rh : RH K φ h H) (r : RDs K φ H ds vs) (ok : Ok1 K φ H Qm Q) (q : Qm (.tup ds) h) : NewG H vs Q := fun p o od hp => by
  obtain ⟨r1, e, rd⟩ := push_tup rh hp od r
  exact ok _ _ _ _ _ e r1 rd q
theorem ce_tup {es : List Expr} {k} {m : MA} (ha : CA X W es m) : CE X W (.Tuple es k pos) (mTup m) := .of (pe_tupG cA.pa) fun φ ρ σ h H Qm Q Xm rh rs q ok ox =>
  ha.sim φ ρ σ h H _ _ _ rh rs q (fun φ1 h1 H1 ds vs e1 rh1 r1 q1 => ⟨by rw [← r1.len]; exact sz q1.1, newG_of rh1 r1 (ok.to e1) q1.2⟩) ox
theorem push_lst {K : PySem.W.Frag} {φ : List Addr} {h : MH} {H : Hp} {p : Addr} {ds : List D} {vs : List V} (rh : RH K φ h H) (hp : H p = none) (r : RDs K φ H ds vs) :
    RH K (φ ++ [p]) (h ++ [.lst ds]) (upd H p (.lst vs)) ∧ Ext φ H (φ ++ [p]) (upd H p (.lst vs)) ∧ RD K (φ ++ [p]) (upd H p (.lst vs)) (.loc h.length) (.ref p) := by
  have e := (rh.new hp (.lst vs)).2.reg hp
  obtain ⟨r1, r2⟩ := rh.push hp (o := .lst vs) (x := .lst ds) ⟨vs, upd_same, r.to e.toMo⟩
  refine ⟨r1, r2, .loc ?_⟩
  rw [← rh.len]; simp
theorem ce_lst {es : List Expr} {m : MA} (ha : CA X W es m) : CE X W (.List es pos) (mLst m) := .of (pe_lst cA.pa) fun φ ρ σ h H Qm Q Xm rh rs q ok ox =>
  ha.sim φ ρ σ h H _ _ _ rh rs q (fun φ1 h1 H1 ds vs e1 rh1 r1 q1 => ⟨by rw [← r1.len]; exact sz q1.1, fun p hp => by
    obtain ⟨rh2, e2, rd⟩ := push_lst rh1 hp r1
    exact ok _ _ _ _ _ (e1.trans e2) rh2 rd q1.2⟩) ox
end
end L3

/-! operators, indices, slices, built-in functions -/
namespace L3
open PySem PySem.Spec PyProof.Rows L2
/-- the list at a number -/
def lstAt (h : MH) (n : Nat) (k : List D → Prop) : Prop := match h[n]? with | some (.lst ds) => k ds | _ => False
theorem lstAt_of {h : MH} {n : Nat} {ds : List D} {k : List D → Prop} (e : h[n]? = some (.lst ds)) (q : k ds) : lstAt h n k := by unfold lstAt; rw [e]; exact q
/-- the list that may be written -/
def wrAt (h : MH) (n : Nat) (k : List D → Prop) : Prop := match h[n]? with | some (.lst ds) => k ds | _ => False
theorem wrAt_of {h : MH} {n : Nat} {ds : List D} {k : List D → Prop} (e : h[n]? = some (.lst ds)) (q : k ds) : wrAt h n k := by unfold wrAt; rw [e]; exact q
def atK (ds : List D) (i : Int) (k : D → Prop) : Prop := match atI ds i with | some d => k d | none => False
theorem atK_of {ds : List D} {i : Int} {d : D} {k : D → Prop} (e : atI ds i = some d) (q : k d) : atK ds i k := by unfold atK; rw [e]; exact q
def sgK (s : Str) (i : Int) (k : Str → Prop) : Prop := s.length ≤ 100000 ∧ match atI s.cps.toList i with | some c => k ⟨#[c]⟩ | none => False
theorem sgK_of {s : Str} {i : Int} {c : Nat} {k : Str → Prop} (h : s.length ≤ 100000) (e : atI s.cps.toList i = some c) (q : k ⟨#[c]⟩) : sgK s i k := by unfold sgK; rw [e]; exact ⟨h, q⟩
section
variable {K : PySem.W.Frag} {φ : List Addr} {h : MH} {H : Hp}
theorem RH.rdL (r : RH K φ h H) {n : Nat} {a : Addr} (e : φ[n]? = some a) {k : List D → Prop} (q : lstAt h n k) : ∃ ds vs, SqL K H a vs ∧ RDs K φ H ds vs ∧ k ds := by
  unfold lstAt at q
  split at q
  · rename_i ds e2
    obtain ⟨vs, h1, h2⟩ := r.at_ n a _ e e2
    exact ⟨ds, vs, .inl (.inl h1), h2, q⟩
  · exact q.elim
theorem RH.wrL (r : RH K φ h H) {n : Nat} {a : Addr} (e : φ[n]? = some a) {k : List D → Prop} (q : wrAt h n k) : ∃ ds vs, H a = some (.lst vs) ∧ RDs K φ H ds vs ∧ k ds := by
  unfold wrAt at q
  split at q
  · rename_i ds e2
    obtain ⟨vs, h1, h2⟩ := r.at_ n a _ e e2
    exact ⟨ds, vs, h1, h2, q⟩
  · exact q.elim
/-- the list at n changed -/
theorem RH.chgL (r : RH K φ h H) {n : Nat} {a : Addr} (e : φ[n]? = some a) {ds : List D} {vs : List V} (q : RDs K φ H ds vs) : RH K φ (h.set n (.lst ds)) (upd H a (.lst vs)) ∧ Ext φ H φ (upd H a (.lst vs)) :=
  r.chg e fun m => ⟨vs, upd_same, q.to m⟩
theorem atI_rel {ds : List D} {vs : List V} (r : RDs K φ H ds vs) {i : Int} {k : D → Prop} (q : atK ds i k) : ∃ d v, atI vs i = some v ∧ RD K φ H d v ∧ k d := by
  unfold atK at q
  split at q
  · rename_i d e
    unfold atI at e ⊢
    rw [← r.len]
    cases h : ixN ds.length i with
    | none => rw [h] at e; cases e
    | some j =>
      rw [h] at e
      obtain ⟨v, e1, e2⟩ := r.at_ (i := j) e
      exact ⟨d, v, e1, e2, q⟩
  · exact q.elim
end

/-! ### data for == and in -/
mutual
def D.py : D → Option PyData
  | .non => some .none
  | .bl b => some (.bool b)
  | .int i => some (.int i)
  | .str x => some (.str x)
  | .tup ds => match D.pys ds with | some es => some (.tuple es) | none => none
  | .loc _ => none
  | .kls ds => match D.pys ds with | some es => some (.list es) | none => none
  | .pr _ => none
def D.pys : List D → Option (List PyData)
  | [] => some []
  | d :: ds => match D.py d, D.pys ds with | some e, some es => some (e :: es) | _, _ => none
end
def D.pyH (h : MH) : D → Option PyData
  | .loc n => match h[n]? with | some (.lst ds) => (D.pys ds).map .list | _ => none
  | d => d.py
section
variable {K : PySem.W.Frag} {φ : List Addr} {h : MH} {H : Hp}
mutual
theorem RD.dp : ∀ (d : D) (v : V) (e : PyData), RD K φ H d v → d.py = some e → Dp K H v e
  | .non, _, e, .non, q => by
    have z : PyData.none = e := Option.some.inj q
    subst z; exact .non
  | .bl b, _, e, .bl _, q => by
    have z : PyData.bool b = e := Option.some.inj q
    subst z; exact .bl b
  | .int b, _, e, .int _, q => by
    have z : PyData.int b = e := Option.some.inj q
    subst z; exact .int b
  | .str b, _, e, .str _, q => by
    have z : PyData.str b = e := Option.some.inj q
    subst z; exact .str b
  | .tup ds, _, e, .tup t r, q => by
    unfold D.py at q
    split at q
    · rename_i es e1
      cases q
      exact .tup t.sq (RDs.dp ds _ es r e1)
    · cases q
  | .loc _, _, _, _, q => by cases q
  | .kls ds, _, e, .kls t r, q => by
    unfold D.py at q
    split at q
    · rename_i es e1
      cases q
      exact .lst t.sq (RDs.dp ds _ es r e1)
    · cases q
theorem RDs.dp : ∀ (ds : List D) (vs : List V) (es : List PyData), RDs K φ H ds vs → D.pys ds = some es → DpAll K H vs es
  | [], _, es, .nil, q => by
    have z : [] = es := Option.some.inj q
    subst z; exact .nil
  | d :: ds, _, es, .cons r1 r2, q => by
    unfold D.pys at q
    split at q
    · rename_i e1 e2 h1 h2
      cases q
      exact .cons (RD.dp d _ _ r1 h1) (RDs.dp ds _ _ r2 h2)
    · cases q
end
theorem RD.dpH (rh : RH K φ h H) {d : D} {v : V} {e : PyData} (r : RD K φ H d v) (q : d.pyH h = some e) : Dp K H v e := by
  cases d with
  | loc n =>
    cases r with
    | loc e1 =>
      simp only [D.pyH] at q
      split at q
      · rename_i ds e2
        obtain ⟨vs, h1, h2⟩ := rh.at_ n _ _ e1 e2
        obtain ⟨es, z, rfl⟩ := Option.map_eq_some_iff.mp q
        exact .lst (.inl (.inl h1)) (RDs.dp _ _ _ h2 z)
      · cases q
  | _ => exact RD.dp _ _ _ r q
end
/-- == by the data -/
def eqK (h : MH) (x y : D) (k : Bool → Prop) : Prop := ∃ d e, x.pyH h = some d ∧ y.pyH h = some e ∧ SeqAt.shaped d = true ∧ SeqAt.shaped e = true ∧ k (PyData.eqv d e)
abbrev oEqB (f : Bool → Bool) : MO := fun x y h Q => match x, y with
  | .int i, .int j => Q (.bl (f (decide (i = j)))) h
  | .str i, .str j => Q (.bl (f (decide (i = j)))) h
  | .bl i, .bl j => Q (.bl (f (decide (i = j)))) h
  | .non, .non => Q (.bl (f true)) h
  | .non, .int _ => Q (.bl (f false)) h | .non, .str _ => Q (.bl (f false)) h | .non, .bl _ => Q (.bl (f false)) h
  | .int _, .non => Q (.bl (f false)) h | .int _, .str _ => Q (.bl (f false)) h
  | .str _, .non => Q (.bl (f false)) h | .str _, .int _ => Q (.bl (f false)) h | .str _, .bl _ => Q (.bl (f false)) h
  | .bl _, .non => Q (.bl (f false)) h | .bl _, .str _ => Q (.bl (f false)) h
  | x, y => eqK h x y fun b => Q (.bl (f b)) h
theorem om_eq {K : PySem.W.Frag} {f : Bool → Bool} : OpM K (fun x y H Q => (scal x y = true ∧ Q (.bl (f (decide (x = y)))) H) ∨ ∃ d e, Dp K H x d ∧ Dp K H y e ∧ SeqAt.shaped d = true ∧ SeqAt.shaped e = true ∧ Q (.bl (f (PyData.eqv d e))) H) (oEqB f) := fun φ h H dx dy x y Qm Q rh rx ry m ok => by
  have fin : ∀ b, Qm (.bl b) h → Q (.bl b) H := fun b q => ok _ _ _ _ _ .refl rh (.bl b) q
  unfold oEqB at m
  split at m
  all_goals first
    | (cases rx; cases ry; refine .inl ⟨rfl, fin _ ?_⟩; simpa using m)
    | skip
  obtain ⟨d, e, h1, h2, s1, s2, q⟩ := m
  exact .inr ⟨d, e, rx.dpH rh h1, ry.dpH rh h2, s1, s2, fin _ q⟩
section
variable {X : Cx} {W : Wz} {a b c e : Expr} {pos : Pos}
theorem OpR.or {f : Value → Value → Sem Value} {r r' : R2} (h : OpR X f r) (h' : OpR X f r') : OpR X f (fun x y H Q => r x y H Q ∨ r' x y H Q) :=
  fun pins s σ H x y v u Q I rx ry z => z.elim (h pins s σ H x y v u Q I rx ry) (h' pins s σ H x y v u Q I rx ry)
theorem o_eq {k : Nat} (hr : Rm k X.A) : OpC X (compareOp .Eq) (oEqB fun b => b) := ⟨_, OpR.or op_eq (op_eqD hr.units), om_eq⟩
theorem o_ne {k : Nat} (hr : Rm k X.A) : OpC X (compareOp .NotEq) (oEqB fun b => !b) := ⟨_, OpR.or op_ne (op_neD hr.units), om_eq⟩
abbrev oInt (C : Int → Int → Prop) (g : Int → Int → D) : MO := fun x y h Q => match x, y with | .int i, .int j => C i j ∧ Q (g i j) h | _, _ => False
theorem om_int {K : PySem.W.Frag} {C : Int → Int → Prop} {g : Int → Int → D} {g' : Int → Int → V} (hg : ∀ φ H i j, RD K φ H (g i j) (g' i j)) : OpM K (rI C g') (oInt C g) := fun φ h H dx dy x y Qm Q rh rx ry m ok => by
  unfold oInt at m
  split at m
  · cases rx; cases ry
    exact ⟨_, _, rfl, rfl, m.1, ok _ _ _ _ _ .refl rh (hg _ _ _ _) m.2⟩
  · exact m.elim
abbrev oInt0 (g : Int → Int → D) : MO := fun x y h Q => match x, y with | .int i, .int j => Q (g i j) h | _, _ => False
theorem om_int0 {K : PySem.W.Frag} {g : Int → Int → D} {g' : Int → Int → V} (hg : ∀ φ H i j, RD K φ H (g i j) (g' i j)) : OpM K (rI0 g') (oInt0 g) := fun φ h H dx dy x y Qm Q rh rx ry m ok => by
  unfold oInt0 at m
  split at m
  · cases rx; cases ry
    exact ⟨_, _, rfl, rfl, ok _ _ _ _ _ .refl rh (hg _ _ _ _) m⟩
  · exact m.elim
theorem o_sub : OpC X (binaryOp .Sub) (oInt0 fun i j => .int (i - j)) := ⟨_, op_sub, om_int0 fun _ _ _ _ => .int _⟩
theorem o_mul : OpC X (binaryOp .Mult) (oInt CMul fun i j => .int (i * j)) := ⟨_, op_mul, om_int fun _ _ _ _ => .int _⟩
theorem o_fdiv : OpC X (binaryOp .FloorDiv) (oInt CDivW fun i j => .int (i / j)) := ⟨_, op_fdivW, om_int fun _ _ _ _ => .int _⟩
theorem o_mod : OpC X (binaryOp .Mod) (oInt (fun _ j => 0 < j) fun i j => .int (i % j)) := ⟨_, op_mod, om_int fun _ _ _ _ => .int _⟩
theorem o_pow : OpC X (binaryOp .Pow) (oInt CPow fun i j => .int (i ^ j.toNat)) := ⟨_, op_pow, om_int fun _ _ _ _ => .int _⟩
theorem o_lt : OpC X (compareOp .Lt) (oInt0 fun i j => .bl (decide (i < j))) := ⟨_, op_lt, om_int0 fun _ _ _ _ => .bl _⟩
theorem o_le : OpC X (compareOp .LtE) (oInt0 fun i j => .bl (decide (i ≤ j))) := ⟨_, op_le, om_int0 fun _ _ _ _ => .bl _⟩
theorem o_gt : OpC X (compareOp .Gt) (oInt0 fun i j => .bl (decide (j < i))) := ⟨_, op_gt, om_int0 fun _ _ _ _ => .bl _⟩
theorem o_ge : OpC X (compareOp .GtE) (oInt0 fun i j => .bl (decide (j ≤ i))) := ⟨_, op_ge, om_int0 fun _ _ _ _ => .bl _⟩
abbrev oIsN (f : Bool → Bool) : MO := fun x y h Q => match y with | .non => (match x with | .non => Q (.bl (f true)) h | _ => Q (.bl (f false)) h) | _ => False
theorem om_isN {K : PySem.W.Frag} {f : Bool → Bool} : OpM K (fun x y H Q => y = .non ∧ Q (.bl (f (decide (x = .non)))) H) (oIsN f) := fun φ h H dx dy x y Qm Q rh rx ry m ok => by
  have fin : ∀ b, Qm (.bl b) h → Q (.bl b) H := fun b q => ok _ _ _ _ _ .refl rh (.bl b) q
  unfold oIsN at m
  split at m
  · cases ry
    split at m
    · cases rx; exact ⟨rfl, fin _ m⟩
    · rename_i hne
      refine ⟨rfl, fin _ ?_⟩
      cases rx <;> first | exact (hne rfl).elim | simpa using m
  · exact m.elim
theorem o_is : OpC X (compareOp .Is) (oIsN fun b => b) := ⟨_, op_isN, om_isN⟩
theorem o_isnot : OpC X (compareOp .IsNot) (oIsN fun b => !b) := ⟨_, op_notN, om_isN⟩
/-- a + b -/
abbrev oAdd : MO := fun x y h Q => match x, y with
  | .int i, .int j => Q (.int (i + j)) h
  | .str s, .str t => s.length + t.length ≤ 100000 ∧ Q (.str (s ++ t)) h
  | .tup s, .tup t => s.length + t.length ≤ 100000 ∧ Q (.tup (s ++ t)) h
  | .loc m, .loc n => wrAt h m fun s => wrAt h n fun t => s.length + t.length ≤ 100000 ∧ Q (.loc h.length) (h ++ [.lst (s ++ t)])
  | _, _ => False
theorem big {n : Nat} (h : n ≤ 100000) : n ≤ sizeLine := Nat.le_trans h (by decide)
theorem o_add : OpC X (binaryOp .Add) oAdd := by
  refine ⟨_, OpR.or op_add (OpR.or op_add_str (OpR.or op_catG op_cat)), fun φ h H dx dy x y Qm Q rh rx ry m ok => ?_⟩
  unfold oAdd at m
  split at m
  · cases rx; cases ry
    exact .inl ⟨_, _, rfl, rfl, ok _ _ _ _ _ .refl rh (.int _) m⟩
  · cases rx; cases ry
    exact .inr (.inl ⟨_, _, rfl, rfl, big m.1, ok _ _ _ _ _ .refl rh (.str _) m.2⟩)
  · rename_i s t
    cases rx with
    | tup tx hx =>
      cases ry with
      | tup ty hy =>
        rename_i xs _ ys
        have same : ∀ {a : Addr} {zs : List V}, TupIs X.K H a zs → zs = xs ++ ys → Q (.ref a) H := fun {a zs} tz ez => ok _ _ _ _ _ .refl rh (.tup tz (by rw [ez]; exact hx.app hy)) m.2
        exact .inr (.inr (.inl ⟨_, _, _, _, rfl, rfl, tx.sq, ty.sq, by rw [← hx.len, ← hy.len]; exact big m.1, fun e => same ty (by rw [e]; rfl), fun e => same tx (by rw [e, List.append_nil]), newG_of rh (hx.app hy) ok m.2⟩))
  · rename_i m' n'
    cases rx with
    | loc e1 =>
      cases ry with
      | loc e2 =>
        obtain ⟨s, vs, h1, h2, q⟩ := rh.wrL e1 m
        obtain ⟨t, us, g1, g2, q⟩ := rh.wrL e2 q
        refine .inr (.inr (.inr ⟨_, _, _, _, rfl, rfl, h1, g1, by rw [← h2.len, ← g2.len]; exact big q.1, fun p hp => ?_⟩))
        obtain ⟨r3, e3, rd⟩ := push_lst rh hp (h2.app g2)
        exact ok _ _ _ _ _ e3 r3 rd q.2
  · exact m.elim

/-! ### in -/
def flatD : D → Bool
  | .non => true | .bl _ => true | .int _ => true | .str _ => true | _ => false
def eqF : D → D → Bool
  | .non, .non => true
  | .bl a, .bl b => a == b
  | .bl a, .int b => (if a then 1 else 0) == b
  | .int a, .bl b => a == (if b then 1 else 0)
  | .int a, .int b => a == b
  | .str a, .str b => a == b
  | _, _ => false
theorem flat_rel {K : PySem.W.Frag} {φ : List Addr} {H : Hp} {d : D} {v : V} (r : RD K φ H d v) : flatV v = flatD d := by cases r <;> rfl
theorem eqF_rel {K : PySem.W.Frag} {φ : List Addr} {H : Hp} {d e : D} {v u : V} (r : RD K φ H d v) (q : RD K φ H e u) : eqV v u = eqF d e := by
  cases r <;> cases q <;> rfl
theorem flats_rel {K : PySem.W.Frag} {φ : List Addr} {H : Hp} : ∀ {ds : List D} {vs : List V}, RDs K φ H ds vs → vs.all flatV = ds.all flatD
  | _, _, .nil => rfl
  | _, _, .cons r t => by rw [List.all_cons, List.all_cons, flat_rel r, flats_rel t]
def inF (x : D) (ds : List D) : Bool := ds.any fun y => eqF y x
theorem inF_rel {K : PySem.W.Frag} {φ : List Addr} {H : Hp} {x : D} {v : V} (r : RD K φ H x v) : ∀ {ds : List D} {vs : List V}, RDs K φ H ds vs → inV v vs = inF x ds
  | _, _, .nil => rfl
  | _, _, .cons q t => by
    show (_ :: _).any _ = (_ :: _).any _
    rw [List.any_cons, List.any_cons, eqF_rel q r]
    exact congrArg _ (inF_rel r t)
/-- in a row of items: flat ones, or by the data -/
def inK (h : MH) (x : D) (ds : List D) (k : Bool → Prop) : Prop :=
  (flatD x = true ∧ ds.all flatD = true ∧ k (inF x ds)) ∨ ∃ d es, x.pyH h = some d ∧ D.pys ds = some es ∧ SeqAt.shaped d = true ∧ SeqAt.shaped (.list es) = true ∧ SeqAt.shaped (.tuple es) = true ∧ k (es.any fun z => PyData.eqv z d)
def sgIn (s t : Str) (k : Bool → Prop) : Prop := ∃ c, s = ⟨#[c]⟩ ∧ k (decide (c ∈ t.cps.toList))
abbrev oIn (f : Bool → Bool) : MO := fun x y h Q => match y with
  | .tup ds => inK h x ds fun b => Q (.bl (f b)) h
  | .loc n => lstAt h n fun ds => inK h x ds fun b => Q (.bl (f b)) h
  | .str t => (match x with | .str s => sgIn s t fun b => Q (.bl (f b)) h | _ => False)
  | _ => False
def rInG (K : PySem.W.Frag) (f : Bool → Bool) : R2 := fun x y H Q => (∃ p xs, y = .ref p ∧ (SqL K H p xs ∨ SqT K H p xs) ∧ flatV x = true ∧ xs.all flatV = true ∧ Q (.bl (f (inV x xs))) H) ∨
  (∃ d ds, Dp K H x d ∧ (Dp K H y (.tuple ds) ∨ Dp K H y (.list ds)) ∧ SeqAt.shaped d = true ∧ SeqAt.shaped (.tuple ds) = true ∧ SeqAt.shaped (.list ds) = true ∧ Q (.bl (f (ds.any fun z => PyData.eqv z d))) H) ∨
  ∃ (c : Nat) (z : Str), x = .str ⟨#[c]⟩ ∧ y = .str z ∧ Q (.bl (f (decide (c ∈ z.cps.toList)))) H
theorem room65 {A : Around} {k : Nat} (hr : Room k A) : A.units + 65 < cLine := by have := hr.un; omega
theorem room_in' {d : PyData} {A : Around} (h : SeqAt.shaped d = true) (hu : A.units + 65 < cLine) : A.units + 1 + d.depth < cLine := by
  have := SeqAt.depth_of_shaped h
  omega
theorem op_inG {k : Nat} (hr : Room k X.A) : OpR X (compareOp .In) (rInG X.K fun b => b) := by
  rintro pins s σ H x y v u Q I rx ry (⟨p, xs, e, h1, h2, h3, q⟩ | ⟨d, ds, h1, h2, s1, s2, s3, q⟩ | ⟨c, z, e1, e2, q⟩)
  · exact op_in_seq pins s σ H x y v u Q I rx ry ⟨p, xs, e, h1, h2, h3, q⟩
  · obtain ⟨_, r1⟩ := Dp.reads I d x v h1 rx
    rcases h2 with h2 | h2
    · obtain ⟨_, r2⟩ := Dp.reads I (.tuple ds) y u h2 ry
      exact SeqAt.in_tuple_reads r2 r1 (SeqAt.canLay_of_shaped s2) (SeqAt.canLay_of_shaped s1) (room_in_shaped s1 (room65 hr)) ⟨.bl _, H, I, rfl, q⟩
    · exact op_inD (room65 hr) pins s σ H x y v u Q I rx ry ⟨d, ds, h1, h2, s1, s3, q⟩
  · exact op_in_sign pins s σ H x y v u Q I rx ry ⟨c, z, e1, e2, q⟩
theorem op_notInG {k : Nat} (hr : Room k X.A) : OpR X (compareOp .NotIn) (rInG X.K fun b => !b) := by
  rintro pins s σ H x y v u Q I rx ry (⟨p, xs, e, h1, h2, h3, q⟩ | ⟨d, ds, h1, h2, s1, s2, s3, q⟩ | ⟨c, z, e1, e2, q⟩)
  · exact op_notIn_seq pins s σ H x y v u Q I rx ry ⟨p, xs, e, h1, h2, h3, q⟩
  · obtain ⟨_, r1⟩ := Dp.reads I d x v h1 rx
    rcases h2 with h2 | h2
    · obtain ⟨_, r2⟩ := Dp.reads I (.tuple ds) y u h2 ry
      exact SeqAt.notIn_tuple_reads r2 r1 (SeqAt.canLay_of_shaped s2) (SeqAt.canLay_of_shaped s1) (room_in_shaped s1 (room65 hr)) ⟨.bl _, H, I, rfl, q⟩
    · exact op_notInD (room65 hr) pins s σ H x y v u Q I rx ry ⟨d, ds, h1, h2, s1, s3, q⟩
  · exact op_notIn_sign pins s σ H x y v u Q I rx ry ⟨c, z, e1, e2, q⟩
theorem om_in {K : PySem.W.Frag} {f : Bool → Bool} : OpM K (rInG K f) (oIn f) := fun φ h H dx dy x y Qm Q rh rx ry m ok => by
  have fin : ∀ b, Qm (.bl b) h → Q (.bl b) H := fun b q => ok _ _ _ _ _ .refl rh (.bl b) q
  unfold oIn at m
  split at m
  · cases ry with
    | tup t r =>
      rcases m with ⟨m1, m2, m3⟩ | ⟨d, es, m1, m2, s1, s2, s3, m3⟩
      · exact .inl ⟨_, _, rfl, .inr t.sq, (flat_rel rx).trans m1, (flats_rel r).trans m2, by rw [inF_rel rx r]; exact fin _ m3⟩
      · exact .inr (.inl ⟨d, es, rx.dpH rh m1, .inl (.tup t.sq (RDs.dp _ _ _ r m2)), s1, s3, s2, fin _ m3⟩)
  · cases ry with
    | loc e1 =>
      obtain ⟨ds, vs, t, r, m⟩ := rh.rdL e1 m
      rcases m with ⟨m1, m2, m3⟩ | ⟨d, es, m1, m2, s1, s2, s3, m3⟩
      · exact .inl ⟨_, _, rfl, .inl t, (flat_rel rx).trans m1, (flats_rel r).trans m2, by rw [inF_rel rx r]; exact fin _ m3⟩
      · exact .inr (.inl ⟨d, es, rx.dpH rh m1, .inr (.lst t (RDs.dp _ _ _ r m2)), s1, s3, s2, fin _ m3⟩)
  · split at m
    · obtain ⟨c, e, q⟩ := m
      cases rx; cases ry
      exact .inr (.inr ⟨c, _, by rw [e], rfl, fin _ q⟩)
    · exact m.elim
  · exact m.elim
theorem o_in {k : Nat} (hr : Rm k X.A) : OpC X (compareOp .In) (oIn fun b => b) := ⟨_, op_inG hr.toRoom, om_in⟩
theorem o_notin {k : Nat} (hr : Rm k X.A) : OpC X (compareOp .NotIn) (oIn fun b => !b) := ⟨_, op_notInG hr.toRoom, om_in⟩

/-! ### indices, slices -/
abbrev oIx : MO := fun x y h Q => match y with
  | .int i => (match x with
    | .tup ds => atK ds i fun d => Q d h
    | .loc n => lstAt h n fun ds => atK ds i fun d => Q d h
    | .kls ds => atK ds i fun d => Q d h
    | .str s => sgK s i fun t => Q (.str t) h
    | _ => False)
  | _ => False
theorem om_ix {K : PySem.W.Frag} : OpM K (rIx K) oIx := fun φ h H dx dy x y Qm Q rh rx ry m ok => by
  unfold oIx at m
  split at m
  · cases ry
    split at m
    · cases rx with
      | tup t r =>
        obtain ⟨d, v, e1, e2, q⟩ := atI_rel r m
        exact .inr (.inl ⟨_, _, _, v, rfl, rfl, t.sq, e1, ok _ _ _ _ _ .refl rh e2 q⟩)
    · cases rx with
      | loc e0 =>
        obtain ⟨ds, vs, t, r, m⟩ := rh.rdL e0 m
        obtain ⟨d, v, e1, e2, q⟩ := atI_rel r m
        exact .inl ⟨_, _, _, v, rfl, rfl, t, e1, ok _ _ _ _ _ .refl rh e2 q⟩
    · cases rx with
      | kls t r =>
        obtain ⟨d, v, e1, e2, q⟩ := atI_rel r m
        exact .inl ⟨_, _, _, v, rfl, rfl, t.sq, e1, ok _ _ _ _ _ .refl rh e2 q⟩
    · cases rx
      obtain ⟨m1, m2⟩ := m
      split at m2
      · rename_i c e
        exact .inr (.inr ⟨_, _, c, rfl, rfl, big m1, e, ok _ _ _ _ _ .refl rh (.str _) m2⟩)
      · exact m2.elim
    · exact m.elim
  · exact m.elim
theorem ce_ix {ma mb : ME} (ha : CE X W a ma) (hb : CE X W b mb) (hs : PlainIx b) : CE X W (.Subscript a b pos) (mOp oIx ma mb) := .of (pe_ix ix_seq cE.pe cE.pe hs) (sim_op ha.sim hb.sim om_ix)
abbrev MP := Ev → MH → (Option Int → MH → Prop) → XQ → Prop
structure CP (X : Cx) (W : Wz) (e : Option Expr) (m : MP) : Prop where
  ex : ∃ t, PO X e t ∧ ∀ φ ρ σ h H Qm Q Xm, RH X.K φ h H → RS X.K W.er φ H ρ σ → m ρ h Qm Xm → (∀ φ' h' H' i, Ext φ H φ' H' → RH X.K φ' h' H' → Qm i h' → Q i H') → OkX X.K φ H σ Xm W → t σ H Q
abbrev mNoP : MP := fun _ h Q _ => Q none h
abbrev mPrt (m : ME) : MP := fun ρ h Q E => m ρ h (fun d h1 => match d with | .int i => Q (some i) h1 | _ => False) E
theorem cp_none : CP X W none mNoP := ⟨_, po_none, fun φ ρ σ h H Qm Q Xm rh rs m ok _ => ok _ _ _ _ .refl rh m⟩
theorem cp_some {m : ME} (h : CE X W e m) : CP X W (some e) (mPrt m) := ⟨_, po_some cE.pe, fun φ ρ σ h' H Qm Q Xm rh rs m ok ox =>
  h.sim φ ρ σ h' H _ _ _ rh rs m (fun φ1 h1 H1 d v e1 rh1 rx q1 => by
    split at q1
    · cases rx; exact ⟨_, rfl, ok _ _ _ _ e1 rh1 q1⟩
    · exact q1.elim) ox⟩
def cutD (xs : List D) (lo hi : Option Int) : List D := (xs.drop (HT.sIx xs.length 0 lo)).take (HT.sIx xs.length xs.length hi - HT.sIx xs.length 0 lo)
theorem cut_rel {K : PySem.W.Frag} {φ : List Addr} {H : Hp} {ds : List D} {vs : List V} (r : RDs K φ H ds vs) (lo hi : Option Int) : RDs K φ H (cutD ds lo hi) (cutV vs lo hi) := by
  unfold cutD cutV
  rw [← r.len]
  exact (r.drop _).take _
abbrev oSl : D → Option Int → Option Int → MH → (D → MH → Prop) → Prop := fun x lo hi h Q => match x with
  | .tup ds => Q (.tup (cutD ds lo hi)) h
  | .loc n => lstAt h n fun ds => Q (.loc h.length) (h ++ [.lst (cutD ds lo hi)])
  | .kls ds => Q (.loc h.length) (h ++ [.lst (cutD ds lo hi)])
  | .str s => s.length ≤ 100000 ∧ Q (.str (Txt.slice s lo hi)) h
  | _ => False
abbrev mSl (ma : ME) (ml mh : MP) : ME := fun ρ h Q E => ma ρ h (fun x h1 => ml ρ h1 (fun l h2 => mh ρ h2 (fun u h3 => oSl x l u h3 Q) E) E) E
theorem ce_slice {lo hi : Option Expr} {ma : ME} {ml mh : MP} {p2 : Pos} (ha : CE X W a ma) (hl : CP X W lo ml) (hh : CP X W hi mh) : CE X W (.Subscript a (.Slice lo hi none p2) pos) (mSl ma ml mh) := by
  obtain ⟨tl, pl, sl⟩ := hl.ex
  obtain ⟨th, ph, sh⟩ := hh.ex
  refine .of (pe_slice (SlR.or sl_list (SlR.or sl_tupG C8.sl_txt)) cE.pe pl ph) fun φ ρ σ h H Qm Q Xm rh rs q ok ox => ?_
  refine ha.sim φ ρ σ h H _ _ _ rh rs q (fun φ1 h1 H1 d v e1 rh1 rx q1 => ?_) ox
  refine sl φ1 ρ σ h1 H1 _ _ _ rh1 (rs.to rh e1) q1 (fun φ2 h2 H2 l e2 rh2 q2 => ?_) (ox.to e1)
  refine sh φ2 ρ σ h2 H2 _ _ _ rh2 (rs.to rh (e1.trans e2)) q2 (fun φ3 h3 H3 u e3 rh3 q3 => ?_) (ox.to (e1.trans e2))
  have rx3 := rx.to (e2.trans e3).toMo
  have E3 := e1.trans (e2.trans e3)
  unfold oSl at q3
  split at q3
  · cases rx3 with
    | tup t r =>
      rename_i xs
      refine .inr (.inl ⟨_, _, rfl, t.sq, fun z => ?_, newG_of rh3 (cut_rel r l u) (ok.to E3) q3⟩)
      exact ok _ _ _ _ _ E3 rh3 (.tup t (by have := cut_rel r l u; rwa [z] at this)) q3
  · cases rx3 with
    | loc e0 =>
      obtain ⟨ds, vs, t, r, q4⟩ := rh3.rdL e0 q3
      refine .inl ⟨_, _, rfl, t, fun p hp => ?_⟩
      obtain ⟨r3, e4, rd⟩ := push_lst rh3 hp (cut_rel r l u)
      exact ok _ _ _ _ _ (E3.trans e4) r3 rd q4
  · cases rx3 with
    | kls t r =>
      refine .inl ⟨_, _, rfl, t.sq, fun p hp => ?_⟩
      obtain ⟨r3, e4, rd⟩ := push_lst rh3 hp (cut_rel r l u)
      exact ok _ _ _ _ _ (E3.trans e4) r3 rd q3
  · cases rx3
    exact .inr (.inr ⟨_, rfl, big q3.1, ok _ _ _ _ _ E3 rh3 (.str _) q3.2⟩)
  · exact q3.elim
end
end L3

/-! statements, loops, comprehensions -/
namespace L3
open PySem PySem.Spec PyProof.Rows L2
/-- what is wanted behind a statement -/
structure MD where
  nx : Ev → MH → Prop
  bk : Ev → MH → Prop
  ct : Ev → MH → Prop
  rt : D → MH → Prop
  ex : Xc → Ev → MH → Prop
abbrev MS := MD → Ev → MH → Prop
structure Lk (K : PySem.W.Frag) (W : Wz) (φ : List Addr) (H : Hp) (M : MD) (E : Ends) : Prop where
  nx : ∀ φ' ρ σ h H', Ext φ H φ' H' → RH K φ' h H' → RS K W.er φ' H' ρ σ → M.nx ρ h → E.nx σ H'
  bk : ∀ φ' ρ σ h H', Ext φ H φ' H' → RH K φ' h H' → RS K W.er φ' H' ρ σ → M.bk ρ h → E.bk σ H'
  ct : ∀ φ' ρ σ h H', Ext φ H φ' H' → RH K φ' h H' → RS K W.er φ' H' ρ σ → M.ct ρ h → E.ct σ H'
  rt : ∀ φ' h H' d v, Ext φ H φ' H' → RH K φ' h H' → RD K φ' H' d v → M.rt d h → E.rt v H'
  ex : ∀ φ' ρ σ h H' x cls dx, Ext φ H φ' H' → RH K φ' h H' → RS K W.er φ' H' ρ σ → RX K φ' H' x cls dx → M.ex x ρ h → W.w cls dx σ H'
section
variable {K : PySem.W.Frag} {W : Wz} {φ φ' : List Addr} {H H' : Hp} {h : MH} {ρ : Ev} {σ : L2.St} {M : MD} {E : Ends}
theorem Lk.to (l : Lk K W φ H M E) (x : Ext φ H φ' H') : Lk K W φ' H' M E :=
  ⟨fun _ _ _ _ _ e => l.nx _ _ _ _ _ (x.trans e), fun _ _ _ _ _ e => l.bk _ _ _ _ _ (x.trans e), fun _ _ _ _ _ e => l.ct _ _ _ _ _ (x.trans e), fun _ _ _ _ _ e => l.rt _ _ _ _ _ (x.trans e), fun _ _ _ _ _ _ _ _ e => l.ex _ _ _ _ _ _ _ _ (x.trans e)⟩
theorem Lk.okx (l : Lk K W φ H M E) (rh : RH K φ h H) (rs : RS K W.er φ H ρ σ) : OkX K φ H σ (fun x h' => M.ex x ρ h') W := fun φ' h' H' x cls dx e rh' rx q => l.ex φ' ρ σ h' H' x cls dx e rh' (rs.to rh e) rx q
end
def SimS (K : PySem.W.Frag) (W : Wz) (t : TS) (m : MS) : Prop := ∀ φ ρ σ h H M E, RH K φ h H → RS K W.er φ H ρ σ → m M ρ h → Lk K W φ H M E → t E σ H
def cS (X : Cx) (st : Stmt) : TS := fun D σ H => ∀ (pins : List (Addr × Obj)) (s : Shared), Inv X pins σ H s → wpAny (model X.prog X.w) X.A (exec st X.env) (SP X pins D) X.xe s
def cSs (X : Cx) (st : List Stmt) : TS := fun D σ H => ∀ (pins : List (Addr × Obj)) (s : Shared), Inv X pins σ H s → wpAny (model X.prog X.w) X.A (execs st X.env) (SP X pins D) X.xe s
theorem cS.ps {X : Cx} {st : Stmt} : PS X st (cS X st) := ⟨fun pins s _ _ _ I h => h pins s I⟩
theorem cSs.pss {X : Cx} {st : List Stmt} : PSs X st (cSs X st) := ⟨fun pins s _ _ _ I h => h pins s I⟩
structure CS (X : Cx) (W : Wz) (st : Stmt) (m : MS) : Prop where
  sim : SimS X.K W (cS X st) m
structure CSs (X : Cx) (W : Wz) (st : List Stmt) (m : MS) : Prop where
  sim : SimS X.K W (cSs X st) m
section
variable {X : Cx} {W : Wz} {st : Stmt} {sts rest : List Stmt} {e c : Expr} {pos : Pos}
theorem CS.of {t : TS} {m : MS} (p : PS X st t) (s : SimS X.K W t m) : CS X W st m := ⟨fun φ ρ σ h H M E a b d f pins sh I => p.run pins sh σ H E I (s φ ρ σ h H M E a b d f)⟩
theorem CSs.of {t : TS} {m : MS} (p : PSs X sts t) (s : SimS X.K W t m) : CSs X W sts m := ⟨fun φ ρ σ h H M E a b d f pins sh I => p.run pins sh σ H E I (s φ ρ σ h H M E a b d f)⟩
abbrev mNext : MS := fun M ρ h => M.nx ρ h
abbrev mSeq (a b : MS) : MS := fun M ρ h => a { M with nx := b M } ρ h
/-- .. with a word of one's own between -/
abbrev mCut (a b : MS) : MS := fun M ρ h => ∃ N : Ev → MH → Prop, a { M with nx := N } ρ h ∧ ∀ ρ' h', N ρ' h' → b M ρ' h'
theorem css_nil : CSs X W [] mNext := .of pss_nil fun φ ρ σ h H M E rh rs m l => l.nx _ _ _ _ _ .refl rh rs m
theorem css_one {m : MS} (h1 : CS X W st m) : CSs X W [st] m := .of (pss_one cS.ps) h1.sim
theorem css_cut {a b : MS} (h1 : CS X W st a) (h2 : CSs X W rest b) : CSs X W (st :: rest) (mCut a b) := .of (pss_cons cS.ps cSs.pss) fun φ ρ σ h H M E rh rs ⟨N, m, q⟩ l =>
  h1.sim φ ρ σ h H _ _ rh rs m ⟨fun φ' ρ' σ' h' H' e rh' rs' q' => h2.sim φ' ρ' σ' h' H' M E rh' rs' (q _ _ q') (l.to e), l.bk, l.ct, l.rt, l.ex⟩
theorem css_cons {a b : MS} (h1 : CS X W st a) (h2 : CSs X W rest b) : CSs X W (st :: rest) (mSeq a b) := ⟨fun φ ρ σ h H M E rh rs m l => (css_cut h1 h2).sim φ ρ σ h H M E rh rs ⟨b M, m, fun _ _ q => q⟩ l⟩
theorem cs_pass : CS X W (.Pass pos) mNext := .of ps_pass fun φ ρ σ h H M E rh rs m l => l.nx _ _ _ _ _ .refl rh rs m
theorem cs_break : CS X W (.Break pos) (fun M ρ h => M.bk ρ h) := .of ps_break fun φ ρ σ h H M E rh rs m l => l.bk _ _ _ _ _ .refl rh rs m
theorem cs_continue : CS X W (.Continue pos) (fun M ρ h => M.ct ρ h) := .of ps_continue fun φ ρ σ h H M E rh rs m l => l.ct _ _ _ _ _ .refl rh rs m
abbrev mDrop (m : ME) : MS := fun M ρ h => m ρ h (fun _ h1 => M.nx ρ h1) (fun x h1 => M.ex x ρ h1)
theorem cs_expr {m : ME} (he : CE X W e m) (hs : swapsWith e none pos.line X.env = pure false := by rfl) : CS X W (.Expr e pos) (mDrop m) := .of (ps_expr cE.pe hs) fun φ ρ σ h H M E rh rs q l =>
  he.sim φ ρ σ h H _ _ _ rh rs q (fun φ1 h1 H1 d v e1 rh1 rx q1 => l.nx _ _ _ _ _ e1 rh1 (rs.to rh e1) q1) (l.okx rh rs)
abbrev mRet (m : ME) : MS := fun M ρ h => m ρ h M.rt (fun x h1 => M.ex x ρ h1)
theorem cs_ret {m : ME} (he : CE X W e m) : CS X W (.Return (some e) pos) (mRet m) := .of (ps_ret cE.pe) fun φ ρ σ h H M E rh rs q l =>
  he.sim φ ρ σ h H _ _ _ rh rs q (fun φ1 h1 H1 d v e1 rh1 rx q1 => l.rt _ _ _ _ _ e1 rh1 rx q1) (l.okx rh rs)
theorem cs_retN : CS X W (.Return none pos) (fun M _ h => M.rt .non h) := .of ps_retN fun φ ρ σ h H M E rh rs q l => l.rt _ _ _ _ _ .refl rh .non q
abbrev mIf (c : MT) (t u : MS) : MS := fun M ρ h => c ρ h (fun k h1 => ifB k (t M ρ h1) (u M ρ h1)) (fun x h1 => M.ex x ρ h1)
theorem cs_if {a b : List Stmt} {mc : MT} {t u : MS} (hc : CT X W c mc) (ha : CSs X W a t) (hb : CSs X W b u) : CS X W (.If c a b pos) (mIf mc t u) := .of (ps_if cT.pt cSs.pss cSs.pss) fun φ ρ σ h H M E rh rs q l =>
  hc.sim φ ρ σ h H _ _ _ rh rs q (fun φ1 h1 H1 k e1 rh1 q1 => by
    cases k with
    | true => exact ha.sim φ1 ρ σ h1 H1 M E rh1 (rs.to rh e1) q1 (l.to e1)
    | false => exact hb.sim φ1 ρ σ h1 H1 M E rh1 (rs.to rh e1) q1 (l.to e1)) (l.okx rh rs)

/-! ### targets -/
abbrev MG := D → Ev → MH → (Ev → MH → Prop) → XQ → Prop
abbrev MGs := List D → Ev → MH → (Ev → MH → Prop) → XQ → Prop
def SimG (K : PySem.W.Frag) (W : Wz) (vs : List Nat) (t : TG) (m : MG) : Prop := ∀ φ ρ σ h H d v Qm Q Xm, RH K φ h H → RS K W.er φ H ρ σ → RD K φ H d v → m d ρ h Qm Xm →
  (∀ φ' ρ' σ' h' H', Ext φ H φ' H' → RH K φ' h' H' → RS K W.er φ' H' ρ' σ' → wipe σ' vs = wipe σ vs → Qm ρ' h' → Q σ' H') → OkX K φ H σ Xm W → t v σ H Q
def SimGs (K : PySem.W.Frag) (W : Wz) (vs : List Nat) (t : TGs) (m : MGs) : Prop := ∀ φ ρ σ h H ds us Qm Q Xm, RH K φ h H → RS K W.er φ H ρ σ → RDs K φ H ds us → m ds ρ h Qm Xm →
  (∀ φ' ρ' σ' h' H', Ext φ H φ' H' → RH K φ' h' H' → RS K W.er φ' H' ρ' σ' → wipe σ' vs = wipe σ vs → Qm ρ' h' → Q σ' H') → (∀ σ', wipe σ' vs = wipe σ vs → OkX K φ H σ' Xm W) → t us σ H Q
/-- a target's store lets no error out here -/
structure CG (X : Cx) (W : Wz) (vs : List Nat) (tg : Expr) (m : MG) : Prop where
  ex : ∃ t, PG X tg t ∧ SimG X.K W vs t m
structure CGs (X : Cx) (W : Wz) (vs : List Nat) (tg : List Expr) (m : MGs) : Prop where
  ex : ∃ t, PGs X tg t ∧ SimGs X.K W vs t m
theorem wipe_set {σ : L2.St} {i : Nat} {x : Option V} : ∀ {vs : List Nat}, i ∈ vs → wipe (σ.set i x) vs = wipe σ vs
  | [], h => by cases h
  | v :: vs, h => by
    unfold wipe
    by_cases hi : i ∈ vs
    · rw [wipe_set hi]
    · have e : i = v := by simpa [hi] using h
      subst e
      have key : ∀ (us : List Nat) (τ : L2.St), i ∉ us → wipe (τ.set i x) us = (wipe τ us).set i x := by
        intro us
        induction us with
        | nil => intro τ _; rfl
        | cons u us ih =>
          intro τ hn
          unfold wipe
          rw [ih τ (fun z => hn (List.mem_cons_of_mem _ z)), List.set_comm _ _ (fun z => hn (by rw [← z]; exact List.mem_cons_self))]
      rw [key vs σ hi, List.set_set]
abbrev gmName (i : Nat) : MG := fun d ρ h Q _ => Q (ρ.set i (some d)) h
abbrev gmNil : MGs := fun ds ρ h Q _ => match ds with | [] => Q ρ h | _ => False
abbrev gmCons (g : MG) (gs : MGs) : MGs := fun ds ρ h Q E => match ds with | d :: r => g d ρ h (fun ρ1 h1 => gs r ρ1 h1 Q E) E | [] => False
abbrev gmTup (n : Nat) (gs : MGs) : MG := fun d ρ h Q E => match d with | .tup ds => ds.length = n ∧ gs ds ρ h Q E | .pr ds => ds.length = n ∧ gs ds ρ h Q E | .loc m => lstAt h m fun ds => ds.length = n ∧ gs ds ρ h Q E | _ => False
theorem pg_either {X : Cx} {tg : Expr} {t1 t2 : TG} (a : PG X tg t1) (b : PG X tg t2) : PG X tg (fun v σ H Q => t1 v σ H Q ∨ t2 v σ H Q) := ⟨fun pins s σ H v u Q I r hw => hw.elim (a.run pins s σ H v u Q I r) (b.run pins s σ H v u Q I r)⟩
theorem cg_name (vs : List Nat) {i : Nat} {x : Str} (hv : i ∈ vs) (hw : W.ok i = true) (hN : X.N.Nodup) (hi : X.N[i]? = some x) (hx : Loc X.env.scope x) (hf : X.fn x = true ∨ X.env.scope.names.lookup x = some .local) : CG X W vs (.Name x pos) (gmName i) :=
  ⟨_, pg_name hN hi hx hf, fun φ ρ σ h H d v Qm Q Xm rh rs rd m ok _ => ok _ _ _ _ _ .refl rh (rs.set hw rd) (wipe_set hv) m⟩
theorem cgs_nil (vs : List Nat) : CGs X W vs [] gmNil := ⟨_, pgs_nil, fun φ ρ σ h H ds us Qm Q Xm rh rs rd m ok _ => by
  unfold gmNil at m
  split at m
  · cases rd; exact ⟨rfl, ok _ _ _ _ _ .refl rh rs rfl m⟩
  · exact m.elim⟩
theorem cgs_cons {vs : List Nat} {es : List Expr} {g : MG} {gs : MGs} (h1 : CG X W vs e g) (h2 : CGs X W vs es gs) (hs : (assignEach (e :: es) X.env).map (·.2) = assign e X.env :: (assignEach es X.env).map (·.2) := by rfl) : CGs X W vs (e :: es) (gmCons g gs) := by
  obtain ⟨t1, p1, s1⟩ := h1.ex
  obtain ⟨t2, p2, s2⟩ := h2.ex
  refine ⟨_, pgs_cons p1 p2 hs, fun φ ρ σ h H ds us Qm Q Xm rh rs rd m ok ox => ?_⟩
  unfold gmCons at m
  split at m
  · cases rd with
    | cons r1 r2 =>
      exact ⟨_, _, rfl, s1 φ ρ σ h H _ _ _ _ _ rh rs r1 m (fun φ1 ρ1 σ1 g1 H1 e1 rh1 rs1 w1 q1 => s2 φ1 ρ1 σ1 g1 H1 _ _ _ _ _ rh1 rs1 (r2.to e1.toMo) q1
        (fun φ2 ρ2 σ2 g2 H2 e2 rh2 rs2 w2 q2 => ok _ _ _ _ _ (e1.trans e2) rh2 rs2 (w2.trans w1) q2) (fun σ' w' => (ox σ' (w'.trans w1)).to e1)) (ox σ rfl)⟩
  · exact m.elim
theorem cg_tup {vs : List Nat} {es : List Expr} {k : Nat} {n : Nat} {gs : MGs} (hx : ∀ φ H σ Xm, OkX X.K φ H σ Xm W → ∀ σ', wipe σ' vs = wipe σ vs → OkX X.K φ H σ' Xm W) (hc : X.calm = true) (h1 : CGs X W vs es gs)
    (hn : (assignEach es X.env).length = n := by rfl) (hst : (assignEach es X.env).findIdx? (·.1) = none := by rfl) : CG X W vs (.Tuple es k pos) (gmTup n gs) := by
  obtain ⟨t1, p1, s1⟩ := h1.ex
  refine ⟨_, pg_either (pg_tup hc p1 hn hst) (pg_unl hc p1 hn hst), fun φ ρ σ h H d v Qm Q Xm rh rs rd m ok ox => ?_⟩
  unfold gmTup at m
  split at m
  · cases rd with
    | tup t r => exact .inl ⟨_, _, rfl, t.sq, r.len.symm.trans m.1, s1 φ ρ σ h H _ _ _ _ _ rh rs r m.2 ok (hx _ _ _ _ ox)⟩
  · cases rd with
    | pr t r => exact .inl ⟨_, _, rfl, .inl (.inl t), r.len.symm.trans m.1, s1 φ ρ σ h H _ _ _ _ _ rh rs r m.2 ok (hx _ _ _ _ ox)⟩
  · cases rd with
    | loc e =>
      obtain ⟨ds, vs, r1, r2, m⟩ := rh.rdL e m
      exact .inr ⟨_, _, rfl, r1, r2.len.symm.trans m.1, s1 φ ρ σ h H _ _ _ _ _ rh rs r2 m.2 ok (hx _ _ _ _ ox)⟩
  · exact m.elim
/-- what is stored by an index -/
def setK (h : MH) (n : Nat) (i : D) (d : D) (k : MH → Prop) : Prop := match h[n]?, i with
  | some (.lst ds), .int j => (match ixN ds.length j with | some m => k (h.set n (.lst (ds.set m d))) | none => False)
  | _, _ => False
theorem setK_of {h : MH} {n : Nat} {ds : List D} {i : Int} {j : Nat} {d : D} {k : MH → Prop} (e : h[n]? = some (.lst ds)) (f : ixN ds.length i = some j) (q : k (h.set n (.lst (ds.set j d)))) : setK h n (.int i) d k := by
  unfold setK
  rw [e]
  show match ixN ds.length i with | some m => k (h.set n (.lst (ds.set m d))) | none => False
  rw [f]; exact q
abbrev oSet : D → D → D → MH → (MH → Prop) → Prop := fun o i d h Q => match o with | .loc n => setK h n i d Q | _ => False
theorem setK_rel {K : PySem.W.Frag} {φ : List Addr} {h : MH} {H : Hp} {o i d : D} {x y v : V} {Q : MH → Prop} {R : Hp → Prop} (rh : RH K φ h H) (rx : RD K φ H o x) (ry : RD K φ H i y) (rd : RD K φ H d v) (q : oSet o i d h Q)
    (ok : ∀ h' H', Ext φ H φ H' → RH K φ h' H' → Q h' → R H') : rSetL x y v H R := by
  unfold oSet at q
  split at q
  · unfold setK at q
    split at q
    · rename_i ds j e1
      split at q
      · rename_i m e2
        cases rx with
        | loc e0 =>
          cases ry
          obtain ⟨vs, h1, h2⟩ := rh.at_ _ _ _ e0 e1
          obtain ⟨r2, x2⟩ := rh.chgL e0 (h2.set rd m)
          exact ⟨_, vs, j, m, rfl, rfl, h1, by rw [← h2.len]; exact e2, ok _ _ x2 r2 q⟩
      · exact q.elim
    · exact q.elim
  · exact q.elim
abbrev gmSub (mo mi : ME) : MG := fun d ρ h Q E => mo ρ h (fun o h1 => mi ρ h1 (fun i h2 => oSet o i d h2 fun h3 => Q ρ h3) E) E
theorem cg_sub (vs : List Nat) {o i : Expr} {mo mi : ME} (ho : CE X W o mo) (hi : CE X W i mi)
    (ha : ∀ v, assign (.Subscript o i pos) X.env v = (do
      let ov ← holding [v] (eval o X.env)
      let iv ← holding [v, ov] (eval i X.env)
      standAt pos
      holding [v, ov, iv] (setItem ov iv v)
      release [v, ov, iv] []) := by intro _; rfl) : CG X W vs (.Subscript o i pos) (gmSub mo mi) :=
  ⟨_, pg_sub cE.pe cE.pe set_list ha, fun φ ρ σ h H d v Qm Q Xm rh rs rd m ok ox =>
    ho.sim φ ρ σ h H _ _ _ rh rs m (fun φ1 h1 H1 d1 v1 e1 rh1 rx q1 => hi.sim φ1 ρ σ h1 H1 _ _ _ rh1 (rs.to rh e1) q1 (fun φ2 h2 H2 d2 v2 e2 rh2 ry q2 =>
      setK_rel rh2 (rx.to e2.toMo) ry (rd.to (e1.trans e2).toMo) q2 fun h' H' e3 rh3 q3 => ok _ _ _ _ _ ((e1.trans e2).trans e3) rh3 (rs.to rh ((e1.trans e2).trans e3)) rfl q3) (ox.to e1)) ox⟩
abbrev mAsg (m : ME) (g : MG) : MS := fun M ρ h => m ρ h (fun d h1 => g d ρ h1 M.nx (fun x h2 => M.ex x ρ h2)) (fun x h1 => M.ex x ρ h1)
theorem cs_asg {vs : List Nat} {tg : Expr} {m : ME} {g : MG} (he : CE X W e m) (hg : CG X W vs tg g) (hs : swapsWithSole [tg] e pos.line X.env = pure false := by rfl) (hw : swappedStores [tg] e X.env = pure none := by rfl)
    (h1 : (assignEach [tg] X.env).map (·.2) = [assign tg X.env] := by rfl) : CS X W (.Assign [tg] e pos) (mAsg m g) := by
  obtain ⟨t, p, s⟩ := hg.ex
  exact .of (ps_asg cE.pe p hs hw h1) fun φ ρ σ h H M E rh rs q l => he.sim φ ρ σ h H _ _ _ rh rs q (fun φ1 h1 H1 d v e1 rh1 rx q1 =>
    s φ1 ρ σ h1 H1 d v _ _ _ rh1 (rs.to rh e1) rx q1 (fun φ2 ρ2 σ2 h2 H2 e2 rh2 rs2 _ q2 => l.nx _ _ _ _ _ (e1.trans e2) rh2 rs2 q2) ((l.okx rh rs).to e1)) (l.okx rh rs)
abbrev mSet (i : Nat) (m : ME) : MS := fun M ρ h => m ρ h (fun d h1 => M.nx (ρ.set i (some d)) h1) (fun x h1 => M.ex x ρ h1)
theorem cs_set {i : Nat} {x : Str} {m : ME} {pos' : Pos} (hw : W.ok i = true) (hN : X.N.Nodup) (hi : X.N[i]? = some x) (hx : Loc X.env.scope x) (he : CE X W e m) (hs : swapsWith e (some (.Name x pos')) pos.line X.env = pure false := by rfl)
    (hf : X.fn x = true ∨ X.env.scope.names.lookup x = some .local := by first | exact .inl rfl | exact .inr rfl | assumption) : CS X W (.Assign [.Name x pos'] e pos) (mSet i m) := .of (ps_set hN hi hx cE.pe hs hf) fun φ ρ σ h H M E rh rs q l =>
  he.sim φ ρ σ h H _ _ _ rh rs q (fun φ1 h1 H1 d v e1 rh1 rx q1 => l.nx _ _ _ _ _ e1 rh1 ((rs.to rh e1).set hw rx) q1) (l.okx rh rs)
abbrev mPar (i j : Nat) (m : MA) : MS := fun M ρ h => m ρ h (fun ds h1 => match ds with | [d, e] => M.nx ((ρ.set i (some d)).set j (some e)) h1 | _ => False) (fun x h1 => M.ex x ρ h1)
theorem io_add : OpC X (inplaceOp .Add) (oInt0 fun i j => .int (i + j)) := ⟨_, iop_add, om_int0 fun _ _ _ _ => .int _⟩
theorem io_sub : OpC X (inplaceOp .Sub) (oInt0 fun i j => .int (i - j)) := ⟨_, iop_sub, om_int0 fun _ _ _ _ => .int _⟩
theorem io_mul : OpC X (inplaceOp .Mult) (oInt CMul fun i j => .int (i * j)) := ⟨_, iop_mul, om_int fun _ _ _ _ => .int _⟩
abbrev mAug (i : Nat) (o : MO) (m : ME) : MS := fun M ρ h => match ρ[i]? with
  | some (some x) => m ρ h (fun y h1 => o x y h1 fun z h2 => M.nx (ρ.set i (some z)) h2) (fun x h1 => M.ex x ρ h1)
  | _ => False
theorem cs_aug {i : Nat} {x : Str} {op : Operator} {o : MO} {m : ME} {pos' : Pos} (hw : W.ok i = true) (hN : X.N.Nodup) (hi : X.N[i]? = some x) (hx : Loc X.env.scope x) (ho : OpC X (inplaceOp op) o) (he : CE X W e m)
    (hf : X.fn x = true ∨ X.env.scope.names.lookup x = some .local := by first | exact .inl rfl | exact .inr rfl | assumption) : CS X W (.AugAssign (.Name x pos') op e pos) (mAug i o m) := by
  obtain ⟨r, h1, h2⟩ := ho.ex
  refine .of (ps_aug hN hi hx cE.pe h1 hf) fun φ ρ σ h H M E rh rs q l => ?_
  unfold mAug at q
  split at q
  · rename_i d e0
    obtain ⟨v, e1, rd⟩ := rs.at_ i d e0
    exact ⟨v, e1, he.sim φ ρ σ h H _ _ _ rh rs q (fun φ1 h1' H1 d1 v1 e2 rh1 rx q1 => h2 φ1 h1' H1 _ _ _ _ _ _ rh1 (rd.to e2.toMo) rx q1 fun φ2 h2' H2 d2 v2 e3 rh2 ry q2 => l.nx _ _ _ _ _ (e2.trans e3) rh2 ((rs.to rh (e2.trans e3)).set hw ry) q2) (l.okx rh rs)⟩
  · exact q.elim

/-! ### while -/
def whGo (c : MT) (b : MS) (M : MD) : Nat → Ev → MH → Prop
  | 0 => fun _ _ => False
  | n + 1 => fun ρ h => c ρ h (fun k h1 => ifB k (b { M with nx := whGo c b M n, ct := whGo c b M n, bk := M.nx } ρ h1) (M.nx ρ h1)) (fun x h1 => M.ex x ρ h1)
abbrev mWhile (c : MT) (b : MS) : MS := fun M ρ h => ∃ n, whGo c b M n ρ h
theorem cs_while {body : List Stmt} {mc : MT} {b : MS} (hp : PassesOwn (model X.prog X.w) X.A X.env X.xe) (hc : CT X W c mc) (hb : CSs X W body b) : CS X W (.While c body [] pos) (mWhile mc b) := .of (ps_while hp cT.pt cSs.pss) fun φ ρ σ h H M E rh rs q l => by
  refine ⟨fun n σ' H' => ∃ φ' ρ' h', Ext φ H φ' H' ∧ RH X.K φ' h' H' ∧ RS X.K W.er φ' H' ρ' σ' ∧ whGo mc b M n ρ' h', ?_, ?_⟩
  · obtain ⟨n, q⟩ := q
    exact ⟨n, φ, ρ, h, .refl, rh, rs, q⟩
  · rintro n σ' H' ⟨φ', ρ', h', e', rh', rs', q⟩
    cases n with
    | zero => exact q.elim
    | succ n =>
      refine hc.sim φ' ρ' σ' h' H' _ _ _ rh' rs' q (fun φ1 h1 H1 k e1 rh1 q1 => ?_) ((l.to e').okx rh' rs')
      cases k with
      | true =>
        rw [if_pos rfl]
        refine ⟨fun σ2 H2 => ∃ φ2 ρ2 h2, Ext φ H φ2 H2 ∧ RH X.K φ2 h2 H2 ∧ RS X.K W.er φ2 H2 ρ2 σ2 ∧ whGo mc b M n ρ2 h2, fun σ2 H2 z => ⟨n, Nat.lt_succ_self n, z⟩, ?_⟩
        have E1 := e'.trans e1
        exact hb.sim φ1 ρ' σ' h1 H1 _ _ rh1 (rs'.to rh' e1) q1 ⟨fun φ2 ρ2 σ2 h2 H2 e2 rh2 rs2 q2 => ⟨φ2, ρ2, h2, E1.trans e2, rh2, rs2, q2⟩, fun φ2 ρ2 σ2 h2 H2 e2 rh2 rs2 q2 => l.nx _ _ _ _ _ (E1.trans e2) rh2 rs2 q2,
          fun φ2 ρ2 σ2 h2 H2 e2 rh2 rs2 q2 => ⟨φ2, ρ2, h2, E1.trans e2, rh2, rs2, q2⟩, (l.to E1).rt, (l.to E1).ex⟩
      | false =>
        rw [if_neg Bool.false_ne_true]
        exact l.nx _ _ _ _ _ (e'.trans e1) rh1 (rs'.to rh' e1) q1

/-! ### for -/
abbrev MI := Ev → MH → (List D → (MH → Prop) → MH → Prop) → XQ → Prop
def ItOk (K : PySem.W.Frag) (φ : List Addr) (H : Hp) (J : It) (xs : List D) (g : MH → Prop) : Prop := ∀ φ' h' H', Mo φ H φ' H' → RH K φ' h' H' → g h' →
  (∀ i d, xs[i]? = some d → J.go i H' ∧ ∀ v H'', J.yld i H' v H'' → Ext φ' H' φ' H'' ∧ RH K φ' h' H'' ∧ RD K φ' H'' d v) ∧ ∀ i, xs.length ≤ i → J.stop i H'
def SimI (K : PySem.W.Frag) (W : Wz) (t : TI) (m : MI) : Prop := ∀ φ ρ σ h H (R : It → Hp → Prop) Rm Xm, RH K φ h H → RS K W.er φ H ρ σ → m ρ h Rm Xm →
  (∀ φ' h' H' J xs g, Ext φ H φ' H' → RH K φ' h' H' → ItOk K φ' H' J xs g → Rm xs g h' → R J H') → OkX K φ H σ Xm W → t σ H R
structure CI (X : Cx) (W : Wz) (tg iter : Expr) (m : MI) : Prop where
  ex : ∃ t, PI X tg iter t ∧ SimI X.K W t m
def forGo (g : MG) (b : MS) (gd : MH → Prop) (M : MD) : List D → Ev → MH → Prop
  | [] => fun ρ h => gd h ∧ M.nx ρ h
  | d :: ds => fun ρ h => gd h ∧ g d ρ h (fun ρ1 h1 => b { M with nx := forGo g b gd M ds, ct := forGo g b gd M ds, bk := M.nx } ρ1 h1) (fun x h1 => M.ex x ρ h1)
abbrev mFor (mi : MI) (g : MG) (b : MS) : MS := fun M ρ h => mi ρ h (fun xs gd h1 => forGo g b gd M xs ρ h1) (fun x h1 => M.ex x ρ h1)
theorem drop_cons {α : Type} {xs : List α} {i : Nat} {d : α} (e : xs[i]? = some d) : xs.drop i = d :: xs.drop (i + 1) := by
  obtain ⟨h, rfl⟩ := List.getElem?_eq_some_iff.mp e
  exact List.drop_eq_getElem_cons h
theorem cs_for {vs : List Nat} {tg iter : Expr} {body : List Stmt} {mi : MI} {g : MG} {b : MS} (hp : PassesOwn (model X.prog X.w) X.A X.env X.xe) (hc : X.calm = true) (hi : CI X W tg iter mi) (hg : CG X W vs tg g) (hb : CSs X W body b)
    (hs : ∀ x, foldedSetIterable iter X.env x = pure x := by intro _; rfl) : CS X W (.For tg iter body [] pos) (mFor mi g b) := by
  obtain ⟨ti, pi, si⟩ := hi.ex
  obtain ⟨t, p, sg⟩ := hg.ex
  refine .of (ps_for hp hc pi p cSs.pss hs) fun φ ρ σ h H M E rh rs q l => ?_
  refine si φ ρ σ h H _ _ _ rh rs q (fun φ1 h1 H1 J xs gd e1 rh1 it q1 => ?_) (l.okx rh rs)
  refine ⟨fun i m σ' H' => ∃ φ' ρ' h', Ext φ1 H1 φ' H' ∧ RH X.K φ' h' H' ∧ RS X.K W.er φ' H' ρ' σ' ∧ m = xs.length - i ∧ i ≤ xs.length ∧ forGo g b gd M (xs.drop i) ρ' h', ⟨xs.length, φ1, ρ, h1, .refl, rh1, rs.to rh e1, by simp, Nat.zero_le _, q1⟩, ?_⟩
  rintro i m σ' H' ⟨φ', ρ', h', e', rh', rs', rfl, hi', q⟩
  by_cases hlt : i < xs.length
  · have e0 : xs[i]? = some xs[i] := List.getElem?_eq_getElem hlt
    rw [drop_cons e0] at q
    obtain ⟨j1, j2⟩ := (it φ' h' H' e'.toMo rh' q.1).1 i _ e0
    refine .inr ⟨j1, fun σ2 H2 => ∃ φ2 ρ2 h2, Ext φ1 H1 φ2 H2 ∧ RH X.K φ2 h2 H2 ∧ RS X.K W.er φ2 H2 ρ2 σ2 ∧ forGo g b gd M (xs.drop (i + 1)) ρ2 h2, ?_, fun x H2 y => ?_⟩
    · rintro σ2 H2 ⟨φ2, ρ2, h2, a1, a2, a3, a4⟩
      exact ⟨xs.length - (i + 1), by omega, φ2, ρ2, h2, a1, a2, a3, rfl, hlt, a4⟩
    · obtain ⟨e2, rh2, rd⟩ := j2 x H2 y
      have E2 := e'.trans e2
      refine sg φ' ρ' σ' h' H2 _ _ _ _ _ rh2 (rs'.to rh' e2) rd q.2 (fun φ3 ρ3 σ3 h3 H3 e3 rh3 rs3 _ q3 => ?_) (((l.to (e1.trans E2))).okx rh2 (rs'.to rh' e2))
      have E3 := E2.trans e3
      have L3 := l.to (e1.trans E3)
      exact hb.sim φ3 ρ3 σ3 h3 H3 _ _ rh3 rs3 q3 ⟨fun φ4 ρ4 σ4 h4 H4 e4 rh4 rs4 q4 => ⟨φ4, ρ4, h4, E3.trans e4, rh4, rs4, q4⟩, fun φ4 ρ4 σ4 h4 H4 e4 rh4 rs4 q4 => L3.nx _ _ _ _ _ e4 rh4 rs4 q4,
        fun φ4 ρ4 σ4 h4 H4 e4 rh4 rs4 q4 => ⟨φ4, ρ4, h4, E3.trans e4, rh4, rs4, q4⟩, L3.rt, L3.ex⟩
  · have hi2 : i = xs.length := by omega
    subst hi2
    rw [List.drop_length] at q
    exact .inl ⟨(it φ' h' H' e'.toMo rh' q.1).2 _ (Nat.le_refl _), l.nx _ _ _ _ _ (e1.trans e') rh' rs' q.2⟩
/-- over a list as it stands, a tuple, a text, a range -/
abbrev miSeq (m : ME) : MI := fun ρ h R E => m ρ h (fun d h1 => match d with
  | .tup ds => R ds (fun _ => True) h1
  | .loc n => lstAt h1 n fun ds => R ds (fun h2 => lstAt h2 n fun es => es = ds) h1
  | .kls ds => R ds (fun _ => True) h1
  | .str s => R (s.cps.toList.map fun c => .str ⟨#[c]⟩) (fun _ => True) h1
  | _ => False) E
end
end L3

/-! what is walked; comprehensions; built-in functions, methods of lists -/
namespace L3
open PySem PySem.Spec PyProof.Rows L2
section
variable {X : Cx} {W : Wz} {tg e : Expr} {pos : Pos}
def iAny (K : PySem.W.Frag) (tl : TE) : TI := fun σ H R => tl σ H fun x H1 => (∃ a, x = .ref a ∧ (∃ xs, SqL K H1 a xs) ∧ R (Itl K a) H1) ∨ (∃ a, x = .ref a ∧ (∃ xs, SqT K H1 a xs) ∧ R (Itt K a) H1) ∨ ∃ s, x = .str s ∧ R (Its s) H1
theorem pi_any {tl : TE} (hl : PE X e tl) : PI X tg e (iAny X.K tl) := by
  refine ⟨fun pins s σ H R I h => ?_⟩
  refine thn (hl.run pins s σ H _ I h) fun v s1 ⟨x, H1, I1, r1, q1⟩ => ?_
  rcases q1 with ⟨a, e, ⟨xs, hq⟩, q⟩ | ⟨a, e, ⟨xs, hq⟩, q⟩ | ⟨z, e, q⟩
  · subst e
    cases r1
    obtain ⟨its, rv, p, hz⟩ := I1.list hq
    refine wpAny_pyIter_list p.isList ?_
    refine ⟨s1.heap.objs.size, [s1.heap.objs.size], _, _, H1, rfl, I1.kept (t' := s1.toks) fun b o e => Heap.get?_push_of_some _ e, turn_list a _, ⟨_, Heap.get?_push_size _ rfl, rfl, rfl⟩, fun b hb => ?_, q⟩
    have e : b = s1.heap.objs.size := by simpa using hb
    subst e
    exact I1.fpOk (Nat.le_refl _) (I1.hok.fresh (Nat.le_refl _))
  · subst e
    cases r1
    obtain ⟨its, rv, p, hz⟩ := I1.tuple hq
    refine wpAny_pyIter_tuple (show s1.heap.IsTuple a its.toArray from p) ?_
    refine ⟨s1.heap.objs.size, [s1.heap.objs.size], _, _, H1, rfl, I1.kept (t' := s1.toks) fun b o e => Heap.get?_push_of_some _ e, turn_tuple a _, ⟨_, Heap.get?_push_size _ rfl, rfl, rfl⟩, fun b hb => ?_, q⟩
    have e : b = s1.heap.objs.size := by simpa using hb
    subst e
    exact I1.fpOk (Nat.le_refl _) (I1.hok.fresh (Nat.le_refl _))
  · subst e
    obtain ⟨t, rfl⟩ := r1
    cases ha : z.cps.all (· < 128)
    · exact wpAny_pyIter_wide ha (pi_one (tk := s1.toks) I1 _ (turn_str _ z t "str_iterator" (.inr rfl)) ⟨_, Heap.get?_push_size _ rfl, rfl, rfl⟩ q)
    · exact wpAny_pyIter_ascii ha (pi_one (tk := s1.toks) I1 _ (turn_str _ z t "str_ascii_iterator" (.inl rfl)) ⟨_, Heap.get?_push_size _ rfl, rfl, rfl⟩ q)
theorem it_lst {K : PySem.W.Frag} {φ : List Addr} {H : Hp} {n : Nat} {a : Addr} {ds : List D} (e0 : φ[n]? = some a) : ItOk K φ H (Itl K a) ds (fun h => lstAt h n fun es => es = ds) := fun φ' h' H' x rh g => by
  obtain ⟨es, vs, sq, r, rfl⟩ := rh.rdL (x.pre n a e0) g
  refine ⟨fun i d hd => ?_, fun i hi => ⟨vs, sq, by rw [← r.len]; exact hi⟩⟩
  obtain ⟨v, hv, rd⟩ := r.at_ hd
  refine ⟨⟨vs, v, sq, hv⟩, fun u H2 ⟨e1, e2⟩ => ?_⟩
  subst e1
  have := e2 vs sq
  rw [hv] at this
  cases this
  exact ⟨.refl, rh, rd⟩
theorem ci_seq {m : ME} (he : CE X W e m) : CI X W tg e (miSeq m) := ⟨_, pi_any cE.pe, fun φ ρ σ h H R Rm Xm rh rs q ok ox =>
  he.sim φ ρ σ h H _ _ _ rh rs q (fun φ1 h1 H1 d v e1 rh1 rx q1 => by
    split at q1
    · cases rx with
      | tup t r =>
        rename_i ds _ vs
        refine .inr (.inl ⟨_, rfl, ⟨vs, t.sq⟩, ok _ _ _ _ _ _ e1 rh1 (fun φ' h' H' x rh' _ => ?_) q1⟩)
        have t' := (t.ext x).sq
        refine ⟨fun i d hd => ?_, fun i hi => ⟨vs, t', by rw [← r.len]; exact hi⟩⟩
        obtain ⟨v, hv, rd⟩ := r.at_ hd
        refine ⟨⟨vs, v, t', hv⟩, fun u H2 ⟨e1, e2⟩ => ?_⟩
        subst e1
        have := e2 vs t'
        rw [hv] at this
        cases this
        exact ⟨.refl, rh', rd.to x⟩
    · cases rx with
      | loc e0 =>
        obtain ⟨ds, vs, sq, r, q2⟩ := rh1.rdL e0 q1
        exact .inl ⟨_, rfl, ⟨vs, sq⟩, ok _ _ _ _ _ _ e1 rh1 (it_lst e0) q2⟩
    · cases rx with
      | kls t r =>
        rename_i ds _ vs
        refine .inl ⟨_, rfl, ⟨vs, t.sq⟩, ok _ _ _ _ _ _ e1 rh1 (fun φ' h' H' x rh' _ => ?_) q1⟩
        have t' := (t.ext x).sq
        refine ⟨fun i d hd => ?_, fun i hi => ⟨vs, t', by rw [← r.len]; exact hi⟩⟩
        obtain ⟨v, hv, rd⟩ := r.at_ hd
        refine ⟨⟨vs, v, t', hv⟩, fun u H2 ⟨e1, e2⟩ => ?_⟩
        subst e1
        have := e2 vs t'
        rw [hv] at this
        cases this
        exact ⟨.refl, rh', rd.to x⟩
    · cases rx
      rename_i s
      refine .inr (.inr ⟨s, rfl, ok _ _ _ _ _ _ e1 rh1 (fun φ' h' H' x rh' _ => ?_) q1⟩)
      refine ⟨fun i d hd => ?_, fun i hi => show s.cps.size ≤ i from by simpa using hi⟩
      rw [List.getElem?_map] at hd
      cases hc : s.cps.toList[i]? with
      | none => rw [hc] at hd; cases hd
      | some c =>
        rw [hc] at hd
        have hd' : D.str ⟨#[c]⟩ = d := Option.some.inj hd
        subst hd'
        have hc' : s.cps[i]? = some c := by simpa using hc
        refine ⟨(Array.getElem?_eq_some_iff.mp hc').1, fun u H2 ⟨e1, c', e2, e3⟩ => ?_⟩
        subst e1
        rw [hc'] at e2
        cases e2
        subst e3
        exact ⟨.refl, rh', .str _⟩
    · exact q1.elim) ox⟩
/-- range -/
def rngD (lo : Int) (n : Nat) : List D := (List.range n).map fun i => .int (lo + (i : Nat))
theorem rngD_len {lo : Int} {n : Nat} : (rngD lo n).length = n := by simp [rngD]
theorem it_rng {K : PySem.W.Frag} {φ : List Addr} {H : Hp} {lo : Int} {n : Nat} : ItOk K φ H (Itr lo n) (rngD lo n) (fun _ => True) := fun φ' h' H' x rh _ => by
  refine ⟨fun i d hd => ?_, fun i hi => by rw [rngD_len] at hi; exact hi⟩
  have hi : i < n := by have := (List.getElem?_eq_some_iff.mp hd).1; rwa [rngD_len] at this
  have e : d = .int (lo + (i : Nat)) := by
    unfold rngD at hd
    rw [List.getElem?_map, List.getElem?_range hi] at hd
    exact (Option.some.inj hd).symm
  subst e
  refine ⟨hi, fun u H2 ⟨e1, e2⟩ => ?_⟩
  subst e1; subst e2
  exact ⟨.refl, rh, .int _⟩
abbrev miRng1 (m : MA) : MI := fun ρ h R E => m ρ h (fun ds h1 => match ds with | [.int j] => (-(2 ^ 62) ≤ j ∧ j < 2 ^ 62) ∧ R (rngD 0 j.toNat) (fun _ => True) h1 | _ => False) E
abbrev miRng2 (m : MA) : MI := fun ρ h R E => m ρ h (fun ds h1 => match ds with | [.int i, .int j] => (-(2 ^ 62) ≤ i ∧ i < 2 ^ 62 ∧ -(2 ^ 62) ≤ j ∧ j < 2 ^ 62) ∧ R (rngD i (j - i).toNat) (fun _ => True) h1 | _ => False) E
theorem one_int {K : PySem.W.Frag} {φ : List Addr} {H : Hp} {j : Int} {vs : List V} (r : RDs K φ H [.int j] vs) : vs = [.int j] := by
  cases r with
  | cons r1 r2 => cases r1; cases r2; rfl
theorem two_int {K : PySem.W.Frag} {φ : List Addr} {H : Hp} {i j : Int} {vs : List V} (r : RDs K φ H [.int i, .int j] vs) : vs = [.int i, .int j] := by
  cases r with
  | cons r1 r2 => cases r1; rw [one_int r2]
theorem ci_rng1 {a : Expr} {p : Pos} {m : MA} (hg : Gl X "range") (hm : X.mg "range" = none) (ha : CA X W [a] m) (hs : starEach [a] X.env = [(false, eval a X.env)] := by rfl) : CI X W tg (.Call (.Name "range" p) [a] [] pos) (miRng1 m) :=
  ⟨_, pi_range1 hg hm cA.pa hs, fun φ ρ σ h H R Rm Xm rh rs q ok ox => ha.sim φ ρ σ h H _ _ _ rh rs q (fun φ1 h1 H1 ds vs e1 rh1 r q1 => by
    split at q1
    · exact ⟨_, one_int r, q1.1.1, q1.1.2, ok _ _ _ _ _ _ e1 rh1 it_rng q1.2⟩
    · exact q1.elim) ox⟩
theorem ci_rng2 {a b : Expr} {p : Pos} {m : MA} (hg : Gl X "range") (hm : X.mg "range" = none) (ha : CA X W [a, b] m) (hs : starEach [a, b] X.env = [(false, eval a X.env), (false, eval b X.env)] := by rfl) (hs2 : starEach [b] X.env = [(false, eval b X.env)] := by rfl) : CI X W tg (.Call (.Name "range" p) [a, b] [] pos) (miRng2 m) :=
  ⟨_, pi_range2 hg hm cA.pa hs hs2, fun φ ρ σ h H R Rm Xm rh rs q ok ox => ha.sim φ ρ σ h H _ _ _ rh rs q (fun φ1 h1 H1 ds vs e1 rh1 r q1 => by
    split at q1
    · exact ⟨_, _, two_int r, q1.1, ok _ _ _ _ _ _ e1 rh1 it_rng q1.2⟩
    · exact q1.elim) ox⟩
/-- pairs of a place and an item -/
def enumD : Nat → List D → List D
  | _, [] => []
  | k, d :: ds => .pr [.int (k : Nat), d] :: enumD (k + 1) ds
theorem enumD_len : ∀ {k : Nat} {ds : List D}, (enumD k ds).length = ds.length
  | _, [] => rfl
  | _, _ :: _ => by unfold enumD; rw [List.length_cons, List.length_cons, enumD_len]
theorem enumD_get : ∀ {k : Nat} {ds : List D} {i : Nat}, (enumD k ds)[i]? = ds[i]?.map fun d => .pr [.int ((k + i : Nat) : Int), d]
  | _, [], i => by simp [enumD]
  | k, d :: ds, 0 => by simp [enumD]
  | k, d :: ds, i + 1 => by
    unfold enumD
    rw [List.getElem?_cons_succ, List.getElem?_cons_succ, enumD_get, show k + 1 + i = k + (i + 1) by omega]
abbrev miEnum (m : MA) : MI := fun ρ h R E => m ρ h (fun ds h1 => match ds with | [.loc n] => lstAt h1 n fun ds => R (enumD 0 ds) (fun h2 => lstAt h2 n fun es => es = ds) h1 | _ => False) E
theorem ci_enum {a : Expr} {p tpos : Pos} {elts : List Expr} {kk : Nat} {m : MA} (hg : Gl X "enumerate") (hm : X.mg "enumerate" = none) (ha : CA X W [a] m) (hs : starEach [a] X.env = [(false, eval a X.env)] := by rfl) : CI X W (.Tuple elts kk tpos) (.Call (.Name "enumerate" p) [a] [] pos) (miEnum m) :=
  ⟨_, pi_enum hg hm cA.pa hs, fun φ ρ σ h H R Rm Xm rh rs q ok ox => ha.sim φ ρ σ h H _ _ _ rh rs q (fun φ1 h1 H1 ds vs e1 rh1 r q1 => by
    split at q1
    · cases r with
      | cons r1 r2 =>
        cases r1 with
        | loc e0 =>
          cases r2
          obtain ⟨ds, vs0, sq0, r0, q2⟩ := rh1.rdL e0 q1
          refine ⟨_, vs0, rfl, sq0, ok _ _ _ _ _ _ e1 rh1 (fun φ' h' H' x rh g => ?_) q2⟩
          obtain ⟨es, vs, sq, r, e9⟩ := rh.rdL (x.pre _ _ e0) g
          subst e9
          clear r0
          refine ⟨fun i d hd => ?_, fun i hi => ⟨vs, sq, by rw [← r.len]; rwa [enumD_len] at hi⟩⟩
          rw [enumD_get] at hd
          obtain ⟨d0, hd0, rfl⟩ := Option.map_eq_some_iff.mp hd
          obtain ⟨v, hv, rd⟩ := r.at_ hd0
          refine ⟨⟨vs, v, sq, hv⟩, fun u H2 ⟨T, y, e3, hT, e4, e5⟩ => ?_⟩
          subst e3 e4
          have := e5 vs sq
          rw [hv] at this
          cases this
          obtain ⟨r3, x3⟩ := rh.new hT (.tup [.int (i : Nat), v])
          exact ⟨x3, r3, .pr upd_same (.cons (by rw [Nat.zero_add]; exact .int _) (.cons (rd.to x3.toMo) .nil))⟩
    · exact q1.elim) ox⟩
/-- pairs -/
def zipD : List D → List D → List D
  | x :: xs, y :: ys => .pr [x, y] :: zipD xs ys
  | _, _ => []
theorem zipD_get : ∀ {xs ys : List D} {i : Nat} {d : D}, (zipD xs ys)[i]? = some d → ∃ x y, xs[i]? = some x ∧ ys[i]? = some y ∧ d = .pr [x, y]
  | [], _, _, _, h => by simp [zipD] at h
  | _ :: _, [], _, _, h => by simp [zipD] at h
  | x :: xs, y :: ys, 0, d, h => by
    have e : D.pr [x, y] = d := by simpa [zipD] using h
    exact ⟨x, y, rfl, rfl, e.symm⟩
  | x :: xs, y :: ys, i + 1, d, h => by
    have h' : (zipD xs ys)[i]? = some d := by simpa [zipD] using h
    obtain ⟨a, b, h1, h2, h3⟩ := zipD_get h'
    exact ⟨a, b, by simpa using h1, by simpa using h2, h3⟩
theorem zipD_len : ∀ {xs ys : List D}, (zipD xs ys).length = min xs.length ys.length
  | [], _ => by simp [zipD]
  | _ :: _, [] => by simp [zipD]
  | x :: xs, y :: ys => by
    unfold zipD
    rw [List.length_cons, List.length_cons, List.length_cons, zipD_len]; omega
abbrev miZip (m : MA) : MI := fun ρ h R E => m ρ h (fun ds h1 => match ds with
  | [.loc n, .loc k] => lstAt h1 n fun xs => lstAt h1 k fun ys => R (zipD xs ys) (fun h2 => (lstAt h2 n fun es => es = xs) ∧ lstAt h2 k fun es => es = ys) h1
  | [.tup xs, .tup ys] => R (zipD xs ys) (fun _ => True) h1
  | _ => False) E
theorem ci_zip {a b : Expr} {p tpos : Pos} {elts : List Expr} {kk : Nat} {m : MA} (hg : Gl X "zip") (hm : X.mg "zip" = none) (ha : CA X W [a, b] m)
    (hs : starEach [a, b] X.env = (false, eval a X.env) :: starEach [b] X.env := by rfl) (hpl : (backTo pos (starEach [b] X.env)).any (·.1) = false := by rfl) : CI X W (.Tuple elts kk tpos) (.Call (.Name "zip" p) [a, b] [] pos) (miZip m) :=
  ⟨_, RZ.pi_zipA hg hm cA.pa hs hpl, fun φ ρ σ h H R Rm Xm rh rs q ok ox => ha.sim φ ρ σ h H _ _ _ rh rs q (fun φ1 h1 H1 ds vs e1 rh1 r q1 => by
    split at q1
    · cases r with
      | cons r1 r2 =>
        cases r2 with
        | cons r2 r3 =>
          cases r1 with
          | loc e0 =>
            cases r2 with
            | loc f0 =>
              cases r3
              obtain ⟨xs, vs0, sq0, rv0, q2⟩ := rh1.rdL e0 q1
              obtain ⟨ys, us0, sq0', ru0, q3⟩ := rh1.rdL f0 q2
              refine ⟨_, _, vs0, us0, rfl, .inl ⟨sq0, sq0', ok _ _ _ _ _ _ e1 rh1 (fun φ' h' H' x rh g => ?_) q3⟩⟩
              obtain ⟨_, vs, sq, rv, e9⟩ := rh.rdL (x.pre _ _ e0) g.1
              subst e9
              obtain ⟨_, us, sq', ru, e9⟩ := rh.rdL (x.pre _ _ f0) g.2
              subst e9
              clear rv0 ru0
              refine ⟨fun i d hd => ?_, fun i hi => ⟨vs, us, sq, sq', by rw [← rv.len, ← ru.len]; rw [zipD_len] at hi; omega⟩⟩
              obtain ⟨c1, c2, h1, h2, rfl⟩ := zipD_get hd
              obtain ⟨v, hv, rd⟩ := rv.at_ h1
              obtain ⟨u, hu, rd'⟩ := ru.at_ h2
              refine ⟨⟨vs, us, v, u, sq, sq', hv, hu⟩, fun z H2 ⟨T, y, y', e3, hT, e4, e5, e6⟩ => ?_⟩
              subst e3 e4
              have k1 := e5 vs sq
              rw [hv] at k1
              cases k1
              have k2 := e6 us sq'
              rw [hu] at k2
              cases k2
              obtain ⟨r3, x3⟩ := rh.new hT (.tup [v, u])
              exact ⟨x3, r3, .pr upd_same (.cons (rd.to x3.toMo) (.cons (rd'.to x3.toMo) .nil))⟩
    · cases r with
      | cons r1 r2 =>
        cases r2 with
        | cons r2 r3 =>
          cases r1 with
          | tup t1 rv =>
            cases r2 with
            | tup t2 ru =>
              cases r3
              rename_i _ vs _ us
              refine ⟨_, _, vs, us, rfl, .inr ⟨t1.sq, t2.sq, ok _ _ _ _ _ _ e1 rh1 (fun φ' h' H' x rh g => ?_) q1⟩⟩
              have s1 := (t1.ext x).sq
              have s2 := (t2.ext x).sq
              refine ⟨fun i d hd => ?_, fun i hi => ⟨vs, us, s1, s2, by rw [← rv.len, ← ru.len]; rw [zipD_len] at hi; omega⟩⟩
              obtain ⟨c1, c2, h1, h2, rfl⟩ := zipD_get hd
              obtain ⟨v, hv, rd⟩ := rv.at_ h1
              obtain ⟨u, hu, rd'⟩ := ru.at_ h2
              refine ⟨⟨vs, us, v, u, s1, s2, hv, hu⟩, fun z H2 ⟨T, y, y', e3, hT, e4, e5, e6⟩ => ?_⟩
              subst e3 e4
              have k1 := e5 vs s1
              rw [hv] at k1
              cases k1
              have k2 := e6 us s2
              rw [hu] at k2
              cases k2
              obtain ⟨r3, x3⟩ := rh.new hT (.tup [v, u])
              exact ⟨x3, r3, .pr upd_same (.cons ((rd.to x).to x3.toMo) (.cons ((rd'.to x).to x3.toMo) .nil))⟩
    · exact q1.elim) ox⟩

/-! ### comprehensions -/
def wipeE (ρ : Ev) : List Nat → Ev
  | [] => ρ
  | v :: vs => (wipeE ρ vs).set v none
theorem RS.wipe {K : PySem.W.Frag} {φ : List Addr} {H : Hp} {ρ : Ev} {σ : L2.St} (r : RS K none φ H ρ σ) : ∀ vs : List Nat, RS K none φ H (wipeE ρ vs) (L2.wipe σ vs)
  | [] => r
  | _ :: vs => (RS.wipe r vs).unset
def Wf : Wz := ⟨fun _ _ _ _ => False, none⟩
def lcGo (g : MG) (tt : MT) (te : ME) (gd : MH → Prop) (Q : D → MH → Prop) : List D → List D → Ev → MH → Prop
  | [], acc => fun _ h => gd h ∧ Q (.loc h.length) (h ++ [.lst acc])
  | d :: ds, acc => fun ρ h => gd h ∧ g d ρ h (fun ρ1 h1 => tt ρ1 h1 (fun b h2 => ifB b (te ρ1 h2 (fun y h3 => lcGo g tt te gd Q ds (acc ++ [y]) ρ h3) (fun _ _ => False)) (lcGo g tt te gd Q ds acc ρ h2)) (fun _ _ => False)) (fun _ _ => False)
abbrev mLc (vs : List Nat) (mi : MI) (g : MG) (tt : MT) (te : ME) : ME := fun ρ h Q E => mi ρ h (fun xs gd h1 => xs.length ≤ 100000 ∧ lcGo g tt te gd Q xs [] (wipeE ρ vs) h1) E
abbrev mYes : MT := fun _ h Q _ => Q true h
structure CTs (X : Cx) (ifs : List Expr) (m : MT) : Prop where
  ex : ∃ t, PTs X ifs t ∧ SimT X.K Wf t m
theorem cts_nil : CTs X [] mYes := ⟨_, pts_nil, fun φ ρ σ h H Qm Q Xm rh rs m ok _ => ok _ _ _ _ .refl rh m⟩
theorem cts_one {c : Expr} {m : MT} (h : CT X Wf c m) : CTs X [c] m := ⟨_, pts_one cT.pt, h.sim⟩
/-- an object without a number changed -/
theorem RH.side {K : PySem.W.Frag} {φ : List Addr} {h : MH} {H : Hp} (r : RH K φ h H) {p : Addr} {vs us : List V} (n : p ∉ φ) (e : H p = some (.lst vs)) : RH K φ h (upd H p (.lst us)) ∧ Mo φ H φ (upd H p (.lst us)) := by
  have m : Mo φ H φ (upd H p (.lst us)) := ⟨fun _ _ h => h, fun a xs q => by rw [upd_ne (fun z => by rw [z, e] at q; cases q)]; exact q, fun a o u q => by rw [upd_ne (fun z => by rw [z, e] at q; cases q)]; exact q⟩
  refine ⟨⟨r.len, r.nd, fun k a x e1 e2 => (r.at_ k a x e1 e2).to m (upd_ne fun z => n ?_)⟩, m⟩
  rw [← z]; exact List.mem_iff_getElem?.mpr ⟨k, e1⟩
theorem RS.mo {K : PySem.W.Frag} {φ φ' : List Addr} {H H' : Hp} {ρ : Ev} {σ : L2.St} (r : RS K none φ H ρ σ) (x : Mo φ H φ' H') : RS K none φ' H' ρ σ := ⟨r.len, fun i d e => let ⟨v, e1, e2⟩ := r.at_ i d e; ⟨v, e1, e2.to x⟩, trivial⟩
def cEU {I : Type} (X : I → Cx) (e : Expr) : TE := fun σ H Q => ∀ i, cE (X i) e σ H Q
def cGU {I : Type} (X : I → Cx) (tg : Expr) : TG := fun v σ H Q => ∀ i pins s u, Inv (X i) pins σ H s → RelV v u → wpAny (model (X i).prog (X i).w) (X i).A (assign tg (X i).env u) (fun _ s' => ∃ σ' H', Inv (X i) pins σ' H' s' ∧ Q σ' H') (X i).xe s
def cTU {I : Type} (X : I → Cx) (ifs : List Expr) : TT := fun σ H Q => ∀ i pins s, Inv (X i) pins σ H s → wpAny (model (X i).prog (X i).w) (X i).A (forIn ifs true fun c r => if r = true then do let ok ← isTrue c (X i).env (eval c (X i).env); pure (ForInStep.yield ok) else pure (ForInStep.yield r)) (TP (X i) pins σ Q) (X i).xe s
theorem wipe_get {σ : L2.St} {k : Nat} : ∀ vs : List Nat, (L2.wipe σ vs)[k]? = if k ∈ vs ∧ k < σ.length then some none else σ[k]?
  | [] => by simp [L2.wipe]
  | v :: vs => by
    unfold L2.wipe
    by_cases hk : v = k
    · subst hk
      by_cases hl : v < σ.length
      · rw [List.getElem?_set_self (by rw [wipe_length]; exact hl), if_pos ⟨List.mem_cons_self, hl⟩]
      · rw [List.getElem?_eq_none (by rw [List.length_set, wipe_length]; omega), if_neg (fun z => hl z.2), List.getElem?_eq_none (by omega)]
    · rw [List.getElem?_set_ne hk, wipe_get vs]
      have : (k ∈ v :: vs) ↔ k ∈ vs := by simp [Ne.symm hk]
      simp only [this]
theorem wipe_wipe {σ : L2.St} (vs : List Nat) : L2.wipe (L2.wipe σ vs) vs = L2.wipe σ vs := by
  apply List.ext_getElem?
  intro k
  rw [wipe_get, wipe_get, wipe_length]
  split
  · rfl
  · rfl
theorem ce_lc {elt iter : Expr} {ifs : List Expr} {scope : Scope} (own : List (Str × Nat)) {mi : MI} {g : MG} {tt : MT} {te : ME} (hc : X.calm = true) (hN : X.N.Nodup) (hi : CI X W tg iter mi) (ok : BlkOk X.N X.env.scope scope own)
    (hg : ∀ (s : Shared) (H : Hp) (C : Addr) (cl : List (Str × Addr)) (fp : List Addr), CG (X.blk s H scope (compEnvC scope cl C X.env) fp) Wf (own.map (·.2)) tg g)
    (ht : ∀ (s : Shared) (H : Hp) (C : Addr) (cl : List (Str × Addr)) (fp : List Addr), CTs (X.blk s H scope (compEnvC scope cl C X.env) fp) ifs tt)
    (he : ∀ (s : Shared) (H : Hp) (C : Addr) (cl : List (Str × Addr)) (fp : List Addr), CE (X.blk s H scope (compEnvC scope cl C X.env) fp) Wf elt te) (hs : ∀ x, foldedSetIterable iter X.env x = pure x := by intro _; rfl) :
    CE X W (.ListComp elt [⟨tg, iter, ifs, 0⟩] scope pos) (mLc (own.map (·.2)) mi g tt te) := by
  obtain ⟨ti, pi, si⟩ := hi.ex
  let Y : Shared × Hp × Addr × List (Str × Addr) × List Addr → Cx := fun i => X.blk i.1 i.2.1 scope (compEnvC scope i.2.2.2.1 i.2.2.1 X.env) i.2.2.2.2
  refine .of (pe_lc (g := cGU Y tg) (tt := cTU Y ifs) (te := cEU Y elt) hc hN pi ok (fun s H C cl fp => ⟨fun pins s' σ H' v u Q I r h => h (s, H, C, cl, fp) pins s' u I r⟩) (fun s H C cl fp => ⟨fun pins s' σ H' Q I h => h (s, H, C, cl, fp) pins s' I⟩)
    (fun s H C cl fp => ⟨fun pins s' σ H' Q I h => h (s, H, C, cl, fp) pins s' I⟩) hs) fun φ ρ σ h H Qm Q Xm rh rs q okv ox => ?_
  have noX : ∀ {φ : List Addr} {H : Hp} {τ : L2.St}, OkX X.K φ H τ (fun _ _ => False) Wf := fun _ _ _ _ _ _ _ _ _ z => z.elim
  refine si φ ρ σ h H _ _ _ rh rs q (fun φ1 h1 H1 J xs gd e1 rh1 it q1 => ?_) ox
  intro Dp hD
  obtain ⟨hx, q1⟩ := q1
  have rs1 : RS X.K none φ1 H1 (wipeE ρ (own.map (·.2))) (L2.wipe σ (own.map (·.2))) := (rs.to rh e1).none_.wipe _
  obtain ⟨rh2, e2⟩ := rh1.new hD (.lst [])
  refine ⟨fun i m H' => ∃ φ' h' acc vacc, Ext φ1 H1 φ' H' ∧ RH X.K φ' h' H' ∧ Dp ∉ φ' ∧ H' Dp = some (.lst vacc) ∧ RDs X.K φ' H' acc vacc ∧ RS X.K none φ' H' (wipeE ρ (own.map (·.2))) (L2.wipe σ (own.map (·.2))) ∧ acc.length ≤ i ∧ i ≤ xs.length ∧ m = xs.length - i ∧
    lcGo g tt te gd Qm (xs.drop i) acc (wipeE ρ (own.map (·.2))) h', ⟨xs.length, φ1, h1, [], [], e2, rh2, rh1.fresh hD, upd_same, .nil, rs1.mo e2.toMo, Nat.le_refl _, Nat.zero_le _, by simp, by rw [List.drop_zero]; exact q1⟩, ?_⟩
  rintro i m H' ⟨φ', h', acc, vacc, E1, rh', nD, eD, ra, rs', la, li, rfl, q'⟩
  by_cases hlt : i < xs.length
  · have e0 : xs[i]? = some xs[i] := List.getElem?_eq_getElem hlt
    rw [drop_cons e0] at q'
    obtain ⟨j1, j2⟩ := (it φ' h' H' E1.toMo rh' q'.1).1 i _ e0
    refine .inr ⟨j1, fun H2 => ∃ φ2 h2 acc2 vacc2, Ext φ1 H1 φ2 H2 ∧ RH X.K φ2 h2 H2 ∧ Dp ∉ φ2 ∧ H2 Dp = some (.lst vacc2) ∧ RDs X.K φ2 H2 acc2 vacc2 ∧ RS X.K none φ2 H2 (wipeE ρ (own.map (·.2))) (L2.wipe σ (own.map (·.2))) ∧ acc2.length ≤ i + 1 ∧
      lcGo g tt te gd Qm (xs.drop (i + 1)) acc2 (wipeE ρ (own.map (·.2))) h2, ?_, fun x H2 y => ?_⟩
    · rintro H2 ⟨φ2, h2, acc2, vacc2, a1, a2, a3, a4, a5, a6, a7, a8⟩
      exact ⟨xs.length - (i + 1), by omega, φ2, h2, acc2, vacc2, a1, a2, a3, a4, a5, a6, a7, hlt, rfl, a8⟩
    · obtain ⟨x2, rh2, rd⟩ := j2 x H2 y
      intro iy pins s u I r
      obtain ⟨s0, H0, C, cl, fp⟩ := iy
      obtain ⟨tg', pg, sg⟩ := (hg s0 H0 C cl fp).ex
      refine pg.run pins s _ H2 x u _ I r (sg φ' _ _ h' H2 _ _ _ _ _ rh2 (rs'.to rh' x2) rd q'.2 (fun φ3 ρ3 σ3 h3 H3 x3 rh3 rs3 w3 q3 => ⟨w3.trans ?_, ?_⟩) noX)
      · exact wipe_wipe _
      · intro iy pins s I
        obtain ⟨s0, H0, C, cl, fp⟩ := iy
        obtain ⟨tt', pt, st⟩ := (ht s0 H0 C cl fp).ex
        refine pt.run pins s _ H3 _ I (st φ3 _ _ h3 H3 _ _ _ rh3 rs3 q3 (fun φ4 h4 H4 b x4 rh4 q4 => ?_) noX)
        have K3 := x2.trans (x3.trans x4)
        obtain ⟨k1, k2⟩ := K3.keep _ _ eD nD
        have rs4 := (rs'.to rh' K3)
        have E4 := E1.trans K3
        cases b with
        | false => exact ⟨φ4, h4, acc, vacc, E4, rh4, k2, k1, ra.to K3.toMo, rs4, Nat.le_succ_of_le la, q4⟩
        | true =>
          intro iy pins s I
          obtain ⟨s0, H0, C, cl, fp⟩ := iy
          refine (he s0 H0 C cl fp).sim φ4 _ _ h4 H4 _ _ _ rh4 (rs3.to rh3 x4) q4 (fun φ5 h5 H5 d v x5 rh5 rd5 q5 => ?_) noX pins s I
          obtain ⟨k3, k4⟩ := x5.keep _ _ k1 k2
          have E5 := E4.trans x5
          obtain ⟨rh6, m6⟩ := rh5.side (us := vacc ++ [v]) k4 k3
          have ra5 := (ra.to K3.toMo).to x5.toMo
          refine ⟨vacc, k3, by rw [← ra.len]; exact Nat.lt_of_le_of_lt la (Nat.lt_of_lt_of_le hlt (big hx)), φ5, h5, acc ++ [d], vacc ++ [v], ⟨⟨E5.pre, fun a xs z => m6.tup _ _ (E5.tup _ _ z), fun a o u z => m6.frz _ _ _ (E5.frz _ _ _ z)⟩, fun a o z na => ?_⟩, rh6, k4, upd_same, (ra5.snoc rd5).to m6, (rs4.to rh4 x5).mo m6, ?_, q5⟩
          · rw [upd_ne (ne_of_none z hD)]
            exact E5.keep _ _ z na
          · rw [List.length_append]
            exact Nat.succ_le_succ la
  · have hi2 : i = xs.length := by omega
    subst hi2
    rw [List.drop_length] at q'
    refine .inl ⟨(it φ' h' H' E1.toMo rh' q'.1).2 _ (Nat.le_refl _), ?_⟩
    have rh3 := rh'.reg nD (x := .lst acc) ⟨vacc, eD, ra.to Mo.reg⟩
    refine okv _ _ _ _ _ (e1.trans (E1.reg hD)) rh3 (.loc ?_) q'.2
    rw [← rh'.len]; simp
end
end L3

/-! built-in functions, methods of lists and texts, attributes -/
namespace L3
open PySem PySem.Spec PyProof.Rows L2
abbrev MB := List D → MH → (D → MH → Prop) → Prop
def BM (K : PySem.W.Frag) (r : List V → Hp → VK → Prop) (m : MB) : Prop := ∀ φ h H ds vs Qm Q, RH K φ h H → RDs K φ H ds vs → m ds h Qm → Ok1 K φ H Qm Q → r vs H Q
structure BC (X : Cx) (f : Value) (m : MB) : Prop where
  ex : ∃ r, CallR X f r ∧ BM X.K r m
abbrev mCB (m : MB) (ma : MA) : ME := fun ρ h Q E => ma ρ h (fun ds h1 => m ds h1 Q) E
section
variable {X : Cx} {W : Wz} {e o : Expr} {es : List Expr} {pos p : Pos} {x : Str}
theorem sim_cb {K : PySem.W.Frag} {r : List V → Hp → VK → Prop} {m : MB} {t : TA} {ma : MA} (ha : SimA K W t ma) (hm : BM K r m) : SimE K W (tCB r t) (mCB m ma) := fun φ ρ σ h H Qm Q Xm rh rs q ok ox =>
  ha φ ρ σ h H _ _ _ rh rs q (fun φ1 h1 H1 ds vs e1 rh1 r1 q1 => hm φ1 h1 H1 ds vs Qm Q rh1 r1 q1 (ok.to e1)) ox
theorem ce_callB {id : String} {m : MB} {ma : MA} (hc : BC X (.builtin id) m) (hg : Gl X x) (hm : X.mg x = none) (hv : bootBuiltins x = some (.builtin id)) (ha : CA X W (e :: es) ma) (hn : x ≠ "__name__" := by decide) (hdb : (x == ("__debug__" : Str)) = false := by decide)
    (he : starEach (e :: es) X.env = (false, eval e X.env) :: starEach es X.env := by rfl) (hpl : (backTo pos (starEach es X.env)).any (·.1) = false := by rfl) : CE X W (.Call (.Name x p) (e :: es) [] pos) (mCB m ma) :=
  let ⟨_, h1, h2⟩ := hc.ex; .of (pe_callB h1 hg hm hv cA.pa hn hdb he hpl) (sim_cb ha.sim h2)
theorem ce_callTy {id : String} {m : MB} {ma : MA} (hc : BC X (.type id) m) (hg : Gl X x) (hm : X.mg x = none) (hv : bootBuiltins x = some (.type id)) (ha : CA X W (e :: es) ma) (hn : x ≠ "__name__" := by decide) (hdb : (x == ("__debug__" : Str)) = false := by decide)
    (he : starEach (e :: es) X.env = (false, eval e X.env) :: starEach es X.env := by rfl) (hpl : (backTo pos (starEach es X.env)).any (·.1) = false := by rfl) : CE X W (.Call (.Name x p) (e :: es) [] pos) (mCB m ma) :=
  let ⟨_, h1, h2⟩ := hc.ex; .of (pe_callTy h1 hg hm hv cA.pa hn hdb he hpl) (sim_cb ha.sim h2)
theorem RDs.one {K : PySem.W.Frag} {φ : List Addr} {H : Hp} {d : D} {vs : List V} (r : RDs K φ H [d] vs) : ∃ v, vs = [v] ∧ RD K φ H d v := by
  cases r with
  | cons r1 r2 => cases r2; exact ⟨_, rfl, r1⟩
abbrev bLen : MB := fun ds h Q => match ds with
  | [.str s] => s.length ≤ 100000 ∧ Q (.int s.length) h
  | [.tup xs] => Q (.int (xs.length : Nat)) h
  | [.loc n] => lstAt h n fun xs => Q (.int (xs.length : Nat)) h
  | [.kls xs] => Q (.int (xs.length : Nat)) h
  | _ => False
theorem b_len : BC X (.builtin "len") bLen := ⟨_, call_len, fun φ h H ds vs Qm Q rh r m ok => by
  unfold bLen at m
  split at m
  · obtain ⟨v, rfl, r1⟩ := r.one
    cases r1
    exact ⟨_, _, rfl, ⟨big m.1, rfl⟩, ok _ _ _ _ _ .refl rh (.int _) m.2⟩
  · obtain ⟨v, rfl, r1⟩ := r.one
    cases r1 with
    | tup t rv => exact ⟨_, _, rfl, .inr ⟨_, t.sq, rfl⟩, by rw [← rv.len]; exact ok _ _ _ _ _ .refl rh (.int _) m⟩
  · obtain ⟨v, rfl, r1⟩ := r.one
    cases r1 with
    | loc e0 =>
      obtain ⟨ds, vs, sq, rv, q⟩ := rh.rdL e0 m
      exact ⟨_, _, rfl, .inl ⟨_, sq, rfl⟩, by rw [← rv.len]; exact ok _ _ _ _ _ .refl rh (.int _) q⟩
  · obtain ⟨v, rfl, r1⟩ := r.one
    cases r1 with
    | kls t rv => exact ⟨_, _, rfl, .inl ⟨_, t.sq, rfl⟩, by rw [← rv.len]; exact ok _ _ _ _ _ .refl rh (.int _) m⟩
  · exact m.elim⟩
abbrev bInt : MB := fun ds h Q => match ds with | [.int i] => Q (.int i) h | [.bl b] => Q (.int (match b with | true => 1 | false => 0)) h | _ => False
theorem b_int : BC X (.type "int") bInt := ⟨_, call_int1, fun φ h H ds vs Qm Q rh r m ok => by
  unfold bInt at m
  split at m
  · obtain ⟨v, rfl, r1⟩ := r.one
    cases r1
    exact .inl ⟨_, rfl, ok _ _ _ _ _ .refl rh (.int _) m⟩
  · obtain ⟨v, rfl, r1⟩ := r.one
    cases r1
    rename_i b
    refine .inr ⟨_, rfl, ?_⟩
    cases b <;> exact ok _ _ _ _ _ .refl rh (.int _) m
  · exact m.elim⟩
abbrev bAbs : MB := fun ds h Q => match ds with | [.int i] => Q (.int (if i < 0 then -i else i)) h | _ => False
theorem b_abs : BC X (.builtin "abs") bAbs := ⟨_, call_abs, fun φ h H ds vs Qm Q rh r m ok => by
  unfold bAbs at m
  split at m
  · exact ⟨_, one_int r, ok _ _ _ _ _ .refl rh (.int _) m⟩
  · exact m.elim⟩
abbrev bMax2 : MB := fun ds h Q => match ds with | [.int i, .int j] => Q (.int (if j > i then j else i)) h | _ => False
theorem b_max2 (hc : X.calm = true) : BC X (.builtin "max") bMax2 := ⟨_, call_max2 hc, fun φ h H ds vs Qm Q rh r m ok => by
  unfold bMax2 at m
  split at m
  · exact ⟨_, _, two_int r, ok _ _ _ _ _ .refl rh (.int _) m⟩
  · exact m.elim⟩
abbrev bMin2 : MB := fun ds h Q => match ds with | [.int i, .int j] => Q (.int (if j < i then j else i)) h | _ => False
theorem b_min2 (hc : X.calm = true) : BC X (.builtin "min") bMin2 := ⟨_, call_min2 hc, fun φ h H ds vs Qm Q rh r m ok => by
  unfold bMin2 at m
  split at m
  · exact ⟨_, _, two_int r, ok _ _ _ _ _ .refl rh (.int _) m⟩
  · exact m.elim⟩
abbrev bStr : MB := fun ds h Q => match ds with | [.int i] => i.natAbs < 2 ^ 400 ∧ Q (.str (toString i)) h | _ => False
theorem b_str : BC X (.type "str") bStr := ⟨_, call_str_int, fun φ h H ds vs Qm Q rh r m ok => by
  unfold bStr at m
  split at m
  · exact ⟨_, one_int r, Nat.lt_trans (PySem.Flt.log2_lt_of (by decide) m.1) (by decide), ok _ _ _ _ _ .refl rh (.str _) m.2⟩
  · exact m.elim⟩
abbrev bList : MB := fun ds h Q => match ds with
  | [.tup xs] => Q (.loc h.length) (h ++ [.lst xs])
  | [.loc n] => lstAt h n fun xs => Q (.loc h.length) (h ++ [.lst xs])
  | [.kls xs] => Q (.loc h.length) (h ++ [.lst xs])
  | _ => False
theorem b_list : BC X (.type "list") bList := ⟨_, call_list_of, fun φ h H ds vs Qm Q rh r m ok => by
  unfold bList at m
  split at m
  · obtain ⟨v, rfl, r1⟩ := r.one
    cases r1 with
    | tup t rv =>
      refine ⟨_, _, rfl, .inr t.sq, fun l hl => ?_⟩
      obtain ⟨r3, x3, rd⟩ := push_lst rh hl rv
      exact ok _ _ _ _ _ x3 r3 rd m
  · obtain ⟨v, rfl, r1⟩ := r.one
    cases r1 with
    | loc e0 =>
      obtain ⟨ds, vs, sq, rv, q⟩ := rh.rdL e0 m
      refine ⟨_, _, rfl, .inl sq, fun l hl => ?_⟩
      obtain ⟨r3, x3, rd⟩ := push_lst rh hl rv
      exact ok _ _ _ _ _ x3 r3 rd q
  · obtain ⟨v, rfl, r1⟩ := r.one
    cases r1 with
    | kls t rv =>
      refine ⟨_, _, rfl, .inl t.sq, fun l hl => ?_⟩
      obtain ⟨r3, x3, rd⟩ := push_lst rh hl rv
      exact ok _ _ _ _ _ x3 r3 rd m
  · exact m.elim⟩
abbrev bTuple : MB := fun ds h Q => match ds with
  | [.tup xs] => Q (.tup xs) h
  | [.loc n] => lstAt h n fun xs => Q (.tup xs) h
  | _ => False
theorem b_tuple : BC X (.type "tuple") bTuple := ⟨_, call_tupG, fun φ h H ds vs Qm Q rh r m ok => by
  unfold bTuple at m
  split at m
  · obtain ⟨v, rfl, r1⟩ := r.one
    cases r1 with
    | tup t rv => exact ⟨_, _, rfl, .inr ⟨t.sq, ok _ _ _ _ _ .refl rh (.tup t rv) m⟩⟩
  · obtain ⟨v, rfl, r1⟩ := r.one
    cases r1 with
    | loc e0 =>
      obtain ⟨ds, vs, sq, rv, q⟩ := rh.rdL e0 m
      exact ⟨_, _, rfl, .inl ⟨sq, newG_of rh rv ok q⟩⟩
  · exact m.elim⟩
/-- a row of truths, of ints, of texts -/
def allBl (ds : List D) (k : List Bool → Prop) : Prop := ∃ bs : List Bool, ds = bs.map D.bl ∧ k bs
def allInt (ds : List D) (k : List Int → Prop) : Prop := ∃ bs : List Int, ds = bs.map D.int ∧ k bs
def allStr (ds : List D) (k : List Str → Prop) : Prop := ∃ bs : List Str, ds = bs.map D.str ∧ k bs
theorem rds_map {K : PySem.W.Frag} {φ : List Addr} {H : Hp} {α : Type} {f : α → D} {g : α → V} (hf : ∀ a v, RD K φ H (f a) v → v = g a) : ∀ {bs : List α} {vs : List V}, RDs K φ H (bs.map f) vs → vs = bs.map g
  | [], _, .nil => rfl
  | b :: bs, _, .cons r t => by rw [List.map_cons, ← rds_map hf t, hf b _ r]
theorem rds_bl {K : PySem.W.Frag} {φ : List Addr} {H : Hp} {bs : List Bool} {vs : List V} (r : RDs K φ H (bs.map D.bl) vs) : vs = bs.map V.bl := rds_map (fun a v r => by cases r; rfl) r
theorem rds_int {K : PySem.W.Frag} {φ : List Addr} {H : Hp} {bs : List Int} {vs : List V} (r : RDs K φ H (bs.map D.int) vs) : vs = bs.map V.int := rds_map (fun a v r => by cases r; rfl) r
theorem rds_str {K : PySem.W.Frag} {φ : List Addr} {H : Hp} {bs : List Str} {vs : List V} (r : RDs K φ H (bs.map D.str) vs) : vs = bs.map V.str := rds_map (fun a v r => by cases r; rfl) r
abbrev bAll : MB := fun ds h Q => match ds with | [.loc n] => lstAt h n fun xs => allBl xs fun bs => Q (.bl (bs.all id)) h | _ => False
theorem b_all (hc : X.calm = true) : BC X (.builtin "all") bAll := ⟨_, cr_all hc, fun φ h H ds vs Qm Q rh r m ok => by
  unfold bAll at m
  split at m
  · obtain ⟨v, rfl, r1⟩ := r.one
    cases r1 with
    | loc e0 =>
      obtain ⟨ds, vs, sq, rv, bs, rfl, q⟩ := rh.rdL e0 m
      exact ⟨_, bs, rfl, by rw [← rds_bl rv]; exact sq, ok _ _ _ _ _ .refl rh (.bl _) q⟩
  · exact m.elim⟩
abbrev bSum : MB := fun ds h Q => match ds with | [.loc n] => lstAt h n fun xs => allInt xs fun bs => Q (.int bs.sum) h | _ => False
theorem b_sum (hc : X.calm = true) : BC X (.builtin "sum") bSum := ⟨_, cr_sum hc, fun φ h H ds vs Qm Q rh r m ok => by
  unfold bSum at m
  split at m
  · obtain ⟨v, rfl, r1⟩ := r.one
    cases r1 with
    | loc e0 =>
      obtain ⟨ds, vs, sq, rv, bs, rfl, q⟩ := rh.rdL e0 m
      exact ⟨_, bs, rfl, by rw [← rds_int rv]; exact sq, ok _ _ _ _ _ .refl rh (.int _) q⟩
  · exact m.elim⟩
/-- len(set(texts)) -/
abbrev mLenTx (m : ME) : ME := fun ρ h Q E => m ρ h (fun d h1 => match d with
  | .tup xs => allStr xs fun ss => ss.length ≤ 4000 ∧ Q (.int (MyS.uq ss).length) h1
  | .loc n => lstAt h1 n fun xs => allStr xs fun ss => ss.length ≤ 4000 ∧ Q (.int (MyS.uq ss).length) h1
  | _ => False) E

/-! ### isinstance -/
/-- is it of the built-in type -/
def isTK (h : MH) (T : String) (d : D) (k : Bool → Prop) : Prop := match d with
  | .non => k (T == "NoneType") | .bl _ => k (T == "bool" || T == "int") | .int _ => k (T == "int") | .str _ => k (T == "str") | .tup _ => k (T == "tuple") | .pr _ => False | .kls _ => k (T == "list")
  | .loc n => match h[n]? with | some (.lst _) => k (T == "list") | some (.dic _) => k (T == "dict") | _ => False
def tyOk (T : String) : Prop := T = "int" ∨ T = "bool" ∨ T = "str" ∨ T = "list" ∨ T = "tuple" ∨ T = "dict"
theorem kit_T (K : PySem.W.Frag) {T : String} (hT : tyOk T) {S : String} (hS : S = "NoneType" ∨ S = "bool" ∨ S = "int" ∨ S = "str" ∨ S = "tuple" ∨ S = "list" ∨ S = "dict") :
    PySem.W.kitOne K (.type S) (.type T) = some (T == S || (S == "bool" && T == "int")) := by
  rcases hT with rfl | rfl | rfl | rfl | rfl | rfl <;> rcases hS with rfl | rfl | rfl | rfl | rfl | rfl | rfl <;> exact kit_ty (by decide +kernel)
theorem isT_rel {K : PySem.W.Frag} {φ : List Addr} {h : MH} {H : Hp} (rh : RH K φ h H) {d : D} {v : V} (r : RD K φ H d v) {T : String} {k : Bool → Prop} (q : isTK h T d k) :
    ∃ S, (S = "NoneType" ∨ S = "bool" ∨ S = "int" ∨ S = "str" ∨ S = "tuple" ∨ S = "list" ∨ S = "dict") ∧ TyX K H v (.type S) ∧ ∀ {U : String} {k' : Bool → Prop}, isTK h U d k' → k' (U == S || (S == "bool" && U == "int")) := by
  have f : ∀ {T : String} {k : Bool → Prop} {b : Bool}, k b → k (b || (false && T == "int")) := fun {T k b} q => by rw [Bool.false_and, Bool.or_false]; exact q
  cases r with
  | non => exact ⟨"NoneType", by simp, .base .non, fun q => f q⟩
  | bl b => exact ⟨"bool", by simp, .base (.bl b), fun {U k'} q => by
      have e : (U == "bool" || U == "int") = (U == "bool" || ("bool" == "bool" && U == "int")) := by rw [show ("bool" == "bool") = true by decide +kernel, Bool.true_and]
      rw [← e]; exact q⟩
  | int i => exact ⟨"int", by simp, .base (.int i), fun q => f q⟩
  | str i => exact ⟨"str", by simp, .base (.str i), fun q => f q⟩
  | tup t rv =>
    refine ⟨"tuple", by simp, ?_, fun q => f q⟩
    rcases t with ⟨o, _, t⟩ | ⟨o, its, n, h1, _, h2, _⟩
    · exact .fTuple t
    · exact .kTuple h1 h2
  | pr t rv => exact q.elim
  | kls t rv =>
    refine ⟨"list", by simp, ?_, fun q => f q⟩
    rcases t with ⟨o, t⟩ | ⟨o, its, n, h1, h2, _⟩
    · exact .base (.frz t)
    · exact .kList h1 h2
  | loc e0 =>
    obtain ⟨x, e1, rn⟩ := rh.get e0
    unfold isTK at q ⊢
    simp only [e1] at q ⊢
    cases x with
    | lst ds => obtain ⟨vs, h1, _⟩ := rn; exact ⟨"list", by simp, .base (.lst h1), fun q => f q⟩
    | dic ds => obtain ⟨vs, h1, _⟩ := rn; exact ⟨"dict", by simp, .base (.dK h1), fun q => f q⟩
    | dit ds => exact q.elim
    | ins c fs => exact q.elim
abbrev mIsT (T : String) (m : ME) : ME := fun ρ h Q E => m ρ h (fun d h1 => isTK h1 T d fun b => Q (.bl b) h1) E
def tArg2 (te : TE) (v : V) : TA := fun σ H Q => te σ H fun x H1 => Q [x, v] H1
theorem ce_isT {T : String} {m : ME} {c : Expr} (hT : tyOk T) (he : CE X W e m) (hg : Gl X "isinstance") (hm : X.mg "isinstance" = none) (hc : PE X c (tC (.ty T)))
    (hs1 : starEach [e, c] X.env = (false, eval e X.env) :: starEach [c] X.env := by rfl) (hs2 : starEach [c] X.env = (false, eval c X.env) :: starEach [] X.env := by rfl) (hpl : (backTo pos (starEach [c] X.env)).any (·.1) = false := by rfl) :
    CE X W (.Call (.Name "isinstance" p) [e, c] [] pos) (mIsT T m) := .of (pe_callB call_isi hg hm (by decide +kernel) (pa_cons cE.pe (pa_cons hc pa_nil hs2) hs1) (by decide) (by decide) hs1 hpl) fun φ ρ σ h H Qm Q Xm rh rs q ok ox =>
  he.sim φ ρ σ h H _ _ _ rh rs q (fun φ1 h1 H1 d v e1 rh1 rx q1 => by
    obtain ⟨S, hS, ty, q2⟩ := isT_rel rh1 rx q1
    exact ⟨v, .ty T, _, _, _, rfl, .ty T, ty, kit_T X.K hT hS, ok _ _ _ _ _ e1 rh1 (.bl _) (q2 q1)⟩) ox
/-- isinstance(x, (T, U)) -/
abbrev mIsT2 (T U : String) (m : ME) : ME := fun ρ h Q E => m ρ h (fun d h1 => isTK h1 T d fun b => ifB b (Q (.bl true) h1) (isTK h1 U d fun b => Q (.bl b) h1)) E
theorem ce_isT2 {T U : String} {m : ME} {c1 c2 : Expr} {kk : Nat} {p2 : Pos} (hT : tyOk T) (hU : tyOk U) (he : CE X W e m) (hg : Gl X "isinstance") (hm : X.mg "isinstance" = none) (hc1 : PE X c1 (tC (.ty T))) (hc2 : PE X c2 (tC (.ty U)))
    (hs1 : starEach [e, .Tuple [c1, c2] kk p2] X.env = (false, eval e X.env) :: starEach [.Tuple [c1, c2] kk p2] X.env := by rfl)
    (hs3 : starEach [c1, c2] X.env = (false, eval c1 X.env) :: starEach [c2] X.env := by rfl) (hs4 : starEach [c2] X.env = (false, eval c2 X.env) :: starEach [] X.env := by rfl) (hpl : (backTo pos (starEach [.Tuple [c1, c2] kk p2] X.env)).any (·.1) = false := by rfl) :
    CE X W (.Call (.Name "isinstance" p) [e, .Tuple [c1, c2] kk p2] [] pos) (mIsT2 T U m) := .of (pe_callB call_isiT hg hm (by decide +kernel) (pa_cons cE.pe (pa_cons (pe_tup (pa_cons hc1 (pa_cons hc2 pa_nil hs4) hs3)) pa_nil) hs1) (by decide) (by decide) hs1 hpl) fun φ ρ σ h H Qm Q Xm rh rs q ok ox =>
  he.sim φ ρ σ h H _ _ _ rh rs q (fun φ1 h1 H1 d v e1 rh1 rx q1 => by
    refine ⟨by show 2 ≤ sizeLine; decide, fun t ht => ?_⟩
    obtain ⟨r3, x3⟩ := rh1.new ht (.tup [.ty T, .ty U])
    obtain ⟨S, hS, ty, q2⟩ := isT_rel r3 (rx.to x3.toMo) q1
    have k1 := kit_T X.K hT hS
    have k2 := kit_T X.K hU hS
    have q3 := q2 q1
    cases hb : (T == S || (S == "bool" && T == "int")) with
    | true =>
      rw [hb] at q3 k1
      exact ⟨v, t, _, _, _, true, rfl, upd_same, .cons (.ty _) (.cons (.ty _) .nil), ty, kitAny_cons k1 (fun z => nomatch z) (fun _ => rfl), ok _ _ _ _ _ (e1.trans x3) r3 (.bl _) q3⟩
    | false =>
      rw [hb] at q3 k1
      refine ⟨v, t, _, _, _, _, rfl, upd_same, .cons (.ty _) (.cons (.ty _) .nil), ty, ?_, ok _ _ _ _ _ (e1.trans x3) r3 (.bl _) (q2 (show isTK h1 U d (fun b => Qm (.bl b) h1) from q3))⟩
      refine kitAny_cons k1 (fun _ => ?_) (fun z => nomatch z)
      unfold PySem.W.kitAny
      rw [k2]
      cases (U == S || (S == "bool" && U == "int")) <;> rfl) ox

/-! ### methods of lists, of texts -/
abbrev MM := D → List D → MH → (D → MH → Prop) → Prop
def MMr (K : PySem.W.Frag) (r : V → List V → Hp → VK → Prop) (m : MM) : Prop := ∀ φ h H d ds v vs Qm Q, RH K φ h H → RD K φ H d v → RDs K φ H ds vs → m d ds h Qm → Ok1 K φ H Qm Q → r v vs H Q
/-- the receiver is a list ahead of the arguments -/
def isL (h : MH) (d : D) (k : Prop) : Prop := match d with | .loc n => lstAt h n (fun _ => k) | _ => False
theorem isL_of {h : MH} {n : Nat} {ds : List D} {k : Prop} (e : h[n]? = some (.lst ds)) (q : k) : isL h (.loc n) k := lstAt_of e q
theorem isL_rel {K : PySem.W.Frag} {φ : List Addr} {h : MH} {H : Hp} (rh : RH K φ h H) {d : D} {v : V} (r : RD K φ H d v) {k : Prop} (q : isL h d k) : tyV K "list" v H ∧ k := by
  unfold isL at q
  split at q
  · cases r with
    | loc e0 =>
      obtain ⟨ds, vs, sq, _, q2⟩ := rh.rdL e0 q
      exact ⟨.inl ⟨rfl, vs, sq⟩, q2⟩
  · exact q.elim
abbrev mBM (m : MM) (mo : ME) (ma : MA) : ME := fun ρ h Q E => mo ρ h (fun x h1 => isL h1 x (ma ρ h1 (fun ds h2 => m x ds h2 Q) E)) E
abbrev mBM0 (m : MM) (mo : ME) : ME := fun ρ h Q E => mo ρ h (fun x h1 => isL h1 x (m x [] h1 Q)) E
theorem ce_bm {id : String} {name : Str} {apos cpos : Pos} {m : MM} {r : V → List V → Hp → VK → Prop} {mo : ME} {ma : MA} (slot : Slot "list" name id) (hty : typeOf (.builtin id) = pure (.type "method_descriptor")) (hm : MtR X id r) (hr : MMr X.K r m) (ho : CE X W o mo) (ha : CA X W (e :: es) ma)
    (hbase : attributeBase o name X.env (eval o X.env) = eval o X.env := by rfl)
    (hfew : ((backTo cpos (starEach (e :: es) X.env)).all (fun x => !x.1) && (backToKw cpos (keywordEach [] X.env)).all (fun x => x.1.isSome)
      && decide ((e :: es).length + ([] : List Keyword).length + (if ([] : List Keyword).isEmpty then 0 else 1) < 30)) = true := by rfl)
    (hline : (apos.endLine == cpos.line) = true := by rfl) (hs : starEach (e :: es) X.env = (false, eval e X.env) :: starEach es X.env := by rfl) (hplain : (backTo cpos (starEach es X.env)).any (·.1) = false := by rfl) :
    CE X W (.Call (.Attribute o name apos) (e :: es) [] cpos) (mBM m mo ma) := .of (pe_bm PySem.F.plainAttrs_list slot hty hm cE.pe cA.pa hbase hfew hline hs hplain) fun φ ρ σ h H Qm Q Xm rh rs q ok ox =>
  ho.sim φ ρ σ h H _ _ _ rh rs q (fun φ1 h1 H1 d v e1 rh1 rx q1 => by
    obtain ⟨t, q2⟩ := isL_rel rh1 rx q1
    exact ⟨t, ha.sim φ1 ρ σ h1 H1 _ _ _ rh1 (rs.to rh e1) q2 (fun φ2 h2 H2 ds vs e2 rh2 rv q3 => hr φ2 h2 H2 d ds v vs Qm Q rh2 (rx.to e2.toMo) rv q3 (ok.to (e1.trans e2))) (ox.to e1)⟩) ox
theorem ce_bm0 {id : String} {name : Str} {apos cpos : Pos} {m : MM} {r : V → List V → Hp → VK → Prop} {mo : ME} (slot : Slot "list" name id) (hty : typeOf (.builtin id) = pure (.type "method_descriptor")) (hm : MtR X id r) (hr : MMr X.K r m) (ho : CE X W o mo)
    (hbase : attributeBase o name X.env (eval o X.env) = eval o X.env := by rfl) (hline : (apos.endLine == cpos.line) = true := by rfl) :
    CE X W (.Call (.Attribute o name apos) [] [] cpos) (mBM0 m mo) := .of (pe_bm0 PySem.F.plainAttrs_list slot hty hm cE.pe hbase hline) fun φ ρ σ h H Qm Q Xm rh rs q ok ox =>
  ho.sim φ ρ σ h H _ _ _ rh rs q (fun φ1 h1 H1 d v e1 rh1 rx q1 => by
    obtain ⟨t, q2⟩ := isL_rel rh1 rx q1
    exact ⟨t, hr φ1 h1 H1 d [] v [] Qm Q rh1 rx .nil q2 (ok.to e1)⟩) ox
abbrev mmAppend : MM := fun d ds h Q => match d, ds with | .loc n, [y] => wrAt h n fun xs => xs.length < 100000 ∧ Q .non (h.set n (.lst (xs ++ [y]))) | _, _ => False
theorem m_append {K : PySem.W.Frag} : MMr K rAppend mmAppend := fun φ h H d ds v vs Qm Q rh rx rv m ok => by
  unfold mmAppend at m
  split at m
  · cases rx with
    | loc e0 =>
      obtain ⟨u, rfl, ru⟩ := rv.one
      obtain ⟨xs, vs, h1, r, q⟩ := rh.wrL e0 m
      obtain ⟨r2, x2⟩ := rh.chgL e0 (r.snoc ru)
      exact ⟨_, vs, u, rfl, rfl, h1, by rw [← r.len]; exact Nat.lt_of_lt_of_le q.1 (by decide), ok _ _ _ _ _ x2 r2 .non q.2⟩
  · exact m.elim
abbrev mmPop : MM := fun d ds h Q => match d, ds with | .loc n, [] => wrAt h n fun xs => (match xs[xs.length - 1]? with | some y => Q y (h.set n (.lst xs.dropLast)) | none => False) | _, _ => False
theorem RDs.dropLast {K : PySem.W.Frag} {φ : List Addr} {H : Hp} {ds : List D} {vs : List V} (r : RDs K φ H ds vs) : RDs K φ H ds.dropLast vs.dropLast := by
  rw [List.dropLast_eq_take, List.dropLast_eq_take, r.len]
  exact r.take _
theorem m_pop {K : PySem.W.Frag} : MMr K rPop mmPop := fun φ h H d ds v vs Qm Q rh rx rv m ok => by
  unfold mmPop at m
  split at m
  · cases rx with
    | loc e0 =>
      cases rv
      obtain ⟨xs, vs, h1, r, q⟩ := rh.wrL e0 m
      split at q
      · rename_i y ey
        obtain ⟨u, hu, ru⟩ := r.at_ ey
        obtain ⟨r2, x2⟩ := rh.chgL e0 r.dropLast
        exact ⟨_, vs, u, rfl, rfl, h1, by rw [← r.len]; exact hu, ok _ _ _ _ _ x2 r2 (ru.to x2.toMo) q⟩
      · exact q.elim
  · exact m.elim
/-- pop(i), 0 ≤ i -/
abbrev mmPopAt : MM := fun d ds h Q => match d, ds with | .loc n, [.int i] => wrAt h n fun xs => 0 ≤ i ∧ i < 100000 ∧ (match xs[i.toNat]? with | some y => Q y (h.set n (.lst (xs.eraseIdx i.toNat))) | none => False) | _, _ => False
theorem RDs.erase {K : PySem.W.Frag} {φ : List Addr} {H : Hp} : ∀ {ds : List D} {vs : List V} (i : Nat), RDs K φ H ds vs → RDs K φ H (ds.eraseIdx i) (vs.eraseIdx i)
  | _, _, _, .nil => .nil
  | _, _, 0, .cons _ t => t
  | _, _, i + 1, .cons r t => .cons r (RDs.erase i t)
theorem m_popAt {K : PySem.W.Frag} : MMr K rPopAt mmPopAt := fun φ h H d ds v vs Qm Q rh rx rv m ok => by
  unfold mmPopAt at m
  split at m
  · cases rx with
    | loc e0 =>
      rename_i i _
      obtain rfl := one_int rv
      obtain ⟨xs, vs, h1, r, i0, i1, q⟩ := rh.wrL e0 m
      split at q
      · rename_i y ey
        obtain ⟨u, hu, ru⟩ := r.at_ ey
        obtain ⟨r2, x2⟩ := rh.chgL e0 (r.erase i.toNat)
        have hl : i.toNat < vs.length := (List.getElem?_eq_some_iff.mp hu).1
        exact ⟨_, vs, i, i.toNat, u, rfl, rfl, h1, by omega, by omega, PySem.StrLaws.seqIndex_nonneg i0 (by omega), hu, ok _ _ _ _ _ x2 r2 (ru.to x2.toMo) q⟩
      · exact q.elim
  · exact m.elim
theorem ce_append {apos cpos : Pos} {mo : ME} {ma : MA} (ho : CE X W o mo) (ha : CA X W (e :: es) ma)
    (hbase : attributeBase o "append" X.env (eval o X.env) = eval o X.env := by rfl)
    (hfew : ((backTo cpos (starEach (e :: es) X.env)).all (fun x => !x.1) && (backToKw cpos (keywordEach [] X.env)).all (fun x => x.1.isSome)
      && decide ((e :: es).length + ([] : List Keyword).length + (if ([] : List Keyword).isEmpty then 0 else 1) < 30)) = true := by rfl)
    (hline : (apos.endLine == cpos.line) = true := by rfl) (hs : starEach (e :: es) X.env = (false, eval e X.env) :: starEach es X.env := by rfl) (hplain : (backTo cpos (starEach es X.env)).any (·.1) = false := by rfl) :
    CE X W (.Call (.Attribute o "append" apos) (e :: es) [] cpos) (mBM mmAppend mo ma) := ce_bm PySem.F.slot_list_append PySem.F.type_list_append mt_append m_append ho ha hbase hfew hline hs hplain
theorem ce_popAt {apos cpos : Pos} {mo : ME} {ma : MA} (ho : CE X W o mo) (ha : CA X W (e :: es) ma)
    (hbase : attributeBase o "pop" X.env (eval o X.env) = eval o X.env := by rfl)
    (hfew : ((backTo cpos (starEach (e :: es) X.env)).all (fun x => !x.1) && (backToKw cpos (keywordEach [] X.env)).all (fun x => x.1.isSome)
      && decide ((e :: es).length + ([] : List Keyword).length + (if ([] : List Keyword).isEmpty then 0 else 1) < 30)) = true := by rfl)
    (hline : (apos.endLine == cpos.line) = true := by rfl) (hs : starEach (e :: es) X.env = (false, eval e X.env) :: starEach es X.env := by rfl) (hplain : (backTo cpos (starEach es X.env)).any (·.1) = false := by rfl) :
    CE X W (.Call (.Attribute o "pop" apos) (e :: es) [] cpos) (mBM mmPopAt mo ma) := ce_bm PySem.F.slot_list_pop PySem.F.type_list_pop mt_popAt m_popAt ho ha hbase hfew hline hs hplain
theorem ce_pop {apos cpos : Pos} {mo : ME} (ho : CE X W o mo)
    (hbase : attributeBase o "pop" X.env (eval o X.env) = eval o X.env := by rfl) (hline : (apos.endLine == cpos.line) = true := by rfl) :
    CE X W (.Call (.Attribute o "pop" apos) [] [] cpos) (mBM0 mmPop mo) := ce_bm0 PySem.F.slot_list_pop PySem.F.type_list_pop mt_pop m_pop ho hbase hline
/-- texts -/
abbrev mUpper (mo : ME) : ME := fun ρ h Q E => mo ρ h (fun d h1 => match d with | .str s => s.length ≤ 100000 ∧ Q (.str (Txt.upper s)) h1 | _ => False) E
theorem ce_upper {apos pos : Pos} {mo : ME} (ho : CE X W o mo) (hbase : attributeBase o "upper" X.env (eval o X.env) = eval o X.env := by rfl) (hline : (apos.endLine == pos.line) = true := by rfl) :
    CE X W (.Call (.Attribute o "upper" apos) [] [] pos) (mUpper mo) := .of (pe_upper cE.pe hbase hline) fun φ ρ σ h H Qm Q Xm rh rs q ok ox =>
  ho.sim φ ρ σ h H _ _ _ rh rs q (fun φ1 h1 H1 d v e1 rh1 rx q1 => by
    split at q1
    · cases rx
      exact ⟨⟨_, rfl⟩, _, rfl, rfl, by have := q1.1; omega, ok _ _ _ _ _ e1 rh1 (.str _) q1.2⟩
    · exact q1.elim) ox
abbrev mJoin (mo me : ME) : ME := fun ρ h Q E => mo ρ h (fun d h1 => match d with
  | .str s => me ρ h1 (fun y h2 => match y with
    | .loc n => lstAt h2 n fun xs => allStr xs fun ss => (ss.map (·.length)).sum + ss.length * s.length ≤ 100000 ∧ Q (.str (Txt.join s ss)) h2
    | .tup xs => allStr xs fun ss => (ss.map (·.length)).sum + ss.length * s.length ≤ 100000 ∧ Q (.str (Txt.join s ss)) h2
    | _ => False) E
  | _ => False) E
theorem ce_join {apos pos : Pos} {mo me : ME} (ho : CE X W o mo) (he : CE X W e me) (hs : starEach [e] X.env = [(false, eval e X.env)] := by rfl) (hbase : attributeBase o "join" X.env (eval o X.env) = eval o X.env := by rfl) (hline : (apos.endLine == pos.line) = true := by rfl) :
    CE X W (.Call (.Attribute o "join" apos) [e] [] pos) (mJoin mo me) := .of (pe_join cE.pe cE.pe hs hbase hline) fun φ ρ σ h H Qm Q Xm rh rs q ok ox =>
  ho.sim φ ρ σ h H _ _ _ rh rs q (fun φ1 h1 H1 d v e1 rh1 rx q1 => by
    split at q1
    · cases rx
      refine ⟨⟨_, rfl⟩, he.sim φ1 ρ σ h1 H1 _ _ _ rh1 (rs.to rh e1) q1 (fun φ2 h2 H2 y w e2 rh2 ry q2 => ?_) (ox.to e1)⟩
      split at q2
      · cases ry with
        | loc e0 =>
          obtain ⟨xs, vs, sq, rv, ss, rfl, q3⟩ := rh2.rdL e0 q2
          rw [rds_str rv] at sq
          exact ⟨_, _, ss, rfl, rfl, .inl sq, by have := q3.1; omega, ok _ _ _ _ _ (e1.trans e2) rh2 (.str _) q3.2⟩
      · cases ry with
        | tup t rv =>
          obtain ⟨ss, rfl, q3⟩ := q2
          have sq := t.sq
          rw [rds_str rv] at sq
          exact ⟨_, _, ss, rfl, rfl, .inr sq, by have := q3.1; omega, ok _ _ _ _ _ (e1.trans e2) rh2 (.str _) q3.2⟩
      · exact q2.elim
    · exact q1.elim) ox
theorem ce_lenTx {a : Expr} {m : ME} {p2 q : Pos} (hc : X.calm = true) (hg : Gl X "len") (hm : X.mg "len" = none) (hg2 : Gl X "set") (hm2 : X.mg "set" = none) (ha : CE X W a m)
    (na : starEach [a] X.env = (false, eval a X.env) :: starEach [] X.env := by rfl) : CE X W (.Call (.Name "len" p) [.Call (.Name "set" p2) [a] [] q] [] pos) (mLenTx m) := .of (pe_lenTx hc hg hm hg2 hm2 cE.pe na) fun φ ρ σ h H Qm Q Xm rh rs q ok ox =>
  ha.sim φ ρ σ h H _ _ _ rh rs q (fun φ1 h1 H1 d v e1 rh1 rx q1 => by
    split at q1
    · cases rx with
      | tup t rv =>
        obtain ⟨ss, rfl, q3⟩ := q1
        have sq := t.sq
        rw [rds_str rv] at sq
        exact ⟨_, ss, rfl, .inr sq, q3.1, ok _ _ _ _ _ e1 rh1 (.int _) q3.2⟩
    · cases rx with
      | loc e0 =>
        obtain ⟨xs, vs, sq, rv, ss, rfl, q3⟩ := rh1.rdL e0 q1
        rw [rds_str rv] at sq
        exact ⟨_, ss, rfl, .inl sq, q3.1, ok _ _ _ _ _ e1 rh1 (.int _) q3.2⟩
    · exact q1.elim) ox
/-- a comparison of three -/
theorem sim_chain {K : PySem.W.Frag} {ta tb tc : TE} {ma mb mc : ME} {r r' : R2} {m m' : MO} (ha : SimE K W ta ma) (hb : SimE K W tb mb) (hc : SimE K W tc mc) (hm : OpM K r m) (hm' : OpM K r' m') : SimE K W (tChain r r' ta tb tc) (mChain m m' ma mb mc) := fun φ ρ σ h H Qm Q Xm rh rs q ok ox =>
  ha φ ρ σ h H _ _ _ rh rs q (fun φ1 h1 H1 dx x e1 rh1 rx q1 => hb φ1 ρ σ h1 H1 _ _ _ rh1 (rs.to rh e1) q1 (fun φ2 h2 H2 dy y e2 rh2 ry q2 =>
    hm φ2 h2 H2 dx dy x y _ _ rh2 (rx.to e2.toMo) ry q2 (fun φ3 h3 H3 d v e3 rh3 rv q3 => by
      have E3 := e1.trans (e2.trans e3)
      unfold isB at q3
      split at q3
      · cases rv
        rename_i k
        refine ⟨_, rfl, ?_⟩
        cases k with
        | true =>
          rw [if_pos rfl]
          exact hc φ3 ρ σ h3 H3 _ _ _ rh3 (rs.to rh E3) q3 (fun φ4 h4 H4 dz z e4 rh4 rz q4 => hm' φ4 h4 H4 dy dz y z _ Q rh4 (ry.to (e3.trans e4).toMo) rz q4 (fun φ5 h5 H5 d v e5 rh5 rv q5 => by
            split at q5
            · cases rv
              exact ok _ _ _ _ _ (E3.trans (e4.trans e5)) rh5 (.bl _) q5
            · exact q5.elim)) (ox.to E3)
        | false =>
          rw [if_neg Bool.false_ne_true]
          exact ok _ _ _ _ _ E3 rh3 (.bl _) q3
      · exact q3.elim)) (ox.to e1)) ox
theorem ce_chain {a b c : Expr} {op op' : CmpOp} {m m' : MO} {ma mb mc : ME} (h1 : OpC X (compareOp op) m) (h2 : OpC X (compareOp op') m') (ha : CE X W a ma) (hb : CE X W b mb) (hc : CE X W c mc) (hm : lastMarks [op, op'] [b, c] = false := by with_unfolding_all rfl) :
    CE X W (.Compare a [op, op'] [b, c] pos) (mChain m m' ma mb mc) :=
  let ⟨_, a1, a2⟩ := h1.ex; let ⟨_, b1, b2⟩ := h2.ex; .of (pe_chain a1 b1 cE.pe cE.pe cE.pe hm) (sim_chain ha.sim hb.sim hc.sim a2 b2)
theorem ct_chain {a b c : Expr} {op op' : CmpOp} {m m' : MO} {ma mb mc : ME} (h1 : OpC X (compareOp op) m) (h2 : OpC X (compareOp op') m') (ha : CE X W a ma) (hb : CE X W b mb) (hc : CE X W c mc) (hm : lastMarks [op, op'] [b, c] = false := by with_unfolding_all rfl) :
    CT X W (.Compare a [op, op'] [b, c] pos) (mTst (mChain m m' ma mb mc)) :=
  let ⟨_, a1, a2⟩ := h1.ex; let ⟨_, b1, b2⟩ := h2.ex; .of (pt_chain a1 b1 cE.pe cE.pe cE.pe hm) (sim_tst (sim_chain ha.sim hb.sim hc.sim a2 b2))
/-- truth of a list, a tuple, a text, ints -/
def truK (h : MH) (d : D) (k : Bool → Prop) : Prop := match d with
  | .non => k false | .bl b => k b | .int i => k (i != 0) | .str s => s.length ≤ 100000 ∧ k ((s.length : Int) != 0) | .tup ds => k (!ds.isEmpty) | .loc n => lstAt h n fun ds => k (!ds.isEmpty) | .kls ds => k (!ds.isEmpty) | .pr _ => False
theorem rds_empty {K : PySem.W.Frag} {φ : List Addr} {H : Hp} {ds : List D} {vs : List V} (r : RDs K φ H ds vs) : vs.isEmpty = ds.isEmpty := by cases r <;> rfl
abbrev mTru (m : ME) : MT := fun ρ h Q E => m ρ h (fun d h1 => truK h1 d fun b => Q b h1) E
theorem ct_tru {m : ME} (he : CE X W e m) (ht : ∀ whole, isTrue e X.env whole = (do let v ← whole; standAt e.pos; holding [v] (truthy v)) := by intro _; rfl) : CT X W e (mTru m) := .of (pt_truth cE.pe ht) fun φ ρ σ h H Qm Q Xm rh rs q ok ox =>
  he.sim φ ρ σ h H _ _ _ rh rs q (fun φ1 h1 H1 d v e1 rh1 rx q1 => by
    cases rx with
    | non => exact ⟨_, rfl, ok _ _ _ _ e1 rh1 q1⟩
    | bl b => exact ⟨_, rfl, ok _ _ _ _ e1 rh1 q1⟩
    | int i => exact ⟨_, rfl, ok _ _ _ _ e1 rh1 q1⟩
    | pr t rv => exact q1.elim
    | str i => exact ⟨_, ⟨big q1.1, rfl⟩, ok _ _ _ _ e1 rh1 q1.2⟩
    | tup t rv => exact ⟨_, .inr (.inl ⟨_, t.sq, rfl⟩), by rw [rds_empty rv]; exact ok _ _ _ _ e1 rh1 q1⟩
    | loc e0 =>
      obtain ⟨ds, vs, sq, rv, q2⟩ := rh1.rdL e0 q1
      exact ⟨_, .inl ⟨_, sq, rfl⟩, by rw [rds_empty rv]; exact ok _ _ _ _ e1 rh1 q2⟩
    | kls t rv => exact ⟨_, .inl ⟨_, t.sq, rfl⟩, by rw [rds_empty rv]; exact ok _ _ _ _ e1 rh1 q1⟩) ox
end
end L3

/-! defs, methods, classes, errors -/
namespace L3
open PySem PySem.Spec PyProof.Rows L2
/-- a def's word: the arguments, what is wanted of its value, of its error -/
abbrev SpM := List D → MH → (D → MH → Prop) → XQ → Prop
def up (K : PySem.W.Frag) (sp : SpM) : Sp := fun vs H Q E => ∃ φ h ds Qm Xm, RH K φ h H ∧ RDs K φ H ds vs ∧ sp ds h Qm Xm ∧ Ok1 K φ H Qm Q ∧ ∀ φ' h' H' x cls dx, Ext φ H φ' H' → RH K φ' h' H' → RX K φ' H' x cls dx → Xm x h' → E cls dx H'
structure Fn (P : Program) (w : World) (K : PySem.W.Frag) (mg : Str → Option Value) (base : Heap) (k : Nat) (x : Str) (sp : SpM) : Prop where
  ex : ∃ (f : Addr) (fd : FuncData) (ps : List Str), FnG P w K mg base (L2N.CX P w) k f fd ps (up K sp) ∧ mg x = some (.ref f) ∧ PySem.W.keepIn K (.ref f) = true ∧ Binds K fd ps []
structure Mt (P : Program) (w : World) (K : PySem.W.Frag) (mg : Str → Option Value) (base : Heap) (k : Nat) (c m : Str) (sp : SpM) : Prop where
  ex : ∃ (f : Addr) (fd : FuncData) (ps : List Str), Cls K (He.ga K c) ∧ Meth K (He.ga K c) m f ∧ FnG P w K mg base (L2N.CX P w) k f fd ps (up K sp) ∧ Binds K fd ps []
structure Mkr (P : Program) (w : World) (K : PySem.W.Frag) (mg : Str → Option Value) (base : Heap) (k : Nat) (c : Str) (sp : SpM) : Prop where
  ex : ∃ (f : Addr) (fd : FuncData) (ps : List Str), Mk K (He.ga K c) f ∧ FnG P w K mg base (L2N.CX P w) k f fd ps (up K sp) ∧ mg c = some (.ref (He.ga K c)) ∧ Binds K fd ps []
/-- the object of the class c at n has no attribute m -/
def clsAt (h : MH) (n : Nat) (c m : Str) (k : Prop) : Prop := match h[n]? with | some (.ins c' fs) => c' = c ∧ fs.lookup m = none ∧ k | _ => False
theorem clsAt_of {h : MH} {n : Nat} {c m : Str} {fs : List (Str × D)} {k : Prop} (e : h[n]? = some (.ins c fs)) (f : fs.lookup m = none) (q : k) : clsAt h n c m k := by unfold clsAt; rw [e]; exact ⟨rfl, f, q⟩
def fldAt (h : MH) (n : Nat) (c f : Str) (k : D → Prop) : Prop := match h[n]? with | some (.ins c' fs) => c' = c ∧ (match fs.lookup f with | some d => k d | none => False) | _ => False
theorem fldAt_of {h : MH} {n : Nat} {c f : Str} {fs : List (Str × D)} {d : D} {k : D → Prop} (e : h[n]? = some (.ins c fs)) (g : fs.lookup f = some d) (q : k d) : fldAt h n c f k := by unfold fldAt; rw [e]; refine ⟨rfl, ?_⟩; rw [g]; exact q
def putD (f : Str) (v : D) : List (Str × D) → List (Str × D)
  | [] => [(f, v)]
  | (g, u) :: r => if g = f then (f, v) :: r else (g, u) :: putD f v r
def setF (h : MH) (n : Nat) (c f : Str) (d : D) (k : MH → Prop) : Prop := match h[n]? with | some (.ins c' fs) => c' = c ∧ fs.length < 500 ∧ k (h.set n (.ins c (putD f d fs))) | _ => False
theorem setF_of {h : MH} {n : Nat} {c f : Str} {fs : List (Str × D)} {d : D} {k : MH → Prop} (e : h[n]? = some (.ins c fs)) (l : fs.length < 500) (q : k (h.set n (.ins c (putD f d fs)))) : setF h n c f d k := by unfold setF; rw [e]; exact ⟨rfl, l, q⟩
section
variable {K : PySem.W.Frag} {φ : List Addr} {h : MH} {H : Hp}
theorem rk_none {f : Str} : ∀ {ks : List (Str × D)} {vs : List (Str × V)}, RKs K φ H ks vs → ks.lookup f = none → vs.lookup f = none
  | _, _, .nil, _ => rfl
  | (a, d) :: ks, (b, v) :: vs, .cons r t, e => by
    obtain ⟨e1, _⟩ := r
    have e1' : a = b := e1
    subst e1'
    rw [List.lookup_cons] at e ⊢
    split at e
    · cases e
    · rename_i hb
      exact rk_none t e
theorem rk_some {f : Str} {d : D} : ∀ {ks : List (Str × D)} {vs : List (Str × V)}, RKs K φ H ks vs → ks.lookup f = some d → ∃ v, vs.lookup f = some v ∧ RD K φ H d v
  | _, _, .nil, e => by cases e
  | (a, d') :: ks, (b, v) :: vs, .cons r t, e => by
    obtain ⟨e1, rd⟩ := r
    have e1' : a = b := e1
    subst e1'
    rw [List.lookup_cons] at e ⊢
    split at e
    · rename_i hb
      cases e
      exact ⟨v, rfl, rd⟩
    · rename_i hb
      exact rk_some t e
theorem rk_len {κ : Type} {ks : List (κ × D)} {vs : List (κ × V)} (r : RKs K φ H ks vs) : ks.length = vs.length := Paired.length r
theorem rk_put {f : Str} {d : D} {v : V} (rd : RD K φ H d v) : ∀ {ks : List (Str × D)} {vs : List (Str × V)}, RKs K φ H ks vs → RKs K φ H (putD f d ks) (putF f v vs)
  | _, _, .nil => by
    unfold putD putF
    exact .cons ⟨rfl, rd⟩ .nil
  | (a, d') :: ks, (b, u) :: vs, .cons r t => by
    obtain ⟨e1, rd'⟩ := r
    have e1' : a = b := e1
    subst e1'
    unfold putD putF
    by_cases hb : a = f
    · subst hb
      simp
      exact .cons ⟨rfl, rd⟩ t
    · simp [hb]
      exact .cons ⟨rfl, rd'⟩ (rk_put rd t)
end
section
variable {X : Cx} {W : Wz} {k j : Nat} {x m c : Str} {sp : SpM} {p pos apos : Pos} {e o : Expr} {es : List Expr} {mo : ME} {ma : MA}
theorem OkX.we {K : PySem.W.Frag} {φ : List Addr} {H : Hp} {σ : L2.St} {Xm : XQ} (ox : OkX K φ H σ Xm W) : ∀ φ' h' H' x cls dx, Ext φ H φ' H' → RH K φ' h' H' → RX K φ' H' x cls dx → Xm x h' → WE W.w σ cls dx H' := ox
abbrev mCall (sp : SpM) (ma : MA) : ME := fun ρ h Q E => ma ρ h (fun ds h1 => sp ds h1 Q E) E
theorem ce_call (c : Fn X.prog X.w X.K X.mg X.base k x sp) (hr : Rm j X.A) (hk : k ≤ j) (tk : L2N.Takes X W.w) (hg : Gl X x) (ha : CA X W (e :: es) ma)
    (hdb : (x == ("__debug__" : Str)) = false := by decide) (he : starEach (e :: es) X.env = (false, eval e X.env) :: starEach es X.env := by rfl) (hpl : (backTo pos (starEach es X.env)).any (·.1) = false := by rfl) :
    CE X W (.Call (.Name x p) (e :: es) [] pos) (mCall sp ma) := by
  obtain ⟨f, fd, ps, F, hm, kp, b⟩ := c.ex
  exact .of (pe_callG F hr hk hg hm kp b tk cA.pa hdb he hpl) fun φ ρ σ h H Qm Q Xm rh rs q ok ox =>
    ha.sim φ ρ σ h H _ _ _ rh rs q (fun φ1 h1 H1 ds vs e1 rh1 r1 q1 => ⟨φ1, h1, ds, Qm, Xm, rh1, r1, q1, ok.to e1, (ox.to e1).we⟩) ox
/-- a method -/
abbrev mMeth (c m : Str) (sp : SpM) (mo : ME) (ma : MA) : ME := fun ρ h Q E => mo ρ h (fun d h1 => match d with | .loc n => clsAt h1 n c m (ma ρ h1 (fun ds h2 => sp (.loc n :: ds) h2 Q E) E) | _ => False) E
theorem clsAt_rel {K : PySem.W.Frag} {φ : List Addr} {h : MH} {H : Hp} (rh : RH K φ h H) {n : Nat} {a : Addr} (e : φ[n]? = some a) {k : Prop} (q : clsAt h n c m k) : ∃ dx fs, H a = some (.ins (He.ga K c) dx fs) ∧ fs.lookup m = none ∧ k := by
  unfold clsAt at q
  split at q
  · rename_i c' fs e1
    obtain ⟨rfl, q1, q2⟩ := q
    obtain ⟨dx, vs, h1, h2⟩ := rh.at_ _ _ _ e e1
    exact ⟨dx, vs, h1, rk_none h2 q1, q2⟩
  · exact q.elim
def tMethV (C : Addr) (m : Str) (sp : Sp) (W : WX) (ta : TE) (t : TA) : TE := fun σ H Q => ta σ H fun x H1 => ∃ a dx fs, x = .ref a ∧ H1 a = some (.ins C dx fs) ∧ fs.lookup m = none ∧ t σ H1 fun vs H2 => sp (x :: vs) H2 Q (WE W σ)
theorem pe_mtV {C : Addr} {sp : Sp} {f : Addr} {fd : FuncData} {ps : List Str} {Wv : WX} {ta : TE} {t : TA} {pl : Sem Bool} (cl : Cls X.K C) (me : Meth X.K C m f) (F : FnG X.prog X.w X.K X.mg X.base (L2N.CX X.prog X.w) k f fd ps sp) (b : Binds X.K fd ps []) (hr : Rm j X.A) (hk : k ≤ j) (tk : L2N.Takes X Wv) (po : PE X o ta) (pa : PA X (e :: es) t)
    (h1 : starEach (e :: es) X.env = (false, eval e X.env) :: starEach es X.env) (h2 : (backTo pos (starEach es X.env)).any (·.1) = false)
    (h3 : eval (.Call (.Attribute o m apos) (e :: es) [] pos) X.env = (do
      let r ← eval o X.env
      standAt apos.atName
      let (g, us) ← holding [r] (getMethod r m pl)
      callWith pos g us (backTo pos (starEach (e :: es) X.env)) (backToKw pos (keywordEach [] X.env)))) :
    PE X (.Call (.Attribute o m apos) (e :: es) [] pos) (tMethV C m sp Wv ta t) := by
  refine ⟨fun pins s σ H Q I h => PySem.W.methodCall_KW (pl := pl) (thn (po.run pins s σ H _ I h) ?_) h3⟩
  rintro v s1 ⟨x, H1, I1, rx, a, dx, fs, rfl, ea, l, q⟩
  cases rx
  exact getmeth_ok I1 ea cl me l (PySem.W.callWith_K (first := [.ref a]) (h₀ := X.base) I1.ok.mod.kin me.kp (thn (pa.run pos pins s1 σ H1 _ I1 q) fun us s2 ⟨vs, H2, I2, r, q2⟩ =>
    ⟨I2.kIn, run_fnG (E := WE Wv) (us := .ref a :: us) (vs := .ref a :: vs) F (hr.mono hk) b (L2N.passAt tk σ) I2 (.cons rfl r) q2⟩) h1 h2)
theorem pe_mtV0 {C : Addr} {sp : Sp} {f : Addr} {fd : FuncData} {ps : List Str} {Wv : WX} {ta : TE} {pl : Sem Bool} (cl : Cls X.K C) (me : Meth X.K C m f) (F : FnG X.prog X.w X.K X.mg X.base (L2N.CX X.prog X.w) k f fd ps sp) (b : Binds X.K fd ps []) (hr : Rm j X.A) (hk : k ≤ j) (tk : L2N.Takes X Wv) (po : PE X o ta)
    (h3 : eval (.Call (.Attribute o m apos) [] [] pos) X.env = (do
      let r ← eval o X.env
      standAt apos.atName
      let (g, us) ← holding [r] (getMethod r m pl)
      callWith pos g us (backTo pos (starEach [] X.env)) (backToKw pos (keywordEach [] X.env)))) :
    PE X (.Call (.Attribute o m apos) [] [] pos) (tMethV C m sp Wv ta tNil) := by
  refine ⟨fun pins s σ H Q I h => PySem.W.methodCall_KW (pl := pl) (thn (po.run pins s σ H _ I h) ?_) h3⟩
  rintro v s1 ⟨x, H1, I1, rx, a, dx, fs, rfl, ea, l, q⟩
  cases rx
  exact getmeth_ok I1 ea cl me l (PySem.W.callWith_K0 (first := [.ref a]) I1.kIn me.kp (run_fnG (E := WE Wv) (us := [.ref a]) (vs := [.ref a]) F (hr.mono hk) b (L2N.passAt tk σ) I1 (.cons rfl .nil) q))
theorem sim_meth {K : PySem.W.Frag} {ta : TE} {t : TA} (ho : SimE K W ta mo) (ha : SimA K W t ma) : SimE K W (tMethV (He.ga K c) m (up K sp) W.w ta t) (mMeth c m sp mo ma) := fun φ ρ σ h H Qm Q Xm rh rs q ok ox =>
  ho φ ρ σ h H _ _ _ rh rs q (fun φ1 h1 H1 d v e1 rh1 rx q1 => by
    split at q1
    · cases rx with
      | loc e0 =>
        rename_i n a
        obtain ⟨dx, fs, g1, g2, q2⟩ := clsAt_rel rh1 e0 q1
        exact ⟨a, dx, fs, rfl, g1, g2, ha φ1 ρ σ h1 H1 _ _ _ rh1 (rs.to rh e1) q2 (fun φ2 h2 H2 ds vs e2 rh2 r2 q3 => ⟨φ2, h2, .loc n :: ds, Qm, Xm, rh2, .cons (.loc (e2.pre _ _ e0)) r2, q3, ok.to (e1.trans e2), (ox.to (e1.trans e2)).we⟩) (ox.to e1)⟩
    · exact q1.elim) ox
theorem ce_meth {pl : Sem Bool} (cc : Mt X.prog X.w X.K X.mg X.base k c m sp) (hr : Rm j X.A) (hk : k ≤ j) (tk : L2N.Takes X W.w) (ho : CE X W o mo) (ha : CA X W (e :: es) ma)
    (h1 : starEach (e :: es) X.env = (false, eval e X.env) :: starEach es X.env := by rfl) (h2 : (backTo pos (starEach es X.env)).any (·.1) = false := by rfl)
    (h3 : eval (.Call (.Attribute o m apos) (e :: es) [] pos) X.env = (do
      let r ← eval o X.env
      standAt apos.atName
      let (g, us) ← holding [r] (getMethod r m pl)
      callWith pos g us (backTo pos (starEach (e :: es) X.env)) (backToKw pos (keywordEach [] X.env))) := by rfl) :
    CE X W (.Call (.Attribute o m apos) (e :: es) [] pos) (mMeth c m sp mo ma) := by
  obtain ⟨f, fd, ps, cl, me, F, b⟩ := cc.ex
  exact .of (pe_mtV cl me F b hr hk tk cE.pe cA.pa h1 h2 h3) (sim_meth ho.sim ha.sim)
theorem ce_meth0 {pl : Sem Bool} (cc : Mt X.prog X.w X.K X.mg X.base k c m sp) (hr : Rm j X.A) (hk : k ≤ j) (tk : L2N.Takes X W.w) (ho : CE X W o mo)
    (h3 : eval (.Call (.Attribute o m apos) [] [] pos) X.env = (do
      let r ← eval o X.env
      standAt apos.atName
      let (g, us) ← holding [r] (getMethod r m pl)
      callWith pos g us (backTo pos (starEach [] X.env)) (backToKw pos (keywordEach [] X.env))) := by rfl) :
    CE X W (.Call (.Attribute o m apos) [] [] pos) (mMeth c m sp mo maNil) := by
  obtain ⟨f, fd, ps, cl, me, F, b⟩ := cc.ex
  exact .of (pe_mtV0 cl me F b hr hk tk cE.pe h3) (sim_meth ho.sim (fun φ ρ σ h H Qm Q Xm rh rs q ok ox => ok _ _ _ _ _ .refl rh .nil q))

/-! ### attributes -/
abbrev mFld (c f : Str) (mo : ME) : ME := fun ρ h Q E => mo ρ h (fun d h1 => match d with | .loc n => fldAt h1 n c f fun v => Q v h1 | _ => False) E
theorem ce_fld {f : Str} (cl : Cls X.K (He.ga X.K c)) (na : NoAttr X.K (He.ga X.K c) f) (ho : CE X W o mo) (hb : attributeBase o f X.env (eval o X.env) = eval o X.env) : CE X W (.Attribute o f pos) (mFld c f mo) := .of (pe_fld cE.pe hb) fun φ ρ σ h H Qm Q Xm rh rs q ok ox =>
  ho.sim φ ρ σ h H _ _ _ rh rs q (fun φ1 h1 H1 d v e1 rh1 rx q1 => by
    split at q1
    · cases rx with
      | loc e0 =>
        unfold fldAt at q1
        split at q1
        · rename_i c' fs e2
          obtain ⟨rfl, q2⟩ := q1
          obtain ⟨dx, vs, g1, g2⟩ := rh1.at_ _ _ _ e0 e2
          split at q2
          · rename_i d e3
            obtain ⟨v, e4, rd⟩ := rk_some g2 e3
            exact ⟨_, _, dx, vs, v, rfl, g1, cl, na, e4, ok _ _ _ _ _ e1 rh1 rd q2⟩
          · exact q2.elim
        · exact q1.elim
    · exact q1.elim) ox
abbrev mSetF (c f : Str) (mo mv : ME) : MS := fun M ρ h => mv ρ h (fun y h1 => mo ρ h1 (fun d h2 => match d with | .loc n => setF h2 n c f y fun h3 => M.nx ρ h3 | _ => False) (fun x h2 => M.ex x ρ h2)) (fun x h1 => M.ex x ρ h1)
theorem cs_fld {f : Str} {mv : ME} {v : Expr} {pos' : Pos} (cl : Cls X.K (He.ga X.K c)) (na : NoAttr X.K (He.ga X.K c) f) (ho : CE X W o mo) (hv : CE X W v mv) (hs : swapsWith v (some (.Attribute o f pos')) pos.line X.env = pure false := by rfl) : CS X W (.Assign [.Attribute o f pos'] v pos) (mSetF c f mo mv) := .of (ps_fld cE.pe cE.pe hs) fun φ ρ σ h H M E rh rs q l =>
  hv.sim φ ρ σ h H _ _ _ rh rs q (fun φ1 h1 H1 d v e1 rh1 rx q1 => ho.sim φ1 ρ σ h1 H1 _ _ _ rh1 (rs.to rh e1) q1 (fun φ2 h2 H2 d2 v2 e2 rh2 ry q2 => by
    split at q2
    · cases ry with
      | loc e0 =>
        unfold setF at q2
        split at q2
        · rename_i c' fs e3
          obtain ⟨rfl, q3, q4⟩ := q2
          obtain ⟨dx, vs, g1, g2⟩ := rh2.at_ _ _ _ e0 e3
          obtain ⟨r3, x3⟩ := rh2.chg e0 (o := .ins (He.ga X.K c') dx (putF f v vs)) (x := .ins c' (putD f d fs)) fun mo => ⟨dx, _, upd_same, RKs.to (rk_put (rx.to e2.toMo) g2) mo⟩
          exact ⟨_, _, dx, vs, rfl, g1, cl, na, by rw [← rk_len g2]; omega, l.nx _ _ _ _ _ (e1.trans (e2.trans x3)) r3 (rs.to rh (e1.trans (e2.trans x3))) q4⟩
        · exact q2.elim
    · exact q2.elim) ((l.okx rh rs).to e1)) (l.okx rh rs)

/-! ### a new object -/
def isNon (k : MH → Prop) : D → MH → Prop := fun d h => match d with | .non => k h | _ => False
abbrev mMake (c : Str) (sp : SpM) (ma : MA) : ME := fun ρ h Q E => ma ρ h (fun ds h1 => sp (.loc h1.length :: ds) (h1 ++ [.ins c []]) (isNon fun h2 => Q (.loc h1.length) h2) E) E
def tMakeV (C : Addr) (sp : Sp) (W : WX) (t : TA) : TE := fun σ H Q => t σ H fun vs H1 => ∀ x dx, H1 x = none → H1 dx = none → dx ≠ x → sp (.ref x :: vs) (upd (upd H1 dx (.own x)) x (.ins C dx [])) (fun v H2 => v = .non ∧ Q (.ref x) H2) (WE W σ)
theorem pe_mkV {C : Addr} {sp : Sp} {f : Addr} {fd : FuncData} {ps : List Str} {Wv : WX} {t : TA} (M : Mk X.K C f) (F : FnG X.prog X.w X.K X.mg X.base (L2N.CX X.prog X.w) k f fd ps sp) (hr : Rm j X.A) (hk : k + 1 ≤ j) (hg : Gl X x) (hm : X.mg x = some (.ref C)) (hb : Binds X.K fd ps []) (tk : L2N.Takes X Wv)
    (ha : PA X (e :: es) t) (hdb : (x == ("__debug__" : Str)) = false) (he : starEach (e :: es) X.env = (false, eval e X.env) :: starEach es X.env) (hpl : (backTo pos (starEach es X.env)).any (·.1) = false) :
    PE X (.Call (.Name x p) (e :: es) [] pos) (tMakeV C sp Wv t) := by
  refine ⟨fun pins s0 σ H0 Q I0 h => ?_⟩
  refine wpAny_Call_Name_kw (ld_glob I0 hg hm ?_ hdb)
  refine PySem.W.callWith_K (h₀ := X.base) I0.ok.mod.kin M.kp (thn (ha.run pos pins s0 σ H0 _ I0 h) fun us s ⟨vs, H, I, r, h⟩ => ⟨I.kIn, ?_⟩) he hpl
  have hq := h (s.heap.objs.size + 1) s.heap.objs.size (I.hok.fresh (Nat.le_succ _)) (I.hok.fresh (Nat.le_refl _)) (Nat.ne_of_lt (Nat.lt_succ_self _))
  have I2 := Inv.made (C := C) I
  have hv : Vals (V.ref (s.heap.objs.size + 1) :: vs) (Value.ref (s.heap.objs.size + 1) :: us) := .cons rfl r
  have hl : (Value.ref (s.heap.objs.size + 1) :: us).length = ps.length := by
    have e := hv.length
    rw [F.len _ _ _ _ hq] at e
    exact e.symm
  have bb := hb _ (Value.ref (s.heap.objs.size + 1) :: us) I2.kIn (by rw [List.append_nil]; exact hl)
  rw [List.append_nil] at bb
  refine wpAny_call (make_map (f := f) I.kIn M.makes M.init (beq_iff_eq.mp M.fn) (codeAny_mono (F.run _ X.stack _ _ ⟨Value.ref (s.heap.objs.size + 1) :: us, []⟩ (Value.ref (s.heap.objs.size + 1) :: us) _ _ (WE Wv σ) ((hr.mono hk).make C us [])
    (I2.env0.make C us []) bb hv hq) fun r s' hq' => ?_))
  cases r with
  | error e => exact L2N.passAt tk σ pins _ _ e s' I2 hq'
  | ok fl =>
    cases fl with
    | ret u =>
      obtain ⟨v, H', I3, rv, ev, q3⟩ := I2.after hq'
      subst ev
      exact ⟨rv, ⟨V.ref (s.heap.objs.size + 1), H', I3, rfl, q3⟩⟩
    | next => exact False.elim hq'
    | brk => exact False.elim hq'
    | cont => exact False.elim hq'
theorem ce_make (M : Mkr X.prog X.w X.K X.mg X.base k c sp) (hr : Rm j X.A) (hk : k + 1 ≤ j) (tk : L2N.Takes X W.w) (hg : Gl X c) (ha : CA X W (e :: es) ma)
    (hdb : (c == ("__debug__" : Str)) = false := by decide) (he : starEach (e :: es) X.env = (false, eval e X.env) :: starEach es X.env := by rfl) (hpl : (backTo pos (starEach es X.env)).any (·.1) = false := by rfl) :
    CE X W (.Call (.Name c p) (e :: es) [] pos) (mMake c sp ma) := by
  obtain ⟨f, fd, ps, M, F, hm, b⟩ := M.ex
  refine .of (pe_mkV M F hr hk hg hm b tk cA.pa hdb he hpl) fun φ ρ σ h H Qm Q Xm rh rs q ok ox =>
    ha.sim φ ρ σ h H _ _ _ rh rs q (fun φ1 h1 H1 ds vs e1 rh1 r1 q1 => fun y dx hy hdx ne => ?_) ox
  obtain ⟨r2, x2⟩ := rh1.new hdx (.own y)
  have hy2 : (upd H1 dx (.own y)) y = none := by rw [upd_ne (Ne.symm ne)]; exact hy
  obtain ⟨r3, x3⟩ := r2.push hy2 (o := .ins (He.ga X.K c) dx []) (x := .ins c []) ⟨dx, [], upd_same, .nil⟩
  have E3 := x2.trans x3
  refine ⟨φ1 ++ [y], _, _, _, Xm, r3, .cons (.loc (by rw [← rh1.len]; simp)) (r1.to E3.toMo), q1, fun φ' h' H' d v e4 rh4 rd q4 => ?_, ((ox.to e1).to E3).we⟩
  unfold isNon at q4
  split at q4
  · cases rd
    refine ⟨rfl, ok _ _ _ _ _ (e1.trans (E3.trans e4)) rh4 (.loc (e4.pre _ _ ?_)) q4⟩
    rw [← rh1.len]; simp
  · exact q4.elim

/-! ### errors -/
abbrev mRaise (cn n : Str) (ma : MA) : MS := fun M ρ h => ma ρ h (fun ds h1 => match ds with | [d] => M.ex ⟨cn, [(n, d)]⟩ ρ h1 | _ => False) (fun x h1 => M.ex x ρ h1)
theorem cs_raise {cn n : Str} {fI : Addr} {pos2 : Pos} (hc : X.calm = true) (T : PySem.MyX.ErrC X.K (He.ga X.K cn) fI n) (hm : X.mg cn = some (.ref (He.ga X.K cn))) (hr : Rm j X.A) (tk : L2N.Takes X W.w) (ha : CA X W [e] ma) (hg : Gl X cn := by rfl)
    (hdb : (cn == ("__debug__" : Str)) = false := by decide)
    (he : starEach (e :: []) X.env = (false, eval e X.env) :: starEach [] X.env := by rfl) (hpl : (backTo pos (starEach [] X.env)).any (·.1) = false := by rfl) :
    CS X W (.Raise (some (.Call (.Name cn p) [e] [] pos)) none pos2) (mRaise cn n ma) := .of (ps_raiseErr hc T hm hr.toRoom tk cA.pa hg hdb he hpl) fun φ ρ σ h H M E rh rs q l =>
  ha.sim φ ρ σ h H _ _ _ rh rs q (fun φ1 h1 H1 ds vs e1 rh1 r1 q1 => by
    split at q1
    · obtain ⟨v, rfl, rv⟩ := r1.one
      refine ⟨v, rfl, fun d hd => ?_⟩
      obtain ⟨r2, x2⟩ := rh1.new hd (.xd [(n, v)])
      exact l.ex _ _ _ _ _ _ _ _ (e1.trans x2) r2 (rs.to rh (e1.trans x2)) ⟨rfl, d, _, rfl, upd_same, .cons ⟨rfl, rv.to x2.toMo⟩ .nil⟩ q1
    · exact q1.elim) (l.okx rh rs)
/-- is the error's class that one, or below it -/
def subC (a c : Str) : Bool := a == c || c == "LeagueError"
abbrev Hd := Str × Option Nat × (Xc → MS)
abbrev goneM (i : Nat) (M : MD) : MD := { nx := fun ρ h => M.nx (ρ.set i none) h, bk := fun ρ h => M.bk (ρ.set i none) h, ct := fun ρ h => M.ct (ρ.set i none) h, rt := M.rt, ex := fun _ _ _ => False }
def mHds (errs : List Str) (M : MD) : List Hd → Xc → Ev → MH → Prop
  | [], x, ρ, h => M.ex x ρ h
  | (c, none, m) :: r, x, ρ, h => x.c ∈ errs ∧ (subC x.c c = true → m x { M with ex := fun _ _ _ => False } ρ h) ∧ (subC x.c c = false → mHds errs M r x ρ h)
  | (c, some i, m) :: r, x, ρ, h => x.c ∈ errs ∧ i < ρ.length ∧ (subC x.c c = true → m x (goneM i M) (ρ.set i none) h) ∧ (subC x.c c = false → mHds errs M r x ρ h)
abbrev mTry (errs : List Str) (mb : MS) (l : List Hd) : MS := fun M ρ h => mb { M with ex := mHds errs M l } ρ h
def Wh (i : Nat) (a : Addr) (x : Xc) (cls : Value) (d : Option Addr) : Wz := ⟨fun _ _ _ _ => False, some (i, a, x, cls, d)⟩
/-- the clauses, read -/
inductive MHds (X : Cx) (errs : List Str) : List ExceptHandler → List Hd → Prop
  | nil : MHds X errs [] []
  | plain {x c : Str} {m : Xc → MS} {b₀ : Stmt} {suite : List Stmt} {np pos' : Pos} {hds : List ExceptHandler} {l : List Hd} (hc : Names X x (.ref (He.ga X.K c))) (hx : ∀ a ∈ errs, PySem.W.exmOne X.K (.ref (He.ga X.K a)) (.ref (He.ga X.K c)) = some (subC a c))
      (hsu : ∀ (a : Addr) (oe : Obj) (cls : Value) (d : Option Addr) (pn : List (Addr × Obj)) (x : Xc), L2N.Zn cls d oe → (∃ vs, oe.data = .fields vs) → CSs (X.suite a ((a, oe) :: pn)) Wf (b₀ :: suite) (m x)) (r : MHds X errs hds l) :
      MHds X errs (.ExceptHandler (some (.Name x np)) none (b₀ :: suite) pos' :: hds) ((c, none, m) :: l)
  | named {x c n : Str} {i : Nat} {m : Xc → MS} {b₀ : Stmt} {suite : List Stmt} {np pos' : Pos} {hds : List ExceptHandler} {l : List Hd} (hN : X.N.Nodup) (hi : X.N[i]? = some n) (hln : X.env.kindOf n = some .local)
      (hc : Names X x (.ref (He.ga X.K c))) (hx : ∀ a ∈ errs, PySem.W.exmOne X.K (.ref (He.ga X.K a)) (.ref (He.ga X.K c)) = some (subC a c))
      (hsu : ∀ (a : Addr) (oe : Obj) (cls : Value) (d : Option Addr) (pn : List (Addr × Obj)) (x : Xc), L2N.Zn cls d oe → (∃ vs, oe.data = .fields vs) → CSs (X.suite a ((a, oe) :: pn)) (Wh i a x cls d) (b₀ :: suite) (m x)) (r : MHds X errs hds l) :
      MHds X errs (.ExceptHandler (some (.Name x np)) (some n) (b₀ :: suite) pos' :: hds) ((c, some i, m) :: l)
def suT (X : Cx) (ss : List Stmt) : SuT := fun a cls d D σ H => ∀ (oe : Obj) (pn : List (Addr × Obj)), L2N.Zn cls d oe → (∃ vs, oe.data = .fields vs) → cSs (X.suite a ((a, oe) :: pn)) ss D σ H
theorem suT_ok {ss : List Stmt} : SuOk X ss (suT X ss) := fun a oe cls d pn z f => ⟨fun pins s σ H D I h => h oe pn z f pins s I⟩
theorem mhds_go {errs : List Str} (hW : W.er = none) {hds : List ExceptHandler} {l : List Hd} (q : MHds X errs hds l) : ∃ l', Hds X hds l' ∧ ∀ φ H M E, Lk X.K W φ H M E → ∀ φ' ρ σ h H' x cls dx, Ext φ H φ' H' → RH X.K φ' h H' → RS X.K none φ' H' ρ σ → RX X.K φ' H' x cls dx → mHds errs M l x ρ h → wHds X.K W.w E l' cls dx σ H' := by
  induction q with
  | nil => exact ⟨_, .nil, fun φ H M E l φ' ρ σ h H' x cls dx e rh rs rx m => l.ex _ _ _ _ _ _ _ _ e rh (by rw [hW]; exact rs) rx m⟩
  | plain hc hx hsu r ih =>
    obtain ⟨l', h1, h2⟩ := ih
    refine ⟨_, .plain hc suT_ok h1, fun φ H M E l φ' ρ σ h H' x cls dx e rh rs rx m => ?_⟩
    obtain ⟨m1, m2, m3⟩ := m
    obtain ⟨ec, _⟩ := id rx
    refine ⟨_, by rw [ec]; exact hx _ m1, fun hb a ha oe pn z f => ?_, fun hb => h2 φ H M E l φ' ρ σ h H' x cls dx e rh rs rx (m3 hb)⟩
    have L := l.to e
    exact (hsu a oe cls dx pn x z f).sim φ' ρ σ h H' _ _ rh rs (m2 hb) ⟨fun φ2 ρ2 σ2 h2 H2 e2 r2 s2 q2 => L.nx _ _ _ _ _ e2 r2 (by rw [hW]; exact s2) q2, fun φ2 ρ2 σ2 h2 H2 e2 r2 s2 q2 => L.bk _ _ _ _ _ e2 r2 (by rw [hW]; exact s2) q2,
      fun φ2 ρ2 σ2 h2 H2 e2 r2 s2 q2 => L.ct _ _ _ _ _ e2 r2 (by rw [hW]; exact s2) q2, L.rt, fun _ _ _ _ _ _ _ _ _ _ _ _ z => z.elim⟩
  | @named xn c n i m b₀ suite np pos' hds l hN hi hln hc hx hsu r ih =>
    obtain ⟨l', h1, h2⟩ := ih
    refine ⟨_, .named hN hi hln hc suT_ok h1, fun φ H M E l φ' ρ σ h H' x cls dx e rh rs rx m => ?_⟩
    obtain ⟨m1, ml, m2, m3⟩ := m
    obtain ⟨ec, _⟩ := id rx
    refine ⟨_, by rw [ec]; exact hx _ m1, fun hb a ha oe pn z f => ?_, fun hb => h2 φ H M E l φ' ρ σ h H' x cls dx e rh rs rx (m3 hb)⟩
    have L := l.to e
    have rs' : RS X.K (some (i, a, x, cls, dx)) φ' H' (ρ.set i none) (σ.set i (some (.ref a))) := by
      refine ⟨by rw [List.length_set, List.length_set, rs.len], fun j d hj => ?_, ⟨List.getElem?_set_self (by rw [← rs.len]; exact ml), rx⟩⟩
      by_cases hij : i = j
      · subst hij
        rw [List.getElem?_set_self ml] at hj; cases hj
      · rw [List.getElem?_set_ne hij] at hj ⊢
        exact rs.at_ j d hj
    exact (hsu a oe cls dx pn x z f).sim φ' _ _ h H' _ _ rh rs' (m2 hb) ⟨fun φ2 ρ2 σ2 h2 H2 e2 r2 s2 q2 => L.nx _ _ _ _ _ e2 r2 (by rw [hW]; exact s2.unset) q2, fun φ2 ρ2 σ2 h2 H2 e2 r2 s2 q2 => L.bk _ _ _ _ _ e2 r2 (by rw [hW]; exact s2.unset) q2,
      fun φ2 ρ2 σ2 h2 H2 e2 r2 s2 q2 => L.ct _ _ _ _ _ e2 r2 (by rw [hW]; exact s2.unset) q2, L.rt, fun _ _ _ _ _ _ _ _ _ _ _ _ z => z.elim⟩
theorem cs_try {errs : List Str} {body : List Stmt} {h₀ : ExceptHandler} {hds : List ExceptHandler} {l : List Hd} {mb : MS} (hW : W.er = none) (hs : X.stack = X.env :: X.outer) (hf : X.env.frame = some X.env.locals) (tk : L2N.Takes X W.w)
    (hb : ∀ (V : WX) (pn : List (Addr × Obj)) (xe : Value → Shared → Prop), L2N.Takes (X.tr pn xe) V → PassesOwn (model X.prog X.w) X.A X.env xe → CSs (X.tr pn xe) ⟨V, none⟩ body mb) (hh : MHds X errs (h₀ :: hds) l) : CS X W (.Try body (h₀ :: hds) [] [] pos) (mTry errs mb l) := by
  obtain ⟨l', h1, h2⟩ := mhds_go hW hh
  refine .of (ps_try_hds (tb := fun V D σ H => ∀ pn xe, L2N.Takes (X.tr pn xe) V → PassesOwn (model X.prog X.w) X.A X.env xe → cSs (X.tr pn xe) body D σ H) hs hf tk (fun V pn xe tk' po => ⟨fun pins s σ H D I h => h pn xe tk' po pins s I⟩) h1) fun φ ρ σ h H M E rh rs q l => ?_
  intro pn xe tk' po
  have rs0 : RS X.K none φ H ρ σ := by rw [← hW]; exact rs
  exact (hb _ pn xe tk' po).sim φ ρ σ h H _ _ rh rs0 q ⟨fun φ2 ρ2 σ2 h2 H2 e2 r2 s2 q2 => l.nx _ _ _ _ _ e2 r2 (by rw [hW]; exact s2) q2, fun φ2 ρ2 σ2 h2 H2 e2 r2 s2 q2 => l.bk _ _ _ _ _ e2 r2 (by rw [hW]; exact s2) q2,
    fun φ2 ρ2 σ2 h2 H2 e2 r2 s2 q2 => l.ct _ _ _ _ _ e2 r2 (by rw [hW]; exact s2) q2, l.rt, fun φ2 ρ2 σ2 g H2 x cls dx e2 r2 s2 rx q2 => h2 φ H M E l φ2 ρ2 σ2 g H2 x cls dx e2 r2 s2 rx q2⟩
/-- e.n in the suite -/
abbrev mByErr (c n : Str) (x : Xc) : ME := fun _ h Q _ => x.c = c ∧ match x.fs with | [(n', d)] => n' = n ∧ Q d h | _ => False
theorem ce_byErr {n en : Str} {fI : Addr} {i : Nat} {a : Addr} {oe : Obj} {cls : Value} {d : Option Addr} {pn : List (Addr × Obj)} {xc : Xc} {pe : Pos} (T : PySem.MyX.ErrC X.K (He.ga X.K c) fI n) (hz : L2N.Zn cls d oe) (hf : ∃ vs, oe.data = .fields vs)
    (hN : X.N[i]? = some en) (hv : Vis X.env.scope en) (hd : (en == ("__debug__" : Str)) = false := by decide) (hcd : (en == ("__classdict__" : Str)) = false := by decide)
    (hb : attributeBase (.Name en pe) n X.env (eval (.Name en pe) X.env) = eval (.Name en pe) X.env := by rfl) : CE (X.suite a ((a, oe) :: pn)) (Wh i a xc cls d) (.Attribute (.Name en pe) n pos) (mByErr c n xc) :=
  .of (pe_byErr T hz.zc hf (pe_var (X := X.suite a ((a, oe) :: pn)) hN hv hd hcd) hb) fun φ ρ σ h H Qm Q Xm rh rs q ok ox => by
    obtain ⟨z1, z2, dd, fvs, z3, z4, z5⟩ := rs.z
    obtain ⟨q1, q2⟩ := q
    split at q2
    · rename_i n' dv e
      obtain ⟨rfl, q3⟩ := q2
      rw [e] at z5
      cases z5 with
      | cons r1 r2 =>
        cases r2
        obtain ⟨e1, e2⟩ := r1
        rename_i p
        obtain ⟨pn', pv'⟩ := p
        have e1' : n' = pn' := e1
        subst e1'
        exact ⟨_, z1, rfl, by rw [z2, q1], dd, pv', z3, z4, ok _ _ _ _ _ .refl rh e2 q3⟩
    · exact q2.elim

/-! ### defs -/
def startE (N : List Str) (ds : List D) : Ev := ds.map some ++ List.replicate (N.length - ds.length) none
abbrev endM (Q : D → MH → Prop) (E : XQ) : MD := { nx := fun _ h => Q .non h, bk := fun _ _ => False, ct := fun _ _ => False, rt := Q, ex := fun x _ h => E x h }
theorem rs_start {K : PySem.W.Frag} {φ : List Addr} {H : Hp} {N : List Str} {ds : List D} {vs : List V} (r : RDs K φ H ds vs) : RS K none φ H (startE N ds) (L2.start N vs) := by
  refine ⟨?_, fun i d e => ?_, trivial⟩
  · unfold startE L2.start
    rw [List.length_append, List.length_append, List.length_map, List.length_map, List.length_replicate, List.length_replicate, r.len]
  · unfold startE at e
    by_cases hi : i < ds.length
    · rw [List.getElem?_append_left (by rw [List.length_map]; exact hi), List.getElem?_map] at e
      cases e0 : ds[i]? with
      | none => rw [e0] at e; cases e
      | some d' =>
        rw [e0] at e
        cases e
        obtain ⟨v, e1, e2⟩ := r.at_ e0
        refine ⟨v, ?_, e2⟩
        unfold L2.start
        rw [List.getElem?_append_left (by rw [List.length_map, ← r.len]; exact hi), List.getElem?_map, e1]; rfl
    · rw [List.getElem?_append_right (by rw [List.length_map]; omega), List.getElem?_replicate] at e
      split at e <;> cases e
section
variable {P : Program} {w : World} {K : PySem.W.Frag} {mg : Str → Option Value} {base : Heap}
theorem fnok {x qual : Str} {st : Stmt} {N ps : List Str} {k : Nat} {sp : SpM} {m : MS} {f : Addr} {fd : FuncData} (F : FunD K x qual (defArgs st) (defBody st) (defScope st) [] [] f fd) (S : C8.scC N ps (defScope st) = true)
    (len : ∀ ds h Q E, sp ds h Q E → ds.length = ps.length)
    (hbody : ∀ (cdv : Value) (A : Around) (outer : List Env) (s : Shared) (H : Hp) (E : XK), Rm k (A.deeper (envOfC qual (defScope st) s.heap.objs.size f cdv)) →
      L2N.Takes (cxOf (L2N.CX P w) P w K mg base N qual (defScope st) f cdv A outer s H E) (fun cls d _ H => E cls d H) →
      CSs (cxOf (L2N.CX P w) P w K mg base N qual (defScope st) f cdv A outer s H E) ⟨fun cls d _ H => E cls d H, none⟩ (defBody st) m)
    (main : ∀ ds h Q E, sp ds h Q E → m (endM Q E) (startE N ds) h) : FnG P w K mg base (L2N.CX P w) (k + 1) f fd ps (up K sp) := by
  refine F.okG (CX := L2N.CX P w) (C8.fnScope_by S) (fun vs H Q E h => ?_) fun cdv A outer s H vs Q E hr h => ?_
  · obtain ⟨φ, h', ds, Qm, Xm, rh, r, q, _⟩ := h
    rw [← r.len]; exact len _ _ _ _ q
  · obtain ⟨φ, h', ds, Qm, Xm, rh, r, q, ok, ox⟩ := h
    have c := hbody cdv A outer s H E hr (L2N.takes_of rfl rfl rfl rfl)
    exact ⟨_, cSs.pss, c.sim φ (startE N ds) (L2.start N vs) h' H (endM Qm Xm) _ rh (rs_start r) (main _ _ _ _ q)
      ⟨fun φ' ρ σ g H' e r' _ z => ok _ _ _ _ _ e r' .non z, fun _ _ _ _ _ _ _ _ z => z.elim, fun _ _ _ _ _ _ _ _ z => z.elim, ok, fun φ' ρ σ g H' x cls dx e r' _ rx z => ox _ _ _ _ _ _ e r' rx z⟩⟩
abbrev Bnd (x qual : Str) (st : Stmt) (ps : List Str) : Prop := ∀ (kV doc pm : Value) (an : Option Addr) (cdv ct : Value) (us : List Value), us.length = ps.length → bindArgs (PySem.W.fnOf x qual (defArgs st) (defBody st) (defScope st) .none kV doc pm an cdv ct) ⟨us, []⟩ = pure (ps.zip us)
theorem mk_fn {x : Str} {st : Stmt} {N ps : List Str} {k : Nat} {sp : SpM} {m : MS} (T : My.Have K mg x st) (S : C8.scC N ps (defScope st) = true) (b : Bnd x x st ps)
    (len : ∀ ds h Q E, sp ds h Q E → ds.length = ps.length)
    (hbody : ∀ (f : Addr) (cdv : Value) (A : Around) (outer : List Env) (s : Shared) (H : Hp) (E : XK), Rm k (A.deeper (envOfC x (defScope st) s.heap.objs.size f cdv)) →
      L2N.Takes (cxOf (L2N.CX P w) P w K mg base N x (defScope st) f cdv A outer s H E) (fun cls d _ H => E cls d H) →
      CSs (cxOf (L2N.CX P w) P w K mg base N x (defScope st) f cdv A outer s H E) ⟨fun cls d _ H => E cls d H, none⟩ (defBody st) m)
    (main : ∀ ds h Q E, sp ds h Q E → m (endM Q E) (startE N ds) h) : Fn P w K mg base (k + 1) x sp := by
  obtain ⟨f, fd, F, g⟩ := T.ex
  exact ⟨f, fd, ps, fnok F S len (hbody f) main, g, F.kp, F.bindsN b⟩
end
end
end L3

/-! constants of the module, pairs stored, items changed by an operator, calls by keywords; methods and classes from their text; the end -/
namespace L3
open PySem PySem.Spec PyProof.Rows L2
theorem takesF {X : Cx} : L2N.Takes X (fun _ _ _ _ => False) := fun u s' ⟨_, _, _, _, _, _, _, _, _, _, _, _, _, _, _, _, w⟩ => w.elim
theorem takesWf {X : Cx} : L2N.Takes X Wf.w := takesF
section
variable {X : Cx} {W : Wz} {k j : Nat} {x m c : Str} {sp : SpM} {p pos apos q1 q2 q3 : Pos} {e o e1 e2 e3 : Expr} {es : List Expr} {mo m1 m2 m3 : ME} {ma : MA}
theorem ce_gi {i : Int} (h : ∃ u, X.mg x = some u ∧ RelV (.int i) u) (hg : Gl X x := by rfl) (hd : (x == ("__debug__" : Str)) = false := by decide) : CE X W (.Name x pos) (mC (.int i)) := ce_of_const (C8.pe_gc hg h hd) fun _ _ => .int i
theorem ce_gs {i : Str} (h : ∃ u, X.mg x = some u ∧ RelV (.str i) u) (hg : Gl X x := by rfl) (hd : (x == ("__debug__" : Str)) = false := by decide) : CE X W (.Name x pos) (mC (.str i)) := ce_of_const (C8.pe_gc hg h hd) fun _ _ => .str i
theorem rds_strs {K : PySem.W.Frag} {φ : List Addr} {H : Hp} : ∀ ss : List Str, RDs K φ H (ss.map D.str) (ss.map V.str)
  | [] => .nil
  | s :: r => .cons (.str s) (rds_strs r)
/-- a tuple of texts of the module -/
theorem gT_is {K : PySem.W.Frag} {a : Addr} {xs : List V} (h : ∀ H, SqT K H a xs) (nd : ∃ o, K.lookup a = some o ∧ o.dict = none) (H : Hp) : TupG K H a xs := by
  obtain ⟨o, e1, e2⟩ := nd
  rcases h (fun _ => none) with h | ⟨o', ys, m, e3, c⟩
  · rcases h with h | ⟨_, h⟩ <;> cases h
  · rw [e1] at e3
    cases e3
    exact .inr ⟨o, ys, m, e1, e2, c⟩
theorem ce_gT {a : Addr} {ss : List Str} (hm : X.mg x = some (.ref a)) (h : ∀ H, SqT X.K H a (ss.map V.str)) (nd : ∃ o, X.K.lookup a = some o ∧ o.dict = none) (hg : Gl X x := by rfl) (hd : (x == ("__debug__" : Str)) = false := by decide) : CE X W (.Name x pos) (mC (.tup (ss.map D.str))) :=
  ce_of_const (pe_glob (v := .ref a) hg hm rfl hd) fun φ H => .tup (gT_is h nd H) (rds_strs ss)
theorem rds_intsT {K : PySem.W.Frag} {φ : List Addr} {H : Hp} : ∀ ss : List Int, RDs K φ H (ss.map D.int) (ss.map V.int)
  | [] => .nil
  | s :: r => .cons (.int s) (rds_intsT r)
theorem ce_gTi {a : Addr} {ss : List Int} (hm : X.mg x = some (.ref a)) (h : ∀ H, SqT X.K H a (ss.map V.int)) (nd : ∃ o, X.K.lookup a = some o ∧ o.dict = none) (hg : Gl X x := by rfl) (hd : (x == ("__debug__" : Str)) = false := by decide) : CE X W (.Name x pos) (mC (.tup (ss.map D.int))) :=
  ce_of_const (pe_glob (v := .ref a) hg hm rfl hd) fun φ H => .tup (gT_is h nd H) (rds_intsT ss)
theorem cs_par {i j : Nat} {x y : Str} {a b : Expr} {px py pt pos : Pos} {kt k2 pt2} (hw1 : W.ok i = true) (hw2 : W.ok j = true) (hc : X.calm = true) (hN : X.N.Nodup) (hi : X.N[i]? = some x) (hj : X.N[j]? = some y) (hij : i ≠ j)
    (hx : X.env.scope.names.lookup x = some .local) (hy : X.env.scope.names.lookup y = some .local) (ha : CA X W [a, b] ma)
    (hw : swappedStores [.Tuple [.Name x px, .Name y py] kt pt] (.Tuple [a, b] k2 pt2) X.env = pure (some [x, y]) := by rfl)
    (hs : swapsWithSole [.Tuple [.Name x px, .Name y py] kt pt] (.Tuple [a, b] k2 pt2) pos.line X.env = pure false := by rfl) : CS X W (.Assign [.Tuple [.Name x px, .Name y py] kt pt] (.Tuple [a, b] k2 pt2) pos) (mPar i j ma) :=
  .of (ps_par hc hN hi hj hij hx hy cA.pa hw hs) fun φ ρ σ h H M E rh rs q l => ha.sim φ ρ σ h H _ _ _ rh rs q (fun φ1 h1 H1 ds vs e1 rh1 r1 q1 => by
    split at q1
    · cases r1 with
      | cons r1 r2 =>
        obtain ⟨v2, rfl, r3⟩ := r2.one
        exact ⟨_, _, rfl, l.nx _ _ _ _ _ e1 rh1 (((rs.to rh e1).set hw1 r1).set hw2 r3) q1⟩
    · exact q1.elim) (l.okx rh rs)
theorem pget_list : PGet X (fun x y H Q => ∃ p xs i v, x = .ref p ∧ y = .int i ∧ H p = some (.lst xs) ∧ 0 ≤ i ∧ xs[i.toNat]? = some v ∧ Q v H) := by
  rintro pins s σ H x y ov iv Q I rx ry ⟨p, xs, i, v, rfl, rfl, hp, h0, hv, q⟩
  cases rx
  obtain ⟨t, rfl⟩ := ry
  obtain ⟨its, r, pl, hz⟩ := I.list (.inl (.inl hp))
  obtain ⟨w, ew, rw'⟩ := r.get hv
  have hl := r.length
  have hn := line63
  have hj : i.toNat < xs.length := (List.getElem?_eq_some_iff.mp hv).1
  exact wpAny_getItem_list pl.isList h0 (by have := sizeLine_eq; omega) (by simpa using ew) ⟨v, H, I, rw', q⟩
/-- o[i] op= e, a list, 0 ≤ i -/
abbrev mAugS (op : MO) (mo mi me : ME) : MS := fun M ρ h => mo ρ h (fun o h1 => mi ρ h1 (fun i h2 => match o, i with
  | .loc n, .int j => wrAt h2 n fun ds => 0 ≤ j ∧ atK ds j fun x => me ρ h2 (fun y h4 => op x y h4 fun z h5 => setK h5 n (.int j) z fun h6 => M.nx ρ h6) (fun x h1 => M.ex x ρ h1)
  | _, _ => False) (fun x h1 => M.ex x ρ h1)) (fun x h1 => M.ex x ρ h1)
theorem cs_augS {o i e : Expr} {op : Operator} {mop : MO} {mi me : ME} {tpos : Pos} (hop : OpC X (inplaceOp op) mop) (ho : CE X W o mo) (hi : CE X W i mi) (he : CE X W e me)
    (ha : ∀ ov iv new, augStore i ov iv new = (do holding [new, ov, iv] (setItem ov iv new); release [new, ov, iv] []; pure .next) := by intros; rfl) : CS X W (.AugAssign (.Subscript o i tpos) op e pos) (mAugS mop mo mi me) := by
  obtain ⟨r, h1, h2⟩ := hop.ex
  refine .of (ps_augS cE.pe cE.pe pget_list cE.pe h1 set_list ha) fun φ ρ σ h H M E rh rs q l => ?_
  refine ho.sim φ ρ σ h H _ _ _ rh rs q (fun φ1 g1 H1 d v x1 rh1 rx q1 => hi.sim φ1 ρ σ g1 H1 _ _ _ rh1 (rs.to rh x1) q1 (fun φ2 g2 H2 d2 v2 x2 rh2 ry q2 => ?_) ((l.okx rh rs).to x1)) (l.okx rh rs)
  split at q2
  · cases ry
    have rx2 := rx.to x2.toMo
    cases rx2 with
    | loc e0 =>
      rename_i n j a
      obtain ⟨ds, vs, hl, rv, j0, q3⟩ := rh2.wrL e0 q2
      unfold atK at q3
      split at q3
      · rename_i dx ex
        have hj : ds[j.toNat]? = some dx := by
          unfold atI ixN at ex
          rw [if_pos j0] at ex
          split at ex
          · exact ex
          · cases ex
        obtain ⟨vx, hvx, rvx⟩ := rv.at_ hj
        refine ⟨a, vs, j, vx, rfl, rfl, hl, j0, hvx, ?_⟩
        have E2 := x1.trans x2
        refine he.sim φ2 ρ σ g2 H2 _ _ _ rh2 (rs.to rh E2) q3 (fun φ4 g4 H4 dy vy x4 rh4 ry q4 => ?_) ((l.okx rh rs).to E2)
        refine h2 φ4 g4 H4 dx dy vx vy _ _ rh4 (rvx.to x4.toMo) ry q4 (fun φ5 g5 H5 dz vz x5 rh5 rz q5 => ?_)
        exact setK_rel (o := .loc n) rh5 (.loc ((x4.trans x5).pre _ _ e0)) (.int j) rz q5 fun h' H' x6 rh6 q6 => l.nx _ _ _ _ _ (E2.trans (x4.trans (x5.trans x6))) rh6 (rs.to rh (E2.trans (x4.trans (x5.trans x6)))) q6
      · exact q3.elim
  · exact q2.elim

/-! ### calls by keywords alone -/
def pick {α : Type} (ix : List Nat) (l : List α) : List α := ix.filterMap fun i => l[i]?
theorem pick_vals {vs : List V} {us : List Value} (r : Vals vs us) : ∀ ix : List Nat, Vals (pick ix vs) (pick ix us)
  | [] => .nil
  | i :: ix => by
    unfold pick
    rw [List.filterMap_cons, List.filterMap_cons]
    cases e : vs[i]? with
    | none => rw [r.none_of e]; exact pick_vals r ix
    | some v =>
      obtain ⟨u, e1, e2⟩ := r.get e
      rw [e1]
      exact .cons e2 (pick_vals r ix)
theorem pick_rds {K : PySem.W.Frag} {φ : List Addr} {H : Hp} {ds : List D} {vs : List V} (r : RDs K φ H ds vs) : ∀ ix : List Nat, RDs K φ H (pick ix ds) (pick ix vs)
  | [] => .nil
  | i :: ix => by
    unfold pick
    rw [List.filterMap_cons, List.filterMap_cons]
    cases e : ds[i]? with
    | none =>
      have : vs[i]? = none := by rw [List.getElem?_eq_none_iff] at e ⊢; rw [← r.len]; exact e
      rw [this]; exact pick_rds r ix
    | some v =>
      obtain ⟨u, e1, e2⟩ := r.at_ e
      rw [e1]
      exact .cons e2 (pick_rds r ix)
structure CK (X : Cx) (W : Wz) (kws : List Keyword) (m : MA) : Prop where
  ex : ∃ t, PK X kws t ∧ SimA X.K W t m
theorem ck_nil : CK X W [] maNil := ⟨_, pk_nil, fun φ ρ σ h H Qm Q Xm rh rs q ok ox => ok _ _ _ _ _ .refl rh .nil q⟩
theorem ck_cons {nm : Option Str} {kpos : Pos} {kws : List Keyword} {me : ME} {mr : MA} (he : CE X W e me) (hr : CK X W kws mr) : CK X W (⟨nm, e, kpos⟩ :: kws) (maCons me mr) := by
  obtain ⟨t, p, s⟩ := hr.ex
  exact ⟨_, pk_cons cE.pe p, fun φ ρ σ h H Qm Q Xm rh rs q ok ox => he.sim φ ρ σ h H _ _ _ rh rs q (fun φ1 h1 H1 d v e1 rh1 rx q1 => s φ1 ρ σ h1 H1 _ _ _ rh1 (rs.to rh e1) q1 (fun φ2 h2 H2 ds vs e2 rh2 r2 q2 => ok _ _ _ _ _ (e1.trans e2) rh2 (.cons (rx.to e2.toMo) r2) q2) (ox.to e1)) ox⟩
/-- how the keywords ks go to the parameters -/
def KwTo (fd : FuncData) (first : List Value) (ps : List Str) (ks : List Str) (ix : List Nat) : Prop := ∀ (s : Shared) (ws : List Value), ws.length = ks.length → BindsTo s fd ⟨first, ks.zip ws⟩ (ps.zip (first ++ pick ix ws))
structure MtK (P : Program) (w : World) (K : PySem.W.Frag) (mg : Str → Option Value) (base : Heap) (k : Nat) (c m : Str) (ks : List Str) (ix : List Nat) (sp : SpM) : Prop where
  ex : ∃ (f : Addr) (fd : FuncData) (ps : List Str), Cls K (He.ga K c) ∧ Meth K (He.ga K c) m f ∧ FnG P w K mg base (L2N.CX P w) k f fd ps (up K sp) ∧ ∀ a : Value, KwTo fd [a] ps ks ix
structure FnK (P : Program) (w : World) (K : PySem.W.Frag) (mg : Str → Option Value) (base : Heap) (k : Nat) (x : Str) (ks : List Str) (ix : List Nat) (sp : SpM) : Prop where
  ex : ∃ (f : Addr) (fd : FuncData) (ps : List Str), FnG P w K mg base (L2N.CX P w) k f fd ps (up K sp) ∧ mg x = some (.ref f) ∧ PySem.W.keepIn K (.ref f) = true ∧ KwTo fd [] ps ks ix
structure MkrK (P : Program) (w : World) (K : PySem.W.Frag) (mg : Str → Option Value) (base : Heap) (k : Nat) (c : Str) (ks : List Str) (ix : List Nat) (sp : SpM) : Prop where
  ex : ∃ (f : Addr) (fd : FuncData) (ps : List Str), Mk K (He.ga K c) f ∧ FnG P w K mg base (L2N.CX P w) k f fd ps (up K sp) ∧ mg c = some (.ref (He.ga K c)) ∧ ∀ a : Value, KwTo fd [a] ps ks ix
theorem run_kw {f : Addr} {fd : FuncData} {ps ks : List Str} {ix : List Nat} {S : Sp} {Wv : WX} {pins : List (Addr × Obj)} {σ : L2.St} {H : Hp} {s : Shared} {Q : VK} {fs : List Value} {fv : List V} {ws : List Value} {zs : List V}
    (F : FnG X.prog X.w X.K X.mg X.base (L2N.CX X.prog X.w) k f fd ps S) (hr : Rm k X.A) (b : KwTo fd fs ps ks ix) (tk : L2N.Takes X Wv) (I : Inv X pins σ H s) (rf : Vals fv fs) (rz : Vals zs ws) (hl : zs.length = ks.length) (h : S (fv ++ pick ix zs) H Q (WE Wv σ)) :
    wpAny (model X.prog X.w) X.A (call (.ref f) fs (ks.zip ws)) (EP X pins σ Q) X.xe s := by
  refine wpAny_call (codeAny_mono (F.run X.A X.stack s H ⟨fs, ks.zip ws⟩ (fs ++ pick ix ws) (fv ++ pick ix zs) Q (WE Wv σ) hr I.env0 (b s ws (by rw [← rz.length]; exact hl)) (rf.append (pick_vals rz ix)) h) fun r s' hq => ?_)
  cases r with
  | error e => exact L2N.passAt tk σ pins H s e s' I hq
  | ok fl =>
    cases fl with
    | ret u => exact I.after hq
    | next => exact False.elim hq
    | brk => exact False.elim hq
    | cont => exact False.elim hq
def tMethKV (C : Addr) (m : Str) (n : Nat) (ix : List Nat) (sp : Sp) (W : WX) (ta : TE) (t : TA) : TE := fun σ H Q => ta σ H fun x H1 => ∃ a dx fs, x = .ref a ∧ H1 a = some (.ins C dx fs) ∧ fs.lookup m = none ∧ t σ H1 fun zs H2 => zs.length = n ∧ sp ([x] ++ pick ix zs) H2 Q (WE W σ)
theorem pe_mtKV {C : Addr} {S : Sp} {f : Addr} {fd : FuncData} {ps ks : List Str} {ix : List Nat} {Wv : WX} {ta : TE} {t : TA} {kws : List Keyword} {pl : Sem Bool} (cl : Cls X.K C) (me : Meth X.K C m f) (F : FnG X.prog X.w X.K X.mg X.base (L2N.CX X.prog X.w) k f fd ps S) (b : ∀ a, KwTo fd [a] ps ks ix) (hr : Rm j X.A) (hk : k ≤ j) (tk : L2N.Takes X Wv) (po : PE X o ta) (pk : PK X kws t)
    (hall : (backToKw pos (keywordEach kws X.env)).all (·.1.isSome) = true) (hks : (backToKw pos (keywordEach kws X.env)).filterMap (·.1) = ks)
    (hpl : ((backTo pos (starEach [] X.env)).any (·.1) || (backToKw pos (keywordEach kws X.env)).any (·.1.isNone)) = false)
    (h3 : eval (.Call (.Attribute o m apos) [] kws pos) X.env = (do
      let r ← eval o X.env
      standAt apos.atName
      let (g, us) ← holding [r] (getMethod r m pl)
      callWith pos g us (backTo pos (starEach [] X.env)) (backToKw pos (keywordEach kws X.env)))) :
    PE X (.Call (.Attribute o m apos) [] kws pos) (tMethKV C m ks.length ix S Wv ta t) := by
  refine ⟨fun pins s σ H Q I h => PySem.W.methodCall_KW (pl := pl) (thn (po.run pins s σ H _ I h) ?_) h3⟩
  rintro v s1 ⟨x, H1, I1, rx, a, dx, fs, rfl, ea, l, q⟩
  cases rx
  refine getmeth_ok I1 ea cl me l (PySem.W.callWith_KW0 (first := [.ref a]) (h₀ := X.base) I.ok.mod.kin me.kp hall (thn (pk.run pos pins s1 σ H1 _ I1 q) fun ws s2 ⟨zs, H2, I2, rz, hl, q3⟩ => ⟨I2.kIn, ?_⟩) hpl)
  rw [hks]
  have rf : Vals [V.ref a] [Value.ref a] := .cons rfl .nil
  exact run_kw F (hr.mono hk) (b _) tk I2 rf rz hl q3
abbrev mMethK (c m : Str) (n : Nat) (ix : List Nat) (sp : SpM) (mo : ME) (ma : MA) : ME := fun ρ h Q E => mo ρ h (fun d h1 => match d with | .loc a => clsAt h1 a c m (ma ρ h1 (fun ds h2 => ds.length = n ∧ sp (.loc a :: pick ix ds) h2 Q E) E) | _ => False) E
theorem ce_methK {ks : List Str} {ix : List Nat} {kws : List Keyword} {pl : Sem Bool} (cc : MtK X.prog X.w X.K X.mg X.base k c m ks ix sp) (hr : Rm j X.A) (hk : k ≤ j) (tk : L2N.Takes X W.w) (ho : CE X W o mo) (ha : CK X W kws ma)
    (hall : (backToKw pos (keywordEach kws X.env)).all (·.1.isSome) = true := by rfl) (hks : (backToKw pos (keywordEach kws X.env)).filterMap (·.1) = ks := by rfl)
    (hpl : ((backTo pos (starEach [] X.env)).any (·.1) || (backToKw pos (keywordEach kws X.env)).any (·.1.isNone)) = false := by rfl)
    (h3 : eval (.Call (.Attribute o m apos) [] kws pos) X.env = (do
      let r ← eval o X.env
      standAt apos.atName
      let (g, us) ← holding [r] (getMethod r m pl)
      callWith pos g us (backTo pos (starEach [] X.env)) (backToKw pos (keywordEach kws X.env))) := by rfl) :
    CE X W (.Call (.Attribute o m apos) [] kws pos) (mMethK c m ks.length ix sp mo ma) := by
  obtain ⟨f, fd, ps, cl, me, F, b⟩ := cc.ex
  obtain ⟨t, pk, sk⟩ := ha.ex
  exact .of (pe_mtKV cl me F b hr hk tk cE.pe pk hall hks hpl h3) fun φ ρ σ h H Qm Q Xm rh rs q ok ox => ho.sim φ ρ σ h H _ _ _ rh rs q (fun φ1 h1 H1 d v e1 rh1 rx q1 => by
    split at q1
    · cases rx with
      | loc e0 =>
        rename_i n a
        obtain ⟨dx, fs, g1, g2, q2⟩ := clsAt_rel rh1 e0 q1
        exact ⟨a, dx, fs, rfl, g1, g2, sk φ1 ρ σ h1 H1 _ _ _ rh1 (rs.to rh e1) q2 (fun φ2 h2 H2 ds vs e2 rh2 r2 q3 => ⟨by rw [← r2.len]; exact q3.1, φ2, h2, .loc n :: pick ix ds, Qm, Xm, rh2, .cons (.loc (e2.pre _ _ e0)) (pick_rds r2 ix), q3.2, ok.to (e1.trans e2), (ox.to (e1.trans e2)).we⟩) (ox.to e1)⟩
    · exact q1.elim) ox
/-- f(k = v, ..) -/
theorem ce_callK {ks : List Str} {ix : List Nat} {kws : List Keyword} (cc : FnK X.prog X.w X.K X.mg X.base k x ks ix sp) (hr : Rm j X.A) (hk : k ≤ j) (tk : L2N.Takes X W.w) (hg : Gl X x) (ha : CK X W kws ma)
    (hall : (backToKw pos (keywordEach kws X.env)).all (·.1.isSome) = true := by rfl) (hks : (backToKw pos (keywordEach kws X.env)).filterMap (·.1) = ks := by rfl)
    (hpl : ((backTo pos (starEach [] X.env)).any (·.1) || (backToKw pos (keywordEach kws X.env)).any (·.1.isNone)) = false := by rfl) (hdb : (x == ("__debug__" : Str)) = false := by decide) :
    CE X W (.Call (.Name x p) [] kws pos) (fun ρ h Q E => ma ρ h (fun ds h1 => ds.length = ks.length ∧ sp (pick ix ds) h1 Q E) E) := by
  obtain ⟨f, fd, ps, F, hm, kp, b⟩ := cc.ex
  obtain ⟨t, pk, sk⟩ := ha.ex
  refine .of (t := fun σ H Q => t σ H fun zs H2 => zs.length = ks.length ∧ up X.K sp (pick ix zs) H2 Q (WE W.w σ)) ⟨fun pins s σ H Q I h => ?_⟩ fun φ ρ σ h H Qm Q Xm rh rs q ok ox => sk φ ρ σ h H _ _ _ rh rs q (fun φ1 h1 H1 ds vs e1 rh1 r1 q1 => ⟨by rw [← r1.len]; exact q1.1, φ1, h1, pick ix ds, Qm, Xm, rh1, pick_rds r1 ix, q1.2, ok.to e1, (ox.to e1).we⟩) ox
  refine wpAny_Call_Name_kw (ld_glob I hg hm ?_ hdb)
  refine PySem.W.callWith_KW0 (first := []) (h₀ := X.base) I.ok.mod.kin kp hall (thn (pk.run pos pins s σ H _ I h) fun ws s2 ⟨zs, H2, I2, rz, hl, q3⟩ => ⟨I2.kIn, ?_⟩) hpl
  rw [hks]
  exact run_kw (fs := []) (fv := []) F (hr.mono hk) b tk I2 .nil rz hl q3
end
section
variable {P : Program} {w : World} {K : PySem.W.Frag} {mg : Str → Option Value} {base : Heap}
theorem mk_mt {c m qual : Str} {st : Stmt} {N ps : List Str} {k : Nat} {sp : SpM} {ms : MS} (cl : Cls K (He.ga K c)) (T : ∃ f fd, FunD K m qual (defArgs st) (defBody st) (defScope st) [] [] f fd ∧ Meth K (He.ga K c) m f) (S : C8.scC N ps (defScope st) = true) (b : Bnd m qual st ps)
    (len : ∀ ds h Q E, sp ds h Q E → ds.length = ps.length)
    (hbody : ∀ (f : Addr) (cdv : Value) (A : Around) (outer : List Env) (s : Shared) (H : Hp) (E : XK), Rm k (A.deeper (envOfC qual (defScope st) s.heap.objs.size f cdv)) →
      L2N.Takes (cxOf (L2N.CX P w) P w K mg base N qual (defScope st) f cdv A outer s H E) (fun cls d _ H => E cls d H) →
      CSs (cxOf (L2N.CX P w) P w K mg base N qual (defScope st) f cdv A outer s H E) ⟨fun cls d _ H => E cls d H, none⟩ (defBody st) ms)
    (main : ∀ ds h Q E, sp ds h Q E → ms (endM Q E) (startE N ds) h) : Mt P w K mg base (k + 1) c m sp := by
  obtain ⟨f, fd, F, g⟩ := T
  exact ⟨f, fd, ps, cl, g, fnok F S len (hbody f) main, F.bindsN b⟩
theorem mk_mtK {c m qual : Str} {st : Stmt} {N ps ks : List Str} {ix : List Nat} {k : Nat} {sp : SpM} {ms : MS} (cl : Cls K (He.ga K c)) (T : ∃ f fd, FunD K m qual (defArgs st) (defBody st) (defScope st) [] [] f fd ∧ Meth K (He.ga K c) m f) (S : C8.scC N ps (defScope st) = true)
    (b : ∀ (kV doc pm : Value) (an : Option Addr) (cdv ct a : Value) (ws : List Value), ws.length = ks.length → bindArgs (PySem.W.fnOf m qual (defArgs st) (defBody st) (defScope st) .none kV doc pm an cdv ct) ⟨[a], ks.zip ws⟩ = pure (ps.zip ([a] ++ pick ix ws)))
    (len : ∀ ds h Q E, sp ds h Q E → ds.length = ps.length)
    (hbody : ∀ (f : Addr) (cdv : Value) (A : Around) (outer : List Env) (s : Shared) (H : Hp) (E : XK), Rm k (A.deeper (envOfC qual (defScope st) s.heap.objs.size f cdv)) →
      L2N.Takes (cxOf (L2N.CX P w) P w K mg base N qual (defScope st) f cdv A outer s H E) (fun cls d _ H => E cls d H) →
      CSs (cxOf (L2N.CX P w) P w K mg base N qual (defScope st) f cdv A outer s H E) ⟨fun cls d _ H => E cls d H, none⟩ (defBody st) ms)
    (main : ∀ ds h Q E, sp ds h Q E → ms (endM Q E) (startE N ds) h) : MtK P w K mg base (k + 1) c m ks ix sp := by
  obtain ⟨f, fd, F, g⟩ := T
  refine ⟨f, fd, ps, cl, g, fnok F S len (hbody f) main, fun a s ws hl => ?_⟩
  obtain ⟨oc, od, dV, kV, doc, pm, an, cdv, ct, osl, rfl, lk, hcd, hD, hK⟩ := F.ex
  rcases hD with ⟨_, rfl⟩ | ⟨e, _⟩
  · exact .of_eq (b kV doc pm an cdv ct a ws hl)
  · exact absurd rfl e
theorem mk_init {c qual : Str} {st : Stmt} {N ps : List Str} {k : Nat} {sp : SpM} {ms : MS} (T : ∃ f fd, FunD K "__init__" qual (defArgs st) (defBody st) (defScope st) [] [] f fd ∧ Mk K (He.ga K c) f) (hm : mg c = some (.ref (He.ga K c))) (S : C8.scC N ps (defScope st) = true) (b : Bnd "__init__" qual st ps)
    (len : ∀ ds h Q E, sp ds h Q E → ds.length = ps.length)
    (hbody : ∀ (f : Addr) (cdv : Value) (A : Around) (outer : List Env) (s : Shared) (H : Hp) (E : XK), Rm k (A.deeper (envOfC qual (defScope st) s.heap.objs.size f cdv)) →
      L2N.Takes (cxOf (L2N.CX P w) P w K mg base N qual (defScope st) f cdv A outer s H E) (fun cls d _ H => E cls d H) →
      CSs (cxOf (L2N.CX P w) P w K mg base N qual (defScope st) f cdv A outer s H E) ⟨fun cls d _ H => E cls d H, none⟩ (defBody st) ms)
    (main : ∀ ds h Q E, sp ds h Q E → ms (endM Q E) (startE N ds) h) : Mkr P w K mg base (k + 1) c sp := by
  obtain ⟨f, fd, F, g⟩ := T
  exact ⟨f, fd, ps, g, fnok F S len (hbody f) main, hm, F.bindsN b⟩
/-- the law's def: from a row of ints True -/
def spLawM : SpM := fun ds h Q _ => ∃ ns : List Int, ds = [.kls (ns.map D.int)] ∧ ns.length ≤ 63 ∧ h = [] ∧ ∀ h', Q (.bl true) h'
def spLaw (K : PySem.W.Frag) : Sp := fun vs H Q _ => ∃ (a : Addr) (ns : List Int), vs = [.ref a] ∧ Only H ∧ SqL K H a (ns.map V.int) ∧ ns.length ≤ 63 ∧ ∀ H', Q (.bl true) H'
theorem rds_ints {K : PySem.W.Frag} {φ : List Addr} {H : Hp} : ∀ ss : List Int, RDs K φ H (ss.map D.int) (ss.map V.int)
  | [] => .nil
  | s :: r => .cons (.int s) (rds_ints r)
theorem law_ok {k : Nat} {f : Addr} {fd : FuncData} {ps : List Str} (hl : ps.length = 1) (F : FnG P w K mg base (L2N.CX P w) k f fd ps (up K spLawM)) : FnG P w K mg base CX0 k f fd ps (spLaw K) := by
  refine ⟨fun vs H Q E h => ?_, fun A outer s H args us vs Q E hr e0 b r h => ?_⟩
  · obtain ⟨a, ns, rfl, _⟩ := h
    exact hl.symm
  · obtain ⟨a, ns, rfl, hO, hS, h63, q⟩ := h
    have hk : KlsIs K H a (ns.map V.int) := by
      rcases hS with hS | hS
      · rcases hS with hS | hS
        · rcases hO a with z | ⟨o, xs, z⟩
          · rw [z] at hS; cases hS
          · rw [z] at hS; cases hS
        · exact .inl hS
      · exact .inr hS
    have u : up K spLawM [.ref a] H Q (fun _ _ _ => False) := ⟨[], [], [.kls (ns.map D.int)], fun d h => d = .bl true, fun _ _ => False, ⟨rfl, .nil, fun n a x e => by cases e⟩, .cons (.kls hk (rds_ints ns)) .nil, ⟨ns, rfl, h63, rfl, fun _ => rfl⟩,
      fun φ' h' H' d v _ _ rd e => by subst e; cases rd; exact q H', fun _ _ _ _ _ _ _ _ _ z => z.elim⟩
    refine codeAny_mono (F.run A outer s H args us [.ref a] Q _ hr e0 b r u) fun r s' hq => ?_
    cases r with
    | ok fl => cases fl <;> exact hq
    | error e =>
      obtain ⟨_, _, _, _, _, _, _, _, _, _, _, _, z⟩ := hq
      exact z.elim
end
end L3

/-! how readings are shown: loops by a word, frames -/
namespace L3
open PySem PySem.Spec PyProof.Rows L2
section
variable {g : MG} {b : MS} {gd : MH → Prop} {M : MD} {tt : MT} {te : ME}
/-- a for, by a word of the turn, the slots, the cells -/
theorem forGo_ind {xs : List D} (I : Nat → Ev → MH → Prop) {ρ : Ev} {h : MH} (h0 : I 0 ρ h) (hg : ∀ i ρ h, i ≤ xs.length → I i ρ h → gd h)
    (step : ∀ i d ρ h (R : Ev → MH → Prop), xs[i]? = some d → I i ρ h → (∀ ρ' h', I (i + 1) ρ' h' → R ρ' h') → g d ρ h (fun ρ1 h1 => b { M with nx := R, ct := R, bk := M.nx } ρ1 h1) (fun x h1 => M.ex x ρ h1))
    (fin : ∀ ρ h, I xs.length ρ h → M.nx ρ h) : forGo g b gd M xs ρ h := by
  have key : ∀ (n i : Nat) (ρ : Ev) (h : MH), xs.length - i = n → i ≤ xs.length → I i ρ h → forGo g b gd M (xs.drop i) ρ h := by
    intro n
    induction n with
    | zero =>
      intro i ρ h e le hi
      have : i = xs.length := by omega
      subst this
      rw [List.drop_length]
      exact ⟨hg _ _ _ le hi, fin _ _ hi⟩
    | succ n ih =>
      intro i ρ h e le hi
      have hlt : i < xs.length := by omega
      rw [drop_cons (List.getElem?_eq_getElem hlt)]
      exact ⟨hg _ _ _ le hi, step i _ ρ h _ (List.getElem?_eq_getElem hlt) hi fun ρ' h' q => ih (i + 1) ρ' h' (by omega) hlt q⟩
  have := key xs.length 0 ρ h (by omega) (Nat.zero_le _) h0
  rwa [List.drop_zero] at this
theorem lcGo_ind {xs : List D} {Q : D → MH → Prop} {ρ : Ev} (I : Nat → List D → MH → Prop) {h : MH} (h0 : I 0 [] h) (hg : ∀ i acc h, i ≤ xs.length → I i acc h → gd h)
    (step : ∀ i d acc h (R : List D → MH → Prop), xs[i]? = some d → I i acc h → (∀ acc' h', I (i + 1) acc' h' → R acc' h') →
      g d ρ h (fun ρ1 h1 => tt ρ1 h1 (fun k h2 => ifB k (te ρ1 h2 (fun y h3 => R (acc ++ [y]) h3) (fun _ _ => False)) (R acc h2)) (fun _ _ => False)) (fun _ _ => False))
    (fin : ∀ acc h, I xs.length acc h → Q (.loc h.length) (h ++ [.lst acc])) : lcGo g tt te gd Q xs [] ρ h := by
  have key : ∀ (n i : Nat) (acc : List D) (h : MH), xs.length - i = n → i ≤ xs.length → I i acc h → lcGo g tt te gd Q (xs.drop i) acc ρ h := by
    intro n
    induction n with
    | zero =>
      intro i acc h e le hi
      have : i = xs.length := by omega
      subst this
      rw [List.drop_length]
      exact ⟨hg _ _ _ le hi, fin _ _ hi⟩
    | succ n ih =>
      intro i acc h e le hi
      have hlt : i < xs.length := by omega
      rw [drop_cons (List.getElem?_eq_getElem hlt)]
      exact ⟨hg _ _ _ le hi, step i _ acc h (fun acc' h' => lcGo g tt te gd Q (xs.drop (i + 1)) acc' ρ h') (List.getElem?_eq_getElem hlt) hi fun acc' h' q => ih (i + 1) acc' h' (by omega) hlt q⟩
  have := key xs.length 0 [] h (by omega) (Nat.zero_le _) h0
  rwa [List.drop_zero] at this
/-- items that no cell is touched by: f says what is kept -/
theorem lcGo_pure {xs : List D} {Q : D → MH → Prop} {ρ : Ev} {h : MH} (f : D → Option D) (hg : gd h)
    (step : ∀ d (R : Option D → MH → Prop), d ∈ xs → R (f d) h → g d ρ h (fun ρ1 h1 => tt ρ1 h1 (fun k h2 => ifB k (te ρ1 h2 (fun y h3 => R (some y) h3) (fun _ _ => False)) (R none h2)) (fun _ _ => False)) (fun _ _ => False))
    (fin : Q (.loc h.length) (h ++ [.lst (xs.filterMap f)])) : lcGo g tt te gd Q xs [] ρ h := by
  refine lcGo_ind (fun i acc h' => h' = h ∧ acc = (xs.take i).filterMap f) ⟨rfl, by simp⟩ (fun i acc h' _ e => by rw [e.1]; exact hg) ?_ ?_
  · rintro i d acc h' R hd ⟨rfl, rfl⟩ k
    obtain ⟨hi, e⟩ := List.getElem?_eq_some_iff.mp hd
    refine step d (fun o h2 => match o with | some y => R ((xs.take i).filterMap f ++ [y]) h2 | none => R ((xs.take i).filterMap f) h2) (List.mem_of_getElem? hd) ?_
    have ht : xs.take (i + 1) = xs.take i ++ [d] := by rw [← e, List.take_append_getElem]
    split
    · rename_i y hy
      refine k _ _ ⟨rfl, ?_⟩
      rw [ht, List.filterMap_append]
      simp [hy]
    · rename_i hy
      refine k _ _ ⟨rfl, ?_⟩
      rw [ht, List.filterMap_append]
      simp [hy]
  · rintro acc h' ⟨rfl, rfl⟩
    rw [List.take_length]
    exact fin
/-- a while, by a word with a measure -/
theorem wh_ind {c : MT} (I : Nat → Ev → MH → Prop) {ρ : Ev} {h : MH} (n : Nat) (h0 : I n ρ h)
    (step : ∀ n ρ h (R : Ev → MH → Prop), I n ρ h → (∀ n' ρ' h', n' < n → I n' ρ' h' → R ρ' h') → c ρ h (fun k h1 => ifB k (b { M with nx := R, ct := R, bk := M.nx } ρ h1) (M.nx ρ h1)) (fun x h1 => M.ex x ρ h1)) : mWhile c b M ρ h := by
  have key : ∀ (n m : Nat) (ρ : Ev) (h : MH), m < n → I m ρ h → whGo c b M n ρ h := by
    intro n
    induction n with
    | zero => intro m ρ h hm; exact absurd hm (Nat.not_lt_zero _)
    | succ n ih =>
      intro m ρ h hm hi
      exact step m ρ h _ hi fun n' ρ' h' hn q => ih n' ρ' h' (by omega) q
  exact ⟨n + 1, key (n + 1) n ρ h (Nat.lt_succ_self n) h0⟩
end
/-! ### frames -/
/-- all but the cells in A stands as before -/
structure Kp (A : List Nat) (h h' : MH) : Prop where
  le : h.length ≤ h'.length
  get : ∀ (n : Nat) (x : Nd), n ∉ A → h[n]? = some x → h'[n]? = some x
section
variable {A B : List Nat} {h h' h'' : MH} {n m : Nat} {x y : Nd}
theorem Kp.refl : Kp A h h := ⟨Nat.le_refl _, fun _ _ _ e => e⟩
theorem Kp.trans (a : Kp A h h') (b : Kp A h' h'') : Kp A h h'' := ⟨Nat.le_trans a.le b.le, fun n x hn e => b.get n x hn (a.get n x hn e)⟩
theorem Kp.mono (a : Kp A h h') (s : ∀ n ∈ A, n ∈ B) : Kp B h h' := ⟨a.le, fun n x hn e => a.get n x (fun z => hn (s n z)) e⟩
theorem Kp.nil (a : Kp [] h h') : Kp A h h' := a.mono fun _ z => nomatch z
theorem lt_of (e : h[n]? = some x) : n < h.length := (List.getElem?_eq_some_iff.mp e).1
theorem get_push (e : h[n]? = some x) : (h ++ [y])[n]? = some x := by rw [List.getElem?_append_left (lt_of e)]; exact e
theorem get_new : (h ++ [y])[h.length]? = some y := by simp
theorem get_set (e : h[n]? = some x) : (h.set n y)[n]? = some y := List.getElem?_set_self (lt_of e)
theorem get_setne (d : m ≠ n) (e : h[n]? = some x) : (h.set m y)[n]? = some x := by rw [List.getElem?_set_ne d]; exact e
theorem Kp.push (a : Kp A h h') : Kp A h (h' ++ [y]) := ⟨by rw [List.length_append]; have := a.le; omega, fun n x hn e => get_push (a.get n x hn e)⟩
theorem Kp.set (a : Kp A h h') (hm : m ∈ A ∨ h.length ≤ m) : Kp A h (h'.set m y) := ⟨by rw [List.length_set]; exact a.le, fun n x hn e => get_setne (fun z => by
  rcases hm with hm | hm
  · exact hn (z ▸ hm)
  · have := lt_of e; omega) (a.get n x hn e)⟩
/-- what is made in between may change, too -/
theorem Kp.fresh (a : Kp A h h') (b : Kp B h' h'') (s : ∀ n ∈ B, n ∈ A ∨ h.length ≤ n) : Kp A h h'' := ⟨Nat.le_trans a.le b.le, fun n x hn e => b.get n x (fun z => (s n z).elim hn fun q => by have := lt_of e; omega) (a.get n x hn e)⟩
end
end L3
/-- the next step -/
local macro_rules | `(tactic| walk_at "w") => `(tactic| with_reducible conv => whnf)

/-! more steps -/
namespace L3
open PySem PySem.Spec PyProof.Rows L2
section
variable {h : MH} {n : Nat} {T : String} {k : Bool → Prop} {xs : List D}
theorem isT_non (q : k (T == "NoneType")) : isTK h T .non k := q
theorem isT_bl {b} (q : k (T == "bool" || T == "int")) : isTK h T (.bl b) k := q
theorem isT_int {b} (q : k (T == "int")) : isTK h T (.int b) k := q
theorem isT_str {b} (q : k (T == "str")) : isTK h T (.str b) k := q
theorem isT_tup {b} (q : k (T == "tuple")) : isTK h T (.tup b) k := q
theorem isT_kls {b} (q : k (T == "list")) : isTK h T (.kls b) k := q
theorem isT_lst (e : h[n]? = some (.lst xs)) (q : k (T == "list")) : isTK h T (.loc n) k := by
  show (match h[n]? with | some (.lst _) => k (T == "list") | some (.dic _) => k (T == "dict") | _ => False)
  rw [e]
  exact q
theorem allBl_of {k : List Bool → Prop} (bs : List Bool) (e : xs = bs.map D.bl) (q : k bs) : allBl xs k := ⟨bs, e, q⟩
theorem allStr_of {k : List Str → Prop} (bs : List Str) (q : k bs) : allStr (bs.map D.str) k := ⟨bs, rfl, q⟩
theorem tru_bl {b} (q : k b) : truK h (.bl b) k := q
theorem tru_non (q : k false) : truK h .non k := q
theorem tru_int {b} (q : k (b != 0)) : truK h (.int b) k := q
theorem tru_tup {b} (q : k (!b.isEmpty)) : truK h (.tup b) k := q
theorem tru_lst (e : h[n]? = some (.lst xs)) (q : k (!xs.isEmpty)) : truK h (.loc n) k := lstAt_of e q
theorem hd_hit {errs : List Str} {M : MD} {cn c : Str} {fs : List (Str × D)} {i : Nat} {m : Xc → MS} {r : List Hd} {ρ : Ev} {h : MH} (h1 : errs.contains cn = true) (h2 : Nat.ble (i + 1) ρ.length = true) (e : subC cn c = true) (q : m ⟨cn, fs⟩ (goneM i M) (ρ.set i none) h) : mHds errs M ((c, some i, m) :: r) ⟨cn, fs⟩ ρ h :=
  ⟨List.contains_iff_mem.mp h1, Nat.le_of_ble_eq_true h2, fun _ => q, fun z => Bool.noConfusion (e.symm.trans z)⟩
theorem hd_miss {errs : List Str} {M : MD} {cn c : Str} {fs : List (Str × D)} {i : Nat} {m : Xc → MS} {r : List Hd} {ρ : Ev} {h : MH} (h1 : errs.contains cn = true) (h2 : Nat.ble (i + 1) ρ.length = true) (e : subC cn c = false) (q : mHds errs M r ⟨cn, fs⟩ ρ h) : mHds errs M ((c, some i, m) :: r) ⟨cn, fs⟩ ρ h :=
  ⟨List.contains_iff_mem.mp h1, Nat.le_of_ble_eq_true h2, fun z => Bool.noConfusion (e.symm.trans z), fun _ => q⟩
theorem hd_hit0 {errs : List Str} {M : MD} {cn c : Str} {fs : List (Str × D)} {m : Xc → MS} {r : List Hd} {ρ : Ev} {h : MH} (h1 : errs.contains cn = true) (e : subC cn c = true) (q : m ⟨cn, fs⟩ { M with ex := fun _ _ _ => False } ρ h) : mHds errs M ((c, none, m) :: r) ⟨cn, fs⟩ ρ h :=
  ⟨List.contains_iff_mem.mp h1, fun _ => q, fun z => Bool.noConfusion (e.symm.trans z)⟩
theorem hd_miss0 {errs : List Str} {M : MD} {cn c : Str} {fs : List (Str × D)} {m : Xc → MS} {r : List Hd} {ρ : Ev} {h : MH} (h1 : errs.contains cn = true) (e : subC cn c = false) (q : mHds errs M r ⟨cn, fs⟩ ρ h) : mHds errs M ((c, none, m) :: r) ⟨cn, fs⟩ ρ h :=
  ⟨List.contains_iff_mem.mp h1, fun z => Bool.noConfusion (e.symm.trans z), fun _ => q⟩
theorem byErr_of {c n : Str} {d : D} {ρ : Ev} {h : MH} {Q : D → MH → Prop} {E : XQ} (q : Q d h) : mByErr c n ⟨c, [(n, d)]⟩ ρ h Q E := ⟨rfl, rfl, q⟩
theorem fld_ok {c f : Str} {fs : List (Str × D)} {d : D} {k : D → Prop} (e : h[n]? = some (.ins c fs)) (g : fs.lookup f = some d) (q : k d) : fldAt h n c f k := fldAt_of e g q
end
end L3

namespace L3
open PySem PySem.Spec PyProof.Rows L2
section
variable {X : Cx} {W : Wz} {k j : Nat} {x c : Str} {sp : SpM} {p pos : Pos} {ma : MA}
def tMakeKV (C : Addr) (n : Nat) (ix : List Nat) (sp : Sp) (W : WX) (t : TA) : TE := fun σ H Q => t σ H fun zs H1 => zs.length = n ∧ ∀ x dx, H1 x = none → H1 dx = none → dx ≠ x → sp ([.ref x] ++ pick ix zs) (upd (upd H1 dx (.own x)) x (.ins C dx [])) (fun v H2 => v = .non ∧ Q (.ref x) H2) (WE W σ)
theorem pe_mkKV {C : Addr} {S : Sp} {f : Addr} {fd : FuncData} {ps ks : List Str} {ix : List Nat} {Wv : WX} {t : TA} {kws : List Keyword} (M : Mk X.K C f) (F : FnG X.prog X.w X.K X.mg X.base (L2N.CX X.prog X.w) k f fd ps S) (hr : Rm j X.A) (hk : k + 1 ≤ j) (hg : Gl X x) (hm : X.mg x = some (.ref C)) (b : ∀ a, KwTo fd [a] ps ks ix) (tk : L2N.Takes X Wv)
    (pk : PK X kws t) (hdb : (x == ("__debug__" : Str)) = false) (hall : (backToKw pos (keywordEach kws X.env)).all (·.1.isSome) = true) (hks : (backToKw pos (keywordEach kws X.env)).filterMap (·.1) = ks)
    (hpl : ((backTo pos (starEach [] X.env)).any (·.1) || (backToKw pos (keywordEach kws X.env)).any (·.1.isNone)) = false) :
    PE X (.Call (.Name x p) [] kws pos) (tMakeKV C ks.length ix S Wv t) := by
  refine ⟨fun pins s0 σ H0 Q I0 h => ?_⟩
  refine wpAny_Call_Name_kw (ld_glob I0 hg hm ?_ hdb)
  refine PySem.W.callWith_KW0 (first := []) (h₀ := X.base) I0.ok.mod.kin M.kp hall (thn (pk.run pos pins s0 σ H0 _ I0 h) fun ws s ⟨zs, H, I, r, hl, h⟩ => ⟨I.kIn, ?_⟩) hpl
  rw [hks]
  have hq := h (s.heap.objs.size + 1) s.heap.objs.size (I.hok.fresh (Nat.le_succ _)) (I.hok.fresh (Nat.le_refl _)) (Nat.ne_of_lt (Nat.lt_succ_self _))
  have I2 := Inv.made (C := C) I
  have hv : Vals ([V.ref (s.heap.objs.size + 1)] ++ pick ix zs) ([Value.ref (s.heap.objs.size + 1)] ++ pick ix ws) := Vals.append (.cons rfl .nil) (pick_vals r ix)
  refine wpAny_call (make_map (f := f) I.kIn M.makes M.init (beq_iff_eq.mp M.fn) (codeAny_mono (F.run _ X.stack _ _ ⟨[Value.ref (s.heap.objs.size + 1)], ks.zip ws⟩ ([Value.ref (s.heap.objs.size + 1)] ++ pick ix ws) _ _ (WE Wv σ) ((hr.mono hk).make C [] (ks.zip ws))
    (I2.env0.make C [] (ks.zip ws)) (b _ _ ws (by rw [← r.length]; exact hl)) hv hq) fun r s' hq' => ?_))
  cases r with
  | error e => exact L2N.passAt tk σ pins _ _ e s' I2 hq'
  | ok fl =>
    cases fl with
    | ret u =>
      obtain ⟨v, H', I3, rv, ev, q3⟩ := I2.after hq'
      subst ev
      exact ⟨rv, ⟨V.ref (s.heap.objs.size + 1), H', I3, rfl, q3⟩⟩
    | next => exact False.elim hq'
    | brk => exact False.elim hq'
    | cont => exact False.elim hq'
abbrev mMakeK (c : Str) (n : Nat) (ix : List Nat) (sp : SpM) (ma : MA) : ME := fun ρ h Q E => ma ρ h (fun ds h1 => ds.length = n ∧ sp (.loc h1.length :: pick ix ds) (h1 ++ [.ins c []]) (isNon fun h2 => Q (.loc h1.length) h2) E) E
theorem ce_makeK {ks : List Str} {ix : List Nat} {kws : List Keyword} (M : MkrK X.prog X.w X.K X.mg X.base k c ks ix sp) (hr : Rm j X.A) (hk : k + 1 ≤ j) (tk : L2N.Takes X W.w) (hg : Gl X c) (ha : CK X W kws ma)
    (hdb : (c == ("__debug__" : Str)) = false := by decide) (hall : (backToKw pos (keywordEach kws X.env)).all (·.1.isSome) = true := by rfl) (hks : (backToKw pos (keywordEach kws X.env)).filterMap (·.1) = ks := by rfl)
    (hpl : ((backTo pos (starEach [] X.env)).any (·.1) || (backToKw pos (keywordEach kws X.env)).any (·.1.isNone)) = false := by rfl) :
    CE X W (.Call (.Name c p) [] kws pos) (mMakeK c ks.length ix sp ma) := by
  obtain ⟨f, fd, ps, M, F, hm, b⟩ := M.ex
  obtain ⟨t, pk, sk⟩ := ha.ex
  refine .of (pe_mkKV M F hr hk hg hm b tk pk hdb hall hks hpl) fun φ ρ σ h H Qm Q Xm rh rs q ok ox =>
    sk φ ρ σ h H _ _ _ rh rs q (fun φ1 h1 H1 ds vs e1 rh1 r1 q1 => ⟨by rw [← r1.len]; exact q1.1, fun y dx hy hdx ne => ?_⟩) ox
  replace q1 := q1.2
  obtain ⟨r2, x2⟩ := rh1.new hdx (.own y)
  have hy2 : (upd H1 dx (.own y)) y = none := by rw [upd_ne (Ne.symm ne)]; exact hy
  obtain ⟨r3, x3⟩ := r2.push hy2 (o := .ins (He.ga X.K c) dx []) (x := .ins c []) ⟨dx, [], upd_same, .nil⟩
  have E3 := x2.trans x3
  refine ⟨φ1 ++ [y], _, _, _, Xm, r3, .cons (.loc (by rw [← rh1.len]; simp)) ((pick_rds r1 ix).to E3.toMo), q1, fun φ' h' H' d v e4 rh4 rd q4 => ?_, ((ox.to e1).to E3).we⟩
  unfold isNon at q4
  split at q4
  · cases rd
    refine ⟨rfl, ok _ _ _ _ _ (e1.trans (E3.trans e4)) rh4 (.loc (e4.pre _ _ ?_)) q4⟩
    rw [← rh1.len]; simp
  · exact q4.elim
end
section
variable {P : Program} {w : World} {K : PySem.W.Frag} {mg : Str → Option Value} {base : Heap}
theorem mk_initK {c qual : Str} {st : Stmt} {N ps ks : List Str} {ix : List Nat} {k : Nat} {sp : SpM} {ms : MS} (T : ∃ f fd, FunD K "__init__" qual (defArgs st) (defBody st) (defScope st) [] [] f fd ∧ Mk K (He.ga K c) f) (hm : mg c = some (.ref (He.ga K c))) (S : C8.scC N ps (defScope st) = true)
    (b : ∀ (kV doc pm : Value) (an : Option Addr) (cdv ct a : Value) (ws : List Value), ws.length = ks.length → bindArgs (PySem.W.fnOf "__init__" qual (defArgs st) (defBody st) (defScope st) .none kV doc pm an cdv ct) ⟨[a], ks.zip ws⟩ = pure (ps.zip ([a] ++ pick ix ws)))
    (len : ∀ ds h Q E, sp ds h Q E → ds.length = ps.length)
    (hbody : ∀ (f : Addr) (cdv : Value) (A : Around) (outer : List Env) (s : Shared) (H : Hp) (E : XK), Rm k (A.deeper (envOfC qual (defScope st) s.heap.objs.size f cdv)) →
      L2N.Takes (cxOf (L2N.CX P w) P w K mg base N qual (defScope st) f cdv A outer s H E) (fun cls d _ H => E cls d H) →
      CSs (cxOf (L2N.CX P w) P w K mg base N qual (defScope st) f cdv A outer s H E) ⟨fun cls d _ H => E cls d H, none⟩ (defBody st) ms)
    (main : ∀ ds h Q E, sp ds h Q E → ms (endM Q E) (startE N ds) h) : MkrK P w K mg base (k + 1) c ks ix sp := by
  obtain ⟨f, fd, F, g⟩ := T
  refine ⟨f, fd, ps, g, fnok F S len (hbody f) main, hm, fun a s ws hl => ?_⟩
  obtain ⟨oc, od, dV, kV, doc, pm, an, cdv, ct, osl, rfl, lk, hcd, hD, hK⟩ := F.ex
  rcases hD with ⟨_, rfl⟩ | ⟨e, _⟩
  · exact .of_eq (b kV doc pm an cdv ct a ws hl)
  · exact absurd rfl e
end
end L3

namespace HotX
open PySem PySem.Spec PyProof.Rows
section
variable {prog : Program} {w : World} {A : Around} {E : Value → Shared → Prop} {s : Shared}
theorem next_tuple_end_hot {it l x1 : Addr} {i : Nat} {items} {Q : Option Value → Shared → Prop} (hot : HotAt A x1 s.heap)
    (hit : IsTupIter s.heap it l i) (hl : IsTup s.heap l items) (hx : items[i]? = none)
    (hQ : ∀ h', Heap.ExtBut it s.heap h' → Q none { s with heap := h' }) : wpAny (model prog w) A (pyNext (.ref it)) Q E s := by
  obtain ⟨hh, o1, vs1, h1, d1, c1⟩ := hot
  obtain ⟨o, ho, hc, hd⟩ := id hit
  obtain ⟨ol, hol, _, nl, hdl⟩ := hl
  have ne : x1 ≠ it := fun z => by
    rw [z, ho] at h1
    have e := Option.some.inj h1
    rw [← e, hd] at d1
    have e2 := Data.fields.inj d1
    rw [← e2] at c1
    simp at c1
  unfold pyNext
  refine wpAny_bind (wpAny_attempt (wpAny_callSpecial?_slot (name := Str.ofString "__next__") hit.typeIs slot_tupleiter_next
    (wpAny_call_entry slot_tupleiter_next hit.typeIs entry_tupleiter_next ?_ (args_tupleiter_next _))))
  show wpAny _ _ (field (.ref it) 0 >>= _) _ _ s
  refine wpAny_bind (wpAny_field ho hd (x := .ref l) rfl ?_)
  show wpAny _ _ (if (Value.ref l == Value.none) = true then _ else _) _ _ s
  rw [if_neg (show ¬ ((Value.ref l == Value.none) = true) from Bool.false_ne_true)]
  show wpAny _ _ (field (.ref it) 1 >>= _) _ _ s
  refine wpAny_bind (wpAny_field ho hd (x := .int i 0) rfl ?_)
  show wpAny _ _ (seqItems? (.ref l) >>= _) _ _ s
  refine wpAny_bind (wpAny_seqItems hol hdl ?_)
  simp only [Int.toNat_natCast, hx]
  refine wpAny_bind (wpAny_rule (wpAny_bind (wpAny_setField ho hd (by simp) ?_)))
  show wpAny _ _ (newExc (.type "StopIteration") [] >>= _) _ _ _
  refine wpAny_bind ?_
  simp only [newExc, newTuple]
  refine wpAny_bind (wpAny_newObj_type ?_ (by size_fits))
  refine wpAny_bind (m := firstArgMember _ _) (wpAny_of_eq (a := Value.none) (by first | rfl | (simp only [firstArgMember]; rfl)) ?_)
  refine wpAny_newObj_type ?_ (by size_fits)
  have h1' : ∀ f, (s.heap.update it f).get? x1 = some o1 := fun f => by
    rw [Heap.get?_update_other _ _ (Ne.symm ne)]
    exact h1
  refine raiseNew_hot ⟨hh, o1, vs1, Heap.get?_push_of_some _ (Heap.get?_push_of_some _ (h1' _)), d1, c1⟩ (Nat.ne_of_lt (Heap.lt_size (Heap.get?_push_of_some _ (h1' _)))) (Heap.get?_push_size _ rfl) rfl (by first | (simp; done) | (simp; omega) | (simp only [Array.size_append]; simp; omega)) ?_
  refine wpAny_bind (wpAny_isInstance (T := "StopIteration") (b := true) ⟨_, Heap.get?_update_self _ (Heap.get?_push_size _ rfl) rfl, rfl⟩ isSubtype_stop ?_)
  refine wpAny_pure (hQ _ fun b ob hb e => ?_)
  have e2 : ∀ f, (s.heap.update it f).get? b = some ob := fun f => by
    rw [Heap.get?_update_other _ _ (Ne.symm hb)]
    exact e
  rw [Heap.get?_update_other _ _ (Nat.ne_of_gt (Heap.lt_size (Heap.get?_push_of_some _ (e2 _))))]
  exact Heap.get?_push_of_some _ (Heap.get?_push_of_some _ (e2 _))
theorem HotAt.stays {A : Around} {x1 : Addr} {h h' : Heap} (hot : HotAt A x1 h) (k : ∀ o, h.get? x1 = some o → h'.get? x1 = some o) : HotAt A x1 h' := by
  obtain ⟨hh, o, vs, a, b, c⟩ := hot
  exact ⟨hh, o, vs, k _ a, b, c⟩
theorem unpackItems_tupleH {t x1 : Addr} {items : Array Value} {Q : List Value → Shared → Prop} (hot : HotAt A x1 s.heap) (ht : IsTup s.heap t items)
    (hQ : ∀ h', Heap.ExtBut s.heap.objs.size s.heap h' → Q items.toList { s with heap := h' }) : wpAny (model prog w) A (unpackItems (.ref t) items.size none) Q E s := by
  have hlt : t ≠ s.heap.objs.size := by obtain ⟨o, ho, _⟩ := ht; exact Nat.ne_of_lt (Heap.lt_size ho)
  have hx : x1 ≠ s.heap.objs.size := by obtain ⟨_, o, _, ho, _⟩ := hot; exact Nat.ne_of_lt (Heap.lt_size ho)
  unfold unpackItems
  refine wpAny_bind ?_
  · unfold notIterableAtAll
    refine wpAny_bind (wpAny_specialOf ht.typeIs slot_tuple_iter.lookup ?_)
    refine wpAny_pure ?_
    simp only [Bool.false_eq_true, if_false]
    refine wpAny_bind (wpAny_holding (iter_tuple ht ?_))
    refine wpAny_bind (wpAny_holding (draw_tuple hlt items.size 0 _ _ ⟨_, Heap.get?_push_size _ rfl, rfl, rfl⟩ (ht.push _) (by omega) fun h₁ hit₁ hs₁ => ?_))
    have hall : List.take items.size (List.drop 0 items.toList) = items.toList := by
      rw [List.drop_zero]; exact List.take_of_length_le (by simp)
    rw [hall]
    rw [if_neg (by simp)]
    have ht₁ : IsTup h₁ t items := (ht.push _).extBut hs₁.extBut hlt
    have hot₁ : HotAt A x1 h₁ := hot.stays fun o e => hs₁.extBut _ _ hx (Heap.get?_push_of_some _ e)
    refine wpAny_bind (wpAny_holding (next_tuple_end_hot hot₁ hit₁ ht₁ (by simp) fun h₂ he₂ => ?_))
    simp only [Option.isSome_none, Bool.false_eq_true, if_false]
    refine wpAny_pure (hQ h₂ fun b o hb e => he₂ b o hb (hs₁.extBut b o hb (Heap.get?_push_of_some _ e)))
theorem unpack_tupleH {t x1 : Addr} {items : Array Value} {targets : List (Bool × (Value → Sem Unit))} {Q : Unit → Shared → Prop} (hot : HotAt A x1 s.heap) (ht : IsTup s.heap t items)
    (hn : targets.length = items.size) (hstar : targets.findIdx? (·.1) = none)
    (h : ∀ h', Heap.ExtBut s.heap.objs.size s.heap h' → wpAny (model prog w) A (assignInOrder (targets.map (·.2)) items.toList) Q E { s with heap := h' }) :
    wpAny (model prog w) A (unpack (.ref t) targets) Q E s := by
  unfold unpack
  rw [hn, hstar]
  exact wpAny_bind (wpAny_holding (unpackItems_tupleH hot ht h))
end
end HotX
namespace L3
open PySem PySem.Spec PyProof.Rows L2 HotX
section
variable {X : Cx} {W : Wz} {pos : Pos}
theorem pg_tupH {es : List Expr} {k : Nat} {t : TGs} {n : Nat} (hc : L2H.HotC X) (h : PGs X es t)
    (hn : (assignEach es X.env).length = n := by rfl) (hst : (assignEach es X.env).findIdx? (·.1) = none := by rfl) : PG X (.Tuple es k pos) (gTup X.K n t) := by
  refine ⟨fun pins s σ H v u Q I r hw => ?_⟩
  obtain ⟨a, xs, e1, hq, hl, hw⟩ := hw
  subst e1
  cases r
  obtain ⟨its, rv, ht, hz⟩ := I.tuple hq
  obtain ⟨x1, hot⟩ := hc.at I
  rw [assign_Tuple]
  refine wpAny_bind (wpAny_standAt (unpack_tupleH hot ht (by simp [hn, ← hl, rv.length]) hst fun h' hx => ?_))
  have I1 : Inv X pins σ H { s with heap := h' } := I.kept (t' := s.toks) fun b o e => hx b o (Nat.ne_of_lt (Heap.lt_size e)) e
  exact h.run pins _ σ H xs _ Q I1 (by simpa using rv) hw
abbrev gmTupH (n : Nat) (gs : MGs) : MG := fun d ρ h Q E => match d with | .tup ds => ds.length = n ∧ gs ds ρ h Q E | _ => False
theorem cg_tupH {vs : List Nat} {es : List Expr} {k : Nat} {n : Nat} {gs : MGs} (hx : ∀ φ H σ Xm, OkX X.K φ H σ Xm W → ∀ σ', wipe σ' vs = wipe σ vs → OkX X.K φ H σ' Xm W) (hc : L2H.HotC X) (h1 : CGs X W vs es gs)
    (hn : (assignEach es X.env).length = n := by rfl) (hst : (assignEach es X.env).findIdx? (·.1) = none := by rfl) : CG X W vs (.Tuple es k pos) (gmTupH n gs) := by
  obtain ⟨t1, p1, s1⟩ := h1.ex
  refine ⟨_, pg_tupH hc p1 hn hst, fun φ ρ σ h H d v Qm Q Xm rh rs rd m ok ox => ?_⟩
  unfold gmTupH at m
  split at m
  · cases rd with
    | tup t r => exact ⟨_, _, rfl, t.sq, r.len.symm.trans m.1, s1 φ ρ σ h H _ _ _ _ _ rh rs r m.2 ok (hx _ _ _ _ ox)⟩
  · exact m.elim
/-- a statement that is never come to -/
theorem cs_never {st : Stmt} : CS X W st (fun _ _ _ => False) := ⟨fun φ ρ σ h H M E rh rs m => m.elim⟩
theorem css_never {st : List Stmt} : CSs X W st (fun _ _ _ => False) := ⟨fun φ ρ σ h H M E rh rs m => m.elim⟩
theorem ce_never {e : Expr} : CE X W e (fun _ _ _ _ => False) := ⟨fun φ ρ σ h H Qm Q Xm rh rs m => m.elim⟩
end
section
variable {X : Cx}
theorem o_eqH {k : Nat} (hr : L2H.RoomH k X.A) : OpC X (compareOp .Eq) (oEqB fun b => b) := ⟨_, OpR.or op_eq (op_eqD (by have := hr.un; omega)), om_eq⟩
theorem o_neH {k : Nat} (hr : L2H.RoomH k X.A) : OpC X (compareOp .NotEq) (oEqB fun b => !b) := ⟨_, OpR.or op_ne (op_neD (by have := hr.un; omega)), om_eq⟩
theorem hotRoom {k : Nat} {A : Around} {v : Option Value} (hr : Rm k A) : L2H.RoomH k (A.mark v) := ⟨hr.dp, hr.un⟩
end
theorem pas0 {X : Cx} {σ : L2.St} {E : XK} : PassesAt CX0 X σ E := fun _ _ _ _ _ _ h => h.elim
/-- a def that is called where an error is handled; it raises nothing -/
structure FnHt (P : Program) (w : World) (K : PySem.W.Frag) (mg : Str → Option Value) (base : Heap) (k : Nat) (x : Str) (sp : SpM) : Prop where
  ex : ∃ (f : Addr) (fd : FuncData) (ps : List Str), L2H.FnH P w K mg base CX0 k f fd ps (up K sp) ∧ mg x = some (.ref f) ∧ PySem.W.keepIn K (.ref f) = true ∧ Binds K fd ps []
section
variable {X : Cx} {W : Wz} {k j : Nat} {x m c : Str} {sp : SpM} {p pos apos : Pos} {e o : Expr} {es : List Expr} {mo : ME} {ma : MA}
abbrev mCallH (sp : SpM) (ma : MA) : ME := fun ρ h Q E => ma ρ h (fun ds h1 => sp ds h1 Q (fun _ _ => False)) E
theorem ce_callH (c : FnHt X.prog X.w X.K X.mg X.base k x sp) (hc : L2H.HotC X) (hr : L2H.RoomH j X.A) (hk : k ≤ j) (hg : Gl X x) (ha : CA X W (e :: es) ma)
    (hdb : (x == ("__debug__" : Str)) = false := by decide) (he : starEach (e :: es) X.env = (false, eval e X.env) :: starEach es X.env := by rfl) (hpl : (backTo pos (starEach es X.env)).any (·.1) = false := by rfl) :
    CE X W (.Call (.Name x p) (e :: es) [] pos) (mCallH sp ma) := by
  obtain ⟨f, fd, ps, F, hm, kp, b⟩ := c.ex
  exact .of (L2H.pe_callH (E := fun _ _ _ _ => False) F (hr.mono hk) hc hg hm kp b (fun _ => pas0) cA.pa hdb he hpl) fun φ ρ σ h H Qm Q Xm rh rs q ok ox =>
    ha.sim φ ρ σ h H _ _ _ rh rs q (fun φ1 h1 H1 ds vs e1 rh1 r1 q1 => ⟨φ1, h1, ds, Qm, fun _ _ => False, rh1, r1, q1, ok.to e1, fun _ _ _ _ _ _ _ _ _ z => z.elim⟩) ox
/-- isinstance(e, c), e the error at hand -/
abbrev mIsErr (errs : List Str) (c : Str) (xc : Xc) : ME := fun _ h Q _ => xc.c ∈ errs ∧ Q (.bl (subC xc.c c)) h
theorem ce_isErr {errs : List Str} {en : Str} {i : Nat} {a : Addr} {oe : Obj} {cls : Value} {d : Option Addr} {pn : List (Addr × Obj)} {xc : Xc} {pe pc : Pos}
    (kit : ∀ a ∈ errs, PySem.W.kitOne X.K (.ref (He.ga X.K a)) (.ref (He.ga X.K c)) = some (subC a c)) (exc : ∀ a ∈ errs, ExcC X.K (He.ga X.K a)) (hz : L2N.Zn cls d oe) (hf : ∃ vs, oe.data = .fields vs)
    (hg : Gl X "isinstance") (hm : X.mg "isinstance" = none) (hm2 : X.mg c = some (.ref (He.ga X.K c))) (hg2 : Gl X c) (hN : X.N[i]? = some en) (hv : Vis X.env.scope en)
    (hd : (en == ("__debug__" : Str)) = false := by decide) (hcd : (en == ("__classdict__" : Str)) = false := by decide) (hd2 : (c == ("__debug__" : Str)) = false := by decide)
    (h1 : starEach [.Name en pe, .Name c pc] X.env = (false, eval (.Name en pe) X.env) :: starEach [.Name c pc] X.env := by rfl) (h2 : starEach [.Name c pc] X.env = (false, eval (.Name c pc) X.env) :: starEach [] X.env := by rfl)
    (h3 : (backTo pos (starEach [.Name c pc] X.env)).any (·.1) = false := by rfl) :
    CE (X.suite a ((a, oe) :: pn)) (Wh i a xc cls d) (.Call (.Name "isinstance" p) [.Name en pe, .Name c pc] [] pos) (mIsErr errs c xc) :=
  .of (pe_callB (X := X.suite a ((a, oe) :: pn)) (call_isD hz.zc hf) hg hm (by decide +kernel) (pa_cons (pe_var (X := X.suite a ((a, oe) :: pn)) hN hv hd hcd) (pa_cons (pe_glob (v := .ref (He.ga X.K c)) hg2 hm2 rfl hd2) pa_nil h2) h1) (he := h1) (hpl := h3)) fun φ ρ σ h H Qm Q Xm rh rs q ok ox => by
    obtain ⟨z1, z2, dd, fvs, z3, z4, z5⟩ := rs.z
    obtain ⟨q1, q2⟩ := q
    exact ⟨_, z1, _, .ref (He.ga X.K c), .ref (He.ga X.K c), _, dd, fvs, z2, exc _ q1, rfl, .own _, kit _ q1, z3, z4, ok _ _ _ _ _ .refl rh (.bl _) q2⟩
end
section
variable {P : Program} {w : World} {K : PySem.W.Frag} {mg : Str → Option Value} {base : Heap}
theorem mk_fnH {x : Str} {st : Stmt} {N ps : List Str} {k : Nat} {sp : SpM} {m : MS} (T : My.Have K mg x st) (S : C8.scC N ps (defScope st) = true) (b : Bnd x x st ps)
    (len : ∀ ds h Q E, sp ds h Q E → ds.length = ps.length)
    (hbody : ∀ (f : Addr) (cdv : Value) (A : Around) (outer : List Env) (s : Shared) (H : Hp) (E : XK) (p : Addr × Obj), L2H.RoomH k (A.deeper (envOfC x (defScope st) s.heap.objs.size f cdv)) →
      L2H.HotC (L2H.cxH CX0 P w K mg base N x (defScope st) f cdv A outer s H E p) →
      CSs (L2H.cxH CX0 P w K mg base N x (defScope st) f cdv A outer s H E p) Wf (defBody st) m)
    (main : ∀ ds h Q E, sp ds h Q E → m (endM Q fun _ _ => False) (startE N ds) h) : FnHt P w K mg base (k + 1) x sp := by
  obtain ⟨f, fd, F, g⟩ := T.ex
  refine ⟨f, fd, ps, My.FunD.okH F (C8.fnScope_by S) (fun vs H Q E h => ?_) (fun cdv A outer s H vs Q E p hp hr h => ?_), g, F.kp, F.bindsN b⟩
  · obtain ⟨φ, h', ds, Qm, Xm, rh, r, q, _⟩ := h
    rw [← r.len]; exact len _ _ _ _ q
  · obtain ⟨φ, h', ds, Qm, Xm, rh, r, q, ok, ox⟩ := h
    have c := hbody f cdv A outer s H E p hr ⟨p, hp, List.mem_singleton.mpr rfl⟩
    exact ⟨_, cSs.pss, c.sim φ (startE N ds) (L2.start N vs) h' H (endM Qm fun _ _ => False) _ rh (rs_start r) (main _ _ _ _ q)
      ⟨fun φ' ρ σ g H' e r' _ z => ok _ _ _ _ _ e r' .non z, fun _ _ _ _ _ _ _ _ z => z.elim, fun _ _ _ _ _ _ _ _ z => z.elim, ok, fun φ' ρ σ g H' x cls dx e r' _ rx z => z.elim⟩⟩
end
end L3

namespace L3
open PySem PySem.Spec PyProof.Rows L2
section
variable {X : Cx} {W : Wz} {tg e : Expr} {pos : Pos}
theorem lc_sim {elt iter : Expr} {ifs : List Expr} {scope : Scope} (own : List (Str × Nat)) {mi : MI} {g : MG} {tt : MT} {te : ME} {ti : TI} (pi : PI X tg iter ti) (si : SimI X.K W ti mi)
    (hg : ∀ (s : Shared) (H : Hp) (C : Addr) (cl : List (Str × Addr)) (fp : List Addr), CG (X.blk s H scope (compEnvC scope cl C X.env) fp) Wf (own.map (·.2)) tg g)
    (ht : ∀ (s : Shared) (H : Hp) (C : Addr) (cl : List (Str × Addr)) (fp : List Addr), CTs (X.blk s H scope (compEnvC scope cl C X.env) fp) ifs tt)
    (he : ∀ (s : Shared) (H : Hp) (C : Addr) (cl : List (Str × Addr)) (fp : List Addr), CE (X.blk s H scope (compEnvC scope cl C X.env) fp) Wf elt te) :
    SimE X.K W (tLc ti (cGU (fun i : Shared × Hp × Addr × List (Str × Addr) × List Addr => X.blk i.1 i.2.1 scope (compEnvC scope i.2.2.2.1 i.2.2.1 X.env) i.2.2.2.2) tg) (cTU (fun i : Shared × Hp × Addr × List (Str × Addr) × List Addr => X.blk i.1 i.2.1 scope (compEnvC scope i.2.2.2.1 i.2.2.1 X.env) i.2.2.2.2) ifs) (cEU (fun i : Shared × Hp × Addr × List (Str × Addr) × List Addr => X.blk i.1 i.2.1 scope (compEnvC scope i.2.2.2.1 i.2.2.1 X.env) i.2.2.2.2) elt) (own.map (·.2))) (mLc (own.map (·.2)) mi g tt te) := by
  intro φ ρ σ h H Qm Q Xm rh rs q okv ox
  have noX : ∀ {φ : List Addr} {H : Hp} {τ : L2.St}, OkX X.K φ H τ (fun _ _ => False) Wf := fun _ _ _ _ _ _ _ _ _ z => z.elim
  refine si φ ρ σ h H _ _ _ rh rs q (fun φ1 h1 H1 J xs gd e1 rh1 it q1 => ?_) ox
  intro Dp hD
  obtain ⟨hx, q1⟩ := q1
  have rs1 : RS X.K none φ1 H1 (wipeE ρ (own.map (·.2))) (L2.wipe σ (own.map (·.2))) := (rs.to rh e1).none_.wipe _
  obtain ⟨rh2, e2⟩ := rh1.new hD (.lst [])
  refine ⟨fun i m H' => ∃ φ' h' acc vacc, Ext φ1 H1 φ' H' ∧ RH X.K φ' h' H' ∧ Dp ∉ φ' ∧ H' Dp = some (.lst vacc) ∧ RDs X.K φ' H' acc vacc ∧ RS X.K none φ' H' (wipeE ρ (own.map (·.2))) (L2.wipe σ (own.map (·.2))) ∧ acc.length ≤ i ∧ i ≤ xs.length ∧ m = xs.length - i ∧
    lcGo g tt te gd Qm (xs.drop i) acc (wipeE ρ (own.map (·.2))) h', ⟨xs.length, φ1, h1, [], [], e2, rh2, rh1.fresh hD, upd_same, .nil, rs1.mo e2.toMo, Nat.le_refl _, Nat.zero_le _, by simp, by rw [List.drop_zero]; exact q1⟩, ?_⟩
  rintro i m H' ⟨φ', h', acc, vacc, E1, rh', nD, eD, ra, rs', la, li, rfl, q'⟩
  by_cases hlt : i < xs.length
  · have e0 : xs[i]? = some xs[i] := List.getElem?_eq_getElem hlt
    rw [drop_cons e0] at q'
    obtain ⟨j1, j2⟩ := (it φ' h' H' E1.toMo rh' q'.1).1 i _ e0
    refine .inr ⟨j1, fun H2 => ∃ φ2 h2 acc2 vacc2, Ext φ1 H1 φ2 H2 ∧ RH X.K φ2 h2 H2 ∧ Dp ∉ φ2 ∧ H2 Dp = some (.lst vacc2) ∧ RDs X.K φ2 H2 acc2 vacc2 ∧ RS X.K none φ2 H2 (wipeE ρ (own.map (·.2))) (L2.wipe σ (own.map (·.2))) ∧ acc2.length ≤ i + 1 ∧
      lcGo g tt te gd Qm (xs.drop (i + 1)) acc2 (wipeE ρ (own.map (·.2))) h2, ?_, fun x H2 y => ?_⟩
    · rintro H2 ⟨φ2, h2, acc2, vacc2, a1, a2, a3, a4, a5, a6, a7, a8⟩
      exact ⟨xs.length - (i + 1), by omega, φ2, h2, acc2, vacc2, a1, a2, a3, a4, a5, a6, a7, hlt, rfl, a8⟩
    · obtain ⟨x2, rh2, rd⟩ := j2 x H2 y
      intro iy pins s u I r
      obtain ⟨s0, H0, C, cl, fp⟩ := iy
      obtain ⟨tg', pg, sg⟩ := (hg s0 H0 C cl fp).ex
      refine pg.run pins s _ H2 x u _ I r (sg φ' _ _ h' H2 _ _ _ _ _ rh2 (rs'.to rh' x2) rd q'.2 (fun φ3 ρ3 σ3 h3 H3 x3 rh3 rs3 w3 q3 => ⟨w3.trans ?_, ?_⟩) noX)
      · exact wipe_wipe _
      · intro iy pins s I
        obtain ⟨s0, H0, C, cl, fp⟩ := iy
        obtain ⟨tt', pt, st⟩ := (ht s0 H0 C cl fp).ex
        refine pt.run pins s _ H3 _ I (st φ3 _ _ h3 H3 _ _ _ rh3 rs3 q3 (fun φ4 h4 H4 b x4 rh4 q4 => ?_) noX)
        have K3 := x2.trans (x3.trans x4)
        obtain ⟨k1, k2⟩ := K3.keep _ _ eD nD
        have rs4 := (rs'.to rh' K3)
        have E4 := E1.trans K3
        cases b with
        | false => exact ⟨φ4, h4, acc, vacc, E4, rh4, k2, k1, ra.to K3.toMo, rs4, Nat.le_succ_of_le la, q4⟩
        | true =>
          intro iy pins s I
          obtain ⟨s0, H0, C, cl, fp⟩ := iy
          refine (he s0 H0 C cl fp).sim φ4 _ _ h4 H4 _ _ _ rh4 (rs3.to rh3 x4) q4 (fun φ5 h5 H5 d v x5 rh5 rd5 q5 => ?_) noX pins s I
          obtain ⟨k3, k4⟩ := x5.keep _ _ k1 k2
          have E5 := E4.trans x5
          obtain ⟨rh6, m6⟩ := rh5.side (us := vacc ++ [v]) k4 k3
          have ra5 := (ra.to K3.toMo).to x5.toMo
          refine ⟨vacc, k3, by rw [← ra.len]; exact Nat.lt_of_le_of_lt la (Nat.lt_of_lt_of_le hlt (big hx)), φ5, h5, acc ++ [d], vacc ++ [v], ⟨⟨E5.pre, fun a xs z => m6.tup _ _ (E5.tup _ _ z), fun a o u z => m6.frz _ _ _ (E5.frz _ _ _ z)⟩, fun a o z na => ?_⟩, rh6, k4, upd_same, (ra5.snoc rd5).to m6, (rs4.to rh4 x5).mo m6, ?_, q5⟩
          · rw [upd_ne (ne_of_none z hD)]
            exact E5.keep _ _ z na
          · rw [List.length_append]
            exact Nat.succ_le_succ la
  · have hi2 : i = xs.length := by omega
    subst hi2
    rw [List.drop_length] at q'
    refine .inl ⟨(it φ' h' H' E1.toMo rh' q'.1).2 _ (Nat.le_refl _), ?_⟩
    have rh3 := rh'.reg nD (x := .lst acc) ⟨vacc, eD, ra.to Mo.reg⟩
    refine okv _ _ _ _ _ (e1.trans (E1.reg hD)) rh3 (.loc ?_) q'.2
    rw [← rh'.len]; simp
/-- name = [..] -/
theorem cs_setLc {i : Nat} {y : Str} {py spos : Pos} {elt iter : Expr} {ifs : List Expr} {scope : Scope} (own : List (Str × Nat)) {mi : MI} {g : MG} {tt : MT} {te : ME} (hw : W.ok i = true) (hc : X.calm = true) (hN : X.N.Nodup) (hy : X.N[i]? = some y) (hyl : X.env.scope.names.lookup y = some .local)
    (hsw : swapsWith (.ListComp elt [⟨tg, iter, ifs, 0⟩] scope pos) (some (.Name y py)) spos.line X.env = pure true) (hi : CI X W tg iter mi) (ok : BlkOk X.N X.env.scope scope own)
    (hg : ∀ (s : Shared) (H : Hp) (C : Addr) (cl : List (Str × Addr)) (fp : List Addr), CG (X.blk s H scope (compEnvC scope cl C X.env) fp) Wf (own.map (·.2)) tg g)
    (ht : ∀ (s : Shared) (H : Hp) (C : Addr) (cl : List (Str × Addr)) (fp : List Addr), CTs (X.blk s H scope (compEnvC scope cl C X.env) fp) ifs tt)
    (he : ∀ (s : Shared) (H : Hp) (C : Addr) (cl : List (Str × Addr)) (fp : List Addr), CE (X.blk s H scope (compEnvC scope cl C X.env) fp) Wf elt te) (hs : ∀ x, foldedSetIterable iter X.env x = pure x := by intro _; rfl) :
    CS X W (.Assign [.Name y py] (.ListComp elt [⟨tg, iter, ifs, 0⟩] scope pos) spos) (mSet i (mLc (own.map (·.2)) mi g tt te)) := by
  obtain ⟨ti, pi, si⟩ := hi.ex
  let Y : Shared × Hp × Addr × List (Str × Addr) × List Addr → Cx := fun i => X.blk i.1 i.2.1 scope (compEnvC scope i.2.2.2.1 i.2.2.1 X.env) i.2.2.2.2
  refine .of (ps_setLc (i := i) (g := cGU Y tg) (tt := cTU Y ifs) (te := cEU Y elt) hc hN hy hyl hsw pi ok (fun s H C cl fp => ⟨fun pins s' σ H' v u Q I r h => h (s, H, C, cl, fp) pins s' u I r⟩) (fun s H C cl fp => ⟨fun pins s' σ H' Q I h => h (s, H, C, cl, fp) pins s' I⟩)
    (fun s H C cl fp => ⟨fun pins s' σ H' Q I h => h (s, H, C, cl, fp) pins s' I⟩) hs) fun φ ρ σ h H M E rh rs m l => ?_
  exact lc_sim own pi si hg ht he φ ρ σ h H _ (fun x H1 => gName i x σ H1 E.nx) _ rh rs m (fun φ' h' H' d v e1 rh1 rd q1 => l.nx φ' _ _ h' H' e1 rh1 ((rs.to rh e1).set hw rd) q1) (l.okx rh rs)
end
end L3

/-! dicts whose keys are ints and texts -/
namespace L3
open PySem PySem.Spec PyProof.Rows L2
def dKey : D → Option Key
  | .int i => some (.inl i)
  | .str s => some (.inr s)
  | _ => none
def valQ (kvs : List (Key × D)) (k : Key) : Option D := (kvs.find? fun kv => decide (kv.1 = k)).map (·.2)
def putQ (kvs : List (Key × D)) (k : Key) (d : D) : List (Key × D) :=
  if (kvs.any fun kv => decide (kv.1 = k)) = true then kvs.map (fun kv => if kv.1 = k then (kv.1, d) else kv) else kvs ++ [(k, d)]
theorem length_putQ (kvs : List (Key × D)) (k : Key) (d : D) : (putQ kvs k d).length ≤ kvs.length + 1 := by
  unfold putQ
  split
  · rw [List.length_map]; omega
  · rw [List.length_append, List.length_cons, List.length_nil]; omega
section
variable {K : PySem.W.Frag} {φ φ' : List Addr} {H H' : Hp} {h : MH}
theorem key_rel {d : D} {v : V} {k : Key} (r : RD K φ H d v) (e : dKey d = some k) : v = kV k := by
  cases r <;> simp only [dKey, Option.some.injEq] at e <;> first | (subst e; rfl) | cases e
theorem RKs.len {kvs : List (Key × D)} {vs : List (Key × V)} (r : RKs K φ H kvs vs) : kvs.length = vs.length := Paired.length r
theorem RKs.val {kvs : List (Key × D)} {vs : List (Key × V)} (r : RKs K φ H kvs vs) (k : Key) :
    (valQ kvs k = none ∧ valV vs k = none) ∨ ∃ d v, valQ kvs k = some d ∧ valV vs k = some v ∧ RD K φ H d v := by
  unfold RKs at r
  induction r with
  | nil => exact .inl ⟨rfl, rfl⟩
  | @cons p q ps qs h t ih =>
    obtain ⟨h1, h2⟩ := h
    by_cases e : p.1 = k
    · exact .inr ⟨_, _, by simp [valQ, List.find?_cons, e], valV_pos (h1.symm.trans e), h2⟩
    · have b : valQ (p :: ps) k = valQ ps k := by simp [valQ, List.find?_cons, e]
      rw [b, valV_neg (fun z => e (h1.trans z))]
      exact ih
theorem RKs.put {kvs : List (Key × D)} {vs : List (Key × V)} (r : RKs K φ H kvs vs) (k : Key) {d : D} {v : V} (rd : RD K φ H d v) : RKs K φ H (putQ kvs k d) (L2.putK vs k v) := by
  have ha : (kvs.any fun kv => decide (kv.1 = k)) = vs.any fun kv => decide (kv.1 = k) := by
    unfold RKs at r
    clear rd
    induction r with
    | nil => rfl
    | cons h t ih => rw [List.any_cons, List.any_cons, ih, h.1]
  unfold putQ L2.putK
  rw [ha]
  split
  · clear ha
    unfold RKs at r ⊢
    rename_i hh
    clear hh
    induction r with
    | nil => exact .nil
    | @cons p q ps qs h t ih =>
      rw [List.map_cons, List.map_cons]
      refine .cons ?_ ih
      obtain ⟨h1, h2⟩ := h
      by_cases e : p.1 = k
      · rw [if_pos e, if_pos (h1.symm.trans e)]; exact ⟨h1, rd⟩
      · rw [if_neg e, if_neg (fun z => e (h1.trans z))]; exact ⟨h1, h2⟩
  · exact Paired.snoc r ⟨rfl, rd⟩
def dicAt (h : MH) (n : Nat) (k : List (Key × D) → Prop) : Prop := match h[n]? with | some (.dic kvs) => k kvs | _ => False
theorem dicAt_of {n : Nat} {ds : List (Key × D)} {k : List (Key × D) → Prop} (e : h[n]? = some (.dic ds)) (q : k ds) : dicAt h n k := by unfold dicAt; rw [e]; exact q
theorem RH.rdD (r : RH K φ h H) {n : Nat} {a : Addr} (e : φ[n]? = some a) {k : List (Key × D) → Prop} (q : dicAt h n k) : ∃ ds vs, h[n]? = some (.dic ds) ∧ H a = some (.dK vs) ∧ RKs K φ H ds vs ∧ k ds := by
  unfold dicAt at q
  split at q
  · rename_i kvs e1
    obtain ⟨vs, h1, h2⟩ := r.at_ _ _ _ e e1
    exact ⟨_, vs, e1, h1, h2, q⟩
  · exact q.elim
theorem RH.chgD (r : RH K φ h H) {n : Nat} {a : Addr} (e : φ[n]? = some a) {ds : List (Key × D)} {vs : List (Key × V)} (q : RKs K φ H ds vs) : RH K φ (h.set n (.dic ds)) (upd H a (.dK vs)) ∧ Ext φ H φ (upd H a (.dK vs)) :=
  r.chg e fun m => ⟨vs, upd_same, RKs.to q m⟩
theorem RH.sideD (r : RH K φ h H) {p : Addr} {vs us : List (Key × V)} (n : p ∉ φ) (e : H p = some (.dK vs)) : RH K φ h (upd H p (.dK us)) ∧ Mo φ H φ (upd H p (.dK us)) := by
  have m : Mo φ H φ (upd H p (.dK us)) := ⟨fun _ _ h => h, fun a xs q => by rw [upd_ne (fun z => by rw [z, e] at q; cases q)]; exact q, fun a o u q => by rw [upd_ne (fun z => by rw [z, e] at q; cases q)]; exact q⟩
  refine ⟨⟨r.len, r.nd, fun k a x e1 e2 => (r.at_ k a x e1 e2).to m (upd_ne fun z => n ?_)⟩, m⟩
  rw [← z]; exact List.mem_iff_getElem?.mpr ⟨k, e1⟩
end
section
variable {X : Cx} {W : Wz} {a b c e tg : Expr} {pos : Pos}
/-- d[y] -/
def oDGet : MO := fun x y h Q => match x, dKey y with
  | .loc n, some k => dicAt h n fun kvs => (match valQ kvs k with | some d => Q d h | none => False)
  | _, _ => False
theorem oDGet_of {h : MH} {n : Nat} {y d d' : D} {k : Key} {kvs : List (Key × D)} {Q : D → MH → Prop} (e : h[n]? = some (.dic kvs)) (ey : dKey y = some k) (ed : valQ kvs k = some d) (ed2 : d = d') (q : Q d' h) : oDGet (.loc n) y h Q := by
  subst ed2
  unfold oDGet
  rw [ey]
  refine dicAt_of e ?_
  rw [ed]; exact q
theorem ce_dget {j : Nat} {ma mb : ME} (hr : L2H.RoomH j X.A) (ha : CE X W a ma) (hb : CE X W b mb) (hs : NoSl b) : CE X W (.Subscript a b pos) (mOp oDGet ma mb) :=
  .of (pe_dget (by have := hr.un; omega) cE.pe cE.pe hs) fun φ ρ σ h H Qm Q Xm rh rs m ok ox =>
  ha.sim φ ρ σ h H _ _ _ rh rs m (fun φ1 h1 H1 d1 v1 e1 rh1 rx q1 => hb.sim φ1 ρ σ h1 H1 _ _ _ rh1 (rs.to rh e1) q1 (fun φ2 h2 H2 d2 v2 e2 rh2 ry q2 => by
    have rx2 := rx.to e2.toMo
    unfold oDGet at q2
    split at q2
    · rename_i n k ek
      cases rx2 with
      | loc e0 =>
        obtain ⟨ds, vs, _, hv, r, q3⟩ := rh2.rdD e0 q2
        rcases RKs.val r k with ⟨z, _⟩ | ⟨d, v, z1, z2, z3⟩
        · rw [z] at q3; exact q3.elim
        · rw [z1] at q3
          have ev := key_rel ry ek
          subst ev
          refine ⟨_, v, rfl, ?_, ok _ _ _ _ _ (e1.trans e2) rh2 z3 q3⟩
          have := DGet.k (k := k) hv
          rw [z2] at this
          exact this
    · exact q2.elim) (ox.to e1)) ox
/-- y in d, y not in d -/
def oDIn (f : Bool → Bool) : MO := fun y x h Q => match x, dKey y with
  | .loc n, some k => dicAt h n fun kvs => Q (.bl (f (valQ kvs k).isSome)) h
  | _, _ => False
theorem oDIn_of {f : Bool → Bool} {h : MH} {n : Nat} {y : D} {k : Key} {kvs : List (Key × D)} {Q : D → MH → Prop} (e : h[n]? = some (.dic kvs)) (ey : dKey y = some k) (q : Q (.bl (f (valQ kvs k).isSome)) h) : oDIn f y (.loc n) h Q := by
  unfold oDIn
  rw [ey]
  exact dicAt_of e q
theorem din_rel {K : PySem.W.Frag} {φ : List Addr} {h : MH} {H : Hp} {f : Bool → Bool} {dx dy : D} {x y : V} {Qm : D → MH → Prop} (rh : RH K φ h H) (ry : RD K φ H dy y) (rx : RD K φ H dx x) (m : oDIn f dy dx h Qm) :
    ∃ a o, x = .ref a ∧ DGet H a y o ∧ Qm (.bl (f o.isSome)) h := by
  unfold oDIn at m
  split at m
  · rename_i n k ek
    cases rx with
    | loc e0 =>
      obtain ⟨ds, vs, _, hv, r, q3⟩ := rh.rdD e0 m
      have ev := key_rel ry ek
      subst ev
      refine ⟨_, valV vs k, rfl, DGet.k hv, ?_⟩
      rcases RKs.val r k with ⟨z, y⟩ | ⟨d, v, z1, z2, z3⟩
      · rw [y]; rw [z] at q3; exact q3
      · rw [z2]; rw [z1] at q3; exact q3
  · exact m.elim
theorem sim_din {ma mb : ME} (ha : CE X W a ma) (hb : CE X W b mb) : SimE X.K W (tDIn (cE X a) (cE X b)) (mOp (oDIn fun b => b) ma mb) := fun φ ρ σ h H Qm Q Xm rh rs m ok ox =>
  ha.sim φ ρ σ h H _ _ _ rh rs m (fun φ1 h1 H1 d1 v1 e1 rh1 rx q1 => hb.sim φ1 ρ σ h1 H1 _ _ _ rh1 (rs.to rh e1) q1 (fun φ2 h2 H2 d2 v2 e2 rh2 ry q2 => by
    obtain ⟨ad, o, z1, z2, z3⟩ := din_rel rh2 (rx.to e2.toMo) ry q2
    exact ⟨ad, o, z1, z2, ok _ _ _ _ _ (e1.trans e2) rh2 (.bl _) z3⟩) (ox.to e1)) ox
theorem sim_dnotin {ma mb : ME} (ha : CE X W a ma) (hb : CE X W b mb) : SimE X.K W (tDNotIn (cE X a) (cE X b)) (mOp (oDIn fun b => !b) ma mb) := fun φ ρ σ h H Qm Q Xm rh rs m ok ox =>
  ha.sim φ ρ σ h H _ _ _ rh rs m (fun φ1 h1 H1 d1 v1 e1 rh1 rx q1 => hb.sim φ1 ρ σ h1 H1 _ _ _ rh1 (rs.to rh e1) q1 (fun φ2 h2 H2 d2 v2 e2 rh2 ry q2 => by
    obtain ⟨ad, o, z1, z2, z3⟩ := din_rel rh2 (rx.to e2.toMo) ry q2
    exact ⟨ad, o, z1, z2, ok _ _ _ _ _ (e1.trans e2) rh2 (.bl _) z3⟩) (ox.to e1)) ox
theorem ce_din {j : Nat} {ma mb : ME} (hr : L2H.RoomH j X.A) (ha : CE X W a ma) (hb : CE X W b mb) (hm : behindInMarks .In b = false) : CE X W (.Compare a [.In] [b] pos) (mOp (oDIn fun b => b) ma mb) :=
  .of (pe_cmp (pc_din (by have := hr.un; omega) cE.pe cE.pe) hm) (sim_din ha hb)
theorem ce_dnotin {j : Nat} {ma mb : ME} (hr : L2H.RoomH j X.A) (ha : CE X W a ma) (hb : CE X W b mb) (hm : behindInMarks .NotIn b = false) : CE X W (.Compare a [.NotIn] [b] pos) (mOp (oDIn fun b => !b) ma mb) :=
  .of (pe_cmp (pc_dnotin (by have := hr.un; omega) cE.pe cE.pe) hm) (sim_dnotin ha hb)
/-- {} -/
abbrev mDNew : ME := fun _ h Q _ => Q (.loc h.length) (h ++ [.dic []])
theorem push_dic {K : PySem.W.Frag} {φ : List Addr} {h : MH} {H : Hp} {p : Addr} {ds : List (Key × D)} {vs : List (Key × V)} (rh : RH K φ h H) (hp : H p = none) (r : RKs K φ H ds vs) :
    RH K (φ ++ [p]) (h ++ [.dic ds]) (upd H p (.dK vs)) ∧ Ext φ H (φ ++ [p]) (upd H p (.dK vs)) ∧ RD K (φ ++ [p]) (upd H p (.dK vs)) (.loc h.length) (.ref p) := by
  have e := (rh.new hp (.dK vs)).2.reg hp
  obtain ⟨r1, r2⟩ := rh.push hp (o := .dK vs) (x := .dic ds) ⟨vs, upd_same, RKs.to r e.toMo⟩
  refine ⟨r1, r2, .loc ?_⟩
  rw [← rh.len]; simp
theorem ce_dnew : CE X W (.Dict [] [] pos) mDNew := .of pe_dnewK fun φ ρ σ h H Qm Q Xm rh rs q ok ox => fun p hp => by
  obtain ⟨r1, r2, r3⟩ := push_dic (ds := []) (vs := []) rh hp .nil
  exact ok _ _ _ _ _ r2 r1 r3 q
/-- d[y] = v -/
def oDPut : D → D → D → MH → (MH → Prop) → Prop := fun o i d h Q => match o, dKey i with
  | .loc n, some k => dicAt h n fun kvs => kvs.length < 100000 ∧ Q (h.set n (.dic (putQ kvs k d)))
  | _, _ => False
theorem oDPut_of {h : MH} {n : Nat} {y d : D} {k : Key} {kvs : List (Key × D)} {Q : MH → Prop} (e : h[n]? = some (.dic kvs)) (ey : dKey y = some k) (l : kvs.length < 100000) (q : Q (h.set n (.dic (putQ kvs k d)))) : oDPut (.loc n) y d h Q := by
  unfold oDPut
  rw [ey]
  exact dicAt_of e ⟨l, q⟩
abbrev mDPut (mo mi mv : ME) : MS := fun M ρ h => mv ρ h (fun d h1 => mo ρ h1 (fun o h2 => mi ρ h2 (fun i h3 => oDPut o i d h3 (M.nx ρ)) (fun x h => M.ex x ρ h)) (fun x h => M.ex x ρ h)) (fun x h => M.ex x ρ h)
theorem cs_dput {j : Nat} {pos' : Pos} {o i value : Expr} {mo mi mv : ME} (hr : L2H.RoomH j X.A) (ho : CE X W o mo) (hi : CE X W i mi) (hv : CE X W value mv) (hs : swapsWith value (some (.Subscript o i pos')) pos.line X.env = pure false := by rfl) :
    CS X W (.Assign [.Subscript o i pos'] value pos) (mDPut mo mi mv) :=
  .of (ps_dput (by have := hr.un; omega) cE.pe cE.pe cE.pe hs) fun φ ρ σ h H M E rh rs q l =>
  hv.sim φ ρ σ h H _ _ _ rh rs q (fun φ1 h1 H1 d1 v1 e1 rh1 r1 q1 => ho.sim φ1 ρ σ h1 H1 _ _ _ rh1 (rs.to rh e1) q1 (fun φ2 h2 H2 d2 v2 e2 rh2 r2 q2 => hi.sim φ2 ρ σ h2 H2 _ _ _ rh2 (rs.to rh (e1.trans e2)) q2 (fun φ3 h3 H3 d3 v3 e3 rh3 r3 q3 => by
    have E3 := e1.trans (e2.trans e3)
    have rx := r2.to e3.toMo
    have rv := r1.to (e2.trans e3).toMo
    unfold oDPut at q3
    split at q3
    · rename_i n k ek
      cases rx with
      | loc e0 =>
        obtain ⟨ds, vs, _, hv, r, q4, q5⟩ := rh3.rdD e0 q3
        have ev := key_rel r3 ek
        subst ev
        obtain ⟨rh4, e4⟩ := rh3.chgD e0 (r.put k rv)
        exact ⟨_, _, rfl, DPut.k hv (by rw [← r.len]; exact Nat.lt_of_lt_of_le q4 (big (Nat.le_refl _))), l.nx _ _ _ _ _ (E3.trans e4) rh4 (rs.to rh (E3.trans e4)) q5⟩
    · exact q3.elim) ((l.okx rh rs).to (e1.trans e2))) ((l.okx rh rs).to e1)) (l.okx rh rs)
/-- {k: v for ..} -/
def dcGo (g : MG) (tt : MT) (tk tv : ME) (gd : MH → Prop) (Q : D → MH → Prop) : List D → List (Key × D) → Ev → MH → Prop
  | [], acc => fun _ h => gd h ∧ Q (.loc h.length) (h ++ [.dic acc])
  | d :: ds, acc => fun ρ h => gd h ∧ g d ρ h (fun ρ1 h1 => tt ρ1 h1 (fun b h2 => ifB b (tk ρ1 h2 (fun y h3 => tv ρ1 h3 (fun z h4 => ∃ k, dKey y = some k ∧ dcGo g tt tk tv gd Q ds (putQ acc k z) ρ h4) (fun _ _ => False)) (fun _ _ => False)) (dcGo g tt tk tv gd Q ds acc ρ h2)) (fun _ _ => False)) (fun _ _ => False)
abbrev mDc (vs : List Nat) (mi : MI) (g : MG) (tt : MT) (tk tv : ME) : ME := fun ρ h Q E => mi ρ h (fun xs gd h1 => xs.length ≤ 100000 ∧ dcGo g tt tk tv gd Q xs [] (wipeE ρ vs) h1) E
theorem dc_sim {kx vx iter : Expr} {ifs : List Expr} {scope : Scope} (own : List (Str × Nat)) {mi : MI} {g : MG} {tt : MT} {tk tv : ME} {ti : TI} (pi : PI X tg iter ti) (si : SimI X.K W ti mi)
    (hg : ∀ (s : Shared) (H : Hp) (C : Addr) (cl : List (Str × Addr)) (fp : List Addr), CG (X.blk s H scope (compEnvC scope cl C X.env) fp) Wf (own.map (·.2)) tg g)
    (ht : ∀ (s : Shared) (H : Hp) (C : Addr) (cl : List (Str × Addr)) (fp : List Addr), CTs (X.blk s H scope (compEnvC scope cl C X.env) fp) ifs tt)
    (hk : ∀ (s : Shared) (H : Hp) (C : Addr) (cl : List (Str × Addr)) (fp : List Addr), CE (X.blk s H scope (compEnvC scope cl C X.env) fp) Wf kx tk)
    (he : ∀ (s : Shared) (H : Hp) (C : Addr) (cl : List (Str × Addr)) (fp : List Addr), CE (X.blk s H scope (compEnvC scope cl C X.env) fp) Wf vx tv) :
    SimE X.K W (tDc ti (cGU (fun i : Shared × Hp × Addr × List (Str × Addr) × List Addr => X.blk i.1 i.2.1 scope (compEnvC scope i.2.2.2.1 i.2.2.1 X.env) i.2.2.2.2) tg) (cTU (fun i : Shared × Hp × Addr × List (Str × Addr) × List Addr => X.blk i.1 i.2.1 scope (compEnvC scope i.2.2.2.1 i.2.2.1 X.env) i.2.2.2.2) ifs) (cEU (fun i : Shared × Hp × Addr × List (Str × Addr) × List Addr => X.blk i.1 i.2.1 scope (compEnvC scope i.2.2.2.1 i.2.2.1 X.env) i.2.2.2.2) kx) (cEU (fun i : Shared × Hp × Addr × List (Str × Addr) × List Addr => X.blk i.1 i.2.1 scope (compEnvC scope i.2.2.2.1 i.2.2.1 X.env) i.2.2.2.2) vx) (own.map (·.2))) (mDc (own.map (·.2)) mi g tt tk tv) := by
  intro φ ρ σ h H Qm Q Xm rh rs q okv ox
  have noX : ∀ {φ : List Addr} {H : Hp} {τ : L2.St}, OkX X.K φ H τ (fun _ _ => False) Wf := fun _ _ _ _ _ _ _ _ _ z => z.elim
  refine si φ ρ σ h H _ _ _ rh rs q (fun φ1 h1 H1 J xs gd e1 rh1 it q1 => ?_) ox
  intro Dp hD
  obtain ⟨hx, q1⟩ := q1
  have rs1 : RS X.K none φ1 H1 (wipeE ρ (own.map (·.2))) (L2.wipe σ (own.map (·.2))) := (rs.to rh e1).none_.wipe _
  obtain ⟨rh2, e2⟩ := rh1.new hD (.dK [])
  refine ⟨fun i m H' => ∃ φ' h' acc vacc, Ext φ1 H1 φ' H' ∧ RH X.K φ' h' H' ∧ Dp ∉ φ' ∧ H' Dp = some (.dK vacc) ∧ RKs X.K φ' H' acc vacc ∧ RS X.K none φ' H' (wipeE ρ (own.map (·.2))) (L2.wipe σ (own.map (·.2))) ∧ acc.length ≤ i ∧ i ≤ xs.length ∧ m = xs.length - i ∧
    dcGo g tt tk tv gd Qm (xs.drop i) acc (wipeE ρ (own.map (·.2))) h', ⟨xs.length, φ1, h1, [], [], e2, rh2, rh1.fresh hD, upd_same, .nil, rs1.mo e2.toMo, Nat.le_refl _, Nat.zero_le _, by simp, by rw [List.drop_zero]; exact q1⟩, ?_⟩
  rintro i m H' ⟨φ', h', acc, vacc, E1, rh', nD, eD, ra, rs', la, li, rfl, q'⟩
  by_cases hlt : i < xs.length
  · have e0 : xs[i]? = some xs[i] := List.getElem?_eq_getElem hlt
    rw [drop_cons e0] at q'
    obtain ⟨j1, j2⟩ := (it φ' h' H' E1.toMo rh' q'.1).1 i _ e0
    refine .inr ⟨j1, fun H2 => ∃ φ2 h2 acc2 vacc2, Ext φ1 H1 φ2 H2 ∧ RH X.K φ2 h2 H2 ∧ Dp ∉ φ2 ∧ H2 Dp = some (.dK vacc2) ∧ RKs X.K φ2 H2 acc2 vacc2 ∧ RS X.K none φ2 H2 (wipeE ρ (own.map (·.2))) (L2.wipe σ (own.map (·.2))) ∧ acc2.length ≤ i + 1 ∧
      dcGo g tt tk tv gd Qm (xs.drop (i + 1)) acc2 (wipeE ρ (own.map (·.2))) h2, ?_, fun x H2 y => ?_⟩
    · rintro H2 ⟨φ2, h2, acc2, vacc2, a1, a2, a3, a4, a5, a6, a7, a8⟩
      exact ⟨xs.length - (i + 1), by omega, φ2, h2, acc2, vacc2, a1, a2, a3, a4, a5, a6, a7, hlt, rfl, a8⟩
    · obtain ⟨x2, rh2, rd⟩ := j2 x H2 y
      intro iy pins s u I r
      obtain ⟨s0, H0, C, cl, fp⟩ := iy
      obtain ⟨tg', pg, sg⟩ := (hg s0 H0 C cl fp).ex
      refine pg.run pins s _ H2 x u _ I r (sg φ' _ _ h' H2 _ _ _ _ _ rh2 (rs'.to rh' x2) rd q'.2 (fun φ3 ρ3 σ3 h3 H3 x3 rh3 rs3 w3 q3 => ⟨w3.trans ?_, ?_⟩) noX)
      · exact wipe_wipe _
      · intro iy pins s I
        obtain ⟨s0, H0, C, cl, fp⟩ := iy
        obtain ⟨tt', pt, st⟩ := (ht s0 H0 C cl fp).ex
        refine pt.run pins s _ H3 _ I (st φ3 _ _ h3 H3 _ _ _ rh3 rs3 q3 (fun φ4 h4 H4 b x4 rh4 q4 => ?_) noX)
        have K3 := x2.trans (x3.trans x4)
        obtain ⟨k1, k2⟩ := K3.keep _ _ eD nD
        have rs4 := (rs'.to rh' K3)
        have E4 := E1.trans K3
        cases b with
        | false => exact ⟨φ4, h4, acc, vacc, E4, rh4, k2, k1, RKs.to ra K3.toMo, rs4, Nat.le_succ_of_le la, q4⟩
        | true =>
          intro iy pins s I
          obtain ⟨s0, H0, C, cl, fp⟩ := iy
          refine (hk s0 H0 C cl fp).sim φ4 _ _ h4 H4 _ _ _ rh4 (rs3.to rh3 x4) q4 (fun φ5 h5 H5 d5 v5 x5 rh5 rd5 q5 => ?_) noX pins s I
          intro iy pins s I
          obtain ⟨s0, H0, C, cl, fp⟩ := iy
          refine (he s0 H0 C cl fp).sim φ5 _ _ h5 H5 _ _ _ rh5 (rs3.to rh3 (x4.trans x5)) q5 (fun φ6 h6 H6 d6 v6 x6 rh6 rd6 q6 => ?_) noX pins s I
          obtain ⟨k, ek, q6⟩ := q6
          have K6 := x5.trans x6
          obtain ⟨k3, k4⟩ := K6.keep _ _ k1 k2
          have E6 := E4.trans K6
          have ev := key_rel rd5 ek
          obtain ⟨rh7, m7⟩ := rh6.sideD (us := L2.putK vacc k v6) k4 k3
          have ra6 := RKs.to (RKs.to ra K3.toMo) K6.toMo
          refine ⟨vacc, k, ev, k3, by rw [← ra.len]; exact Nat.lt_of_le_of_lt la (Nat.lt_of_lt_of_le hlt (big hx)), φ6, h6, putQ acc k d6, L2.putK vacc k v6, ⟨⟨E6.pre, fun a xs z => m7.tup _ _ (E6.tup _ _ z), fun a o u z => m7.frz _ _ _ (E6.frz _ _ _ z)⟩, fun a o z na => ?_⟩, rh7, k4, upd_same, RKs.to (ra6.put k rd6) m7, (rs4.to rh4 K6).mo m7, ?_, q6⟩
          · rw [upd_ne (ne_of_none z hD)]
            exact E6.keep _ _ z na
          · exact Nat.le_trans (length_putQ _ _ _) (Nat.succ_le_succ la)
  · have hi2 : i = xs.length := by omega
    subst hi2
    rw [List.drop_length] at q'
    refine .inl ⟨(it φ' h' H' E1.toMo rh' q'.1).2 _ (Nat.le_refl _), ?_⟩
    have rh3 := rh'.reg nD (x := .dic acc) ⟨vacc, eD, RKs.to ra Mo.reg⟩
    refine okv _ _ _ _ _ (e1.trans (E1.reg hD)) rh3 (.loc ?_) q'.2
    rw [← rh'.len]; simp
theorem ce_dc {kx vx iter : Expr} {ifs : List Expr} {scope : Scope} (own : List (Str × Nat)) {mi : MI} {g : MG} {tt : MT} {tk tv : ME} (hc : X.calm = true) (hN : X.N.Nodup) (hi : CI X W tg iter mi) (ok : BlkOk X.N X.env.scope scope own)
    (hg : ∀ (s : Shared) (H : Hp) (C : Addr) (cl : List (Str × Addr)) (fp : List Addr), CG (X.blk s H scope (compEnvC scope cl C X.env) fp) Wf (own.map (·.2)) tg g)
    (ht : ∀ (s : Shared) (H : Hp) (C : Addr) (cl : List (Str × Addr)) (fp : List Addr), CTs (X.blk s H scope (compEnvC scope cl C X.env) fp) ifs tt)
    (hk : ∀ (s : Shared) (H : Hp) (C : Addr) (cl : List (Str × Addr)) (fp : List Addr), CE (X.blk s H scope (compEnvC scope cl C X.env) fp) Wf kx tk)
    (he : ∀ (s : Shared) (H : Hp) (C : Addr) (cl : List (Str × Addr)) (fp : List Addr), CE (X.blk s H scope (compEnvC scope cl C X.env) fp) Wf vx tv) (hs : ∀ x, foldedSetIterable iter X.env x = pure x := by intro _; rfl) :
    CE X W (.DictComp kx vx [⟨tg, iter, ifs, 0⟩] scope pos) (mDc (own.map (·.2)) mi g tt tk tv) := by
  obtain ⟨ti, pi, si⟩ := hi.ex
  let Y : Shared × Hp × Addr × List (Str × Addr) × List Addr → Cx := fun i => X.blk i.1 i.2.1 scope (compEnvC scope i.2.2.2.1 i.2.2.1 X.env) i.2.2.2.2
  refine .of (pe_dc (g := cGU Y tg) (tt := cTU Y ifs) (tk := cEU Y kx) (tv := cEU Y vx) hc hN pi ok (fun s H C cl fp => ⟨fun pins s' σ H' v u Q I r h => h (s, H, C, cl, fp) pins s' u I r⟩) (fun s H C cl fp => ⟨fun pins s' σ H' Q I h => h (s, H, C, cl, fp) pins s' I⟩)
    (fun s H C cl fp => ⟨fun pins s' σ H' Q I h => h (s, H, C, cl, fp) pins s' I⟩) (fun s H C cl fp => ⟨fun pins s' σ H' Q I h => h (s, H, C, cl, fp) pins s' I⟩) hs) (dc_sim own pi si hg ht hk he)
theorem sw_trueD {kx vx : Expr} {gs : List Comprehension} {scope : Scope} {pos py : Pos} {y : Str} {l : Nat} {env : Env} (hk : env.scope.kind = .function) (hy : env.scope.names.lookup y = some .local) (hl : (py.line == pos.line) = true)
    (ha : (scope.names.any fun (n, k) => n == y && (k == .local || k == .cell)) = false) : swapsWith (.DictComp kx vx gs scope pos) (some (.Name y py)) l env = pure true := by
  have ky : env.kindOf y = some .local := hy
  have hb : env.blockKind = .function := by unfold Env.blockKind; rw [hk]; rfl
  unfold swapsWith
  simp only [hb, ky, ha, Expr.pos, hl]
  rfl
theorem ps_setDc {i : Nat} {y : Str} {py : Pos} {kx vx iter : Expr} {ifs : List Expr} {scope : Scope} {own : List (Str × Nat)} {spos : Pos} {wi : TI} {g : TG} {tt : TT} {tk tv : TE} (hc : X.calm = true) (hN : X.N.Nodup) (hy : X.N[i]? = some y) (hyl : X.env.scope.names.lookup y = some .local)
    (hsw : swapsWith (.DictComp kx vx [⟨tg, iter, ifs, 0⟩] scope pos) (some (.Name y py)) spos.line X.env = pure true) (hi : PI X tg iter wi) (ok : BlkOk X.N X.env.scope scope own)
    (hg : ∀ (s : Shared) (H : Hp) (C : Addr) (cl : List (Str × Addr)) (fp : List Addr), PG (X.blk s H scope (compEnvC scope cl C X.env) fp) tg g) (ht : ∀ (s : Shared) (H : Hp) (C : Addr) (cl : List (Str × Addr)) (fp : List Addr), PTs (X.blk s H scope (compEnvC scope cl C X.env) fp) ifs tt)
    (hk : ∀ (s : Shared) (H : Hp) (C : Addr) (cl : List (Str × Addr)) (fp : List Addr), PE (X.blk s H scope (compEnvC scope cl C X.env) fp) kx tk)
    (he : ∀ (s : Shared) (H : Hp) (C : Addr) (cl : List (Str × Addr)) (fp : List Addr), PE (X.blk s H scope (compEnvC scope cl C X.env) fp) vx tv) (hs : ∀ x, foldedSetIterable iter X.env x = pure x := by intro _; rfl) :
    PS X (.Assign [.Name y py] (.DictComp kx vx [⟨tg, iter, ifs, 0⟩] scope pos) spos) (tAsg (tDc wi g tt tk tv (own.map (·.2))) (gName i)) := by
  refine ⟨fun pins s σ H D I h => ?_⟩
  rw [exec_Assign_Name_used _ _ _ _ hsw]
  refine wpAny_bind (wpAny_standAt (wpAny_bind ?_))
  show wpAny _ X.A (do let _ ← comprehension (.DictComp kx vx [⟨tg, iter, ifs, 0⟩] scope pos) scope X.env (firstIterPos [⟨tg, iter, ifs, 0⟩] pos) newDict false (eval iter X.env) (some (assign (.Name y py) X.env))) _ _ s
  have h : tDc wi g tt tk tv (own.map (·.2)) σ H (fun x H1 => gName i x σ H1 D.nx) := h
  refine wpAny_bind (thn (dc_core (Qf := fun _ s' => SP X pins D .next s') hc hN I hi ok hg ht hk he hs h fun L C s' m H' I' q hn f => ?_) fun _ s' hq => wpAny_pure (wpAny_pure hq))
  show wpAny _ _ (assign (.Name y py) X.env (.ref L)) _ _ _
  refine wpAny_assign_Name (store_ok2 (v := V.ref L) I' hN hy (.inl hyl) rfl (fun s2 I2 ⟨a, sb, ha⟩ => ?_) (.inr hyl))
  obtain ⟨f0, f1, f2, f3, f4, f5⟩ := f
  have haC : C ≠ a := by
    rcases ha with z | z
    · rw [z]; exact f1
    · exact fun e => f4 y a z e.symm
  refine ⟨m, hn.sameBut sb haC, fun h3 sb3 => ?_⟩
  exact ⟨_, H', I2.turned (t' := s2.toks) (fun b o hb e => (sb3.2 b hb).trans e) f0 f1 f3 f4 f5, q⟩
/-- name = {k: v for ..} -/
theorem cs_setDc {i : Nat} {y : Str} {py spos : Pos} {kx vx iter : Expr} {ifs : List Expr} {scope : Scope} (own : List (Str × Nat)) {mi : MI} {g : MG} {tt : MT} {tk tv : ME} (hw : W.ok i = true) (hc : X.calm = true) (hN : X.N.Nodup) (hy : X.N[i]? = some y) (hyl : X.env.scope.names.lookup y = some .local)
    (hsw : swapsWith (.DictComp kx vx [⟨tg, iter, ifs, 0⟩] scope pos) (some (.Name y py)) spos.line X.env = pure true) (hi : CI X W tg iter mi) (ok : BlkOk X.N X.env.scope scope own)
    (hg : ∀ (s : Shared) (H : Hp) (C : Addr) (cl : List (Str × Addr)) (fp : List Addr), CG (X.blk s H scope (compEnvC scope cl C X.env) fp) Wf (own.map (·.2)) tg g)
    (ht : ∀ (s : Shared) (H : Hp) (C : Addr) (cl : List (Str × Addr)) (fp : List Addr), CTs (X.blk s H scope (compEnvC scope cl C X.env) fp) ifs tt)
    (hk : ∀ (s : Shared) (H : Hp) (C : Addr) (cl : List (Str × Addr)) (fp : List Addr), CE (X.blk s H scope (compEnvC scope cl C X.env) fp) Wf kx tk)
    (he : ∀ (s : Shared) (H : Hp) (C : Addr) (cl : List (Str × Addr)) (fp : List Addr), CE (X.blk s H scope (compEnvC scope cl C X.env) fp) Wf vx tv) (hs : ∀ x, foldedSetIterable iter X.env x = pure x := by intro _; rfl) :
    CS X W (.Assign [.Name y py] (.DictComp kx vx [⟨tg, iter, ifs, 0⟩] scope pos) spos) (mSet i (mDc (own.map (·.2)) mi g tt tk tv)) := by
  obtain ⟨ti, pi, si⟩ := hi.ex
  let Y : Shared × Hp × Addr × List (Str × Addr) × List Addr → Cx := fun i => X.blk i.1 i.2.1 scope (compEnvC scope i.2.2.2.1 i.2.2.1 X.env) i.2.2.2.2
  refine .of (ps_setDc (i := i) (g := cGU Y tg) (tt := cTU Y ifs) (tk := cEU Y kx) (tv := cEU Y vx) hc hN hy hyl hsw pi ok (fun s H C cl fp => ⟨fun pins s' σ H' v u Q I r h => h (s, H, C, cl, fp) pins s' u I r⟩) (fun s H C cl fp => ⟨fun pins s' σ H' Q I h => h (s, H, C, cl, fp) pins s' I⟩)
    (fun s H C cl fp => ⟨fun pins s' σ H' Q I h => h (s, H, C, cl, fp) pins s' I⟩) (fun s H C cl fp => ⟨fun pins s' σ H' Q I h => h (s, H, C, cl, fp) pins s' I⟩) hs) fun φ ρ σ h H M E rh rs m l => ?_
  exact dc_sim own pi si hg ht hk he φ ρ σ h H _ (fun x H1 => gName i x σ H1 E.nx) _ rh rs m (fun φ' h' H' d v e1 rh1 rd q1 => l.nx φ' _ _ h' H' e1 rh1 ((rs.to rh e1).set hw rd) q1) (l.okx rh rs)
end
/-! displays with keys, `in` as a test, name = {..} -/
theorem roomH {k : Nat} {A : Around} (hr : Rm k A) : L2H.RoomH k A := ⟨hr.dp, hr.un⟩
section
variable {X : Cx} {W : Wz} {a b c e tg : Expr} {pos : Pos}
theorem ct_din {j : Nat} {ma mb : ME} (hr : L2H.RoomH j X.A) (ha : CE X W a ma) (hb : CE X W b mb) (hm : behindInMarks .In b = false) : CT X W (.Compare a [.In] [b] pos) (mTst (mOp (oDIn fun b => b) ma mb)) :=
  .of (pt_cmp (pc_din (by have := hr.un; omega) cE.pe cE.pe) hm) (sim_tst (sim_din ha hb))
theorem ct_dnotin {j : Nat} {ma mb : ME} (hr : L2H.RoomH j X.A) (ha : CE X W a ma) (hb : CE X W b mb) (hm : behindInMarks .NotIn b = false) : CT X W (.Compare a [.NotIn] [b] pos) (mTst (mOp (oDIn fun b => !b) ma mb)) :=
  .of (pt_cmp (pc_dnotin (by have := hr.un; omega) cE.pe cE.pe) hm) (sim_tst (sim_dnotin ha hb))
abbrev MPs := Ev → MH → (List (D × D) → MH → Prop) → XQ → Prop
abbrev RPs (K : PySem.W.Frag) (φ : List Addr) (H : Hp) : List (D × D) → List (V × V) → Prop := Paired fun p q => RD K φ H p.1 q.1 ∧ RD K φ H p.2 q.2
structure CPs (X : Cx) (W : Wz) (pos : Pos) (keys : List (Option Expr)) (values : List Expr) (m : MPs) : Prop where
  ex : ∃ trs, PPs X pos keys values trs ∧ ∀ φ ρ σ h H Qm (Q : List (V × V) → Hp → Prop) Xm, RH X.K φ h H → RS X.K W.er φ H ρ σ → m ρ h Qm Xm →
    (∀ φ' h' H' ps vs, Ext φ H φ' H' → RH X.K φ' h' H' → RPs X.K φ' H' ps vs → Qm ps h' → Q vs H') → OkX X.K φ H σ Xm W → tPairs trs σ H Q
abbrev mpNil : MPs := fun _ h Q _ => Q [] h
abbrev mpCons (mk mv : ME) (mr : MPs) : MPs := fun ρ h Q E => mk ρ h (fun x h1 => mv ρ h1 (fun y h2 => mr ρ h2 (fun ps h3 => Q ((x, y) :: ps) h3) E) E) E
theorem cps_nil : CPs X W pos [] [] mpNil := ⟨_, pps_nil, fun φ ρ σ h H Qm Q Xm rh rs m ok ox => ok _ _ _ _ _ .refl rh .nil m⟩
theorem cps_cons {k v : Expr} {ks : List (Option Expr)} {vs : List Expr} {mk mv : ME} {mr : MPs} (hk : CE X W k mk) (hv : CE X W v mv) (hr : CPs X W pos ks vs mr) : CPs X W pos (some k :: ks) (v :: vs) (mpCons mk mv mr) := by
  obtain ⟨trs, pr, sr⟩ := hr.ex
  refine ⟨_, pps_cons cE.pe cE.pe pr, fun φ ρ σ h H Qm Q Xm rh rs m ok ox => ?_⟩
  refine hk.sim φ ρ σ h H _ _ _ rh rs m (fun φ1 h1 H1 d1 v1 e1 rh1 r1 q1 => ?_) ox
  refine hv.sim φ1 ρ σ h1 H1 _ _ _ rh1 (rs.to rh e1) q1 (fun φ2 h2 H2 d2 v2 e2 rh2 r2 q2 => ?_) (ox.to e1)
  exact sr φ2 ρ σ h2 H2 _ _ _ rh2 (rs.to rh (e1.trans e2)) q2 (fun φ3 h3 H3 ps vs e3 rh3 r3 q3 => ok _ _ _ _ _ ((e1.trans e2).trans e3) rh3 (.cons ⟨r1.to (e2.trans e3).toMo, r2.to e3.toMo⟩ r3) q3) (ox.to (e1.trans e2))
def keysOf : List (D × D) → Option (List (Key × D))
  | [] => some []
  | (k, d) :: r => match dKey k, keysOf r with | some k, some r => some ((k, d) :: r) | _, _ => none
theorem keys_rel {K : PySem.W.Frag} {φ : List Addr} {H : Hp} : ∀ {ps : List (D × D)} {vs : List (V × V)} {kvs : List (Key × D)}, RPs K φ H ps vs → keysOf ps = some kvs →
    ∃ us : List (Key × V), vs = us.map (fun kv => (kV kv.1, kv.2)) ∧ RKs K φ H kvs us
  | [], _, _, r, e => by
    cases r
    cases e
    exact ⟨[], rfl, .nil⟩
  | p :: ps, _, _, r, e => by
    cases r with
    | @cons _ q _ qs h t =>
      obtain ⟨pk, pd⟩ := p
      obtain ⟨qk, qv⟩ := q
      unfold keysOf at e
      split at e
      · rename_i k r' e1 e2
        cases e
        obtain ⟨us, h1, h2⟩ := keys_rel t e2
        have ev : qk = kV k := key_rel h.1 e1
        exact ⟨(k, qv) :: us, by rw [List.map_cons, ← h1, ev], .cons ⟨rfl, h.2⟩ h2⟩
      · cases e
theorem mergeK_app : ∀ (more kvs : List (Key × V)), ((kvs ++ more).map (·.1)).Nodup → mergeK kvs more = kvs ++ more
  | [], kvs, _ => by rw [List.append_nil]; rfl
  | p :: r, kvs, nd => by
    have hn : valV kvs p.1 = none := by
      cases q : valV kvs p.1 with
      | none => rfl
      | some x =>
        exfalso
        unfold valV at q
        obtain ⟨z, hz, _⟩ := Option.map_eq_some_iff.mp q
        have h1 := List.mem_of_find?_eq_some hz
        have h2 := List.find?_some hz
        have h2 : z.1 = p.1 := by simpa using h2
        rw [List.map_append, List.nodup_append] at nd
        exact nd.2.2 z.1 (List.mem_map.mpr ⟨z, h1, rfl⟩) p.1 (by simp) h2
    show mergeK (L2.putK kvs p.1 p.2) r = _
    rw [putK_new p.2 hn, mergeK_app r _ (by rw [List.append_assoc]; exact nd), List.append_assoc]
    rfl
/-- no key twice -/
def keyNd : List Key → Bool
  | [] => true
  | k :: ks => !(ks.any fun j => decide (j = k)) && keyNd ks
theorem keyNd_nd : ∀ {ks : List Key}, keyNd ks = true → ks.Nodup
  | [], _ => .nil
  | k :: ks, h => by
    unfold keyNd at h
    rw [Bool.and_eq_true] at h
    refine List.nodup_cons.mpr ⟨fun hm => ?_, keyNd_nd h.2⟩
    have : (ks.any fun j => decide (j = k)) = true := List.any_eq_true.mpr ⟨k, hm, decide_eq_true rfl⟩
    rw [this] at h
    exact nomatch h.1
def dispK (ps : List (D × D)) (h : MH) (Q : D → MH → Prop) : Prop := match keysOf ps with
  | some kvs => keyNd (kvs.map (·.1)) = true ∧ kvs.length ≤ 15 ∧ Q (.loc h.length) (h ++ [.dic kvs])
  | none => False
theorem dispK_of {ps : List (D × D)} {h : MH} {Q : D → MH → Prop} {kvs : List (Key × D)} (e : keysOf ps = some kvs) (nd : keyNd (kvs.map (·.1)) = true) (l : kvs.length ≤ 15) (q : Q (.loc h.length) (h ++ [.dic kvs])) : dispK ps h Q := by
  unfold dispK
  rw [e]
  exact ⟨nd, l, q⟩
abbrev mDisp (m : MPs) : ME := fun ρ h Q E => m ρ h (fun ps h1 => dispK ps h1 Q) E
theorem RKs.keys {K : PySem.W.Frag} {φ : List Addr} {H : Hp} {kvs : List (Key × D)} {vs : List (Key × V)} (r : RKs K φ H kvs vs) : kvs.map (·.1) = vs.map (·.1) := by
  unfold RKs at r
  induction r with
  | nil => rfl
  | cons h t ih => rw [List.map_cons, List.map_cons, ih, h.1]
theorem ce_disp {keys : List (Option Expr)} {values : List Expr} {m : MPs} (hp : CPs X W pos keys values m) (hall : keys.all (·.isSome) = true := by rfl) (hl : keys.length = values.length := by rfl) (h0 : keys ≠ [] := by exact fun z => nomatch z) (h15 : keys.length ≤ 15 := by decide) :
    CE X W (.Dict keys values pos) (mDisp m) := by
  obtain ⟨trs, pr, sr⟩ := hp.ex
  refine .of (pe_disp pr hall hl h0 h15) fun φ ρ σ h H Qm Q Xm rh rs q ok ox => ?_
  intro p hp
  obtain ⟨rh1, e1⟩ := rh.new hp (.dK [])
  refine sr φ ρ σ h _ _ _ Xm rh1 (rs.to rh e1) q (fun φ2 h2 H2 ps vs e2 rh2 r2 q2 => ?_) (ox.to e1)
  unfold dispK at q2
  split at q2
  · rename_i kvs ek
    obtain ⟨nd, l15, q3⟩ := q2
    replace nd := keyNd_nd nd
    obtain ⟨us, hu, ru⟩ := keys_rel r2 ek
    obtain ⟨k1, k2⟩ := e2.keep _ _ upd_same (rh.fresh hp)
    refine ⟨k1, us, hu, by rw [← ru.len]; exact l15, ?_⟩
    rw [mergeK_app us [] (by rw [List.nil_append, ← ru.keys]; exact nd), List.nil_append]
    obtain ⟨rh3, m3⟩ := rh2.sideD (us := us) k2 k1
    have rh4 := rh3.reg k2 (x := .dic kvs) ⟨us, upd_same, RKs.to (RKs.to ru m3) Mo.reg⟩
    have E2 := e1.trans e2
    have E3 : Ext φ H φ2 (upd H2 p (.dK us)) := ⟨⟨E2.pre, fun a xs z => m3.tup _ _ (E2.tup _ _ z), fun a o u z => m3.frz _ _ _ (E2.frz _ _ _ z)⟩, fun a o z na => by
      rw [upd_ne (ne_of_none z hp)]
      exact E2.keep _ _ z na⟩
    refine ok _ _ _ _ _ (E3.reg hp) rh4 (.loc ?_) q3
    rw [← rh2.len]; simp
  · exact q2.elim
end
end L3

/-! list.insert, extend, reverse, index; list and tuple of a range -/
namespace L3
open PySem PySem.Spec PyProof.Rows L2
section
variable {K : PySem.W.Frag} {φ : List Addr} {H : Hp}
theorem RDs.two {d e : D} {vs : List V} (r : RDs K φ H [d, e] vs) : ∃ u v, vs = [u, v] ∧ RD K φ H d u ∧ RD K φ H e v := by
  cases r with
  | cons r1 r2 =>
    obtain ⟨v, rfl, r3⟩ := r2.one
    exact ⟨_, v, rfl, r1, r3⟩
theorem RDs.rev : ∀ {ds : List D} {vs : List V}, RDs K φ H ds vs → RDs K φ H ds.reverse vs.reverse
  | _, _, .nil => .nil
  | _, _, .cons r t => by
    rw [List.reverse_cons, List.reverse_cons]
    exact (RDs.rev t).snoc r
theorem rds_seq (a : Int) : ∀ l : List Nat, RDs K φ H (l.map fun i => D.int (a + (i : Nat))) (l.map fun i => V.int (a + (i : Nat)))
  | [] => .nil
  | i :: l => .cons (.int _) (rds_seq a l)
theorem rds_rg (a b : Int) : RDs K φ H (rngD a (b - a).toNat) (rgV a b) := rds_seq a _
end
abbrev mmInsert : MM := fun d ds h Q => match d, ds with | .loc n, [.int i, y] => wrAt h n fun xs => xs.length < 100000 ∧ 0 ≤ i ∧ i < 100000 ∧ Q .non (h.set n (.lst (xs.take i.toNat ++ [y] ++ xs.drop i.toNat))) | _, _ => False
def rInsert : V → List V → Hp → VK → Prop := fun x vs H Q => ∃ (l : Addr) (xs : List V) (i : Int) (y : V), x = .ref l ∧ vs = [.int i, y] ∧ H l = some (.lst xs) ∧ xs.length < sizeLine ∧ 0 ≤ i ∧ i < 2 ^ 63 ∧
    Q .non (upd H l (.lst (xs.take i.toNat ++ [y] ++ xs.drop i.toNat)))
theorem m_insert {K : PySem.W.Frag} : MMr K rInsert mmInsert := fun φ h H d ds v vs Qm Q rh rx rv m ok => by
  unfold mmInsert at m
  split at m
  · cases rx with
    | loc e0 =>
      rename_i n i y _
      obtain ⟨u, w, rfl, r1, r2⟩ := rv.two
      cases r1
      obtain ⟨xs, vs, h1, r, q⟩ := rh.wrL e0 m
      obtain ⟨q1, q2, q3, q4⟩ := q
      obtain ⟨rh2, x2⟩ := rh.chgL e0 (((r.take i.toNat).snoc r2).app (r.drop i.toNat))
      exact ⟨_, vs, i, w, rfl, rfl, h1, by rw [← r.len]; exact Nat.lt_of_lt_of_le q1 (by decide), q2, by omega, ok _ _ _ _ _ x2 rh2 .non q4⟩
  · exact m.elim
abbrev mmExtend : MM := fun d ds h Q => match d, ds with | .loc n, [.loc k] => wrAt h n fun xs => wrAt h k fun zs => xs.length + zs.length ≤ 100000 ∧ Q .non (h.set n (.lst (xs ++ zs))) | _, _ => False
theorem m_extend {K : PySem.W.Frag} : MMr K rExtend mmExtend := fun φ h H d ds v vs Qm Q rh rx rv m ok => by
  unfold mmExtend at m
  split at m
  · cases rx with
    | loc e0 =>
      obtain ⟨u, rfl, ru⟩ := rv.one
      cases ru with
      | loc e1 =>
        obtain ⟨xs, vs, h1, r, q⟩ := rh.wrL e0 m
        obtain ⟨zs, us, g1, r2, q⟩ := rh.wrL e1 q
        obtain ⟨rh2, x2⟩ := rh.chgL e0 (r.app r2)
        exact ⟨_, _, vs, us, rfl, rfl, h1, g1, by rw [← r.len, ← r2.len]; exact big q.1, ok _ _ _ _ _ x2 rh2 .non q.2⟩
  · exact m.elim
abbrev mmReverse : MM := fun d ds h Q => match d, ds with | .loc n, [] => wrAt h n fun xs => Q .non (h.set n (.lst xs.reverse)) | _, _ => False
theorem m_reverse {K : PySem.W.Frag} : MMr K rReverse mmReverse := fun φ h H d ds v vs Qm Q rh rx rv m ok => by
  unfold mmReverse at m
  split at m
  · cases rx with
    | loc e0 =>
      cases rv
      obtain ⟨xs, vs, h1, r, q⟩ := rh.wrL e0 m
      obtain ⟨rh2, x2⟩ := rh.chgL e0 r.rev
      exact ⟨_, vs, rfl, rfl, h1, ok _ _ _ _ _ x2 rh2 .non q⟩
  · exact m.elim
/-- where the first equal one stands -/
def idxF (y : D) (xs : List D) : Option Nat := xs.findIdx? fun z => eqF z y
abbrev mmIndex : MM := fun d ds h Q => match d, ds with | .loc n, [y] => lstAt h n fun xs => flatD y = true ∧ xs.all flatD = true ∧ (match idxF y xs with | some j => Q (.int (j : Nat)) h | none => False) | _, _ => False
theorem m_index {K : PySem.W.Frag} : MMr K (rIndex K) mmIndex := fun φ h H d ds v vs Qm Q rh rx rv m ok => by
  unfold mmIndex at m
  split at m
  · cases rx with
    | loc e0 =>
      rename_i n y _
      obtain ⟨u, rfl, ru⟩ := rv.one
      obtain ⟨xs, vs, sq, r, q⟩ := rh.rdL e0 m
      obtain ⟨q1, q2, q3⟩ := q
      split at q3
      · rename_i j ej
        obtain ⟨hl, h1, h2⟩ := List.findIdx?_eq_some_iff_getElem.mp ej
        obtain ⟨z, hz, rz⟩ := r.at_ (List.getElem?_eq_getElem hl)
        refine ⟨_, vs, u, j, z, rfl, rfl, sq, by rw [flat_rel ru]; exact q1, by rw [flats_rel r]; exact q2, hz, by rw [eqF_rel rz ru]; exact h1, fun m z' hm hz' => ?_, ok _ _ _ _ _ .refl rh (.int _) q3⟩
        have hm2 : m < xs.length := Nat.lt_trans hm hl
        obtain ⟨z2, hz2, rz2⟩ := r.at_ (List.getElem?_eq_getElem hm2)
        rw [hz'] at hz2
        cases hz2
        rw [eqF_rel rz2 ru]
        have := h2 m hm
        simpa using this
      · exact q3.elim
  · exact m.elim
section
variable {X : Cx} {W : Wz} {o e a b : Expr} {es : List Expr} {pos : Pos}
theorem ce_insert {apos cpos : Pos} {mo : ME} {ma : MA} (ho : CE X W o mo) (ha : CA X W (e :: es) ma)
    (hbase : attributeBase o "insert" X.env (eval o X.env) = eval o X.env := by rfl)
    (hfew : ((backTo cpos (starEach (e :: es) X.env)).all (fun x => !x.1) && (backToKw cpos (keywordEach [] X.env)).all (fun x => x.1.isSome)
      && decide ((e :: es).length + ([] : List Keyword).length + (if ([] : List Keyword).isEmpty then 0 else 1) < 30)) = true := by rfl)
    (hline : (apos.endLine == cpos.line) = true := by rfl) (hs : starEach (e :: es) X.env = (false, eval e X.env) :: starEach es X.env := by rfl) (hplain : (backTo cpos (starEach es X.env)).any (·.1) = false := by rfl) :
    CE X W (.Call (.Attribute o "insert" apos) (e :: es) [] cpos) (mBM mmInsert mo ma) := ce_bm PySem.F.slot_list_insert PySem.F.type_list_insert mt_insert m_insert ho ha hbase hfew hline hs hplain
theorem ce_extend {apos cpos : Pos} {mo : ME} {ma : MA} (ho : CE X W o mo) (ha : CA X W (e :: es) ma)
    (hbase : attributeBase o "extend" X.env (eval o X.env) = eval o X.env := by rfl)
    (hfew : ((backTo cpos (starEach (e :: es) X.env)).all (fun x => !x.1) && (backToKw cpos (keywordEach [] X.env)).all (fun x => x.1.isSome)
      && decide ((e :: es).length + ([] : List Keyword).length + (if ([] : List Keyword).isEmpty then 0 else 1) < 30)) = true := by rfl)
    (hline : (apos.endLine == cpos.line) = true := by rfl) (hs : starEach (e :: es) X.env = (false, eval e X.env) :: starEach es X.env := by rfl) (hplain : (backTo cpos (starEach es X.env)).any (·.1) = false := by rfl) :
    CE X W (.Call (.Attribute o "extend" apos) (e :: es) [] cpos) (mBM mmExtend mo ma) := ce_bm PySem.F.slot_list_extend PySem.F.type_list_extend mt_extend m_extend ho ha hbase hfew hline hs hplain
theorem ce_index {apos cpos : Pos} {mo : ME} {ma : MA} (ho : CE X W o mo) (ha : CA X W (e :: es) ma)
    (hbase : attributeBase o "index" X.env (eval o X.env) = eval o X.env := by rfl)
    (hfew : ((backTo cpos (starEach (e :: es) X.env)).all (fun x => !x.1) && (backToKw cpos (keywordEach [] X.env)).all (fun x => x.1.isSome)
      && decide ((e :: es).length + ([] : List Keyword).length + (if ([] : List Keyword).isEmpty then 0 else 1) < 30)) = true := by rfl)
    (hline : (apos.endLine == cpos.line) = true := by rfl) (hs : starEach (e :: es) X.env = (false, eval e X.env) :: starEach es X.env := by rfl) (hplain : (backTo cpos (starEach es X.env)).any (·.1) = false := by rfl) :
    CE X W (.Call (.Attribute o "index" apos) (e :: es) [] cpos) (mBM mmIndex mo ma) := ce_bm PySem.F.slot_list_index PySem.F.type_list_index mt_index m_index ho ha hbase hfew hline hs hplain
theorem ce_reverse {apos cpos : Pos} {mo : ME} (ho : CE X W o mo) (hbase : attributeBase o "reverse" X.env (eval o X.env) = eval o X.env := by rfl) (hline : (apos.endLine == cpos.line) = true := by rfl) :
    CE X W (.Call (.Attribute o "reverse" apos) [] [] cpos) (mBM0 mmReverse mo) := ce_bm0 PySem.F.slot_list_reverse PySem.F.type_list_reverse mt_reverse m_reverse ho hbase hline
/-- list(range(n)), list(range(m, n)), tuple(..) -/
abbrev mRg1 (f : Int → Int → MH → (D → MH → Prop) → Prop) (ma : ME) : ME := fun ρ h Q E => ma ρ h (fun d h1 => match d with | .int j => (-100000 ≤ j ∧ j ≤ 100000) ∧ f 0 j h1 Q | _ => False) E
abbrev mRg2 (f : Int → Int → MH → (D → MH → Prop) → Prop) (ma mb : ME) : ME := fun ρ h Q E => ma ρ h (fun d h1 => mb ρ h1 (fun e h2 => match d, e with | .int i, .int j => (-100000 ≤ i ∧ i ≤ 100000 ∧ -100000 ≤ j ∧ j ≤ 100000) ∧ f i j h2 Q | _, _ => False) E) E
abbrev fLst : Int → Int → MH → (D → MH → Prop) → Prop := fun i j h Q => Q (.loc h.length) (h ++ [.lst (rngD i (j - i).toNat)])
abbrev fTup : Int → Int → MH → (D → MH → Prop) → Prop := fun i j h Q => Q (.tup (rngD i (j - i).toNat)) h
theorem rgok {i j : Int} (h1 : -100000 ≤ i) (h2 : i ≤ 100000) (h3 : -100000 ≤ j) (h4 : j ≤ 100000) : RgOk i j := ⟨by omega, by omega, by omega, by omega, by omega⟩
theorem f_lst {K : PySem.W.Frag} {φ : List Addr} {h : MH} {H : Hp} {i j : Int} {Qm : D → MH → Prop} {Q : VK} (rh : RH K φ h H) (m : fLst i j h Qm) (ok : Ok1 K φ H Qm Q) : ∀ q, H q = none → Q (.ref q) (upd H q (.lst (rgV i j))) := fun p hp => by
  obtain ⟨rh2, e2, rd⟩ := push_lst rh hp (rds_rg i j)
  exact ok _ _ _ _ _ e2 rh2 rd m
theorem f_tup {K : PySem.W.Frag} {φ : List Addr} {h : MH} {H : Hp} {i j : Int} {Qm : D → MH → Prop} {Q : VK} (rh : RH K φ h H) (m : fTup i j h Qm) (ok : Ok1 K φ H Qm Q) : NewG H (rgV i j) Q := newG_of rh (rds_rg i j) ok m
theorem ce_lstRg1 {p p2 pos2 : Pos} {ma : ME} (hc : X.calm = true) (hg : Gl X "list") (hm : X.mg "list" = none) (hg2 : Gl X "range") (hm2 : X.mg "range" = none) (ha : CE X W a ma) (na : starEach [a] X.env = (false, eval a X.env) :: starEach [] X.env := by rfl)
    (nb : starEach [.Call (.Name "range" p2) [a] [] pos2] X.env = (false, eval (.Call (.Name "range" p2) [a] [] pos2) X.env) :: starEach [] X.env := by rfl) : CE X W (.Call (.Name "list" p) [.Call (.Name "range" p2) [a] [] pos2] [] pos) (mRg1 fLst ma) :=
  .of (pe_listRg hc hg hm (prg_1 hg2 hm2 cE.pe na) nb) fun φ ρ σ h H Qm Q Xm rh rs m ok ox => ha.sim φ ρ σ h H _ _ _ rh rs m (fun φ1 h1 H1 d v e1 rh1 r1 q1 => by
    split at q1
    · cases r1
      exact ⟨_, rfl, rgok (by omega) (by omega) q1.1.1 q1.1.2, f_lst rh1 q1.2 (ok.to e1)⟩
    · exact q1.elim) ox
theorem ce_tupRg1 {p p2 pos2 : Pos} {ma : ME} (hc : X.calm = true) (hg : Gl X "tuple") (hm : X.mg "tuple" = none) (hg2 : Gl X "range") (hm2 : X.mg "range" = none) (ha : CE X W a ma) (na : starEach [a] X.env = (false, eval a X.env) :: starEach [] X.env := by rfl)
    (nb : starEach [.Call (.Name "range" p2) [a] [] pos2] X.env = (false, eval (.Call (.Name "range" p2) [a] [] pos2) X.env) :: starEach [] X.env := by rfl) : CE X W (.Call (.Name "tuple" p) [.Call (.Name "range" p2) [a] [] pos2] [] pos) (mRg1 fTup ma) :=
  .of (pe_tupRgG hc hg hm (prg_1 hg2 hm2 cE.pe na) nb) fun φ ρ σ h H Qm Q Xm rh rs m ok ox => ha.sim φ ρ σ h H _ _ _ rh rs m (fun φ1 h1 H1 d v e1 rh1 r1 q1 => by
    split at q1
    · cases r1
      exact ⟨_, rfl, rgok (by omega) (by omega) q1.1.1 q1.1.2, f_tup rh1 q1.2 (ok.to e1)⟩
    · exact q1.elim) ox
theorem ce_lstRg2 {p p2 pos2 : Pos} {ma mb : ME} (hc : X.calm = true) (hg : Gl X "list") (hm : X.mg "list" = none) (hg2 : Gl X "range") (hm2 : X.mg "range" = none) (ha : CE X W a ma) (hb : CE X W b mb)
    (na : starEach [a, b] X.env = (false, eval a X.env) :: starEach [b] X.env := by rfl) (na2 : starEach [b] X.env = (false, eval b X.env) :: starEach [] X.env := by rfl) (hp : (backTo pos2 (starEach [b] X.env)).any (·.1) = false := by rfl)
    (nb : starEach [.Call (.Name "range" p2) [a, b] [] pos2] X.env = (false, eval (.Call (.Name "range" p2) [a, b] [] pos2) X.env) :: starEach [] X.env := by rfl) : CE X W (.Call (.Name "list" p) [.Call (.Name "range" p2) [a, b] [] pos2] [] pos) (mRg2 fLst ma mb) :=
  .of (pe_listRg hc hg hm (prg_2 hg2 hm2 cE.pe cE.pe na na2 hp) nb) fun φ ρ σ h H Qm Q Xm rh rs m ok ox => ha.sim φ ρ σ h H _ _ _ rh rs m (fun φ1 h1 H1 d v e1 rh1 r1 q1 => hb.sim φ1 ρ σ h1 H1 _ _ _ rh1 (rs.to rh e1) q1 (fun φ2 h2 H2 d2 v2 e2 rh2 r2 q2 => by
    have r3 := r1.to e2.toMo
    split at q2
    · cases r3
      cases r2
      exact ⟨_, _, rfl, rfl, rgok q2.1.1 q2.1.2.1 q2.1.2.2.1 q2.1.2.2.2, f_lst rh2 q2.2 (ok.to (e1.trans e2))⟩
    · exact q2.elim) (ox.to e1)) ox
end
end L3

/-! comprehensions over two rows -/
namespace L3
open PySem PySem.Spec PyProof.Rows L2
section
variable {X : Cx} {W : Wz} {tg e tg1 : Expr} {pos : Pos}
/-- the inner row -/
def lc2In (g1 : MG) (tt1 : MT) (te : ME) (vs1 : List Nat) (gd1 : MH → Prop) (K : List D → MH → Prop) : List D → List D → Ev → MH → Prop
  | [], acc => fun _ h => gd1 h ∧ K acc h
  | d :: ds, acc => fun ρ h => gd1 h ∧ g1 d (wipeE ρ vs1) h (fun ρ1 h1 => tt1 ρ1 h1 (fun b h2 => ifB b (te ρ1 h2 (fun y h3 => lc2In g1 tt1 te vs1 gd1 K ds (acc ++ [y]) ρ h3) (fun _ _ => False)) (lc2In g1 tt1 te vs1 gd1 K ds acc ρ h2)) (fun _ _ => False)) (fun _ _ => False)
def lc2Go (g : MG) (tt : MT) (mi1 : MI) (g1 : MG) (tt1 : MT) (te : ME) (vs1 : List Nat) (gd : MH → Prop) (Q : D → MH → Prop) : List D → List D → Ev → MH → Prop
  | [], acc => fun _ h => gd h ∧ Q (.loc h.length) (h ++ [.lst acc])
  | d :: ds, acc => fun ρ h => gd h ∧ g d ρ h (fun ρ1 h1 => tt ρ1 h1 (fun b h2 => ifB b
      (mi1 ρ1 h2 (fun ys gd1 h3 => ys.length ≤ 1000 ∧ lc2In g1 tt1 te vs1 gd1 (fun acc' h' => lc2Go g tt mi1 g1 tt1 te vs1 gd Q ds acc' ρ h') ys acc ρ1 h3) (fun _ _ => False))
      (lc2Go g tt mi1 g1 tt1 te vs1 gd Q ds acc ρ h2)) (fun _ _ => False)) (fun _ _ => False)
abbrev mLc2 (vs vs1 : List Nat) (mi : MI) (g : MG) (tt : MT) (mi1 : MI) (g1 : MG) (tt1 : MT) (te : ME) : ME := fun ρ h Q E => mi ρ h (fun xs gd h1 => xs.length ≤ 1000 ∧ lc2Go g tt mi1 g1 tt1 te vs1 gd Q xs [] (wipeE ρ vs) h1) E
def cIU {I : Type} (X : I → Cx) (tg iter : Expr) : TI := fun σ H R => ∀ i pins s, Inv (X i) pins σ H s → wpAny (model (X i).prog (X i).w) (X i).A (eval iter (X i).env) (fun v s1 => wpAny (model (X i).prog (X i).w) (X i).A (pyIter v) (PIE (X i) pins σ tg R) (X i).xe s1) (X i).xe s
theorem lc2_sim {elt iter iter1 : Expr} {ifs ifs1 : List Expr} {scope : Scope} (own : List (Str × Nat)) (vs1 : List Nat) (hv : ∀ i ∈ vs1, i ∈ own.map (·.2)) {mi mi1 : MI} {g g1 : MG} {tt tt1 : MT} {te : ME} {ti : TI} (pi : PI X tg iter ti) (si : SimI X.K W ti mi)
    (hg : ∀ (s : Shared) (H : Hp) (C : Addr) (cl : List (Str × Addr)) (fp : List Addr), CG (X.blk s H scope (compEnvC scope cl C X.env) fp) Wf (own.map (·.2)) tg g)
    (ht : ∀ (s : Shared) (H : Hp) (C : Addr) (cl : List (Str × Addr)) (fp : List Addr), CTs (X.blk s H scope (compEnvC scope cl C X.env) fp) ifs tt)
    (hi1 : ∀ (s : Shared) (H : Hp) (C : Addr) (cl : List (Str × Addr)) (fp : List Addr), CI (X.blk s H scope (compEnvC scope cl C X.env) fp) Wf tg1 iter1 mi1)
    (hg1 : ∀ (s : Shared) (H : Hp) (C : Addr) (cl : List (Str × Addr)) (fp : List Addr), CG (X.blk s H scope (compEnvC scope cl C X.env) fp) Wf vs1 tg1 g1)
    (ht1 : ∀ (s : Shared) (H : Hp) (C : Addr) (cl : List (Str × Addr)) (fp : List Addr), CTs (X.blk s H scope (compEnvC scope cl C X.env) fp) ifs1 tt1)
    (he : ∀ (s : Shared) (H : Hp) (C : Addr) (cl : List (Str × Addr)) (fp : List Addr), CE (X.blk s H scope (compEnvC scope cl C X.env) fp) Wf elt te) :
    SimE X.K W (tLc2 ti (cGU (fun i : Shared × Hp × Addr × List (Str × Addr) × List Addr => X.blk i.1 i.2.1 scope (compEnvC scope i.2.2.2.1 i.2.2.1 X.env) i.2.2.2.2) tg) (cTU (fun i : Shared × Hp × Addr × List (Str × Addr) × List Addr => X.blk i.1 i.2.1 scope (compEnvC scope i.2.2.2.1 i.2.2.1 X.env) i.2.2.2.2) ifs)
      (cIU (fun i : Shared × Hp × Addr × List (Str × Addr) × List Addr => X.blk i.1 i.2.1 scope (compEnvC scope i.2.2.2.1 i.2.2.1 X.env) i.2.2.2.2) tg1 iter1) (cGU (fun i : Shared × Hp × Addr × List (Str × Addr) × List Addr => X.blk i.1 i.2.1 scope (compEnvC scope i.2.2.2.1 i.2.2.1 X.env) i.2.2.2.2) tg1) (cTU (fun i : Shared × Hp × Addr × List (Str × Addr) × List Addr => X.blk i.1 i.2.1 scope (compEnvC scope i.2.2.2.1 i.2.2.1 X.env) i.2.2.2.2) ifs1)
      (cEU (fun i : Shared × Hp × Addr × List (Str × Addr) × List Addr => X.blk i.1 i.2.1 scope (compEnvC scope i.2.2.2.1 i.2.2.1 X.env) i.2.2.2.2) elt) (own.map (·.2)) vs1) (mLc2 (own.map (·.2)) vs1 mi g tt mi1 g1 tt1 te) := by
  intro φ ρ σ h H Qm Q Xm rh rs q okv ox
  have noX : ∀ {φ : List Addr} {H : Hp} {τ : L2.St}, OkX X.K φ H τ (fun _ _ => False) Wf := fun _ _ _ _ _ _ _ _ _ z => z.elim
  refine si φ ρ σ h H _ _ _ rh rs q (fun φ1 h1 H1 J xs gd e1 rh1 it q1 => ?_) ox
  intro Dp hD
  obtain ⟨hx, q1⟩ := q1
  have rs1 : RS X.K none φ1 H1 (wipeE ρ (own.map (·.2))) (L2.wipe σ (own.map (·.2))) := (rs.to rh e1).none_.wipe _
  obtain ⟨rh2, e2⟩ := rh1.new hD (.lst [])
  refine ⟨fun i m H' => ∃ φ' h' acc vacc, Ext φ1 H1 φ' H' ∧ RH X.K φ' h' H' ∧ Dp ∉ φ' ∧ H' Dp = some (.lst vacc) ∧ RDs X.K φ' H' acc vacc ∧ RS X.K none φ' H' (wipeE ρ (own.map (·.2))) (L2.wipe σ (own.map (·.2))) ∧ acc.length ≤ i * 1000 ∧ i ≤ xs.length ∧ m = xs.length - i ∧
    lc2Go g tt mi1 g1 tt1 te vs1 gd Qm (xs.drop i) acc (wipeE ρ (own.map (·.2))) h', ⟨xs.length, φ1, h1, [], [], e2, rh2, rh1.fresh hD, upd_same, .nil, rs1.mo e2.toMo, Nat.zero_le _, Nat.zero_le _, by simp, by rw [List.drop_zero]; exact q1⟩, ?_⟩
  rintro i m H' ⟨φ', h', acc, vacc, E1, rh', nD, eD, ra, rs', la, li, rfl, q'⟩
  by_cases hlt : i < xs.length
  · have e0 : xs[i]? = some xs[i] := List.getElem?_eq_getElem hlt
    rw [drop_cons e0] at q'
    obtain ⟨j1, j2⟩ := (it φ' h' H' E1.toMo rh' q'.1).1 i _ e0
    refine .inr ⟨j1, fun H2 => ∃ φ2 h2 acc2 vacc2, Ext φ1 H1 φ2 H2 ∧ RH X.K φ2 h2 H2 ∧ Dp ∉ φ2 ∧ H2 Dp = some (.lst vacc2) ∧ RDs X.K φ2 H2 acc2 vacc2 ∧ RS X.K none φ2 H2 (wipeE ρ (own.map (·.2))) (L2.wipe σ (own.map (·.2))) ∧ acc2.length ≤ (i + 1) * 1000 ∧
      lc2Go g tt mi1 g1 tt1 te vs1 gd Qm (xs.drop (i + 1)) acc2 (wipeE ρ (own.map (·.2))) h2, ?_, fun x H2 y => ?_⟩
    · rintro H2 ⟨φ2, h2, acc2, vacc2, a1, a2, a3, a4, a5, a6, a7, a8⟩
      exact ⟨xs.length - (i + 1), by omega, φ2, h2, acc2, vacc2, a1, a2, a3, a4, a5, a6, a7, hlt, rfl, a8⟩
    · obtain ⟨x2, rh2, rd⟩ := j2 x H2 y
      intro iy pins s u I r
      obtain ⟨s0, H0, C, cl, fp⟩ := iy
      obtain ⟨tg', pg, sg⟩ := (hg s0 H0 C cl fp).ex
      refine pg.run pins s _ H2 x u _ I r (sg φ' _ _ h' H2 _ _ _ _ _ rh2 (rs'.to rh' x2) rd q'.2 (fun φ3 ρ3 σ3 h3 H3 x3 rh3 rs3 w3 q3 => ⟨w3.trans ?_, ?_⟩) noX)
      · exact wipe_wipe _
      · intro iy pins s I
        obtain ⟨s0, H0, C, cl, fp⟩ := iy
        obtain ⟨tt', pt, st⟩ := (ht s0 H0 C cl fp).ex
        refine pt.run pins s _ H3 _ I (st φ3 _ _ h3 H3 _ _ _ rh3 rs3 q3 (fun φ4 h4 H4 b x4 rh4 q4 => ?_) noX)
        have K3 := x2.trans (x3.trans x4)
        obtain ⟨k1, k2⟩ := K3.keep _ _ eD nD
        have rs4 := (rs'.to rh' K3)
        have E4 := E1.trans K3
        cases b with
        | false => exact ⟨φ4, h4, acc, vacc, E4, rh4, k2, k1, ra.to K3.toMo, rs4, Nat.le_trans la (by omega), q4⟩
        | true =>
          intro iy pins s I
          obtain ⟨s0, H0, C, cl, fp⟩ := iy
          obtain ⟨ti1, pi1, si1⟩ := (hi1 s0 H0 C cl fp).ex
          have rs34 := rs3.to rh3 x4
          refine pi1.run pins s _ H4 _ I (si1 φ4 _ _ h4 H4 _ _ _ rh4 rs34 q4 (fun φ5 h5 H5 J1 ys gd1 x5 rh5 it1 q5 => ?_) noX)
          obtain ⟨hy, q5⟩ := q5
          obtain ⟨l1, l2⟩ := x5.keep _ _ k1 k2
          have E5 := E4.trans x5
          refine ⟨fun j m H' => ∃ φ' h' acc vacc, Ext φ1 H1 φ' H' ∧ Mo φ5 H5 φ' H' ∧ RH X.K φ' h' H' ∧ Dp ∉ φ' ∧ H' Dp = some (.lst vacc) ∧ RDs X.K φ' H' acc vacc ∧ RS X.K none φ' H' (wipeE ρ (own.map (·.2))) (L2.wipe σ (own.map (·.2))) ∧ RS X.K none φ' H' ρ3 σ3 ∧ acc.length ≤ i * 1000 + j ∧ j ≤ ys.length ∧ m = ys.length - j ∧
            lc2In g1 tt1 te vs1 gd1 (fun acc' h' => lc2Go g tt mi1 g1 tt1 te vs1 gd Qm (xs.drop (i + 1)) acc' (wipeE ρ (own.map (·.2))) h') (ys.drop j) acc ρ3 h', ⟨ys.length, φ5, h5, acc, vacc, E5, .refl, rh5, l2, l1, (ra.to K3.toMo).to x5.toMo, rs4.to rh4 x5, rs34.to rh4 x5, la, Nat.zero_le _, by simp, by rw [List.drop_zero]; exact q5⟩, ?_⟩
          clear q5 l1 l2
          rintro j m H6 ⟨φ6, h6, acc6, vacc6, E6, M6, rh6, nD6, eD6, ra6, rs6, rt6, la6, lj, rfl, q6⟩
          by_cases hlt2 : j < ys.length
          · have e0 : ys[j]? = some ys[j] := List.getElem?_eq_getElem hlt2
            rw [drop_cons e0] at q6
            obtain ⟨j1, j2⟩ := (it1 φ6 h6 H6 M6 rh6 q6.1).1 j _ e0
            refine .inr ⟨j1, fun H2 => ∃ φ' h' acc vacc, Ext φ1 H1 φ' H2 ∧ Mo φ5 H5 φ' H2 ∧ RH X.K φ' h' H2 ∧ Dp ∉ φ' ∧ H2 Dp = some (.lst vacc) ∧ RDs X.K φ' H2 acc vacc ∧ RS X.K none φ' H2 (wipeE ρ (own.map (·.2))) (L2.wipe σ (own.map (·.2))) ∧ RS X.K none φ' H2 ρ3 σ3 ∧ acc.length ≤ i * 1000 + (j + 1) ∧
              lc2In g1 tt1 te vs1 gd1 (fun acc' h' => lc2Go g tt mi1 g1 tt1 te vs1 gd Qm (xs.drop (i + 1)) acc' (wipeE ρ (own.map (·.2))) h') (ys.drop (j + 1)) acc ρ3 h', ?_, fun x H7 y => ?_⟩
            · rintro H2 ⟨φ2, h2, acc2, vacc2, a1, a2, a3, a4, a5, a6, a7, a8, a9, a10⟩
              exact ⟨ys.length - (j + 1), by omega, φ2, h2, acc2, vacc2, a1, a2, a3, a4, a5, a6, a7, a8, a9, hlt2, rfl, a10⟩
            · obtain ⟨x7, rh7, rd7⟩ := j2 x H7 y
              intro iy pins s u I r
              obtain ⟨s0, H0, C, cl, fp⟩ := iy
              obtain ⟨tg', pg, sg⟩ := (hg1 s0 H0 C cl fp).ex
              refine pg.run pins s _ H7 x u _ I r (sg φ6 _ _ h6 H7 _ _ _ _ _ rh7 ((rt6.to rh6 x7).wipe vs1) rd7 q6.2 (fun φ8 ρ8 σ8 h8 H8 x8 rh8 rs8 w8 q8 => ⟨w8.trans ?_, ?_⟩) noX)
              · exact wipe_wipe _
              · intro iy pins s I
                obtain ⟨s0, H0, C, cl, fp⟩ := iy
                obtain ⟨tt', pt, st⟩ := (ht1 s0 H0 C cl fp).ex
                refine pt.run pins s _ H8 _ I (st φ8 _ _ h8 H8 _ _ _ rh8 rs8 q8 (fun φ9 h9 H9 b x9 rh9 q9 => ?_) noX)
                have K7 := x7.trans (x8.trans x9)
                obtain ⟨m1, m2⟩ := K7.keep _ _ eD6 nD6
                have E9 := E6.trans K7
                have M9 : Mo φ5 H5 φ9 H9 := ⟨fun n a z => K7.pre _ _ (M6.pre n a z), fun a xs z => K7.tup _ _ (M6.tup a xs z), fun a o u z => K7.frz _ _ _ (M6.frz a o u z)⟩
                cases b with
                | false => exact ⟨φ9, h9, acc6, vacc6, E9, M9, rh9, m2, m1, ra6.to K7.toMo, rs6.to rh6 K7, rt6.to rh6 K7, Nat.le_trans la6 (by omega), q9⟩
                | true =>
                  intro iy pins s I
                  obtain ⟨s0, H0, C, cl, fp⟩ := iy
                  refine (he s0 H0 C cl fp).sim φ9 _ _ h9 H9 _ _ _ rh9 (rs8.to rh8 x9) q9 (fun φA hA HA d v xA rhA rdA qA => ?_) noX pins s I
                  obtain ⟨n1, n2⟩ := xA.keep _ _ m1 m2
                  have KA := K7.trans xA
                  have EA := E6.trans KA
                  obtain ⟨rhB, mB⟩ := rhA.side (us := vacc6 ++ [v]) n2 n1
                  have raA := ra6.to KA.toMo
                  refine ⟨vacc6, n1, by rw [← ra6.len]; have := sizeLine_eq; have := hx; omega, φA, hA, acc6 ++ [d], vacc6 ++ [v], ⟨⟨EA.pre, fun a xs z => mB.tup _ _ (EA.tup _ _ z), fun a o u z => mB.frz _ _ _ (EA.frz _ _ _ z)⟩, fun a o z na => ?_⟩, ⟨fun n a z => KA.pre _ _ (M6.pre n a z), fun a xs z => mB.tup _ _ (KA.tup _ _ (M6.tup a xs z)), fun a o u z => mB.frz _ _ _ (KA.frz _ _ _ (M6.frz a o u z))⟩, rhB, n2, upd_same, (raA.snoc rdA).to mB, (rs6.to rh6 KA).mo mB, (rt6.to rh6 KA).mo mB, ?_, qA⟩
                  · rw [upd_ne (ne_of_none z hD)]
                    exact EA.keep _ _ z na
                  · rw [List.length_append]
                    show acc6.length + 1 ≤ _
                    omega
          · have hj2 : j = ys.length := by omega
            subst hj2
            rw [List.drop_length] at q6
            exact .inl ⟨(it1 φ6 h6 H6 M6 rh6 q6.1).2 _ (Nat.le_refl _), φ6, h6, acc6, vacc6, E6, rh6, nD6, eD6, ra6, rs6, by omega, q6.2⟩
  · have hi2 : i = xs.length := by omega
    subst hi2
    rw [List.drop_length] at q'
    refine .inl ⟨(it φ' h' H' E1.toMo rh' q'.1).2 _ (Nat.le_refl _), ?_⟩
    have rh3 := rh'.reg nD (x := .lst acc) ⟨vacc, eD, ra.to Mo.reg⟩
    refine okv _ _ _ _ _ (e1.trans (E1.reg hD)) rh3 (.loc ?_) q'.2
    rw [← rh'.len]; simp
theorem ce_lc2 {elt iter iter1 : Expr} {ifs ifs1 : List Expr} {scope : Scope} (own : List (Str × Nat)) (vs1 : List Nat) (hv : ∀ i ∈ vs1, i ∈ own.map (·.2)) {mi mi1 : MI} {g g1 : MG} {tt tt1 : MT} {te : ME} (hc : X.calm = true) (hN : X.N.Nodup) (hi : CI X W tg iter mi) (ok : BlkOk X.N X.env.scope scope own)
    (hg : ∀ (s : Shared) (H : Hp) (C : Addr) (cl : List (Str × Addr)) (fp : List Addr), CG (X.blk s H scope (compEnvC scope cl C X.env) fp) Wf (own.map (·.2)) tg g)
    (ht : ∀ (s : Shared) (H : Hp) (C : Addr) (cl : List (Str × Addr)) (fp : List Addr), CTs (X.blk s H scope (compEnvC scope cl C X.env) fp) ifs tt)
    (hi1 : ∀ (s : Shared) (H : Hp) (C : Addr) (cl : List (Str × Addr)) (fp : List Addr), CI (X.blk s H scope (compEnvC scope cl C X.env) fp) Wf tg1 iter1 mi1)
    (hg1 : ∀ (s : Shared) (H : Hp) (C : Addr) (cl : List (Str × Addr)) (fp : List Addr), CG (X.blk s H scope (compEnvC scope cl C X.env) fp) Wf vs1 tg1 g1)
    (ht1 : ∀ (s : Shared) (H : Hp) (C : Addr) (cl : List (Str × Addr)) (fp : List Addr), CTs (X.blk s H scope (compEnvC scope cl C X.env) fp) ifs1 tt1)
    (he : ∀ (s : Shared) (H : Hp) (C : Addr) (cl : List (Str × Addr)) (fp : List Addr), CE (X.blk s H scope (compEnvC scope cl C X.env) fp) Wf elt te) (hs : ∀ x, foldedSetIterable iter X.env x = pure x := by intro _; rfl) (hs1 : ∀ env x, foldedSetIterable iter1 env x = pure x := by intro _ _; rfl) :
    CE X W (.ListComp elt [⟨tg, iter, ifs, 0⟩, ⟨tg1, iter1, ifs1, 0⟩] scope pos) (mLc2 (own.map (·.2)) vs1 mi g tt mi1 g1 tt1 te) := by
  obtain ⟨ti, pi, si⟩ := hi.ex
  let Y : Shared × Hp × Addr × List (Str × Addr) × List Addr → Cx := fun i => X.blk i.1 i.2.1 scope (compEnvC scope i.2.2.2.1 i.2.2.1 X.env) i.2.2.2.2
  refine .of (pe_lc2 (g := cGU Y tg) (tt := cTU Y ifs) (wi1 := cIU Y tg1 iter1) (g1 := cGU Y tg1) (tt1 := cTU Y ifs1) (te := cEU Y elt) hc hN pi ok hv (fun s H C cl fp => ⟨fun pins s' σ H' v u Q I r h => h (s, H, C, cl, fp) pins s' u I r⟩) (fun s H C cl fp => ⟨fun pins s' σ H' Q I h => h (s, H, C, cl, fp) pins s' I⟩)
    (fun s H C cl fp => ⟨fun pins s' σ H' R I h => h (s, H, C, cl, fp) pins s' I⟩) (fun s H C cl fp => ⟨fun pins s' σ H' v u Q I r h => h (s, H, C, cl, fp) pins s' u I r⟩) (fun s H C cl fp => ⟨fun pins s' σ H' Q I h => h (s, H, C, cl, fp) pins s' I⟩)
    (fun s H C cl fp => ⟨fun pins s' σ H' Q I h => h (s, H, C, cl, fp) pins s' I⟩) hs hs1) (lc2_sim own vs1 hv pi si hg ht hi1 hg1 ht1 he)
theorem cs_setLc2 {i : Nat} {y : Str} {py spos : Pos} {elt iter iter1 : Expr} {ifs ifs1 : List Expr} {scope : Scope} (own : List (Str × Nat)) (vs1 : List Nat) (hv : ∀ i ∈ vs1, i ∈ own.map (·.2)) {mi mi1 : MI} {g g1 : MG} {tt tt1 : MT} {te : ME} (hw : W.ok i = true) (hc : X.calm = true) (hN : X.N.Nodup) (hy : X.N[i]? = some y) (hyl : X.env.scope.names.lookup y = some .local)
    (hsw : swapsWith (.ListComp elt [⟨tg, iter, ifs, 0⟩, ⟨tg1, iter1, ifs1, 0⟩] scope pos) (some (.Name y py)) spos.line X.env = pure true) (hi : CI X W tg iter mi) (ok : BlkOk X.N X.env.scope scope own)
    (hg : ∀ (s : Shared) (H : Hp) (C : Addr) (cl : List (Str × Addr)) (fp : List Addr), CG (X.blk s H scope (compEnvC scope cl C X.env) fp) Wf (own.map (·.2)) tg g)
    (ht : ∀ (s : Shared) (H : Hp) (C : Addr) (cl : List (Str × Addr)) (fp : List Addr), CTs (X.blk s H scope (compEnvC scope cl C X.env) fp) ifs tt)
    (hi1 : ∀ (s : Shared) (H : Hp) (C : Addr) (cl : List (Str × Addr)) (fp : List Addr), CI (X.blk s H scope (compEnvC scope cl C X.env) fp) Wf tg1 iter1 mi1)
    (hg1 : ∀ (s : Shared) (H : Hp) (C : Addr) (cl : List (Str × Addr)) (fp : List Addr), CG (X.blk s H scope (compEnvC scope cl C X.env) fp) Wf vs1 tg1 g1)
    (ht1 : ∀ (s : Shared) (H : Hp) (C : Addr) (cl : List (Str × Addr)) (fp : List Addr), CTs (X.blk s H scope (compEnvC scope cl C X.env) fp) ifs1 tt1)
    (he : ∀ (s : Shared) (H : Hp) (C : Addr) (cl : List (Str × Addr)) (fp : List Addr), CE (X.blk s H scope (compEnvC scope cl C X.env) fp) Wf elt te) (hs : ∀ x, foldedSetIterable iter X.env x = pure x := by intro _; rfl) (hs1 : ∀ env x, foldedSetIterable iter1 env x = pure x := by intro _ _; rfl) :
    CS X W (.Assign [.Name y py] (.ListComp elt [⟨tg, iter, ifs, 0⟩, ⟨tg1, iter1, ifs1, 0⟩] scope pos) spos) (mSet i (mLc2 (own.map (·.2)) vs1 mi g tt mi1 g1 tt1 te)) := by
  obtain ⟨ti, pi, si⟩ := hi.ex
  let Y : Shared × Hp × Addr × List (Str × Addr) × List Addr → Cx := fun i => X.blk i.1 i.2.1 scope (compEnvC scope i.2.2.2.1 i.2.2.1 X.env) i.2.2.2.2
  refine .of (ps_setLc2 (i := i) (g := cGU Y tg) (tt := cTU Y ifs) (wi1 := cIU Y tg1 iter1) (g1 := cGU Y tg1) (tt1 := cTU Y ifs1) (te := cEU Y elt) hc hN hy hyl hsw pi ok hv (fun s H C cl fp => ⟨fun pins s' σ H' v u Q I r h => h (s, H, C, cl, fp) pins s' u I r⟩) (fun s H C cl fp => ⟨fun pins s' σ H' Q I h => h (s, H, C, cl, fp) pins s' I⟩)
    (fun s H C cl fp => ⟨fun pins s' σ H' R I h => h (s, H, C, cl, fp) pins s' I⟩) (fun s H C cl fp => ⟨fun pins s' σ H' v u Q I r h => h (s, H, C, cl, fp) pins s' u I r⟩) (fun s H C cl fp => ⟨fun pins s' σ H' Q I h => h (s, H, C, cl, fp) pins s' I⟩)
    (fun s H C cl fp => ⟨fun pins s' σ H' Q I h => h (s, H, C, cl, fp) pins s' I⟩) hs hs1) fun φ ρ σ h H M E rh rs m l => ?_
  exact lc2_sim own vs1 hv pi si hg ht hi1 hg1 ht1 he φ ρ σ h H _ (fun x H1 => gName i x σ H1 E.nx) _ rh rs m (fun φ' h' H' d v e1 rh1 rd q1 => l.nx φ' _ _ h' H' e1 rh1 ((rs.to rh e1).set hw rd) q1) (l.okx rh rs)
/-- by a word of the turns: outer i, the row so far -/
theorem lc2Go_ind {g : MG} {tt : MT} {mi1 : MI} {g1 : MG} {tt1 : MT} {te : ME} {vs1 : List Nat} {gd : MH → Prop} {xs : List D} {Q : D → MH → Prop} {ρ : Ev} (I : Nat → List D → MH → Prop) {h : MH} (h0 : I 0 [] h) (hg : ∀ i acc h, i ≤ xs.length → I i acc h → gd h)
    (step : ∀ i d acc h (R : List D → MH → Prop), xs[i]? = some d → I i acc h → (∀ acc' h', I (i + 1) acc' h' → R acc' h') →
      g d ρ h (fun ρ1 h1 => tt ρ1 h1 (fun k h2 => ifB k (mi1 ρ1 h2 (fun ys gd1 h3 => ys.length ≤ 1000 ∧ lc2In g1 tt1 te vs1 gd1 R ys acc ρ1 h3) (fun _ _ => False)) (R acc h2)) (fun _ _ => False)) (fun _ _ => False))
    (fin : ∀ acc h, I xs.length acc h → Q (.loc h.length) (h ++ [.lst acc])) : lc2Go g tt mi1 g1 tt1 te vs1 gd Q xs [] ρ h := by
  have key : ∀ (n i : Nat) (acc : List D) (h : MH), xs.length - i = n → i ≤ xs.length → I i acc h → lc2Go g tt mi1 g1 tt1 te vs1 gd Q (xs.drop i) acc ρ h := by
    intro n
    induction n with
    | zero =>
      intro i acc h e le hi
      have : i = xs.length := by omega
      subst this
      rw [List.drop_length]
      exact ⟨hg _ _ _ le hi, fin _ _ hi⟩
    | succ n ih =>
      intro i acc h e le hi
      have hlt : i < xs.length := by omega
      rw [drop_cons (List.getElem?_eq_getElem hlt)]
      exact ⟨hg _ _ _ le hi, step i _ acc h (fun acc' h' => lc2Go g tt mi1 g1 tt1 te vs1 gd Q (xs.drop (i + 1)) acc' ρ h') (List.getElem?_eq_getElem hlt) hi fun acc' h' q => ih (i + 1) acc' h' (by omega) hlt q⟩
  have := key xs.length 0 [] h (by omega) (Nat.zero_le _) h0
  rwa [List.drop_zero] at this
theorem lc2In_ind {g1 : MG} {tt1 : MT} {te : ME} {vs1 : List Nat} {gd1 : MH → Prop} {K : List D → MH → Prop} {xs : List D} {ρ : Ev} {acc0 : List D} (I : Nat → List D → MH → Prop) {h : MH} (h0 : I 0 acc0 h) (hg : ∀ i acc h, i ≤ xs.length → I i acc h → gd1 h)
    (step : ∀ i d acc h (R : List D → MH → Prop), xs[i]? = some d → I i acc h → (∀ acc' h', I (i + 1) acc' h' → R acc' h') →
      g1 d (wipeE ρ vs1) h (fun ρ1 h1 => tt1 ρ1 h1 (fun k h2 => ifB k (te ρ1 h2 (fun y h3 => R (acc ++ [y]) h3) (fun _ _ => False)) (R acc h2)) (fun _ _ => False)) (fun _ _ => False))
    (fin : ∀ acc h, I xs.length acc h → K acc h) : lc2In g1 tt1 te vs1 gd1 K xs acc0 ρ h := by
  have key : ∀ (n i : Nat) (acc : List D) (h : MH), xs.length - i = n → i ≤ xs.length → I i acc h → lc2In g1 tt1 te vs1 gd1 K (xs.drop i) acc ρ h := by
    intro n
    induction n with
    | zero =>
      intro i acc h e le hi
      have : i = xs.length := by omega
      subst this
      rw [List.drop_length]
      exact ⟨hg _ _ _ le hi, fin _ _ hi⟩
    | succ n ih =>
      intro i acc h e le hi
      have hlt : i < xs.length := by omega
      rw [drop_cons (List.getElem?_eq_getElem hlt)]
      exact ⟨hg _ _ _ le hi, step i _ acc h (fun acc' h' => lc2In g1 tt1 te vs1 gd1 K (xs.drop (i + 1)) acc' ρ h') (List.getElem?_eq_getElem hlt) hi fun acc' h' q => ih (i + 1) acc' h' (by omega) hlt q⟩
  have := key xs.length 0 acc0 h (by omega) (Nat.zero_le _) h0
  rwa [List.drop_zero] at this
end
end L3

/-! data as a whole, lists within; repr; tuple.index -/
namespace L3
open PySem PySem.Spec PyProof.Rows L2
mutual
/-- what the thing is as data, its lists read -/
inductive PyOf (h : MH) : D → PyData → Prop
  | non : PyOf h .non .none
  | bl (b : Bool) : PyOf h (.bl b) (.bool b)
  | int (i : Int) : PyOf h (.int i) (.int i)
  | str (x : Str) : PyOf h (.str x) (.str x)
  | tup {ds : List D} {es : List PyData} : PysOf h ds es → PyOf h (.tup ds) (.tuple es)
  | kls {ds : List D} {es : List PyData} : PysOf h ds es → PyOf h (.kls ds) (.list es)
  | loc {n : Nat} {ds : List D} {es : List PyData} : h[n]? = some (.lst ds) → PysOf h ds es → PyOf h (.loc n) (.list es)
inductive PysOf (h : MH) : List D → List PyData → Prop
  | nil : PysOf h [] []
  | cons {d : D} {ds : List D} {e : PyData} {es : List PyData} : PyOf h d e → PysOf h ds es → PysOf h (d :: ds) (e :: es)
end
section
variable {K : PySem.W.Frag} {φ : List Addr} {h h' : MH} {H : Hp}
mutual
theorem PyOf.dp (rh : RH K φ h H) : ∀ {d : D} {e : PyData}, PyOf h d e → ∀ {v : V}, RD K φ H d v → Dp K H v e
  | _, _, .non, _, .non => .non
  | _, _, .bl b, _, .bl _ => .bl b
  | _, _, .int i, _, .int _ => .int i
  | _, _, .str s, _, .str _ => .str s
  | _, _, .tup q, _, .tup t r => .tup t.sq (PysOf.dp rh q r)
  | _, _, .kls q, _, .kls t r => .lst t.sq (PysOf.dp rh q r)
  | _, _, .loc e q, _, .loc e0 => by
    obtain ⟨vs, h1, h2⟩ := rh.at_ _ _ _ e0 e
    exact .lst (.inl (.inl h1)) (PysOf.dp rh q h2)
theorem PysOf.dp (rh : RH K φ h H) : ∀ {ds : List D} {es : List PyData}, PysOf h ds es → ∀ {vs : List V}, RDs K φ H ds vs → DpAll K H vs es
  | _, _, .nil, _, .nil => .nil
  | _, _, .cons p q, _, .cons r t => .cons (PyOf.dp rh p r) (PysOf.dp rh q t)
end
mutual
theorem PyOf.kp (k : Kp [] h h') : ∀ {d : D} {e : PyData}, PyOf h d e → PyOf h' d e
  | _, _, .non => .non
  | _, _, .bl b => .bl b
  | _, _, .int i => .int i
  | _, _, .str s => .str s
  | _, _, .tup q => .tup (PysOf.kp k q)
  | _, _, .kls q => .kls (PysOf.kp k q)
  | _, _, .loc e q => .loc (k.get _ _ (by simp) e) (PysOf.kp k q)
theorem PysOf.kp (k : Kp [] h h') : ∀ {ds : List D} {es : List PyData}, PysOf h ds es → PysOf h' ds es
  | _, _, .nil => .nil
  | _, _, .cons p q => .cons (PyOf.kp k p) (PysOf.kp k q)
end
mutual
theorem PyOf.inj : ∀ {d : D} {e f : PyData}, PyOf h d e → PyOf h d f → e = f
  | _, _, _, .non, .non => rfl
  | _, _, _, .bl b, .bl _ => rfl
  | _, _, _, .int i, .int _ => rfl
  | _, _, _, .str s, .str _ => rfl
  | _, _, _, .tup q, .tup r => congrArg _ (PysOf.inj q r)
  | _, _, _, .kls q, .kls r => congrArg _ (PysOf.inj q r)
  | _, _, _, .loc e q, .loc e' r => by
    rw [e] at e'
    cases e'
    exact congrArg _ (PysOf.inj q r)
theorem PysOf.inj : ∀ {ds : List D} {es fs : List PyData}, PysOf h ds es → PysOf h ds fs → es = fs
  | _, _, _, .nil, .nil => rfl
  | _, _, _, .cons p q, .cons p' q' => by rw [PyOf.inj p p', PysOf.inj q q']
end
/-- short enough to be written -/
structure ShowOk (e : PyData) : Prop where
  lay : e.canLay0 = true
  shorts : e.intsShort 13 = true
  shw : e.showable = true
  dp : e.depth ≤ 60
  wt : e.weight ≤ 2 ^ 20
theorem ShowOk.fits {e : PyData} (s : ShowOk e) : e.shown.length ≤ sizeLine :=
  PyData.shown_fits (B := 13) (by decide) (by decide) (PyData.leavesShort_of_canLay0 13 _ s.lay s.shorts) s.wt
end
section
variable {X : Cx}
def rRepr (K : PySem.W.Frag) : List V → Hp → VK → Prop := fun vs H Q => ∃ x e, vs = [x] ∧ Dp K H x e ∧ ShowOk e ∧ Q (.str e.shown) H
theorem cr_repr (hg : X.A.guards = some []) (hu : X.A.units + 64 < cLine) : CallR X (.builtin "repr") (rRepr X.K) := by
  intro pins s σ H vs us Q I r h
  obtain ⟨x, e, rfl, dp, ok, q⟩ := h
  obtain ⟨u, rfl, rx⟩ := vals1 r
  obtain ⟨as, rd⟩ := Dp.reads I e x u dp rx
  have fit := ok.fits
  have fin : ∀ h' t tk, (∀ b o, s.heap.get? b = some o → h'.get? b = some o) → EP X pins σ Q (.str e.shown t) { s with heap := h', toks := tk } := fun h' t tk hk => ⟨.str e.shown, H, I.kept (t' := tk) hk, ⟨t, rfl⟩, q⟩
  have fin0 : ∀ t tk, EP X pins σ Q (.str e.shown t) { s with toks := tk } := fun t tk => fin s.heap t tk fun _ _ z => z
  have hd : e.hasDict = false := PyData.hasDict_of_canLay e ok.lay
  cases rd with
  | none => exact PySem.P.repr_of_none (fin0 _ _)
  | bool b => exact PySem.P.repr_of_bool (by have := fin0 s.toks (s.toks + 1); cases b <;> exact this)
  | int i t => exact PySem.P.repr_of_int (by have := ok.shw; simpa [PyData.showable] using this) (fin0 _ _)
  | str y t => exact PySem.P.repr_of_str (fin0 _ _) (by simpa only [PyData.shown] using fit)
  | list e1 e2 e3 e4 => exact repr_of_reads' (.list e1 e2 e3 e4) ok.shw (PyData.noDict_hsm hd) hg (by have := ok.dp; omega) (fun _ _ z => z) (fun h' t tk hk => fin h' t tk hk) fit
  | tuple e1 e2 e3 e4 => exact repr_of_reads' (.tuple e1 e2 e3 e4) ok.shw (PyData.noDict_hsm hd) hg (by have := ok.dp; omega) (fun _ _ z => z) (fun h' t tk hk => fin h' t tk hk) fit
  | dict _ _ _ _ _ => simp [PyData.hasDict] at hd
abbrev bRepr : MB := fun ds h Q => match ds with | [d] => ∃ e, PyOf h d e ∧ ShowOk e ∧ Q (.str e.shown) h | _ => False
theorem b_repr (hg : X.A.guards = some []) (hu : X.A.units + 64 < cLine) : BC X (.builtin "repr") bRepr := ⟨_, cr_repr hg hu, fun φ h H ds vs Qm Q rh r m ok => by
  unfold bRepr at m
  split at m
  · obtain ⟨v, rfl, r1⟩ := r.one
    obtain ⟨e, p, so, q⟩ := m
    exact ⟨v, e, rfl, p.dp rh r1, so, ok _ _ _ _ _ .refl rh (.str _) q⟩
  · exact m.elim⟩
theorem b_reprR {k : Nat} (hr : Rm k X.A) : BC X (.builtin "repr") bRepr := b_repr hr.gd hr.units
/-- in the suite that handles an error -/
theorem b_reprS {k : Nat} {A : Around} {v : Option Value} (hr : Rm k A) (e : X.A = A.mark v) : BC X (.builtin "repr") bRepr := b_repr (by rw [e]; exact hr.gd) (by rw [e]; exact hr.units)
end
section
variable {X : Cx} {W : Wz} {e o : Expr} {es : List Expr}
/-- t.index(x) -/
abbrev mTIx (mo : ME) (ma : MA) : ME := fun ρ h Q E => mo ρ h (fun d h1 => match d with
  | .tup xs => ma ρ h1 (fun ds h2 => match ds with | [y] => flatD y = true ∧ ((∃ (ss : List Str) (k : Str), xs = ss.map D.str ∧ y = .str k ∧ k ∈ ss ∧ Q (.int (ss.idxOf k : Nat)) h2) ∨ ∃ (ns : List Int) (k : Int), xs = ns.map D.int ∧ y = .int k ∧ k ∈ ns ∧ Q (.int (ns.idxOf k : Nat)) h2) | _ => False) E
  | _ => False) E
theorem ce_tix {apos cpos : Pos} {mo : ME} {ma : MA} (ho : CE X W o mo) (ha : CA X W (e :: es) ma)
    (hbase : attributeBase o "index" X.env (eval o X.env) = eval o X.env := by rfl)
    (hfew : ((backTo cpos (starEach (e :: es) X.env)).all (fun x => !x.1) && (backToKw cpos (keywordEach [] X.env)).all (fun x => x.1.isSome)
      && decide ((e :: es).length + ([] : List Keyword).length + (if ([] : List Keyword).isEmpty then 0 else 1) < 30)) = true := by rfl)
    (hline : (apos.endLine == cpos.line) = true := by rfl) (hs : starEach (e :: es) X.env = (false, eval e X.env) :: starEach es X.env := by rfl) (hplain : (backTo cpos (starEach es X.env)).any (·.1) = false := by rfl) :
    CE X W (.Call (.Attribute o "index" apos) (e :: es) [] cpos) (mTIx mo ma) := .of (pe_tm PySem.F.slot_tuple_index PySem.F.type_tuple_index mt_tix cE.pe cA.pa hbase hfew hline hs hplain) fun φ ρ σ h H Qm Q Xm rh rs q ok ox =>
  ho.sim φ ρ σ h H _ _ _ rh rs q (fun φ1 h1 H1 d v e1 rh1 rx q1 => by
    split at q1
    · cases rx with
      | tup t rv =>
        rename_i a vs
        refine ⟨⟨a, vs, rfl, t⟩, ha.sim φ1 ρ σ h1 H1 _ _ _ rh1 (rs.to rh e1) q1 (fun φ2 h2 H2 ds us e2 rh2 r2 q2 => ?_) (ox.to e1)⟩
        split at q2
        · obtain ⟨u, rfl, ru⟩ := r2.one
          have t2 := (TupIs.ext t e2.toMo).sq
          obtain ⟨_, ⟨ss, k, rfl, rfl, hk, q3⟩ | ⟨ss, k, rfl, rfl, hk, q3⟩⟩ := q2
          · cases ru
            rw [rds_str rv] at t2
            exact ⟨a, rfl, .inl ⟨ss, k, rfl, t2, hk, ok _ _ _ _ _ (e1.trans e2) rh2 (.int _) q3⟩⟩
          · cases ru
            rw [rds_int rv] at t2
            exact ⟨a, rfl, .inr ⟨ss, k, rfl, t2, hk, ok _ _ _ _ _ (e1.trans e2) rh2 (.int _) q3⟩⟩
        · exact q2.elim
    · exact q1.elim) ox
end
end L3

namespace L3
open PySem PySem.Spec PyProof.Rows L2
section
variable {X : Cx}
theorem io_fdiv : OpC X (inplaceOp .FloorDiv) (oInt CDivW fun i j => .int (i / j)) := ⟨_, iop_fdivW, om_int fun _ _ _ _ => .int _⟩
theorem io_mod : OpC X (inplaceOp .Mod) (oInt (fun _ j => 0 < j) fun i j => .int (i % j)) := ⟨_, iop_mod, om_int fun _ _ _ _ => .int _⟩
abbrev bAny : MB := fun ds h Q => match ds with | [.loc n] => lstAt h n fun xs => allBl xs fun bs => Q (.bl (bs.any id)) h | _ => False
theorem b_any (hc : X.calm = true) : BC X (.builtin "any") bAny := ⟨_, cr_any hc, fun φ h H ds vs Qm Q rh r m ok => by
  unfold bAny at m
  split at m
  · obtain ⟨v, rfl, r1⟩ := r.one
    cases r1 with
    | loc e0 =>
      obtain ⟨ds, vs, sq, rv, bs, rfl, q⟩ := rh.rdL e0 m
      exact ⟨_, bs, rfl, by rw [← rds_bl rv]; exact sq, ok _ _ _ _ _ .refl rh (.bl _) q⟩
  · exact m.elim⟩
end
end L3

/-! range with a step -/
namespace L3
open PySem PySem.Spec PyProof.Rows L2
section
variable {X : Cx} {W : Wz} {tg : Expr} {pos : Pos}
def rngC (lo c : Int) (n : Nat) : List D := (List.range n).map fun i => .int (lo + (i : Nat) * c)
theorem rngC_len {lo c : Int} {n : Nat} : (rngC lo c n).length = n := by simp [rngC]
theorem rngC_at {lo c : Int} {n i : Nat} {d : D} (e : (rngC lo c n)[i]? = some d) : i < n ∧ d = .int (lo + (i : Nat) * c) := by
  obtain ⟨z1, z2⟩ := List.getElem?_eq_some_iff.mp e
  rw [rngC_len] at z1
  refine ⟨z1, ?_⟩
  rw [← z2]
  simp [rngC]
theorem it_rngC {K : PySem.W.Frag} {φ : List Addr} {H : Hp} {lo c : Int} {n : Nat} : ItOk K φ H (Itc lo c n) (rngC lo c n) (fun _ => True) := fun φ' h' H' x rh _ => by
  refine ⟨fun i d hd => ?_, fun i hi => by rw [rngC_len] at hi; exact hi⟩
  obtain ⟨hi, rfl⟩ := rngC_at hd
  refine ⟨hi, fun u H2 ⟨e1, e2⟩ => ?_⟩
  subst e1; subst e2
  exact ⟨.refl, rh, .int _⟩
abbrev miRng3 (m : MA) : MI := fun ρ h R E => m ρ h (fun ds h1 => match ds with | [.int i, .int j, .int c] => ∃ n, RgC i j c n ∧ R (rngC i c n) (fun _ => True) h1 | _ => False) E
theorem three_int {K : PySem.W.Frag} {φ : List Addr} {H : Hp} {i j c : Int} {vs : List V} (r : RDs K φ H [.int i, .int j, .int c] vs) : vs = [.int i, .int j, .int c] := by
  cases r with
  | cons r1 r2 => cases r1; rw [two_int r2]
theorem ci_rng3 {a b c : Expr} {p : Pos} {m : MA} (hg : Gl X "range") (hm : X.mg "range" = none) (ha : CA X W [a, b, c] m) (hs : starEach [a, b, c] X.env = (false, eval a X.env) :: starEach [b, c] X.env := by rfl) (hpl : (backTo pos (starEach [b, c] X.env)).any (·.1) = false := by rfl) : CI X W tg (.Call (.Name "range" p) [a, b, c] [] pos) (miRng3 m) :=
  ⟨_, pi_range3 hg hm cA.pa hs hpl, fun φ ρ σ h H R Rm Xm rh rs q ok ox => ha.sim φ ρ σ h H _ _ _ rh rs q (fun φ1 h1 H1 ds vs e1 rh1 r q1 => by
    split at q1
    · obtain ⟨n, rc, q2⟩ := q1
      exact ⟨_, _, _, n, three_int r, rc, ok _ _ _ _ _ _ e1 rh1 it_rngC q2⟩
    · exact q1.elim) ox⟩
/-- range(0, 2 k, 2) -/
theorem rg2 {k : Nat} (h : k < 1000000) : RgC 0 ((2 * k : Nat) : Int) 2 k := by
  have e : Builtin.Range.rangeSize 0 ((2 * k : Nat) : Int) 2 = k := by
    unfold Builtin.Range.rangeSize
    rw [if_pos (by decide)]
    by_cases z : k = 0
    · subst z
      rfl
    · rw [if_pos (by omega)]
      omega
  have fit : ∀ i : Int, 0 ≤ i → i < 100000000 → Builtin.Range.rangeFitsLong i = true := fun i h0 h1 => by
    show (decide (-(2 ^ 63) ≤ i) && decide (i < 2 ^ 63)) = true
    rw [decide_eq_true (Int.le_trans (by decide) h0), decide_eq_true (Int.lt_of_lt_of_le h1 (by decide))]
    rfl
  refine ⟨by decide, by decide, ?_, e⟩
  unfold Builtin.Range.small
  rw [e, fit 0 (by decide) (by decide), fit _ (by omega) (by omega), fit 2 (by decide) (by decide), fit k (by omega) (by omega), if_pos (by decide), fit _ (by omega) (by omega), Bool.or_true]
  rfl
end
end L3

/-! enumerate(tuple) -/
namespace MyE
open PySem PySem.Spec PyProof.Rows L2
open Sem (wp)
open AutoSeq1 (wpAny_loadPart')
theorem meets_newT (l : Addr) (o : Obj) (items : Array Value) :
    Meets (Builtin.«enumerate.__new__» ⟨[.type "enumerate", .ref l], []⟩) (fun _ R s => (s.heap.get? l = some o ∧ s.heap.IsTuple l items) ∧
      R (.ok (.ret (.ref (s.heap.push { cls := .type "tuple_iterator", data := .fields #[.ref l, .int 0 0] }).objs.size)))
        { s with heap := (s.heap.push { cls := .type "tuple_iterator", data := .fields #[.ref l, .int 0 0] }).push { cls := .type "enumerate", data := .fields #[.none, .bool false, .ref s.heap.objs.size, rawInt 0, .none, .none] } }) :=
  .of_wp fun prog w A R s h => by
    obtain ⟨hp, g, d, tk, os⟩ := s; obtain ⟨⟨hl, hL⟩, h⟩ := h
    have hsub := sub_enumerate
    have hL : Heap.IsTuple (Shared.heap ⟨hp, g, d, tk, os⟩) l items := hL
    wp_walk using wpAny_loadPart' hl
    refine wpAny_stack_any fun st => wpAny_pure ?_
    split
    · rename_i c _ _ _ _ _
      cases (c == Value.type "enumerate")
      · wp_walk using wpAny_loadPart' hl, wpAny_pyIter_tuple hL
        exact ⟨_, rfl, h⟩
      · wp_walk using wpAny_loadPart' hl, wpAny_pyIter_tuple hL
        exact ⟨_, rfl, h⟩
    · wp_walk using wpAny_loadPart' hl, wpAny_pyIter_tuple hL
      exact ⟨_, rfl, h⟩
section
variable {prog : Program} {w : World} {A : Around} {E : Value → Shared → Prop} {s : Shared}
theorem call_enumerate_tuple {l : Addr} {items : Array Value} {Q : Value → Shared → Prop} (hL : s.heap.IsTuple l items)
    (h : ∀ h', IsEnum h' (s.heap.objs.size + 1) s.heap.objs.size 0 .none → h'.IsTupleIter s.heap.objs.size l 0 → h'.objs.size = s.heap.objs.size + 2 →
      (∀ b o, s.heap.get? b = some o → h'.get? b = some o) → Q (.ref (s.heap.objs.size + 1)) { s with heap := h' }) :
    wpAny (model prog w) A (call (.type "enumerate") [.ref l]) Q E s := by
  obtain ⟨o, hl, hc⟩ := id hL
  refine callType_new F.called_enumerate (by decide) (F.typeCall_enumerate_1 _) (F.newCall_enumerate_1 _) (fun obj => F.args_object_init_2 obj _) F.entry_enumerate_new
    (meets_newT l o items) ⟨⟨hl, hL⟩, ?_⟩
  have hz : (s.heap.push { cls := .type "tuple_iterator", data := .fields #[.ref l, .int 0 0] }).objs.size = s.heap.objs.size + 1 := Heap.size_push ..
  show _ ∧ _
  rw [hz]
  have he : IsEnum ((s.heap.push { cls := .type "tuple_iterator", data := .fields #[.ref l, .int 0 0] }).push
      { cls := .type "enumerate", data := .fields #[.none, .bool false, .ref s.heap.objs.size, rawInt 0, .none, .none] }) (s.heap.objs.size + 1) s.heap.objs.size 0 .none := by
    have := Heap.get?_push_size (s.heap.push { cls := .type "tuple_iterator", data := .fields #[.ref l, .int 0 0] })
      (o := { cls := .type "enumerate", data := .fields #[.none, .bool false, .ref s.heap.objs.size, rawInt 0, .none, .none] }) rfl
    rw [hz] at this; exact this
  refine ⟨⟨_, he, rfl⟩, h _ he ⟨_, Heap.get?_push_of_some _ (Heap.get?_push_size _ rfl), rfl, rfl⟩ (by rw [Heap.size_push, hz]) fun b o x => Heap.get?_push_of_some _ (Heap.get?_push_of_some _ x)⟩
theorem enum_endT {e it l : Addr} {i : Nat} {items : Array Value} {old : Value} {Q : Option Value → Shared → Prop} (hh : A.handled = none)
    (he : IsEnum s.heap e it i old) (hit : s.heap.IsTupleIter it l i) (hl : s.heap.IsTuple l items) (hx : items[i]? = none)
    (hQ : ∀ h', Heap.ExtBut it s.heap h' → Q none { s with heap := h' }) : wpAny (model prog w) A (pyNext (.ref e)) Q E s := by
  have hT : s.TypeIs (.ref e) "enumerate" := ⟨_, he, rfl⟩
  unfold pyNext
  refine wpAny_bind (wpAny_attempt (wpAny_callSpecial?_slot (name := Str.ofString "__next__") hT F.slot_enumerate_next
    (wpAny_call_entry F.slot_enumerate_next hT F.entry_enumerate_next ?_ (F.args_enumerate_next_1 _))))
  show wpAny _ _ (field (.ref e) 2 >>= _) _ _ _
  refine wpAny_bind (wpAny_field he rfl (x := .ref it) rfl ?_)
  refine wpAny_bind (wpAny_nextOf_tuple_end hh hit hl hx fun h' x he' hx' => ?_)
  obtain ⟨o, ho, hc⟩ := hx'
  refine wpAny_bind (wpAny_isInstance (T := "StopIteration") (b := true) ⟨o, ho, hc⟩ isSubtype_stop ?_)
  exact wpAny_pure (hQ _ he')
end
/-- the tuple at a, each item in a new pair -/
def IteT (K : PySem.W.Frag) (a : Addr) : It :=
  ⟨fun i H => ∃ (xs : List V) (x : V), SqT K H a xs ∧ xs[i]? = some x, fun i H v H' => ∃ T x, v = .ref T ∧ H T = none ∧ H' = upd H T (.tup [.int (i : Nat), x]) ∧ ∀ xs, SqT K H a xs → xs[i]? = some x, fun i H => ∃ xs : List V, SqT K H a xs ∧ xs.length ≤ i⟩
theorem turn_enumT {P : Program} {w : World} {K : PySem.W.Frag} {elts : List Expr} {kk : Nat} {tpos : Pos} (a e it : Addr) (ht : a ≠ it) (hea : e ≠ a) :
    Turn P w K (.Tuple elts kk tpos) (IteT K a) [e, it] e (fun i h => (∃ old, IsEnum h e it ((i : Nat) : Int) old) ∧ h.IsTupleIter it a i ∧ e ≠ it) where
  mem := by simp
  obj := fun i h st b hb => by
    obtain ⟨⟨old, he⟩, ⟨o, ho, hc, hd⟩, _⟩ := st
    have e' : b = e ∨ b = it := by simpa using hb
    rcases e' with z | z
    · rw [z]; exact ⟨_, he, fun v q => nomatch q⟩
    · rw [z]; exact ⟨o, ho, fun v q => by rw [hd] at q; cases q⟩
  keep := fun i h h' st k => let ⟨⟨old, he⟩, hi, hne⟩ := st; ⟨⟨old, k e (by simp) _ he⟩, hi.at fun o q => k it (by simp) o q, hne⟩
  item := by
    intro X hP hw hK hc i pins s σ H E I hf st hg
    subst hP hw hK
    obtain ⟨⟨old, he⟩, hit, hne⟩ := st
    obtain ⟨xs, x, hq, hx⟩ := hg
    obtain ⟨its, rv, p, hz⟩ := I.tuple hq
    obtain ⟨u, hu, ru⟩ := rv.get hx
    have hel : e < s.heap.objs.size := Heap.lt_size he
    have hil : it < s.heap.objs.size := by obtain ⟨_, q, _⟩ := hit; exact Heap.lt_size q
    have hlt : i < its.toArray.size := by
      have := (List.getElem?_eq_some_iff.mp hu).1
      simpa using this
    refine wpAny_pyNext_enum_itemD (Draws.tuple (prog := X.prog) (w := X.w) (A := X.A.in1) (show X.A.in1.handled = none from I.ok.hd hc) it a ht its.toArray) he ⟨hit, show s.heap.IsTuple a its.toArray from p⟩ hlt hne (by simp; exact ⟨hne, hea⟩) fun x' h' tk hP ho hst' hT hsz hk => ?_
    obtain rfl : x' = u := by
      have z : its.toArray[i]? = some u := by simpa using hu
      rw [z] at hP
      exact (Option.some.inj hP).symm
    have hit' := hst'.1
    refine ⟨_, rfl, wpAny_letOwnedTupleGo_enum (s := { s with heap := h', toks := tk + 1 }) ho fun h'' he' sb => ?_⟩
    have hT2 : h''.get? s.heap.objs.size = some { cls := .type "tuple", data := .seq #[.int i tk, x'] } := (sb.2 _ (Nat.ne_of_gt hel)).trans hT
    have new : ObjOk X.prog X.w (upd H s.heap.objs.size (.tup [.int (i : Nat), x])) h'' s.heap.objs.size (.tup [.int (i : Nat), x]) :=
      ⟨by show 2 ≤ sizeLine; decide, [.int i tk, x'], .cons ⟨_, rfl⟩ (.cons ru .nil), ⟨_, hT2, rfl, _, rfl⟩⟩
    have I1 : Inv X pins σ (upd H s.heap.objs.size (.tup [.int (i : Nat), x])) { s with heap := h'', toks := tk + 1 } :=
      I.turnedNew (ch := [e, it]) (fun b ob hb q => (sb.2 b (fun z => hb (by simp [z]))).trans (hk b ob (fun z => hb (by simp [z])) (fun z => hb (by simp [z])) q)) hf (Nat.le_refl _) new
    refine ⟨.ref s.heap.objs.size, _, I1, rfl, ⟨_, x, rfl, I.hok.fresh (Nat.le_refl _), rfl, fun ys hy => by rw [I.tuple_inj hy hq]; exact hx⟩, ⟨⟨x', ?_⟩, hit'.at fun o q => (sb.2 it (Ne.symm hne)).trans q, hne⟩, fun b hb => ?_⟩
    · have e1 : ((i + 1 : Nat) : Int) = (i : Int) + 1 := by omega
      rw [e1]; exact he'
    · have hb' : b < s.heap.objs.size := by
        have e' : b = e ∨ b = it := by simpa using hb
        rcases e' with z | z
        · rw [z]; exact hel
        · rw [z]; exact hil
      rw [upd_ne (Nat.ne_of_lt hb')]
      exact (hf b hb).1
  done := by
    intro X hP hw hK hc i pins s σ H E I hf st hg
    subst hP hw hK
    obtain ⟨⟨old, he⟩, hit, hne⟩ := st
    obtain ⟨xs, hq, hx⟩ := hg
    obtain ⟨its, rv, p, hz⟩ := I.tuple hq
    obtain ⟨f0, f1, f2, f3, f4, f5⟩ := hf it (by simp)
    have hl := rv.length
    exact enum_endT (I.ok.hd hc) he hit (show s.heap.IsTuple a its.toArray from p) (by simp; omega) fun h' eb => ⟨rfl, I.turned (t' := s.toks) (fun b o hb q => eb b o hb q) f0 f1 f3 f4 f5⟩
  self := fun A i s Q E st h => let ⟨⟨_, he⟩, _⟩ := st; wpAny_pyIter_enum he h
def iEnumA (K : PySem.W.Frag) (ta : TA) : TI := fun σ H R => ta σ H fun vs H1 => ∃ a xs, vs = [.ref a] ∧ ((SqL K H1 a xs ∧ R (Ite K a) H1) ∨ (SqT K H1 a xs ∧ R (IteT K a) H1))
theorem pi_enumA {X : Cx} {e : Expr} {ta : TA} {p pos tpos : Pos} {elts : List Expr} {kk : Nat} (hg : Gl X "enumerate") (hm : X.mg "enumerate" = none) (ha : PA X [e] ta) (hs : starEach [e] X.env = [(false, eval e X.env)] := by rfl) :
    PI X (.Tuple elts kk tpos) (.Call (.Name "enumerate" p) [e] [] pos) (iEnumA X.K ta) := by
  refine ⟨fun pins s σ H R I h => ?_⟩
  refine Call_ (ld_blt I hg hm boot_enumerate (PyProof.Rows.callWith_type1 (thn (ha.run pos pins s σ H _ I h) fun us s1 ⟨vs, H1, I1, r1, q1⟩ => ?_) hs rfl))
  obtain ⟨a, xs, ex, hq⟩ := q1
  subst ex
  cases r1 with
  | cons r rr =>
    cases rr
    cases r
    rcases hq with ⟨hq, q⟩ | ⟨hq, q⟩
    · obtain ⟨its, rv, p', hz⟩ := I1.list hq
      refine call_enumerate_list p'.isList fun h' he hit hsz hk => wpAny_pyIter_enum he ?_
      have I2 : Inv X pins σ H1 { s1 with heap := h' } := I1.kept (t' := s1.toks) hk
      refine ⟨s1.heap.objs.size + 1, [s1.heap.objs.size + 1, s1.heap.objs.size], _, _, H1, rfl, I2, turn_enum a (s1.heap.objs.size + 1) s1.heap.objs.size, ⟨⟨.none, he⟩, hit, Nat.succ_ne_self _⟩, fun b hb => ?_, q⟩
      have e' : b = s1.heap.objs.size + 1 ∨ b = s1.heap.objs.size := by simpa using hb
      have hle : s1.heap.objs.size ≤ b := by
        rcases e' with z | z
        · rw [z]; exact Nat.le_add_right _ _
        · rw [z]; exact Nat.le_refl _
      exact I1.fpOk hle (I1.hok.fresh hle)
    · obtain ⟨its, rv, p', hz⟩ := I1.tuple hq
      have hT : s1.heap.IsTuple a its.toArray := p'
      have hla : a < s1.heap.objs.size := by obtain ⟨_, q, _⟩ := hT; exact Heap.lt_size q
      refine call_enumerate_tuple hT fun h' he hit hsz hk => wpAny_pyIter_enum he ?_
      have I2 : Inv X pins σ H1 { s1 with heap := h' } := I1.kept (t' := s1.toks) hk
      refine ⟨s1.heap.objs.size + 1, [s1.heap.objs.size + 1, s1.heap.objs.size], _, _, H1, rfl, I2, turn_enumT a (s1.heap.objs.size + 1) s1.heap.objs.size (Nat.ne_of_lt hla) (Nat.ne_of_gt (Nat.lt_succ_of_lt hla)), ⟨⟨.none, he⟩, hit, Nat.succ_ne_self _⟩, fun b hb => ?_, q⟩
      have e' : b = s1.heap.objs.size + 1 ∨ b = s1.heap.objs.size := by simpa using hb
      have hle : s1.heap.objs.size ≤ b := by
        rcases e' with z | z
        · rw [z]; exact Nat.le_add_right _ _
        · rw [z]; exact Nat.le_refl _
      exact I1.fpOk hle (I1.hok.fresh hle)
end MyE

/-! enumerate of a list or a tuple -/
namespace L3
open PySem PySem.Spec PyProof.Rows L2
section
variable {X : Cx} {W : Wz} {pos : Pos}
abbrev miEnumA (m : MA) : MI := fun ρ h R E => m ρ h (fun ds h1 => match ds with
  | [.loc n] => lstAt h1 n fun ds => R (enumD 0 ds) (fun h2 => lstAt h2 n fun es => es = ds) h1
  | [.tup ds] => R (enumD 0 ds) (fun _ => True) h1
  | _ => False) E
theorem ci_enumA {a : Expr} {p tpos : Pos} {elts : List Expr} {kk : Nat} {m : MA} (hg : Gl X "enumerate") (hm : X.mg "enumerate" = none) (ha : CA X W [a] m) (hs : starEach [a] X.env = [(false, eval a X.env)] := by rfl) : CI X W (.Tuple elts kk tpos) (.Call (.Name "enumerate" p) [a] [] pos) (miEnumA m) :=
  ⟨_, MyE.pi_enumA hg hm cA.pa hs, fun φ ρ σ h H R Rm Xm rh rs q ok ox => ha.sim φ ρ σ h H _ _ _ rh rs q (fun φ1 h1 H1 ds vs e1 rh1 r q1 => by
    split at q1
    · cases r with
      | cons r1 r2 =>
        cases r1 with
        | loc e0 =>
          cases r2
          obtain ⟨ds, vs0, sq0, r0, q2⟩ := rh1.rdL e0 q1
          refine ⟨_, vs0, rfl, .inl ⟨sq0, ok _ _ _ _ _ _ e1 rh1 (fun φ' h' H' x rh g => ?_) q2⟩⟩
          obtain ⟨es, vs, sq, r, e9⟩ := rh.rdL (x.pre _ _ e0) g
          subst e9
          clear r0
          refine ⟨fun i d hd => ?_, fun i hi => ⟨vs, sq, by rw [← r.len]; rwa [enumD_len] at hi⟩⟩
          rw [enumD_get] at hd
          obtain ⟨d0, hd0, rfl⟩ := Option.map_eq_some_iff.mp hd
          obtain ⟨v, hv, rd⟩ := r.at_ hd0
          refine ⟨⟨vs, v, sq, hv⟩, fun u H2 ⟨T, y, e3, hT, e4, e5⟩ => ?_⟩
          subst e3 e4
          have := e5 vs sq
          rw [hv] at this
          cases this
          obtain ⟨r3, x3⟩ := rh.new hT (.tup [.int (i : Nat), v])
          exact ⟨x3, r3, .pr upd_same (.cons (by rw [Nat.zero_add]; exact .int _) (.cons (rd.to x3.toMo) .nil))⟩
    · cases r with
      | cons r1 r2 =>
        cases r1 with
        | tup t1 rv =>
          cases r2
          rename_i ds _ vs
          refine ⟨_, vs, rfl, .inr ⟨t1.sq, ok _ _ _ _ _ _ e1 rh1 (fun φ' h' H' x rh g => ?_) q1⟩⟩
          have s1 := (t1.ext x).sq
          refine ⟨fun i d hd => ?_, fun i hi => ⟨vs, s1, by rw [← rv.len]; rwa [enumD_len] at hi⟩⟩
          rw [enumD_get] at hd
          obtain ⟨d0, hd0, rfl⟩ := Option.map_eq_some_iff.mp hd
          obtain ⟨v, hv, rd⟩ := rv.at_ hd0
          refine ⟨⟨vs, v, s1, hv⟩, fun u H2 ⟨T, y, e3, hT, e4, e5⟩ => ?_⟩
          subst e3 e4
          have := e5 vs s1
          rw [hv] at this
          cases this
          obtain ⟨r3, x3⟩ := rh.new hT (.tup [.int (i : Nat), v])
          exact ⟨x3, r3, .pr upd_same (.cons (by rw [Nat.zero_add]; exact .int _) (.cons ((rd.to x).to x3.toMo) .nil))⟩
    · exact q1.elim) ox⟩
end
end L3

/-! zip(tuple, list): by the two iterators' own draws -/
namespace MyZ
open PySem PySem.Spec PyProof.Rows L2
/-- pairs of a tuple at a and a list at b -/
def ItM (K : PySem.W.Frag) (a b : Addr) : It :=
  ⟨fun i H => ∃ (xs ys : List V) (x y : V), SqT K H a xs ∧ SqL K H b ys ∧ xs[i]? = some x ∧ ys[i]? = some y,
    fun i H v H' => ∃ T x y, v = .ref T ∧ H T = none ∧ H' = upd H T (.tup [x, y]) ∧ (∀ xs, SqT K H a xs → xs[i]? = some x) ∧ ∀ ys, SqL K H b ys → ys[i]? = some y,
    fun i H => ∃ xs ys : List V, SqT K H a xs ∧ SqL K H b ys ∧ (xs.length ≤ i ∨ ys.length ≤ i)⟩
/-- five cells of a zip, what they hold at turn i -/
structure Zs (z p q i1 i2 a b : Addr) (i : Nat) (h : Heap) : Prop where
  hz : IsZip h z p q .none
  hp : IsTupOf2 h p (.ref i1) (.ref i2)
  hq : ∃ x y, IsTupOf2 h q x y
  h1 : h.IsTupleIter i1 a i
  h2 : h.IsListIter i2 b i
theorem five {c z p q i1 i2 : Addr} (h : c ∈ [z, p, q, i1, i2]) : c = z ∨ c = p ∨ c = q ∨ c = i1 ∨ c = i2 := by simpa using h
/-- an iterator that has come to its end, at whatever turn -/
theorem ends_tuple {prog : Program} {w : World} {A : Around} (hh : A.handled = none) (it t : Addr) (i : Nat) (items : Array Value) (hx : items[i]? = none) :
    Draws prog w A it [it, t] i (fun _ _ => False) (fun j h => j = i ∧ h.IsTupleIter it t j ∧ h.IsTuple t items) where
  live := fun _ _ st => let ⟨o, ho, _⟩ := st.2.1; ⟨o, ho⟩
  frame := fun _ _ _ st hk => ⟨st.1, st.2.1.at fun o e => hk it (by simp) o e, st.2.2.at fun o e => hk t (by simp) o e⟩
  item := fun j s Q E hi st _ => absurd st.1 (Nat.ne_of_lt hi)
  done := fun s Q E st hE => wpAny_nextOf_tuple_end hh st.2.1 st.2.2 hx hE
theorem ends_list {prog : Program} {w : World} {A : Around} (hh : A.handled = none) (it t : Addr) (i : Nat) (items : Array Value) (hx : items[i]? = none) :
    Draws prog w A it [it, t] i (fun _ _ => False) (fun j h => j = i ∧ h.IsListIter it t j ∧ h.IsList t items) where
  live := fun _ _ st => let ⟨o, ho, _⟩ := st.2.1; ⟨o, ho⟩
  frame := fun _ _ _ st hk => ⟨st.1, st.2.1.at fun o e => hk it (by simp) o e, st.2.2.at fun o e => hk t (by simp) o e⟩
  item := fun j s Q E hi st _ => absurd st.1 (Nat.ne_of_lt hi)
  done := fun s Q E st hE => wpAny_nextOf_list_end hh st.2.1 st.2.2 hx hE
theorem turn_zipM {P : Program} {w : World} {K : PySem.W.Frag} {elts : List Expr} {kk : Nat} {tpos : Pos} {a b z p q i1 i2 : Addr} (S : ZipSep2 z p q i1 i2 [i1, a] [i2, b]) (na : a ≠ i1) (nb : b ≠ i2) :
    Turn P w K (.Tuple elts kk tpos) (ItM K a b) [z, p, q, i1, i2] z (Zs z p q i1 i2 a b) where
  mem := by simp
  obj := fun i h st c hc => by
    obtain ⟨x, y, hq⟩ := st.hq
    obtain ⟨o1, e1, _, d1⟩ := st.h1
    obtain ⟨o2, e2, _, d2⟩ := st.h2
    rcases five hc with e | e | e | e | e <;> rw [e]
    · exact ⟨_, st.hz, fun _ n => nomatch n⟩
    · exact ⟨_, st.hp, fun _ n => nomatch n⟩
    · exact ⟨_, hq, fun _ n => nomatch n⟩
    · exact ⟨o1, e1, fun v n => by rw [d1] at n; cases n⟩
    · exact ⟨o2, e2, fun v n => by rw [d2] at n; cases n⟩
  keep := fun i h h' st k => by
    obtain ⟨x, y, hq⟩ := st.hq
    exact ⟨k z (by simp) _ st.hz, k p (by simp) _ st.hp, ⟨x, y, k q (by simp) _ hq⟩, st.h1.at fun o e => k i1 (by simp) o e, st.h2.at fun o e => k i2 (by simp) o e⟩
  item := by
    intro X hP hw hK hc i pins s σ H E I hf st hg
    subst hP hw hK
    obtain ⟨hz, hp, ⟨x0, y0, hq⟩, h1, h2⟩ := st
    obtain ⟨xs, ys, x, y, sx, sy, ex, ey⟩ := hg
    obtain ⟨as, ra, pa, _⟩ := I.tuple sx
    obtain ⟨bs, rb, pb, _⟩ := I.list sy
    obtain ⟨u, hu, ru⟩ := ra.get ex
    obtain ⟨v, hv, rv⟩ := rb.get ey
    have la := (List.getElem?_eq_some_iff.mp hu).1
    have lb := (List.getElem?_eq_some_iff.mp hv).1
    have zl : z < s.heap.objs.size := Heap.lt_size hz
    have hh : X.A.in1.handled = none := I.ok.hd hc
    refine wpAny_pyNext_zipD2_item S (Draws.tuple (prog := X.prog) (w := X.w) hh i1 a na as.toArray) (Draws.list (prog := X.prog) (w := X.w) hh i2 b nb bs.toArray) hz hp hq ⟨h1, show s.heap.IsTuple a as.toArray from pa⟩ ⟨h2, pb.isList⟩ (by simpa using la) (by simpa using lb) fun u' v' h' tk eu ev z' q' s1 s2 hT hsz hk => ?_
    obtain rfl : u' = u := by
      have n : as.toArray[i]? = some u := by simpa using hu
      exact Option.some.inj (eu.symm.trans n)
    obtain rfl : v' = v := by
      have n : bs.toArray[i]? = some v := by simpa using hv
      exact Option.some.inj (ev.symm.trans n)
    refine ⟨_, rfl, wpAny_letOwnedTupleGo_zip (s := { s with heap := h', toks := tk }) z' fun h2' z2 sb => ?_⟩
    have hT2 : h2'.get? s.heap.objs.size = some { cls := .type "tuple", data := .seq #[u', v'] } := (sb.2 _ (Nat.ne_of_gt zl)).trans hT
    have new : ObjOk X.prog X.w (upd H s.heap.objs.size (.tup [x, y])) h2' s.heap.objs.size (.tup [x, y]) :=
      ⟨Nat.le_of_ble_eq_true rfl, [u', v'], .cons ru (.cons rv .nil), ⟨_, hT2, rfl, _, rfl⟩⟩
    have up : ∀ c o, c ∉ [z, p, q, i1, i2] → s.heap.get? c = some o → h2'.get? c = some o := fun c o hb e =>
      (sb.2 c (fun n => hb (by simp [n]))).trans (hk c o (fun n => hb (by simp [n])) (fun n => hb (by simp [n])) (fun n => hb (by simp [n])) (fun n => hb (by simp [n])) e)
    refine ⟨.ref s.heap.objs.size, _, I.turnedNew (t' := tk) (ch := [z, p, q, i1, i2]) up hf (Nat.le_refl _) new, rfl, ⟨_, x, y, rfl, I.hok.fresh (Nat.le_refl _), rfl, fun l hl => by rw [I.tuple_inj hl sx]; exact ex, fun l hl => by rw [I.list_inj hl sy]; exact ey⟩, ⟨z2, ?_, ⟨u', v', ?_⟩, ?_, ?_⟩, fun c hm => ?_⟩
    · exact (sb.2 _ S.TIz).trans (hk _ _ S.TIz S.TITO S.TIi1 S.TIi2 hp)
    · exact (sb.2 _ S.TOz).trans q'
    · exact s1.1.at fun o e => (sb.2 _ (Ne.symm S.zi1)).trans e
    · exact s2.1.at fun o e => (sb.2 _ (Ne.symm S.zi2)).trans e
    · have hlt : c < s.heap.objs.size := by
        obtain ⟨_, e1, _⟩ := h1
        obtain ⟨_, e2, _⟩ := h2
        rcases five hm with e | e | e | e | e <;> rw [e]
        · exact zl
        · exact Heap.lt_size hp
        · exact Heap.lt_size hq
        · exact Heap.lt_size e1
        · exact Heap.lt_size e2
      rw [upd_ne (Nat.ne_of_lt hlt)]
      exact (hf c hm).1
  done := by
    intro X hP hw hK hc i pins s σ H E I hf st hg
    subst hP hw hK
    obtain ⟨hz, hp, ⟨x0, y0, hq⟩, h1, h2⟩ := st
    obtain ⟨xs, ys, sx, sy, le⟩ := hg
    obtain ⟨as, ra, pa, _⟩ := I.tuple sx
    obtain ⟨bs, rb, pb, _⟩ := I.list sy
    have la := ra.length
    have lb := rb.length
    have hh : X.A.in1.handled = none := I.ok.hd hc
    have fin : ∀ (h' : Heap) (tk : Nat), (∀ c o, c ≠ z → c ≠ q → c ≠ i1 → c ≠ i2 → s.heap.get? c = some o → h'.get? c = some o) → L2.Inv X pins σ H { s with heap := h', toks := tk } := fun h' tk hk =>
      I.turnedL (t' := tk) (ch := [z, p, q, i1, i2]) (fun c o hb e => hk c o (fun n => hb (by simp [n])) (fun n => hb (by simp [n])) (fun n => hb (by simp [n])) (fun n => hb (by simp [n])) e) hf
    have ta : s.heap.IsTuple a as.toArray := pa
    have no : ∀ {us : List Value}, us.length ≤ i → us.toArray[i]? = none := fun l => by simpa using l
    by_cases c1 : as.length ≤ i
    · by_cases c2 : bs.length ≤ i
      · exact wpAny_pyNext_zipD2_end S (ends_tuple (prog := X.prog) (w := X.w) hh i1 a i as.toArray (no c1)) (ends_list (prog := X.prog) (w := X.w) hh i2 b i bs.toArray (no c2)) hz hp hq ⟨rfl, h1, ta⟩ ⟨rfl, h2, pb.isList⟩ (Nat.le_refl _) (Nat.le_refl _) (.inl rfl) fun h' tk hk => ⟨rfl, fin h' tk hk⟩
      · exact wpAny_pyNext_zipD2_end S (ends_tuple (prog := X.prog) (w := X.w) hh i1 a i as.toArray (no c1)) (Draws.list (prog := X.prog) (w := X.w) hh i2 b nb bs.toArray) hz hp hq ⟨rfl, h1, ta⟩ ⟨h2, pb.isList⟩ (Nat.le_refl _) (by simp; omega) (.inl rfl) fun h' tk hk => ⟨rfl, fin h' tk hk⟩
    · exact wpAny_pyNext_zipD2_end S (Draws.tuple (prog := X.prog) (w := X.w) hh i1 a na as.toArray) (ends_list (prog := X.prog) (w := X.w) hh i2 b i bs.toArray (no (by omega))) hz hp hq ⟨h1, ta⟩ ⟨rfl, h2, pb.isList⟩ (by simp; omega) (Nat.le_refl _) (.inr rfl) fun h' tk hk => ⟨rfl, fin h' tk hk⟩
  self := fun A i s Q E st h => wpAny_pyIter_zip st.hz h
/-- of two lists, of two tuples, of a tuple and a list -/
def iZipB (K : PySem.W.Frag) (ta : TA) : TI := fun σ H R => ta σ H fun vs H1 => ∃ a b xs ys, vs = [.ref a, .ref b] ∧ ((SqL K H1 a xs ∧ SqL K H1 b ys ∧ R (Itz K a b) H1) ∨ (SqT K H1 a xs ∧ SqT K H1 b ys ∧ R (RZ.ItzT K a b) H1) ∨ (SqT K H1 a xs ∧ SqL K H1 b ys ∧ R (ItM K a b) H1))
theorem pi_zipB {X : Cx} {e e2 : Expr} {ta : TA} {p pos tpos : Pos} {elts : List Expr} {kk : Nat} (hg : Gl X "zip") (hm : X.mg "zip" = none) (ha : PA X [e, e2] ta)
    (hs : starEach [e, e2] X.env = (false, eval e X.env) :: starEach [e2] X.env := by rfl) (hpl : (backTo pos (starEach [e2] X.env)).any (·.1) = false := by rfl) :
    PI X (.Tuple elts kk tpos) (.Call (.Name "zip" p) [e, e2] [] pos) (iZipB X.K ta) := by
  refine ⟨fun pins s σ H R I h => ?_⟩
  refine Call_ (ld_blt I hg hm PyProof.Rows.boot_zip (PyProof.Rows.callWith_type1 (thn (ha.run pos pins s σ H _ I h) fun us s1 ⟨vs, H1, I1, r1, q1⟩ => ?_) hs hpl))
  obtain ⟨a, b, xs, ys, ex, q1⟩ := q1
  subst ex
  cases r1 with
  | cons r rr =>
    cases rr with
    | cons r' rr =>
      cases rr
      cases r
      cases r'
      have fr : ∀ c, c ∈ [s1.heap.objs.size + 4, s1.heap.objs.size + 2, s1.heap.objs.size + 3, s1.heap.objs.size, s1.heap.objs.size + 1] → FpOk X pins H1 c := fun c hc => by
        have hle : s1.heap.objs.size ≤ c := by
          rcases five hc with e | e | e | e | e <;> rw [e]
          · exact Nat.le_add_right _ _
          · exact Nat.le_add_right _ _
          · exact Nat.le_add_right _ _
          · exact Nat.le_refl _
          · exact Nat.le_add_right _ _
        exact I1.fpOk hle (I1.hok.fresh hle)
      rcases q1 with ⟨sx, sy, q⟩ | ⟨sx, sy, q⟩ | ⟨sx, sy, q⟩
      · obtain ⟨as, ra, p1, _⟩ := I1.list sx
        obtain ⟨bs, rb, p2, _⟩ := I1.list sy
        refine call_zip_2 p1.isList p2.isList fun h' z1 z2 z3 z4 z5 z6 hk => wpAny_pyIter_zip z1 ?_
        exact ⟨s1.heap.objs.size + 4, _, _, _, H1, rfl, I1.kept (t' := s1.toks) hk, turn_zip (PySem.W.ktu_apart s1.heap.objs.size a b p1.lt p2.lt), ⟨z1, z2, ⟨_, _, z3⟩, z4, z5⟩, fr, q⟩
      · obtain ⟨as, ra, p1, _⟩ := I1.tuple sx
        obtain ⟨bs, rb, p2, _⟩ := I1.tuple sy
        obtain ⟨o1, e1, _⟩ := id p1
        obtain ⟨o2, e2, _⟩ := id p2
        refine RZ.call_zipT (show s1.heap.IsTuple a as.toArray from p1) (show s1.heap.IsTuple b bs.toArray from p2) fun h' z1 z2 z3 z4 z5 z6 hk => wpAny_pyIter_zip z1 ?_
        exact ⟨s1.heap.objs.size + 4, _, _, _, H1, rfl, I1.kept (t' := s1.toks) hk, RZ.turn_zipT (PySem.W.ktu_apart s1.heap.objs.size a b (Heap.lt_size e1) (Heap.lt_size e2)), ⟨z1, z2, ⟨_, _, z3⟩, z4, z5⟩, fr, q⟩
      · obtain ⟨as, ra, p1, _⟩ := I1.tuple sx
        obtain ⟨bs, rb, p2, _⟩ := I1.list sy
        obtain ⟨o1, e1, _⟩ := id p1
        have a1 : a < s1.heap.objs.size := Heap.lt_size e1
        have b1 : b < s1.heap.objs.size := p2.lt
        refine zip_begins2 (begins_tuple a as.toArray) (begins_list b bs.toArray) (show s1.heap.IsTuple a as.toArray from p1) p2.isList fun h' z1 z2 z3 z4 z5 z6 hk => wpAny_pyIter_zip z1 ?_
        refine ⟨s1.heap.objs.size + 4, _, _, _, H1, rfl, I1.kept (t' := s1.toks) hk, turn_zipM (zip_sep2 (fp1 := [a]) (fp2 := [b]) (by simpa using a1) (by simpa using b1)) (Nat.ne_of_lt a1) (Nat.ne_of_lt (Nat.lt_of_lt_of_le b1 (Nat.le_add_right _ 1))), ⟨z1, z2, ⟨_, _, z3⟩, ⟨_, z4, rfl, rfl⟩, ⟨_, z5, rfl, rfl⟩⟩, fr, q⟩
end MyZ

/-! sorted(set(list of ints)): the set of a list, its members counted once -/
namespace MyZ
open PySem PySem.Spec PyProof.Rows L2
section
variable {P : Program} {w : World} {A : Around} {E : Value → Shared → Prop} {s : Shared}
/-- what a fresh set is filled with -/
def Full (w : World) (s : Shared) (ns : List Int) (s2 : Shared) : Prop := ∃ h' tk c, s2 = { s with heap := h', toks := tk } ∧ SetR w h' s.heap.objs.size (fun j => decide (j ∈ ns)) c ∧ c ≤ ns.length ∧ ∀ b o, s.heap.get? b = some o → h'.get? b = some o
theorem call_set_lstI {l : Addr} {items : Array Value} (ns : List Int) {Q : Value → Shared → Prop} (hh : A.handled = none) (hl : s.heap.IsList l items) (hit : IntsAre items.toList ns) (hb : ns.length + 1 < scanBound)
    (h : ∀ s2, Full w s ns s2 → Q (.ref s.heap.objs.size) s2) : wpAny (model P w) A (call (.type "set") [.ref l]) Q E s := by
  have sz : items.size = ns.length := by
    have e := IntsAre.length hit
    rwa [Array.length_toList] at e
  obtain ⟨c, tl, hmro⟩ := F.called_set.mro
  have hmade := F.called_set.made
  have hsub := F.called_set.sub
  refine wpAny_call (codeAny_of_tree ?_)
  show wpAny _ _ (callAny (.type "set") _) _ _ _
  refine wpAny_pure ⟨Code.quiet_builtin _ (by decide +kernel), codeAny_builtin F.entry_type_call ?_⟩
  rw [Around.under_plain (weight_type_call_type "set" [.ref l] []) rfl]
  have h1 := F.called_set.notType
  have h2 := F.called_set.canCreate
  have hct := F.typeCall_set_1 (.ref l)
  repeat (any_goals (first | assumption | wp_step))
  refine codeAny_mono (code_set_led1 (.ref l) (E := E) (Q₁ := fun obj s1 => obj = .ref s.heap.objs.size ∧ s1 = { s with heap := s.heap.push { cls := .type "set", dict := none, data := .set #[] 0 (.fresh 0 0 (!w.params.followText "set-order")) } }) ⟨rfl, rfl⟩) fun r s1 hr => ?_
  cases r with
  | error e => exact hr
  | ok fl =>
    cases fl with
    | ret obj =>
      obtain ⟨rfl, rfl⟩ := hr
      have hS : (s.heap.push ({ cls := .type "set", dict := none, data := .set #[] 0 (.fresh 0 0 (!(World.params w).followText "set-order")) } : Obj)).get? s.heap.objs.size = some ({ cls := .type "set", dict := none, data := .set #[] 0 (.fresh 0 0 (!(World.params w).followText "set-order")) } : Obj) := Heap.get?_push_size _ rfl
      have hT : Shared.TypeIs { s with heap := s.heap.push ({ cls := .type "set", dict := none, data := .set #[] 0 (.fresh 0 0 (!(World.params w).followText "set-order")) } : Obj) } (.ref s.heap.objs.size) "set" := ⟨_, hS, rfl⟩
      have hli := F.called_set.init.lookup
      have hbi := F.called_set.init.bind (.ref s.heap.objs.size)
      repeat (any_goals (first | assumption | wp_step))
      refine codeAny_mono (codeAny_call_builtin (R := wants (fun r s2 => r = .none ∧ Full w s ns s2) E) F.called_set.init.plain F.entry_set_init (check_set_init_1 hT ?_)) fun r2 s2 hr2 => ?_
      · obtain ⟨⟨oc, od, odat, os⟩, hol, hcl, nl, hdl⟩ := hl
        simp only at hcl hdl
        subst hcl hdl
        have hol' : (s.heap.push ({ cls := .type "set", dict := none, data := .set #[] 0 (.fresh 0 0 (!(World.params w).followText "set-order")) } : Obj)).get? l = some { cls := .type "list", dict := od, data := .seq items nl, slots := os } := Heap.get?_push_of_some _ hol
        have hsls := F.sub_list_set
        have hslf := F.sub_list_frozenset
        have hne : (Value.type "list" == Value.type "dict") = false := by decide
        have hl1 : (s.heap.push ({ cls := .type "set", dict := none, data := .set #[] 0 (.fresh 0 0 (!(World.params w).followText "set-order")) } : Obj)).IsList l items := ⟨_, hol', rfl, nl, rfl⟩
        unfold Builtin.«set.__init__» noKeywords Builtin.Frozenset.updateFrom
        generalize hPI : pyIter = PI
        wp_walk
        subst hPI
        refine wpAny_pyIter_list hl1 ?_
        refine wpAny_bind (wpAny_runValue ?_)
        have lS : l < s.heap.objs.size := Heap.lt_size hol
        have h3 : A.in1.in1.in1.handled = none := by simp [hh]
        have n1 : l ≠ (s.heap.push ({ cls := .type "set", dict := none, data := .set #[] 0 (.fresh 0 0 (!(World.params w).followText "set-order")) } : Obj)).objs.size := by
          rw [Heap.size_push]
          exact Nat.ne_of_lt (Nat.lt_succ_of_lt lS)
        have n2 : s.heap.objs.size ∉ [(s.heap.push ({ cls := .type "set", dict := none, data := .set #[] 0 (.fresh 0 0 (!(World.params w).followText "set-order")) } : Obj)).objs.size, l] := by
          rw [Heap.size_push]
          simp only [List.mem_cons, List.not_mem_nil, or_false, not_or]
          exact ⟨Nat.ne_of_lt (Nat.lt_succ_self _), Nat.ne_of_gt lS⟩
        have hv : ∀ (i : Nat) (v : Value), items[i]? = some v → ∃ k t, ns[i]? = some k ∧ v = .int k t := fun i v e => by
          have hi : i < ns.length := sz ▸ (Array.getElem?_eq_some_iff.mp e).1
          obtain ⟨t, e2⟩ := PyProof.Rows.IntsAre.int_at hit i v (by rwa [Array.getElem?_toList])
          rw [List.getD_eq_getElem?_getD, List.getElem?_eq_getElem hi] at e2
          exact ⟨ns[i], t, List.getElem?_eq_getElem hi, e2⟩
        refine set_update_ints ((Walks.list h3 _ l n1 items).toS) s.heap.objs.size n2 ns sz hb hv (items.size - 0) 0 _ (by omega) (Nat.zero_le _) ⟨⟨_, Heap.get?_push_size _ rfl, rfl, rfl⟩, hl1.push _⟩ ?first ?last
        case first => exact ⟨0, Nat.le_refl 0, setR_new_at (Heap.get?_push_of_some _ hS)⟩
        case last =>
          intro s' c' hm hc' hS'
          obtain ⟨h', g2, d', tk', os'⟩ := s'
          obtain rfl : g2 = s.gens := hm.gens
          obtain rfl : d' = s.drawn := hm.drawn
          obtain rfl : os' = s.os := hm.os
          show wpAny _ _ _ _ _ _
          refine wpAny_pure ?_
          show wpAny _ _ (ret Value.none) _ _ _
          refine wpAny_pure ⟨rfl, h', tk', c', rfl, hS', sz ▸ hc', fun b o e => ?_⟩
          have b0 : b < s.heap.objs.size := Heap.lt_size e
          refine hm.heap b o ?_ (Heap.get?_push_of_some _ (Heap.get?_push_of_some _ e))
          rw [Heap.size_push]
          simp only [List.mem_cons, List.not_mem_nil, or_false, not_or]
          exact ⟨Nat.ne_of_lt b0, Nat.ne_of_lt (Nat.lt_succ_of_lt b0)⟩
      · cases r2 with
        | error e => exact hr2
        | ok fl2 =>
          cases fl2 with
          | ret r =>
            obtain ⟨rfl, hf⟩ := hr2
            repeat (any_goals (first | assumption | wp_step))
            exact h _ hf
          | _ => exact hr2.elim
    | _ => exact hr.elim
end
/-- sorted(set(xs)), ints, fewer than 64 unlike ones -/
def tSortSet (K : PySem.W.Frag) (ta : TE) : TE := fun σ H Q => ta σ H fun x H1 => ∃ (l : Addr) (ns : List Int), x = .ref l ∧ SqL K H1 l (ns.map V.int) ∧ ns.length < 64 ∧
  ∀ (ks : List Int) (p : Addr), ks.Pairwise (· < ·) → (∀ k, k ∈ ks ↔ k ∈ ns) → H1 p = none → Q (.ref p) (upd H1 p (.lst (ks.map V.int)))
theorem pe_sortSet {X : Cx} {a : Expr} {ta : TE} {p p2 q pos : Pos} (hg : Gl X "sorted") (hm : X.mg "sorted" = none) (hg2 : Gl X "set") (hm2 : X.mg "set" = none) (ha : PE X a ta) (hc : X.calm = true := by rfl)
    (na : starEach [a] X.env = (false, eval a X.env) :: starEach [] X.env := by rfl) : PE X (.Call (.Name "sorted" p) [.Call (.Name "set" p2) [a] [] q] [] pos) (tSortSet X.K ta) := by
  refine ⟨fun pins s σ H Q I h => ?_⟩
  refine Call_ (ld_blt I hg hm boot_sorted ?_)
  refine PyProof.Rows.callWith_builtin1 (PyProof.Rows.args_cons ?_ rfl) rfl rfl
  refine Call_ (ld_blt I hg2 hm2 boot_set ?_)
  refine PyProof.Rows.callWith_type1 (PyProof.Rows.args_cons (thn (ha.run pins s σ H _ I h) fun v s1 ⟨x, H1, I1, r1, q1⟩ => PyProof.Rows.args_nil ?_) na) na rfl
  obtain ⟨l, ns, rfl, hq, hl, q1⟩ := q1
  cases r1
  obtain ⟨its, r, pl, hz⟩ := I1.list hq
  refine call_set_lstI ns (I1.ok.hd hc) pl.isList (by simpa using RZ.intsAre_vals r) (by unfold scanBound; omega) fun s2 ⟨h', tk, c, e2, hS, hcn, hk⟩ => ?_
  refine PyProof.Rows.args_nil ?_
  have I2 : Inv X pins σ H1 s2 := by rw [e2]; exact I1.kept hk
  replace hS : SetR X.w s2.heap s1.heap.objs.size (fun j => decide (j ∈ ns)) c := by rw [e2]; exact hS
  clear e2
  refine sorted_set hS (I2.ok.hd hc) (by omega) fun s' p out c ks k g o hp hg hi hs hm hn => ?_
  have hlen : (ks.map V.int).length ≤ sizeLine := by rw [List.length_map, hn, sizeLine_eq]; omega
  have hfr : H1 p = none := I2.hok.fresh hp
  have J : Inv X pins σ (upd H1 p (.lst (ks.map V.int))) { s2 with heap := s'.heap, gens := s'.gens, drawn := s'.drawn, toks := s'.toks } :=
    I2.call (ch := []) (Un.laid k hp hfr) (I2.hok.laid k hp ⟨hlen, out.toList, c, vals_of_ints hi, hg⟩) (by rw [g]; exact I2.bare) (fun _ z => nomatch z)
  have e : s' = { s2 with heap := s'.heap, gens := s'.gens, drawn := s'.drawn, toks := s'.toks } := by
    cases s'
    cases s2
    cases o
    rfl
  rw [e]
  exact ⟨.ref p, _, J, rfl, q1 ks p hs (fun j => (hm j).trans (by simp)) hfr⟩
end MyZ

/-! a list so many times, zip of a tuple and a list, sorted, sorted(set), turned lists -/
namespace L3
open PySem PySem.Spec PyProof.Rows L2
section
variable {X : Cx} {W : Wz} {a b c e : Expr} {pos : Pos}
/-- a * b: ints, a list so many times -/
abbrev oMulA : MO := fun x y h Q => match x, y with
  | .int i, .int j => CMul i j ∧ Q (.int (i * j)) h
  | .loc n, .int k => wrAt h n fun xs => 0 ≤ k ∧ k ≤ 1000 ∧ xs.length ≤ 100 ∧ Q (.loc h.length) (h ++ [.lst (List.replicate k.toNat xs).flatten])
  | _, _ => False
theorem RDs.rep {K : PySem.W.Frag} {φ : List Addr} {H : Hp} {ds : List D} {vs : List V} (r : RDs K φ H ds vs) : ∀ n, RDs K φ H (List.replicate n ds).flatten (List.replicate n vs).flatten
  | 0 => .nil
  | n + 1 => by
    rw [List.replicate_succ, List.replicate_succ, List.flatten_cons, List.flatten_cons]
    exact r.app (RDs.rep r n)
theorem o_mulA : OpC X (binaryOp .Mult) oMulA := by
  refine ⟨_, OpR.or op_mul op_rep, fun φ h H dx dy x y Qm Q rh rx ry m ok => ?_⟩
  unfold oMulA at m
  split at m
  · cases rx; cases ry
    exact .inl ⟨_, _, rfl, rfl, m.1, ok _ _ _ _ _ .refl rh (.int _) m.2⟩
  · cases rx with
    | loc e0 =>
      cases ry
      obtain ⟨ds, vs, e1, rv, h0, h1, h2, q⟩ := rh.wrL e0 m
      refine .inr ⟨_, _, vs, rfl, rfl, e1, by omega, by omega, ?_, fun p hp => ?_⟩
      · rw [← rv.len]
        exact Nat.le_trans (Nat.mul_le_mul h2 (show Int.toNat _ ≤ 1000 by omega)) (by decide)
      · obtain ⟨r3, e3, rd⟩ := push_lst rh hp (rv.rep _)
        exact ok _ _ _ _ _ e3 r3 rd q
  · exact m.elim
/-- zip -/
abbrev miZipB (m : MA) : MI := fun ρ h R E => m ρ h (fun ds h1 => match ds with
  | [.loc n, .loc k] => lstAt h1 n fun xs => lstAt h1 k fun ys => R (zipD xs ys) (fun h2 => (lstAt h2 n fun es => es = xs) ∧ lstAt h2 k fun es => es = ys) h1
  | [.tup xs, .tup ys] => R (zipD xs ys) (fun _ => True) h1
  | [.tup xs, .loc k] => lstAt h1 k fun ys => R (zipD xs ys) (fun h2 => lstAt h2 k fun es => es = ys) h1
  | _ => False) E
theorem ci_zipB {p tpos : Pos} {elts : List Expr} {kk : Nat} {m : MA} (hg : Gl X "zip") (hm : X.mg "zip" = none) (ha : CA X W [a, b] m)
    (hs : starEach [a, b] X.env = (false, eval a X.env) :: starEach [b] X.env := by rfl) (hpl : (backTo pos (starEach [b] X.env)).any (·.1) = false := by rfl) : CI X W (.Tuple elts kk tpos) (.Call (.Name "zip" p) [a, b] [] pos) (miZipB m) :=
  ⟨_, MyZ.pi_zipB hg hm cA.pa hs hpl, fun φ ρ σ h H R Rm Xm rh rs q ok ox => ha.sim φ ρ σ h H _ _ _ rh rs q (fun φ1 h1 H1 ds vs e1 rh1 r q1 => by
    split at q1
    · cases r with
      | cons r1 r2 =>
        cases r2 with
        | cons r2 r3 =>
          cases r1 with
          | loc e0 =>
            cases r2 with
            | loc f0 =>
              cases r3
              obtain ⟨xs, vs0, sq0, rv0, q2⟩ := rh1.rdL e0 q1
              obtain ⟨ys, us0, sq0', ru0, q3⟩ := rh1.rdL f0 q2
              refine ⟨_, _, vs0, us0, rfl, .inl ⟨sq0, sq0', ok _ _ _ _ _ _ e1 rh1 (fun φ' h' H' x rh g => ?_) q3⟩⟩
              obtain ⟨_, vs, sq, rv, e9⟩ := rh.rdL (x.pre _ _ e0) g.1
              subst e9
              obtain ⟨_, us, sq', ru, e9⟩ := rh.rdL (x.pre _ _ f0) g.2
              subst e9
              clear rv0 ru0
              refine ⟨fun i d hd => ?_, fun i hi => ⟨vs, us, sq, sq', by rw [← rv.len, ← ru.len]; rw [zipD_len] at hi; omega⟩⟩
              obtain ⟨c1, c2, h1, h2, rfl⟩ := zipD_get hd
              obtain ⟨v, hv, rd⟩ := rv.at_ h1
              obtain ⟨u, hu, rd'⟩ := ru.at_ h2
              refine ⟨⟨vs, us, v, u, sq, sq', hv, hu⟩, fun z H2 ⟨T, y, y', e3, hT, e4, e5, e6⟩ => ?_⟩
              subst e3 e4
              have k1 := e5 vs sq
              rw [hv] at k1
              cases k1
              have k2 := e6 us sq'
              rw [hu] at k2
              cases k2
              obtain ⟨r3, x3⟩ := rh.new hT (.tup [v, u])
              exact ⟨x3, r3, .pr upd_same (.cons (rd.to x3.toMo) (.cons (rd'.to x3.toMo) .nil))⟩
    · cases r with
      | cons r1 r2 =>
        cases r2 with
        | cons r2 r3 =>
          cases r1 with
          | tup t1 rv =>
            cases r2 with
            | tup t2 ru =>
              cases r3
              rename_i _ vs _ us
              refine ⟨_, _, vs, us, rfl, .inr (.inl ⟨t1.sq, t2.sq, ok _ _ _ _ _ _ e1 rh1 (fun φ' h' H' x rh g => ?_) q1⟩)⟩
              have s1 := (t1.ext x).sq
              have s2 := (t2.ext x).sq
              refine ⟨fun i d hd => ?_, fun i hi => ⟨vs, us, s1, s2, by rw [← rv.len, ← ru.len]; rw [zipD_len] at hi; omega⟩⟩
              obtain ⟨c1, c2, h1, h2, rfl⟩ := zipD_get hd
              obtain ⟨v, hv, rd⟩ := rv.at_ h1
              obtain ⟨u, hu, rd'⟩ := ru.at_ h2
              refine ⟨⟨vs, us, v, u, s1, s2, hv, hu⟩, fun z H2 ⟨T, y, y', e3, hT, e4, e5, e6⟩ => ?_⟩
              subst e3 e4
              have k1 := e5 vs s1
              rw [hv] at k1
              cases k1
              have k2 := e6 us s2
              rw [hu] at k2
              cases k2
              obtain ⟨r3, x3⟩ := rh.new hT (.tup [v, u])
              exact ⟨x3, r3, .pr upd_same (.cons ((rd.to x).to x3.toMo) (.cons ((rd'.to x).to x3.toMo) .nil))⟩
    · cases r with
      | cons r1 r2 =>
        cases r2 with
        | cons r2 r3 =>
          cases r1 with
          | tup t1 rv =>
            cases r2 with
            | loc f0 =>
              cases r3
              rename_i vs _
              obtain ⟨ys, us0, sq0', ru0, q3⟩ := rh1.rdL f0 q1
              refine ⟨_, _, vs, us0, rfl, .inr (.inr ⟨t1.sq, sq0', ok _ _ _ _ _ _ e1 rh1 (fun φ' h' H' x rh g => ?_) q3⟩)⟩
              have s1 := (t1.ext x).sq
              obtain ⟨_, us, sq', ru, e9⟩ := rh.rdL (x.pre _ _ f0) g
              subst e9
              clear ru0
              refine ⟨fun i d hd => ?_, fun i hi => ⟨vs, us, s1, sq', by rw [← rv.len, ← ru.len]; rw [zipD_len] at hi; omega⟩⟩
              obtain ⟨c1, c2, h1, h2, rfl⟩ := zipD_get hd
              obtain ⟨v, hv, rd⟩ := rv.at_ h1
              obtain ⟨u, hu, rd'⟩ := ru.at_ h2
              refine ⟨⟨vs, us, v, u, s1, sq', hv, hu⟩, fun z H2 ⟨T, y, y', e3, hT, e4, e5, e6⟩ => ?_⟩
              subst e3 e4
              have k1 := e5 vs s1
              rw [hv] at k1
              cases k1
              have k2 := e6 us sq'
              rw [hu] at k2
              cases k2
              obtain ⟨r3, x3⟩ := rh.new hT (.tup [v, u])
              exact ⟨x3, r3, .pr upd_same (.cons ((rd.to x).to x3.toMo) (.cons (rd'.to x3.toMo) .nil))⟩
    · exact q1.elim) ox⟩
/-- sorted(ints) -/
abbrev bSorted : MB := fun ds h Q => match ds with | [.loc n] => lstAt h n fun xs => allInt xs fun ns => ∀ ks : List Int, ks.Perm ns → ks.Pairwise (· ≤ ·) → Q (.loc h.length) (h ++ [.lst (ks.map D.int)]) | _ => False
theorem rds_ofInt {K : PySem.W.Frag} {φ : List Addr} {H : Hp} : ∀ ns : List Int, RDs K φ H (ns.map D.int) (ns.map V.int)
  | [] => .nil
  | n :: ns => .cons (.int n) (rds_ofInt ns)
theorem b_sorted : BC X (.builtin "sorted") bSorted := ⟨_, cr_sortedI, fun φ h H ds vs Qm Q rh r m ok => by
  unfold bSorted at m
  split at m
  · obtain ⟨v, rfl, r1⟩ := r.one
    cases r1 with
    | loc e0 =>
      obtain ⟨ds, vs, sq, rv, bs, rfl, q⟩ := rh.rdL e0 m
      refine ⟨_, bs, rfl, by rw [← rds_int rv]; exact sq, fun ks p h1 h2 hp => ?_⟩
      obtain ⟨r3, x3, rd⟩ := push_lst rh hp (rds_ofInt ks)
      exact ok _ _ _ _ _ x3 r3 rd (q ks h1 h2)
  · exact m.elim⟩
/-- sorted(set(ints)) -/
abbrev mSortSet (m : ME) : ME := fun ρ h Q E => m ρ h (fun d h1 => match d with
  | .loc n => lstAt h1 n fun xs => allInt xs fun ns => ns.length < 64 ∧ ∀ ks : List Int, ks.Pairwise (· < ·) → (∀ k, k ∈ ks ↔ k ∈ ns) → Q (.loc h1.length) (h1 ++ [.lst (ks.map D.int)])
  | _ => False) E
theorem ce_sortSet {m : ME} {p p2 q : Pos} (hg : Gl X "sorted") (hm : X.mg "sorted" = none) (hg2 : Gl X "set") (hm2 : X.mg "set" = none) (ha : CE X W a m) (hc : X.calm = true := by rfl)
    (na : starEach [a] X.env = (false, eval a X.env) :: starEach [] X.env := by rfl) : CE X W (.Call (.Name "sorted" p) [.Call (.Name "set" p2) [a] [] q] [] pos) (mSortSet m) :=
  .of (MyZ.pe_sortSet hg hm hg2 hm2 cE.pe hc na) fun φ ρ σ h H Qm Q Xm rh rs m ok ox => ha.sim φ ρ σ h H _ _ _ rh rs m (fun φ1 h1 H1 d v e1 rh1 r1 q1 => by
    split at q1
    · cases r1 with
      | loc e0 =>
        obtain ⟨ds, vs, sq, rv, bs, rfl, hl, q⟩ := rh1.rdL e0 q1
        refine ⟨_, bs, rfl, by rw [← rds_int rv]; exact sq, hl, fun ks p h1 h2 hp => ?_⟩
        obtain ⟨r3, x3, rd⟩ := push_lst rh1 hp (rds_ofInt ks)
        exact ok _ _ _ _ _ (e1.trans x3) r3 rd (q ks h1 h2)
    · exact q1.elim) ox
/-- xs[::-1] -/
abbrev mRev (m : ME) : ME := fun ρ h Q E => m ρ h (fun d h1 => match d with
  | .loc n => lstAt h1 n fun xs => Q (.loc h1.length) (h1 ++ [.lst xs.reverse])
  | _ => False) E
theorem ce_rev {m : ME} {k : Nat} {p1 p2 p3 : Pos} (ha : CE X W a m) : CE X W (.Subscript a (.Slice none none (some (.UnaryOp .USub (.Constant (.int 1) k p1) p2)) p3) pos) (mRev m) :=
  .of (pe_revL cE.pe) fun φ ρ σ h H Qm Q Xm rh rs m ok ox => ha.sim φ ρ σ h H _ _ _ rh rs m (fun φ1 h1 H1 d v e1 rh1 r1 q1 => by
    split at q1
    · cases r1 with
      | loc e0 =>
        obtain ⟨ds, vs, sq, rv, q⟩ := rh1.rdL e0 q1
        refine ⟨_, vs, rfl, sq, fun p hp => ?_⟩
        obtain ⟨r3, x3, rd⟩ := push_lst rh1 hp rv.rev
        exact ok _ _ _ _ _ (e1.trans x3) r3 rd q
    · exact q1.elim) ox
end
end L3

/-! loops over a range where an error is handled -/
namespace L3
open PySem PySem.Spec PyProof.Rows L2
section
variable {X : Cx} {W : Wz} {pos : Pos} {tg : Expr}
structure CIH (X : Cx) (W : Wz) (tg iter : Expr) (m : MI) : Prop where
  ex : ∃ t, L2H.PIH X tg iter t ∧ SimI X.K W t m
theorem ci_rng1H {a : Expr} {p : Pos} {m : MA} (hg : Gl X "range") (hm : X.mg "range" = none) (ha : CA X W [a] m) (hs : starEach [a] X.env = [(false, eval a X.env)] := by rfl) : CIH X W tg (.Call (.Name "range" p) [a] [] pos) (miRng1 m) :=
  ⟨_, L2H.pi_range1H hg hm cA.pa hs, fun φ ρ σ h H R Rm Xm rh rs q ok ox => ha.sim φ ρ σ h H _ _ _ rh rs q (fun φ1 h1 H1 ds vs e1 rh1 r q1 => by
    split at q1
    · exact ⟨_, one_int r, q1.1.1, q1.1.2, ok _ _ _ _ _ _ e1 rh1 it_rng q1.2⟩
    · exact q1.elim) ox⟩
theorem cs_forH {vs : List Nat} {iter : Expr} {body : List Stmt} {mi : MI} {g : MG} {b : MS} (hp : PassesOwn (model X.prog X.w) X.A X.env X.xe) (hc : L2H.HotC X) (hi : CIH X W tg iter mi) (hg : CG X W vs tg g) (hb : CSs X W body b)
    (hs : ∀ x, foldedSetIterable iter X.env x = pure x := by intro _; rfl) : CS X W (.For tg iter body [] pos) (mFor mi g b) := by
  obtain ⟨ti, pi, si⟩ := hi.ex
  obtain ⟨t, p, sg⟩ := hg.ex
  refine .of (L2H.ps_forH hp hc pi p cSs.pss hs) fun φ ρ σ h H M E rh rs q l => ?_
  refine si φ ρ σ h H _ _ _ rh rs q (fun φ1 h1 H1 J xs gd e1 rh1 it q1 => ?_) (l.okx rh rs)
  refine ⟨fun i m σ' H' => ∃ φ' ρ' h', Ext φ1 H1 φ' H' ∧ RH X.K φ' h' H' ∧ RS X.K W.er φ' H' ρ' σ' ∧ m = xs.length - i ∧ i ≤ xs.length ∧ forGo g b gd M (xs.drop i) ρ' h', ⟨xs.length, φ1, ρ, h1, .refl, rh1, rs.to rh e1, by simp, Nat.zero_le _, q1⟩, ?_⟩
  rintro i m σ' H' ⟨φ', ρ', h', e', rh', rs', rfl, hi', q⟩
  by_cases hlt : i < xs.length
  · have e0 : xs[i]? = some xs[i] := List.getElem?_eq_getElem hlt
    rw [drop_cons e0] at q
    obtain ⟨j1, j2⟩ := (it φ' h' H' e'.toMo rh' q.1).1 i _ e0
    refine .inr ⟨j1, fun σ2 H2 => ∃ φ2 ρ2 h2, Ext φ1 H1 φ2 H2 ∧ RH X.K φ2 h2 H2 ∧ RS X.K W.er φ2 H2 ρ2 σ2 ∧ forGo g b gd M (xs.drop (i + 1)) ρ2 h2, ?_, fun x H2 y => ?_⟩
    · rintro σ2 H2 ⟨φ2, ρ2, h2, a1, a2, a3, a4⟩
      exact ⟨xs.length - (i + 1), by omega, φ2, ρ2, h2, a1, a2, a3, rfl, hlt, a4⟩
    · obtain ⟨e2, rh2, rd⟩ := j2 x H2 y
      have E2 := e'.trans e2
      refine sg φ' ρ' σ' h' H2 _ _ _ _ _ rh2 (rs'.to rh' e2) rd q.2 (fun φ3 ρ3 σ3 h3 H3 e3 rh3 rs3 _ q3 => ?_) (((l.to (e1.trans E2))).okx rh2 (rs'.to rh' e2))
      have E3 := E2.trans e3
      have L3 := l.to (e1.trans E3)
      exact hb.sim φ3 ρ3 σ3 h3 H3 _ _ rh3 rs3 q3 ⟨fun φ4 ρ4 σ4 h4 H4 e4 rh4 rs4 q4 => ⟨φ4, ρ4, h4, E3.trans e4, rh4, rs4, q4⟩, fun φ4 ρ4 σ4 h4 H4 e4 rh4 rs4 q4 => L3.nx _ _ _ _ _ e4 rh4 rs4 q4,
        fun φ4 ρ4 σ4 h4 H4 e4 rh4 rs4 q4 => ⟨φ4, ρ4, h4, E3.trans e4, rh4, rs4, q4⟩, L3.rt, L3.ex⟩
  · have hi2 : i = xs.length := by omega
    subst hi2
    rw [List.drop_length] at q
    exact .inl ⟨(it φ' h' H' e'.toMo rh' q.1).2 _ (Nat.le_refl _), l.nx _ _ _ _ _ (e1.trans e') rh' rs' q.2⟩
end
end L3

/-! a method called by places and by keywords -/
namespace L3
open PySem PySem.Spec PyProof.Rows L2
structure MtP (P : Program) (w : World) (K : PySem.W.Frag) (mg : Str → Option Value) (base : Heap) (k : Nat) (c m : Str) (n : Nat) (ks : List Str) (ix : List Nat) (sp : SpM) : Prop where
  ex : ∃ (f : Addr) (fd : FuncData) (ps : List Str), Cls K (He.ga K c) ∧ Meth K (He.ga K c) m f ∧ FnG P w K mg base (L2N.CX P w) k f fd ps (up K sp) ∧ ∀ (a : Value) (us : List Value), us.length = n → KwTo fd (a :: us) ps ks ix
section
variable {X : Cx} {W : Wz} {o e : Expr} {es : List Expr} {pos apos : Pos} {c m : Str} {sp : SpM} {j k n : Nat} {mo : ME} {ma mk : MA}
abbrev mMethP (c m : Str) (n n2 : Nat) (ix : List Nat) (sp : SpM) (mo : ME) (ma mk : MA) : ME := fun ρ h Q E => mo ρ h (fun d h1 => match d with | .loc a => clsAt h1 a c m (ma ρ h1 (fun ds h2 => ds.length = n ∧ mk ρ h2 (fun es h3 => es.length = n2 ∧ sp (.loc a :: ds ++ pick ix es) h3 Q E) E) E) | _ => False) E
def tMethP (C : Addr) (m : Str) (n n2 : Nat) (ix : List Nat) (sp : Sp) (W : WX) (to : TE) (ta tk : TA) : TE := fun σ H Q => to σ H fun x H1 => ∃ a dx fs, x = .ref a ∧ H1 a = some (.ins C dx fs) ∧ fs.lookup m = none ∧
  ta σ H1 fun vs H2 => vs.length = n ∧ tk σ H2 fun zs H3 => zs.length = n2 ∧ sp (x :: vs ++ pick ix zs) H3 Q (WE W σ)
theorem ce_methP {ks : List Str} {ix : List Nat} {kws : List Keyword} {pl : Sem Bool} (cc : MtP X.prog X.w X.K X.mg X.base k c m n ks ix sp) (hr : Rm j X.A) (hk : k ≤ j) (tk : L2N.Takes X W.w) (ho : CE X W o mo) (ha : CA X W (e :: es) ma) (hq : CK X W kws mk)
    (hall : (backToKw pos (keywordEach kws X.env)).all (·.1.isSome) = true := by rfl) (hks : (backToKw pos (keywordEach kws X.env)).filterMap (·.1) = ks := by rfl)
    (hpl : ((backTo pos (starEach (e :: es) X.env)).any (·.1) || (backToKw pos (keywordEach kws X.env)).any (·.1.isNone)) = false := by rfl) (he : starEach (e :: es) X.env = (false, eval e X.env) :: starEach es X.env := by rfl)
    (h3 : eval (.Call (.Attribute o m apos) (e :: es) kws pos) X.env = (do
      let r ← eval o X.env
      standAt apos.atName
      let (g, us) ← holding [r] (getMethod r m pl)
      callWith pos g us (backTo pos (starEach (e :: es) X.env)) (backToKw pos (keywordEach kws X.env))) := by rfl) :
    CE X W (.Call (.Attribute o m apos) (e :: es) kws pos) (mMethP c m n ks.length ix sp mo ma mk) := by
  obtain ⟨f, fd, ps, cl, me, F, b⟩ := cc.ex
  obtain ⟨t, pk, sk⟩ := hq.ex
  refine .of (t := tMethP (He.ga X.K c) m n ks.length ix (up X.K sp) W.w (cE X o) (cA X (e :: es)) t) ⟨fun pins s σ H Q I h => PySem.W.methodCall_KW (pl := pl) (thn ((cE.pe (X := X) (e := o)).run pins s σ H _ I h) ?_) h3⟩ fun φ ρ σ h H Qm Q Xm rh rs q ok ox => ho.sim φ ρ σ h H _ _ _ rh rs q (fun φ1 h1 H1 d v e1 rh1 rx q1 => by
    split at q1
    · cases rx with
      | loc e0 =>
        rename_i n a
        obtain ⟨dx, fs, g1, g2, q2⟩ := clsAt_rel rh1 e0 q1
        refine ⟨a, dx, fs, rfl, g1, g2, ha.sim φ1 ρ σ h1 H1 _ _ _ rh1 (rs.to rh e1) q2 (fun φ2 h2 H2 ds vs e2 rh2 r2 q3 => ⟨by rw [← r2.len]; exact q3.1, sk φ2 ρ σ h2 H2 _ _ _ rh2 (rs.to rh (e1.trans e2)) q3.2 (fun φ3 h3 H3 ds3 vs3 e3 rh3 r3 q4 => ⟨by rw [← r3.len]; exact q4.1, φ3, h3, _, Qm, Xm, rh3, ?_, q4.2, ok.to ((e1.trans e2).trans e3), (ox.to ((e1.trans e2).trans e3)).we⟩) (ox.to (e1.trans e2))⟩) (ox.to e1)⟩
        exact RDs.app (.cons (.loc ((e2.trans e3).pre _ _ e0)) (r2.to e3.toMo)) (pick_rds r3 ix)
    · exact q1.elim) ox
  rintro v s1 ⟨x, H1, I1, rx, a, dx, fs, rfl, ea, l, q⟩
  cases rx
  refine getmeth_ok I1 ea cl me l (PySem.W.callWith_KW (first := [.ref a]) (h₀ := X.base) I1.ok.mod.kin me.kp hall (thn ((cA.pa (X := X) (es := e :: es)).run pos pins s1 σ H1 _ I1 q) fun us s2 ⟨vs, H2, I2, rv, hl, q2⟩ => thn (pk.run pos pins s2 σ H2 _ I2 q2) fun ws s3 ⟨zs, H3, I3, rz, hl2, q3⟩ => ⟨I3.kIn, ?_⟩) hpl he)
  rw [hks]
  have rf : Vals (V.ref a :: vs) ([Value.ref a] ++ us) := .cons rfl rv
  exact run_kw F (hr.mono hk) (b _ us (by rw [← rv.length]; exact hl)) tk I3 rf rz hl2 q3
end
section
variable {P : Program} {w : World} {K : PySem.W.Frag} {mg : Str → Option Value} {base : Heap}
theorem mk_mtP {c m qual : Str} {st : Stmt} {N ps ks : List Str} {ix : List Nat} {k n : Nat} {sp : SpM} {ms : MS} (cl : Cls K (He.ga K c)) (T : ∃ f fd, FunD K m qual (defArgs st) (defBody st) (defScope st) [] [] f fd ∧ Meth K (He.ga K c) m f) (S : C8.scC N ps (defScope st) = true)
    (b : ∀ (kV doc pm : Value) (an : Option Addr) (cdv ct a : Value) (us ws : List Value), us.length = n → ws.length = ks.length → bindArgs (PySem.W.fnOf m qual (defArgs st) (defBody st) (defScope st) .none kV doc pm an cdv ct) ⟨a :: us, ks.zip ws⟩ = pure (ps.zip ((a :: us) ++ pick ix ws)))
    (len : ∀ ds h Q E, sp ds h Q E → ds.length = ps.length)
    (hbody : ∀ (f : Addr) (cdv : Value) (A : Around) (outer : List Env) (s : Shared) (H : Hp) (E : XK), Rm k (A.deeper (envOfC qual (defScope st) s.heap.objs.size f cdv)) →
      L2N.Takes (cxOf (L2N.CX P w) P w K mg base N qual (defScope st) f cdv A outer s H E) (fun cls d _ H => E cls d H) →
      CSs (cxOf (L2N.CX P w) P w K mg base N qual (defScope st) f cdv A outer s H E) ⟨fun cls d _ H => E cls d H, none⟩ (defBody st) ms)
    (main : ∀ ds h Q E, sp ds h Q E → ms (endM Q E) (startE N ds) h) : MtP P w K mg base (k + 1) c m n ks ix sp := by
  obtain ⟨f, fd, F, g⟩ := T
  refine ⟨f, fd, ps, cl, g, fnok F S len (hbody f) main, fun a us hu s ws hl => ?_⟩
  obtain ⟨oc, od, dV, kV, doc, pm, an, cdv, ct, osl, rfl, lk, hcd, hD, hK⟩ := F.ex
  rcases hD with ⟨_, rfl⟩ | ⟨e, _⟩
  · exact .of_eq (b kV doc pm an cdv ct a us ws hu hl)
  · exact absurd rfl e
end
end L3

/-! text.index(sign) -/
namespace L3
open PySem PySem.Spec PyProof.Rows L2
section
variable {X : Cx} {W : Wz} {e o : Expr} {es : List Expr}
abbrev mSIx (mo : ME) (ma : MA) : ME := fun ρ h Q E => mo ρ h (fun d h1 => match d with
  | .str a => ma ρ h1 (fun ds h2 => match ds with | [.str b] => ∃ i rest, Builtin.Str.occurrences a b 0 a.length 1 = i :: rest ∧ Q (.int (i : Nat)) h2 | _ => False) E
  | _ => False) E
theorem ce_sindex {apos cpos : Pos} {mo : ME} {ma : MA} (ho : CE X W o mo) (ha : CA X W (e :: es) ma)
    (hbase : attributeBase o "index" X.env (eval o X.env) = eval o X.env := by rfl)
    (hfew : ((backTo cpos (starEach (e :: es) X.env)).all (fun x => !x.1) && (backToKw cpos (keywordEach [] X.env)).all (fun x => x.1.isSome)
      && decide ((e :: es).length + ([] : List Keyword).length + (if ([] : List Keyword).isEmpty then 0 else 1) < 30)) = true := by rfl)
    (hline : (apos.endLine == cpos.line) = true := by rfl) (hs : starEach (e :: es) X.env = (false, eval e X.env) :: starEach es X.env := by rfl) (hplain : (backTo cpos (starEach es X.env)).any (·.1) = false := by rfl) :
    CE X W (.Call (.Attribute o "index" apos) (e :: es) [] cpos) (mSIx mo ma) := .of (pe_bm PySem.F.plainAttrs_str PySem.F.slot_str_index PySem.F.type_str_index mt_sindex cE.pe cA.pa hbase hfew hline hs hplain) fun φ ρ σ h H Qm Q Xm rh rs q ok ox =>
  ho.sim φ ρ σ h H _ _ _ rh rs q (fun φ1 h1 H1 d v e1 rh1 rx q1 => by
    split at q1
    · cases rx
      rename_i a
      refine ⟨rfl, ha.sim φ1 ρ σ h1 H1 _ _ _ rh1 (rs.to rh e1) q1 (fun φ2 h2 H2 ds us e2 rh2 r2 q2 => ?_) (ox.to e1)⟩
      split at q2
      · obtain ⟨u, rfl, ru⟩ := r2.one
        cases ru
        obtain ⟨i, rest, q3, q4⟩ := q2
        exact ⟨_, _, i, rest, rfl, rfl, q3, ok _ _ _ _ _ (e1.trans e2) rh2 (.int _) q4⟩
      · exact q2.elim
    · exact q1.elim) ox
end
end L3

/-! sorted(ints, reverse=True) -/
namespace L3
open PySem PySem.Spec PyProof.Rows L2
section
variable {X : Cx} {W : Wz} {a : Expr} {pos : Pos}
abbrev mSortRev (m : ME) : ME := fun ρ h Q E => m ρ h (fun d h1 => match d with
  | .loc n => lstAt h1 n fun xs => allInt xs fun ns => ∀ ks : List Int, ks.Perm ns → ks.Pairwise (· ≥ ·) → Q (.loc h1.length) (h1 ++ [.lst (ks.map D.int)])
  | _ => False) E
theorem ce_sortRev {m : ME} {p p1 kp : Pos} {j} (hg : Gl X "sorted") (hm : X.mg "sorted" = none) (ha : CE X W a m) (hs : starEach [a] X.env = (false, eval a X.env) :: starEach [] X.env := by rfl)
    (he : backTo pos (starEach [a] X.env) = (false, eval a X.env) :: backTo pos (starEach [] X.env) := by rfl) (hpl : (backTo pos (starEach [a] X.env)).any (·.1) = false := by rfl)
    (hall : (backToKw pos (keywordEach [⟨some "reverse", .Constant (.bool true) j p1, kp⟩] X.env)).all (·.1.isSome) = true := by rfl) (hnone : (backToKw pos (keywordEach [⟨some "reverse", .Constant (.bool true) j p1, kp⟩] X.env)).any (·.1.isNone) = false := by rfl) (hks : (backToKw pos (keywordEach [⟨some "reverse", .Constant (.bool true) j p1, kp⟩] X.env)).filterMap (·.1) = [Str.ofString "reverse"] := by rfl) :
    CE X W (.Call (.Name "sorted" p) [a] [⟨some "reverse", .Constant (.bool true) j p1, kp⟩] pos) (mSortRev m) :=
  .of (pe_callBK (ks := [Str.ofString "reverse"]) (cr_sortedRev (b := true)) hg hm (by decide +kernel) (pa_cons cE.pe pa_nil hs) (pk_cons pe_bl pk_nil) (by decide) (by decide) he hpl hall hnone hks) fun φ ρ σ h H Qm Q Xm rh rs m ok ox => ha.sim φ ρ σ h H _ _ _ rh rs m (fun φ1 h1 H1 d v e1 rh1 r1 q1 => by
    split at q1
    · cases r1 with
      | loc e0 =>
        obtain ⟨ds, vs, sq, rv, bs, rfl, q⟩ := rh1.rdL e0 q1
        refine ⟨_, bs, rfl, rfl, by rw [← rds_int rv]; exact sq, fun ks p h1 h2 hp => ?_⟩
        obtain ⟨r3, x3, rd⟩ := push_lst rh1 hp (rds_ofInt ks)
        have h2 : ks.Pairwise (· ≥ ·) := h2
        exact ok _ _ _ _ _ (e1.trans x3) r3 rd (q ks h1 h2)
    · exact q1.elim) ox
end
end L3

/-! sum of a list, or of the script itself -/
namespace L3
open PySem PySem.Spec PyProof.Rows L2
section
variable {X : Cx}
abbrev bSumK : MB := fun ds h Q => match ds with | [.loc n] => lstAt h n fun xs => allInt xs fun bs => Q (.int bs.sum) h | [.kls xs] => allInt xs fun bs => Q (.int bs.sum) h | _ => False
theorem b_sumK (hc : X.calm = true) : BC X (.builtin "sum") bSumK := ⟨_, cr_sum hc, fun φ h H ds vs Qm Q rh r m ok => by
  unfold bSumK at m
  split at m
  · obtain ⟨v, rfl, r1⟩ := r.one
    cases r1 with
    | loc e0 =>
      obtain ⟨ds, vs, sq, rv, bs, rfl, q⟩ := rh.rdL e0 m
      exact ⟨_, bs, rfl, by rw [← rds_int rv]; exact sq, ok _ _ _ _ _ .refl rh (.int _) q⟩
  · obtain ⟨v, rfl, r1⟩ := r.one
    cases r1 with
    | kls t rv =>
      obtain ⟨bs, rfl, q⟩ := m
      exact ⟨_, bs, rfl, by rw [← rds_int rv]; exact t.sq, ok _ _ _ _ _ .refl rh (.int _) q⟩
  · exact m.elim⟩
end
end L3

/-! ### a list comprehension whose element may raise -/
namespace PySem
open Sem (wp)
open PySem.HandSPX
theorem passOn_frame {α : Type} {what : String} {x : Value} {e1 e2 : Env} (h : e1.frame = e2.frame) : (passOn what x e1 : Sem α) = passOn what x e2 := by
  unfold passOn
  rw [h]
theorem noteFrame_frame {x : Value} {e1 e2 : Env} (h : e1.frame = e2.frame) : noteFrame x e1 = noteFrame x e2 := by
  unfold noteFrame frameOf
  rw [h]
section
variable {M : Model} {A : Around} {E : Value → Shared → Prop} {s : Shared} {env : Env}
def compPostF (M : Model) (A : Around) (E : Value → Shared → Prop) (use : Option (Value → Sem Unit)) (Q : Value → Shared → Prop) (env : Env) (acc : Value) (C : Addr) (r : Result) (s' : Shared) : Prop :=
  match r with
  | .ok f => compPost M A E use Q acc C (.ok f) s'
  | .error x => ∃ m, s'.heap.Ns C m ∧ ∀ h', Heap.SameBut C s'.heap h' → wpAny M A (passOn "comprehension.variables-let-go" x env : Sem Value) (fun _ _ => False) E { s' with heap := h' }
theorem wpAny_comprehension_freeF {e : Expr} {scope : Scope} {pos : Pos} {newAcc first : Sem Value} {g : Comprehension} {gs : List Comprehension} {cl : List (Str × Addr)} {use : Option (Value → Sem Unit)}
    {Q : Value → Shared → Prop}
    (hcl : clausesOf e = g :: gs) (hs : ∀ x, foldedSetIterable g.iter env x = pure x) (hclos : closureFor scope env = pure cl)
    (hkind : scope.kind = .function) (hnames : ∀ x ∈ scope.names, x.2 = .local → scope.names.lookup x.1 = some .local)
    (h : wpAny M A first (fun x s₁ => wpAny M A (pyIter x) (fun it s₂ => wpAny M A newAcc (fun acc s₃ =>
      wpAny M A (newFunctionEnv scope env.globals cl [] env.qual none .none (some env)) (fun cenv s₄ =>
        cenv.frame = env.frame ∧ codeAny M A (.compStart e 0 it acc { cenv with scope := relabel scope env }) (compPostF M A E use Q env acc cenv.locals) s₄) E s₃) E s₂) E s₁) E s) :
    wpAny M A (comprehension e scope env pos newAcc false first use) Q E s := by
  unfold comprehension
  rw [hclos, hcl]
  refine wpAny_bind (wpAny_mono h (fun x s₁ h₁ => wpAny_bind (wpAny_standAt (wpAny_bind (wpAny_of_eq (hs x) (wpAny_bind (wpAny_holding (wpAny_mono h₁ (fun it s₂ h₂ =>
    wpAny_standIf (wpAny_bind (wpAny_mono h₂ (fun acc s₃ h₃ => wpAny_bind (wpAny_pure (wpAny_bind (wpAny_mono h₃ (fun cenv s₄ h₄ => ?_) fun _ _ h' => h')))) fun _ _ h' => h')))
      fun _ _ h' => h'))))))) fun _ _ h' => h')
  dsimp only
  obtain ⟨hfr, h₄⟩ := h₄
  have hv : ∀ x ∈ (scope.names.filter fun x => (x.2 == .local || x.2 == .cell) && x.1 != (".0" : Str)).reverse, x.2 = .local →
      Env.kindOf { cenv with scope := relabel scope env } x.1 = some .local := fun x hx hl => lookup_relabel_local (hnames x (List.mem_filter.mp (List.mem_reverse.mp hx)).1 hl)
  have hv' : ∀ x ∈ (scope.names.filter fun x => (x.2 == .local || x.2 == .cell) && x.1 != (".0" : Str)).reverse.drop 1 ++ (scope.names.filter fun x => (x.2 == .local || x.2 == .cell) && x.1 != (".0" : Str)).reverse.take 1,
      x.2 = .local → Env.kindOf { cenv with scope := relabel scope env } x.1 = some .local := fun x hx hl => by
    rcases List.mem_append.mp hx with h1 | h1
    · exact hv x (List.mem_of_mem_drop h1) hl
    · exact hv x (List.mem_of_mem_take h1) hl
  refine wpAny_holding (wpAny_bind (wpAny_attempt (wpAny_holding (wpAny_run (codeAny_mono h₄ fun r s' hr => ?_)))))
  cases r with
  | ok f =>
    cases use with
    | none =>
      obtain ⟨m, hn, hr⟩ := hr
      exact wpAny_bind (wpAny_holding (wpAny_comp_letGo (cenv := { cenv with scope := relabel scope env }) hkind _ s' m hv hn fun h' m' _ hs' => wpAny_pure (hr h' hs')))
    | some u =>
      refine wpAny_bind (wpAny_rule (wpAny_bind (wpAny_holding (wpAny_mono hr (fun _ s'' hr' => ?_) fun _ _ h' => h'))))
      obtain ⟨m, hn, hr'⟩ := hr'
      exact wpAny_bind (wpAny_comp_letGo (cenv := { cenv with scope := relabel scope env }) hkind _ s'' m hv' hn fun h' m' _ hs' => wpAny_pure (hr' h' hs'))
  | error x =>
    obtain ⟨m, hn, hr⟩ := hr
    refine wpAny_bind (wpAny_holding (wpAny_comp_letGo (cenv := { cenv with scope := relabel scope env }) hkind _ s' m hv hn fun h' m' _ hs' => ?_))
    have q := hr h' hs'
    rw [passOn_frame (e1 := env) (e2 := { cenv with scope := relabel scope env }) hfr.symm] at q
    exact wpAny_mono q (fun _ _ f => f.elim) fun _ _ y => y
end
namespace PXN
open HandSPX
section
variable {M : Model} {A : Around} {E : Value → Shared → Prop} {s : Shared} {Z : Obj → Prop} {base : Heap} {env : Env} {outer l : List Env} {L C e : Addr}
/-- held by another's number: noted anew -/
theorem looks_otherZ {Q : Unit → Shared → Prop} (hZ : Steady1 Z) (hfr : A.frames = some (env :: outer)) (hf : env.frame = some L) (hC : C ≠ L) (hfl : HeldZ base (env :: outer) e Z C s.heap)
    (hQ : ∀ h', HeldZ base (env :: outer) e Z L h' → s.heap.UpToSlots h' → Q () { s with heap := h' }) : wpAny M A (noteFrame (.ref e) env) Q E s := by
  obtain ⟨hkb, hen, hl, oe, vs, T, oT, ts, he, hz, hd, h1, hnT, hTe, hT, hdT, h3⟩ := hfl
  unfold noteFrame
  simp only [hf]
  refine wpAny_bind (wpAny_field he hd h1 ?_)
  rw [if_pos (show (Value.ref T != Value.none) = true from by simp)]
  refine wpAny_bind (wpAny_field hT hdT h3 ?_)
  rw [if_neg (show ¬ ((rawInt (C : Nat) == rawInt (L : Nat)) = true) from by
    simp only [rawInt, beq_iff_eq, Value.int.injEq, and_true]
    intro z
    exact hC (Int.ofNat.inj z))]
  refine wpAny_bind (wpAny_setField hT hdT (Array.getElem?_eq_some_iff.mp h3).1 ?_)
  have other : ∀ b, b ≠ T → (s.heap.update T (Obj.mapFields (·.setIfInBounds 3 Value.none))).get? b = s.heap.get? b := fun b hb => Heap.get?_update_other _ _ (Ne.symm hb)
  have noRecord : ∀ b o, s.heap.get? b = some o → (∀ vs, o.data ≠ .fields vs) → b ≠ T := fun b o hb hnf q => by
    rw [q, hT] at hb; injection hb with hb; subst hb; exact hnf ts hdT
  refine wpAny_entryZ hZ hfr (hl.of_keeps fun b o hb hnf => ⟨o, (other b (noRecord b o hb hnf)).trans hb, rfl⟩) hf ((other e (Ne.symm hTe)).trans he)
    (fun b o hbo => (other b fun q => by rw [q, hnT] at hbo; cases hbo).trans (hkb b o hbo)) hen hd (Array.getElem?_eq_some_iff.mp h1).1 hz fun h' hN => ?_
  obtain ⟨x1, x2, x3, x4⟩ := hN
  exact hQ h' ⟨x1, hen, x2, x3⟩ fun b o hb hnf => x4 b o ((other b (noRecord b o hb hnf)).trans hb) hnf
end
end PXN
end PySem
namespace L2
open PySem PySem.Spec PyProof.Rows
section
variable {X : Cx}
theorem funFrames_but {base h h' : Heap} {C : Addr} (k : ∀ b, b ≠ C → h'.get? b = h.get? b) : ∀ {l : List Env}, h.FunFrames base l → (∀ b ∈ frs l, b ≠ C) → h'.FunFrames base l
  | [], _, _ => trivial
  | env :: r, hl, hC => by
    obtain ⟨hk, ⟨L, o, hf, hn, ho, hd⟩, hr⟩ := hl
    have hm : L ∈ frs (env :: r) := by unfold frs; rw [List.filterMap_cons, hf]; exact List.mem_cons_self
    exact ⟨hk, ⟨L, o, hf, hn, (k L (hC L hm)).trans ho, hd⟩, funFrames_but k hr fun b hb => hC b (by unfold frs; rw [List.filterMap_cons, hf]; exact List.mem_cons_of_mem _ hb)⟩
/-- what an error in the block is -/
abbrev BlkE (Y : Cx) (Wv : WX) (σ : St) : Value → Shared → Prop := L2N.XE Y fun cls d _ H => Wv cls d σ H
theorem takesBlk {Y : Cx} {Wv : WX} {σ : St} : L2N.Takes (Y.wish (BlkE Y Wv σ)) (fun cls d _ H => Wv cls d σ H) := fun u s' ⟨a, B, sI, pins, τ, H, cls, d, e, I, r⟩ => ⟨a, B, sI, pins, τ, H, cls, d, e, I.unwish, r⟩
theorem lc_coreX {pins : List (Addr × Obj)} {s : Shared} {σ : St} {H : Hp} {Q : VK} {elt tg iter : Expr} {ifs : List Expr} {scope : Scope} {own : List (Str × Nat)} {pos pos' : Pos} {wi : TI} {g : TG} {tt : TT} {te : TE} {use : Option (Value → Sem Unit)} {Qf : Value → Shared → Prop} {Wv : WX}
    (hst : X.stack = X.env :: X.outer) (hf : X.env.frame = some X.env.locals) (tk : L2N.Takes X Wv)
    (hc : X.calm = true) (hN : X.N.Nodup) (I : Inv X pins σ H s) (hi : PI X tg iter wi) (ok : BlkOk X.N X.env.scope scope own)
    (hg : ∀ (s : Shared) (H : Hp) (C : Addr) (cl : List (Str × Addr)) (fp : List Addr), PG (X.blk s H scope (compEnvC scope cl C X.env) fp) tg g) (ht : ∀ (s : Shared) (H : Hp) (C : Addr) (cl : List (Str × Addr)) (fp : List Addr), PTs (X.blk s H scope (compEnvC scope cl C X.env) fp) ifs tt)
    (he : ∀ (s : Shared) (H : Hp) (C : Addr) (cl : List (Str × Addr)) (fp : List Addr) (xe : Value → Shared → Prop), L2N.Takes ((X.blk s H scope (compEnvC scope cl C X.env) fp).wish xe) (fun cls d _ H => Wv cls d σ H) → PE ((X.blk s H scope (compEnvC scope cl C X.env) fp).wish xe) elt te) (hs : ∀ x, foldedSetIterable iter X.env x = pure x)
    (h : tLc wi g tt te (own.map (·.2)) σ H Q)
    (hRR : ∀ D C s' m H', Inv X pins σ H' s' → Q (.ref D) H' → s'.heap.Ns C m → FpOk X pins H' C → compPost (model X.prog X.w) X.A X.xe use Qf (.ref D) C (.ok .next) s') :
    wpAny (model X.prog X.w) X.A (comprehension (.ListComp elt [⟨tg, iter, ifs, 0⟩] scope pos) scope X.env pos' (newList []) false (eval iter X.env) use) Qf X.xe s := by
  have hfree : ∀ y ∈ scope.names, y.2 = .free → ∃ c, X.env.cells.lookup y.1 = some c := fun y hy e => by
    rcases ok.free y hy e with k | k
    · exact I.ok.has _ (.inl k)
    · exact I.ok.has _ (.inr k)
  refine wpAny_comprehension_freeF (use := use) rfl hs (closure_ok hfree) ok.kind (fun y hy e => by rw [ok.uniq y hy, e])
    (thn (hi.run pins s σ H _ I h) fun xv s1 hx => thn hx fun itv s2 h2 => ?_)
  obtain ⟨it, fp, tn, J, H2, e, I2, T, st2, f2, q⟩ := h2
  subst e
  refine wpAny_newObj_type (newEnv_comp ?_) (by show 0 ≤ sizeLine; decide)
  refine ⟨rfl, ?_⟩
  generalize hD : s2.heap.objs.size = D
  have hDn : H2 D = none := I2.hok.fresh (Nat.le_of_eq hD)
  obtain ⟨W, ⟨m0, w0⟩, turn⟩ := q D hDn
  generalize hs3 : ({ s2 with heap := s2.heap.push { cls := .type "list", data := .seq ([] : List Value).toArray } } : Shared) = s3
  have I3 : Inv X pins σ (upd H2 D (.lst [])) s3 := by
    rw [← hs3]
    refine I2.laid (t' := s2.toks) (fun b o e => Heap.get?_push_of_some _ e) (Nat.le_of_eq hD) ⟨Nat.zero_le _, [], 0, .nil, ?_⟩
    rw [← hD]
    exact Heap.get?_push_size _ rfl
  have h3 : s3.heap = s2.heap.push { cls := .type "list", data := .seq ([] : List Value).toArray } := by rw [← hs3]
  have sz : ∀ b ∈ fp, b < s2.heap.objs.size := fun b hb => by
    obtain ⟨o, e, _⟩ := T.obj _ _ st2 b hb
    exact Heap.lt_size e
  have f3 : ∀ b ∈ fp, FpOk X pins (upd H2 D (.lst [])) b ∧ b < s3.heap.objs.size := fun b hb => by
    have hlt := sz b hb
    refine ⟨⟨?_, (f2 b hb).2⟩, by rw [h3, Heap.size_push]; exact Nat.lt_succ_of_lt hlt⟩
    rw [upd_ne (by rw [← hD]; exact Nat.ne_of_lt hlt)]
    exact (f2 b hb).1
  have st3 : tn 0 s3.heap := T.keep _ _ _ st2 fun b _ o e => by rw [h3]; exact Heap.get?_push_of_some _ e
  have I4 := block_start I3 ok hN f3
  have pg := hg s3 (upd H2 D (.lst [])) s3.heap.objs.size (cellsFrom (s3.heap.objs.size + 1) scope.names (cloFrom X.env.cells scope.names [])) fp
  have pt := ht s3 (upd H2 D (.lst [])) s3.heap.objs.size (cellsFrom (s3.heap.objs.size + 1) scope.names (cloFrom X.env.cells scope.names [])) fp
  have pe := he s3 (upd H2 D (.lst [])) s3.heap.objs.size (cellsFrom (s3.heap.objs.size + 1) scope.names (cloFrom X.env.cells scope.names [])) fp _ takesBlk
  show codeAny _ _ (.compStart (.ListComp elt [⟨tg, iter, ifs, 0⟩] scope pos) 0 (.ref it) (.ref D) (compEnvC scope (cellsFrom (s3.heap.objs.size + 1) scope.names (cloFrom X.env.cells scope.names [])) s3.heap.objs.size X.env)) (compPostF (model X.prog X.w) X.A X.xe use Qf X.env (.ref D) s3.heap.objs.size) { s3 with heap := pushCells (s3.heap.push { cls := .type "dict", data := .dict #[] }) scope.names }
  have nfp : ∀ b ∈ fp, (upd H2 D (.lst [])) b = none := fun b hb => (f3 b hb).1.1
  generalize hce : compEnvC scope (cellsFrom (s3.heap.objs.size + 1) scope.names (cloFrom X.env.cells scope.names [])) s3.heap.objs.size X.env = ce at I4 pg pt pe ⊢
  have cL : ce.locals = s3.heap.objs.size := by subst hce; rfl
  have cF : ce.frame = X.env.frame := by subst hce; rfl
  generalize hH3 : upd H2 D (.lst []) = H3 at I3 I4 pg pt pe w0 nfp f3
  generalize hs4 : ({ s3 with heap := pushCells (s3.heap.push { cls := .type "dict", data := .dict #[] }) scope.names } : Shared) = s4 at I4 ⊢
  have st4 : tn 0 s4.heap := T.keep _ _ _ st3 fun b _ o e => by rw [← hs4]; exact pushCells_keeps _ _ _ _ (Heap.get?_push_of_some _ e)
  have stat : ∀ {σ' : St} {H' : Hp} {s' : Shared}, Inv (X.blk s3 H3 scope ce fp) [] σ' H' s' → (∀ b ∈ fp, H' b = none) → ∀ b ∈ fp, FpOk (X.blk s3 H3 scope ce fp) [] H' b := fun {σ' H' s'} I' hn b hb =>
    ⟨hn b hb, (I'.ok.exf b hb).1, I'.ok.exfs b hb, .inl hb, fun x c e => (I'.ok.exf b hb).2 x c e, fun p hp => absurd (show p ∈ ([] : List (Addr × Obj)) ++ [] from hp) (by simp)⟩
  -- an error leaves the block
  have out : ∀ u s5, BlkE (X.blk s3 H3 scope ce fp) Wv σ u s5 → ∀ E1 : Value → Shared → Prop, wpAny (model X.prog X.w) X.A (noteFrame u ce) (fun _ s' => compPostF (model X.prog X.w) X.A X.xe use Qf X.env (.ref D) s3.heap.objs.size (.error u) s') E1 s5 := by
    rintro u s5 ⟨a, B, sI, pins', τ, H', cls, d, rfl, I', nb, up, sky, na, os, ag, w⟩ E1
    have hfr : X.A.frames = some (X.env :: X.outer) := by rw [I.ok.frames, hst]
    have nC : H' s3.heap.objs.size = none := by
      have z : H' ce.locals = none := I'.free
      rw [cL] at z
      exact z
    have neL : s3.heap.objs.size ≠ X.env.locals := Nat.ne_of_gt I3.lt
    rw [noteFrame_frame cF]
    have fin : ∀ h1, HandSPX.HeldZ B (X.env :: X.outer) a (L2N.Zn cls d) X.env.locals h1 → s5.heap.UpToSlots h1 → compPostF (model X.prog X.w) X.A X.xe use Qf X.env (.ref D) s3.heap.objs.size (.error (.ref a)) { s5 with heap := h1 } := by
      intro h1 held up1
      obtain ⟨m, ⟨oN, es, ep, ho, hd, hr⟩, _⟩ := I'.loc
      have ho : sI.heap.get? s3.heap.objs.size = some oN := by
        have z : sI.heap.get? ce.locals = some oN := ho
        rw [cL] at z
        exact z
      have nf : ∀ vs, oN.data ≠ .fields vs := fun vs z => by rw [hd] at z; cases z
      obtain ⟨sl1, e1⟩ := up _ _ ho nf
      obtain ⟨sl2, e2⟩ := up1 _ _ e1 nf
      refine ⟨m, ⟨_, es, ep, e2, hd, hr⟩, fun h' sb => ?_⟩
      obtain ⟨f1, f2', f3', oe, vs, T', oT, ts, k1, k2, k3, k4, k5, k6, k7, k8, k9⟩ := held
      have aC : a ≠ s3.heap.objs.size := fun z => by
        rw [z, e2] at k1
        cases k1
        exact nf _ k3
      have TC : T' ≠ s3.heap.objs.size := fun z => by
        rw [z, e2] at k7
        cases k7
        exact nf _ k8
      have held' : HandSPX.HeldZ (PySem.W.hideAll B [s3.heap.objs.size]) (X.env :: X.outer) a (L2N.Zn cls d) X.env.locals h' := by
        refine ⟨fun b o e => ?_, ?_, ?_, oe, vs, T', oT, ts, (sb.2 _ aC).trans k1, k2, k3, k4, ?_, k6, (sb.2 _ TC).trans k7, k8, k9⟩
        · have nC : b ≠ s3.heap.objs.size := fun z => by
            rw [PySem.W.hideAll_none [s3.heap.objs.size] (by rw [z]; exact List.mem_singleton.mpr rfl)] at e
            cases e
          exact (sb.2 b nC).trans (f1 b o (PySem.W.of_hideAll _ e))
        · cases q : (PySem.W.hideAll B [s3.heap.objs.size]).get? a with
          | none => rfl
          | some o => rw [PySem.W.of_hideAll _ q] at f2'; cases f2'
        · have fr : ∀ b ∈ frs (X.env :: X.outer), b ≠ s3.heap.objs.size := fun b hb => by
            rw [← hst] at hb
            rcases List.mem_cons.mp (I3.stkSub b hb) with z | z
            · rw [z]; exact Ne.symm neL
            · obtain ⟨_, o, e, _⟩ := I3.funs.mem z
              exact Nat.ne_of_lt (Heap.lt_size e)
          refine funFrames_but sb.2 (funFrames_none f3' fun b hb => ?_) fr
          cases q : (PySem.W.hideAll B [s3.heap.objs.size]).get? b with
          | none => rfl
          | some o => exact absurd (PySem.W.of_hideAll _ q) (by rw [(f3'.mem hb).1]; exact fun z => nomatch z)
        · cases q : (PySem.W.hideAll B [s3.heap.objs.size]).get? T' with
          | none => rfl
          | some o => rw [PySem.W.of_hideAll _ q] at k5; cases k5
      unfold PySem.passOn
      refine wpAny_bind (wpAny_field ((sb.2 _ aC).trans k1) k3 k4 ?_)
      rw [if_neg (by simp)]
      refine wpAny_bind ?_
      rw [hf]
      refine HandSPX.setFlight_onZ held' fun h2 held2 up2 => ?_
      show wpAny _ _ (throw (Value.ref a)) _ _ _
      have J : Inv X pins σ H' sI := I3.call' (ch := fp) I'.os I'.base I'.hok I'.bare fun b hb => ⟨(f3 b hb).1.2.2.2.1, (f3 b hb).1.2.1, (f3 b hb).1.2.2.2.2.1, (f3 b hb).1.2.2.2.2.2⟩
      obtain ⟨g0, g1, g2, g3, g4, g5⟩ := I3.fpOk (Nat.le_refl _) nC
      have J2 : Inv X pins σ H' { sI with heap := PySem.W.hideAll sI.heap [s3.heap.objs.size] } := J.turned (t' := sI.toks) (fun b o hb e => PySem.W.hideAll_get _ e (fun z => hb (List.mem_singleton.mp z))) g0 g1 g3 g4 g5
      have hid : ∀ b o, (PySem.W.hideAll sI.heap [s3.heap.objs.size]).get? b = some o → b ≠ s3.heap.objs.size ∧ sI.heap.get? b = some o := fun b o e => by
        refine ⟨fun z => ?_, PySem.W.of_hideAll _ e⟩
        rw [PySem.W.hideAll_none [s3.heap.objs.size] (by rw [z]; exact List.mem_singleton.mpr rfl)] at e
        cases e
      refine wpAny_throw (tk _ _ ⟨a, PySem.W.hideAll B [s3.heap.objs.size], { sI with heap := PySem.W.hideAll sI.heap [s3.heap.objs.size] }, pins, σ, H', cls, d, rfl, J2, fun b o e hb => ?_, fun b o e hnf => ?_, .inr (.inr ?_), na, os, ag, w⟩)
      · obtain ⟨z1, z2⟩ := hid b o e
        exact PySem.W.hideAll_get _ (nb b o z2 hb) fun z => z1 (List.mem_singleton.mp z)
      · obtain ⟨z1, z2⟩ := hid b o e
        obtain ⟨sl3, e3⟩ := up _ _ z2 hnf
        obtain ⟨sl4, e4⟩ := up1 _ _ e3 hnf
        obtain ⟨sl5, e5⟩ := up2 _ _ ((sb.2 b z1).trans e4) hnf
        exact ⟨sl5, e5⟩
      · rw [hst]
        exact held2
    have sky : Sky B (X.env :: X.outer) a (L2N.Zn cls d) s3.heap.objs.size s5.heap := by
      have z : Sky B X.stack a (L2N.Zn cls d) ce.locals s5.heap := sky
      rw [hst, cL] at z
      exact z
    rcases sky with ⟨hB, hn, hl, oe, vs, he, hz, hd, h1⟩ | fl | hh
    · exact PXN.look_newZ L2N.Zn.steady hfr hl hf he hB hn hd h1 hz fin
    · exact PXN.looks_onZ L2N.Zn.steady hfr hf fl fin
    · exact PXN.looks_otherZ L2N.Zn.steady hfr hf neL hh fin
  have loop : codeAny (model X.prog X.w) X.A (.compLoop (.ListComp elt [⟨tg, iter, ifs, 0⟩] scope pos) 0 (.ref it) (.ref D) ce) (compPostF (model X.prog X.w) X.A X.xe use Qf X.env (.ref D) s3.heap.objs.size) s4 := by
    refine compLoop_any (fun n s' => ∃ i H', Inv (X.blk s3 H3 scope ce fp) [] (wipe σ (own.map (·.2))) H' s' ∧ tn i s'.heap ∧ (∀ b ∈ fp, H' b = none) ∧ W i n H') ?_ m0 ⟨0, H3, I4, st4, nfp, w0⟩
    rintro n s5 ⟨i, H5, I5, st5, n5, w5⟩
    rcases turn i n H5 w5 with ⟨stop, qq⟩ | ⟨go, Nx, hNx, step⟩
    · have td := T.done (X.blk s3 H3 scope ce fp) rfl rfl rfl hc i [] s5 _ H5 (fun _ _ => False) I5 (stat I5 n5) st5 stop
      refine thnF td fun r s6 ⟨hr, I6⟩ => ?_
      subst hr
      have I7 : Inv X pins σ H5 s6 := I3.call' (ch := fp) I6.os I6.base I6.hok I6.bare fun b hb => ⟨(f3 b hb).1.2.2.2.1, (f3 b hb).1.2.1, (f3 b hb).1.2.2.2.2.1, (f3 b hb).1.2.2.2.2.2⟩
      have nC : H5 s3.heap.objs.size = none := by
        have z : H5 ce.locals = none := I6.free
        rw [cL] at z
        exact z
      obtain ⟨m, hn, _⟩ := I6.loc
      have hn : s6.heap.Ns ce.locals m := hn
      rw [cL] at hn
      exact hRR D s3.heap.objs.size s6 m H5 I7 qq hn (I3.fpOk (Nat.le_refl _) nC)
    · have ti := T.item (X.blk s3 H3 scope ce fp) rfl rfl rfl hc i [] s5 _ H5 (fun _ _ => False) I5 (stat I5 n5) st5 go
      refine thnF ti fun r s6 ⟨u, hr, h6⟩ => ?_
      subst hr
      refine thnF h6 fun _ s7 ⟨x, H7, I7, r7, y7, st7, n7⟩ => ?_
      have I7' := I7.pinned (stat I7 n7) (T.obj _ _ st7)
      refine thnF (pg.run _ s7 _ H7 x u _ I7' r7 (step x H7 y7)) fun _ s8 ⟨σ8, H8, I8, hw8, q8⟩ => ?_
      refine thnF (pt.run _ s8 σ8 H8 _ I8 q8) fun b s9 ⟨H9, I9, q9⟩ => ?_
      have fin : ∀ {s' : Shared} {H' : Hp}, Inv (X.blk s3 H3 scope ce fp) ([] ++ pinsAt fp s7.heap) σ8 H' s' → Nx H' → ∃ m, m < n ∧ ∃ i H', Inv (X.blk s3 H3 scope ce fp) [] (wipe σ (own.map (·.2))) H' s' ∧ tn i s'.heap ∧ (∀ b ∈ fp, H' b = none) ∧ W i m H' := fun {s' H'} I' nx => by
        obtain ⟨m', hm, w'⟩ := hNx H' nx
        have pin' : ∀ b ∈ fp, ∀ o, s7.heap.get? b = some o → s'.heap.get? b = some o ∧ H' b = none := fun b hb o e =>
          let z := I'.pin (b, o) (List.mem_append_right _ (List.mem_append_right _ (mem_pinsAt hb e)))
          ⟨z.1, z.2.1⟩
        have hl : (wipe σ (own.map (·.2))).length = σ8.length := by rw [← hw8, wipe_length]
        refine ⟨m', hm, i + 1, H', (I'.unpinned (pins := [])).weak hl (fun j v e => ?_), T.keep _ _ _ st7 fun b hb o e => (pin' b hb o e).1, fun b hb => ?_, w'⟩
        · rw [← hw8] at e
          exact (wipe_some e).1
        · obtain ⟨o, e, _⟩ := T.obj _ _ st7 b hb
          exact (pin' b hb o e).2
      cases b with
      | false =>
        simp only [Bool.false_eq_true, if_false] at q9 ⊢
        exact fin I9 q9
      | true =>
        simp only [if_true] at q9 ⊢
        refine wpAny_mono (pe.run _ s9 σ8 H9 _ (I9.wish _) q9) (fun z s10 ⟨yv, H10, I10, r10, acc, hD10, hz10, nx⟩ => ?_) fun u s10 xx => out u s10 xx _
        exact app_ok (X := X.blk s3 H3 scope ce fp) I10.unwish hD10 hz10 r10 fun s11 I11 => fin I11 nx
  exact codeAny_compStart_list loop (T.self X.A 0 _ _ _ st4 loop)
end
end L2

namespace L2
open PySem PySem.Spec PyProof.Rows
section
variable {X : Cx}
/-- name = [..] on one line, the name a local -/
theorem ps_setLcX {Wv : WX} {i : Nat} {y : Str} {py : Pos} {elt tg iter : Expr} {ifs : List Expr} {scope : Scope} {own : List (Str × Nat)} {pos spos : Pos} {wi : TI} {g : TG} {tt : TT} {te : St → TE} (hst : X.stack = X.env :: X.outer) (hf : X.env.frame = some X.env.locals) (tk : L2N.Takes X Wv) (hc : X.calm = true) (hN : X.N.Nodup) (hy : X.N[i]? = some y) (hyl : X.env.scope.names.lookup y = some .local)
    (hsw : swapsWith (.ListComp elt [⟨tg, iter, ifs, 0⟩] scope pos) (some (.Name y py)) spos.line X.env = pure true) (hi : PI X tg iter wi) (ok : BlkOk X.N X.env.scope scope own)
    (hg : ∀ (s : Shared) (H : Hp) (C : Addr) (cl : List (Str × Addr)) (fp : List Addr), PG (X.blk s H scope (compEnvC scope cl C X.env) fp) tg g) (ht : ∀ (s : Shared) (H : Hp) (C : Addr) (cl : List (Str × Addr)) (fp : List Addr), PTs (X.blk s H scope (compEnvC scope cl C X.env) fp) ifs tt)
    (he : ∀ (σ : St) (s : Shared) (H : Hp) (C : Addr) (cl : List (Str × Addr)) (fp : List Addr) (xe : Value → Shared → Prop), L2N.Takes ((X.blk s H scope (compEnvC scope cl C X.env) fp).wish xe) (fun cls d _ H => Wv cls d σ H) → PE ((X.blk s H scope (compEnvC scope cl C X.env) fp).wish xe) elt (te σ)) (hs : ∀ x, foldedSetIterable iter X.env x = pure x := by intro _; rfl) :
    PS X (.Assign [.Name y py] (.ListComp elt [⟨tg, iter, ifs, 0⟩] scope pos) spos) (tAsg (fun σ => tLc wi g tt (te σ) (own.map (·.2)) σ) (gName i)) := by
  refine ⟨fun pins s σ H D I h => ?_⟩
  rw [exec_Assign_Name_used _ _ _ _ hsw]
  refine wpAny_bind (wpAny_standAt (wpAny_bind ?_))
  show wpAny _ X.A (do let _ ← comprehension (.ListComp elt [⟨tg, iter, ifs, 0⟩] scope pos) scope X.env (firstIterPos [⟨tg, iter, ifs, 0⟩] pos) (newList []) false (eval iter X.env) (some (assign (.Name y py) X.env))) _ _ s
  have h : tLc wi g tt (te σ) (own.map (·.2)) σ H (fun x H1 => gName i x σ H1 D.nx) := h
  refine wpAny_bind (thn (lc_coreX (Qf := fun _ s' => SP X pins D .next s') (te := te σ) hst hf tk hc hN I hi ok hg ht (he σ) hs h fun L C s' m H' I' q hn f => ?_) fun _ s' hq => wpAny_pure (wpAny_pure hq))
  show wpAny _ _ (assign (.Name y py) X.env (.ref L)) _ _ _
  refine wpAny_assign_Name (store_ok2 (v := V.ref L) I' hN hy (.inl hyl) rfl (fun s2 I2 ⟨a, sb, ha⟩ => ?_) (.inr hyl))
  obtain ⟨f0, f1, f2, f3, f4, f5⟩ := f
  have haC : C ≠ a := by
    rcases ha with z | z
    · rw [z]; exact f1
    · exact fun e => f4 y a z e.symm
  refine ⟨m, hn.sameBut sb haC, fun h3 sb3 => ?_⟩
  exact ⟨_, H', I2.turned (t' := s2.toks) (fun b o hb e => (sb3.2 b hb).trans e) f0 f1 f3 f4 f5, q⟩
end
end L2
namespace L3
open PySem PySem.Spec PyProof.Rows L2
def lcGoX (g : MG) (tt : MT) (te : ME) (gd : MH → Prop) (Q : D → MH → Prop) (E : XQ) : List D → List D → Ev → MH → Prop
  | [], acc => fun _ h => gd h ∧ Q (.loc h.length) (h ++ [.lst acc])
  | d :: ds, acc => fun ρ h => gd h ∧ g d ρ h (fun ρ1 h1 => tt ρ1 h1 (fun b h2 => ifB b (te ρ1 h2 (fun y h3 => lcGoX g tt te gd Q E ds (acc ++ [y]) ρ h3) E) (lcGoX g tt te gd Q E ds acc ρ h2)) (fun _ _ => False)) (fun _ _ => False)
abbrev mLcX (vs : List Nat) (mi : MI) (g : MG) (tt : MT) (te : ME) : ME := fun ρ h Q E => mi ρ h (fun xs gd h1 => xs.length ≤ 100000 ∧ lcGoX g tt te gd Q E xs [] (wipeE ρ vs) h1) E
def cEUX {I : Type} (Wv : WX) (σ : L2.St) (X : I → Cx) (e : Expr) : TE := fun σ' H Q => ∀ i xe, L2N.Takes ((X i).wish xe) (fun cls d _ H => Wv cls d σ H) → cE ((X i).wish xe) e σ' H Q
section
variable {X : Cx} {W : Wz} {tg e : Expr} {pos : Pos}
theorem lc_simX {elt iter : Expr} {ifs : List Expr} {scope : Scope} (own : List (Str × Nat)) {mi : MI} {g : MG} {tt : MT} {te : ME} {ti : TI} (pi : PI X tg iter ti) (si : SimI X.K W ti mi)
    (hg : ∀ (s : Shared) (H : Hp) (C : Addr) (cl : List (Str × Addr)) (fp : List Addr), CG (X.blk s H scope (compEnvC scope cl C X.env) fp) Wf (own.map (·.2)) tg g)
    (ht : ∀ (s : Shared) (H : Hp) (C : Addr) (cl : List (Str × Addr)) (fp : List Addr), CTs (X.blk s H scope (compEnvC scope cl C X.env) fp) ifs tt)
    (he : ∀ (s : Shared) (H : Hp) (C : Addr) (cl : List (Str × Addr)) (fp : List Addr) (xe : Value → Shared → Prop) (Wv : WX), L2N.Takes ((X.blk s H scope (compEnvC scope cl C X.env) fp).wish xe) Wv → CE ((X.blk s H scope (compEnvC scope cl C X.env) fp).wish xe) ⟨Wv, none⟩ elt te) :
    SimE X.K W (fun σ => tLc ti (cGU (fun i : Shared × Hp × Addr × List (Str × Addr) × List Addr => X.blk i.1 i.2.1 scope (compEnvC scope i.2.2.2.1 i.2.2.1 X.env) i.2.2.2.2) tg) (cTU (fun i : Shared × Hp × Addr × List (Str × Addr) × List Addr => X.blk i.1 i.2.1 scope (compEnvC scope i.2.2.2.1 i.2.2.1 X.env) i.2.2.2.2) ifs) (cEUX W.w σ (fun i : Shared × Hp × Addr × List (Str × Addr) × List Addr => X.blk i.1 i.2.1 scope (compEnvC scope i.2.2.2.1 i.2.2.1 X.env) i.2.2.2.2) elt) (own.map (·.2)) σ) (mLcX (own.map (·.2)) mi g tt te) := by
  intro φ ρ σ h H Qm Q Xm rh rs q okv ox
  have noX : ∀ {φ : List Addr} {H : Hp} {τ : L2.St}, OkX X.K φ H τ (fun _ _ => False) Wf := fun _ _ _ _ _ _ _ _ _ z => z.elim
  refine si φ ρ σ h H _ _ _ rh rs q (fun φ1 h1 H1 J xs gd e1 rh1 it q1 => ?_) ox
  intro Dp hD
  obtain ⟨hx, q1⟩ := q1
  have rs1 : RS X.K none φ1 H1 (wipeE ρ (own.map (·.2))) (L2.wipe σ (own.map (·.2))) := (rs.to rh e1).none_.wipe _
  obtain ⟨rh2, e2⟩ := rh1.new hD (.lst [])
  refine ⟨fun i m H' => ∃ φ' h' acc vacc, Ext φ1 H1 φ' H' ∧ RH X.K φ' h' H' ∧ Dp ∉ φ' ∧ H' Dp = some (.lst vacc) ∧ RDs X.K φ' H' acc vacc ∧ RS X.K none φ' H' (wipeE ρ (own.map (·.2))) (L2.wipe σ (own.map (·.2))) ∧ acc.length ≤ i ∧ i ≤ xs.length ∧ m = xs.length - i ∧
    lcGoX g tt te gd Qm Xm (xs.drop i) acc (wipeE ρ (own.map (·.2))) h', ⟨xs.length, φ1, h1, [], [], e2, rh2, rh1.fresh hD, upd_same, .nil, rs1.mo e2.toMo, Nat.le_refl _, Nat.zero_le _, by simp, by rw [List.drop_zero]; exact q1⟩, ?_⟩
  rintro i m H' ⟨φ', h', acc, vacc, E1, rh', nD, eD, ra, rs', la, li, rfl, q'⟩
  by_cases hlt : i < xs.length
  · have e0 : xs[i]? = some xs[i] := List.getElem?_eq_getElem hlt
    rw [drop_cons e0] at q'
    obtain ⟨j1, j2⟩ := (it φ' h' H' E1.toMo rh' q'.1).1 i _ e0
    refine .inr ⟨j1, fun H2 => ∃ φ2 h2 acc2 vacc2, Ext φ1 H1 φ2 H2 ∧ RH X.K φ2 h2 H2 ∧ Dp ∉ φ2 ∧ H2 Dp = some (.lst vacc2) ∧ RDs X.K φ2 H2 acc2 vacc2 ∧ RS X.K none φ2 H2 (wipeE ρ (own.map (·.2))) (L2.wipe σ (own.map (·.2))) ∧ acc2.length ≤ i + 1 ∧
      lcGoX g tt te gd Qm Xm (xs.drop (i + 1)) acc2 (wipeE ρ (own.map (·.2))) h2, ?_, fun x H2 y => ?_⟩
    · rintro H2 ⟨φ2, h2, acc2, vacc2, a1, a2, a3, a4, a5, a6, a7, a8⟩
      exact ⟨xs.length - (i + 1), by omega, φ2, h2, acc2, vacc2, a1, a2, a3, a4, a5, a6, a7, hlt, rfl, a8⟩
    · obtain ⟨x2, rh2, rd⟩ := j2 x H2 y
      intro iy pins s u I r
      obtain ⟨s0, H0, C, cl, fp⟩ := iy
      obtain ⟨tg', pg, sg⟩ := (hg s0 H0 C cl fp).ex
      refine pg.run pins s _ H2 x u _ I r (sg φ' _ _ h' H2 _ _ _ _ _ rh2 (rs'.to rh' x2) rd q'.2 (fun φ3 ρ3 σ3 h3 H3 x3 rh3 rs3 w3 q3 => ⟨w3.trans ?_, ?_⟩) noX)
      · exact wipe_wipe _
      · intro iy pins s I
        obtain ⟨s0, H0, C, cl, fp⟩ := iy
        obtain ⟨tt', pt, st⟩ := (ht s0 H0 C cl fp).ex
        refine pt.run pins s _ H3 _ I (st φ3 _ _ h3 H3 _ _ _ rh3 rs3 q3 (fun φ4 h4 H4 b x4 rh4 q4 => ?_) noX)
        have K3 := x2.trans (x3.trans x4)
        obtain ⟨k1, k2⟩ := K3.keep _ _ eD nD
        have rs4 := (rs'.to rh' K3)
        have E4 := E1.trans K3
        cases b with
        | false => exact ⟨φ4, h4, acc, vacc, E4, rh4, k2, k1, ra.to K3.toMo, rs4, Nat.le_succ_of_le la, q4⟩
        | true =>
          intro iy xe tkB pins s I
          obtain ⟨s0, H0, C, cl, fp⟩ := iy
          refine (he s0 H0 C cl fp xe _ tkB).sim φ4 _ _ h4 H4 _ _ _ rh4 (rs3.to rh3 x4) q4 (fun φ5 h5 H5 d v x5 rh5 rd5 q5 => ?_) (fun φ' h' H' x cls dx e r rx q => ox _ _ _ _ _ _ (e1.trans (E4.trans e)) r rx q) pins s I
          obtain ⟨k3, k4⟩ := x5.keep _ _ k1 k2
          have E5 := E4.trans x5
          obtain ⟨rh6, m6⟩ := rh5.side (us := vacc ++ [v]) k4 k3
          have ra5 := (ra.to K3.toMo).to x5.toMo
          refine ⟨vacc, k3, by rw [← ra.len]; exact Nat.lt_of_le_of_lt la (Nat.lt_of_lt_of_le hlt (big hx)), φ5, h5, acc ++ [d], vacc ++ [v], ⟨⟨E5.pre, fun a xs z => m6.tup _ _ (E5.tup _ _ z), fun a o u z => m6.frz _ _ _ (E5.frz _ _ _ z)⟩, fun a o z na => ?_⟩, rh6, k4, upd_same, (ra5.snoc rd5).to m6, (rs4.to rh4 x5).mo m6, ?_, q5⟩
          · rw [upd_ne (ne_of_none z hD)]
            exact E5.keep _ _ z na
          · rw [List.length_append]
            exact Nat.succ_le_succ la
  · have hi2 : i = xs.length := by omega
    subst hi2
    rw [List.drop_length] at q'
    refine .inl ⟨(it φ' h' H' E1.toMo rh' q'.1).2 _ (Nat.le_refl _), ?_⟩
    have rh3 := rh'.reg nD (x := .lst acc) ⟨vacc, eD, ra.to Mo.reg⟩
    refine okv _ _ _ _ _ (e1.trans (E1.reg hD)) rh3 (.loc ?_) q'.2
    rw [← rh'.len]; simp
/-- name = [..] -/
theorem cs_setLcX {i : Nat} {y : Str} {py spos : Pos} {elt iter : Expr} {ifs : List Expr} {scope : Scope} (own : List (Str × Nat)) {mi : MI} {g : MG} {tt : MT} {te : ME} (hst : X.stack = X.env :: X.outer) (hf : X.env.frame = some X.env.locals) (tk : L2N.Takes X W.w) (hw : W.ok i = true) (hc : X.calm = true) (hN : X.N.Nodup) (hy : X.N[i]? = some y) (hyl : X.env.scope.names.lookup y = some .local)
    (hsw : swapsWith (.ListComp elt [⟨tg, iter, ifs, 0⟩] scope pos) (some (.Name y py)) spos.line X.env = pure true) (hi : CI X W tg iter mi) (ok : BlkOk X.N X.env.scope scope own)
    (hg : ∀ (s : Shared) (H : Hp) (C : Addr) (cl : List (Str × Addr)) (fp : List Addr), CG (X.blk s H scope (compEnvC scope cl C X.env) fp) Wf (own.map (·.2)) tg g)
    (ht : ∀ (s : Shared) (H : Hp) (C : Addr) (cl : List (Str × Addr)) (fp : List Addr), CTs (X.blk s H scope (compEnvC scope cl C X.env) fp) ifs tt)
    (he : ∀ (s : Shared) (H : Hp) (C : Addr) (cl : List (Str × Addr)) (fp : List Addr) (xe : Value → Shared → Prop) (Wv : WX), L2N.Takes ((X.blk s H scope (compEnvC scope cl C X.env) fp).wish xe) Wv → CE ((X.blk s H scope (compEnvC scope cl C X.env) fp).wish xe) ⟨Wv, none⟩ elt te) (hs : ∀ x, foldedSetIterable iter X.env x = pure x := by intro _; rfl) :
    CS X W (.Assign [.Name y py] (.ListComp elt [⟨tg, iter, ifs, 0⟩] scope pos) spos) (mSet i (mLcX (own.map (·.2)) mi g tt te)) := by
  obtain ⟨ti, pi, si⟩ := hi.ex
  let Y : Shared × Hp × Addr × List (Str × Addr) × List Addr → Cx := fun i => X.blk i.1 i.2.1 scope (compEnvC scope i.2.2.2.1 i.2.2.1 X.env) i.2.2.2.2
  refine .of (ps_setLcX (i := i) (g := cGU Y tg) (tt := cTU Y ifs) (te := fun σ => cEUX W.w σ Y elt) hst hf tk hc hN hy hyl hsw pi ok (fun s H C cl fp => ⟨fun pins s' σ H' v u Q I r h => h (s, H, C, cl, fp) pins s' u I r⟩) (fun s H C cl fp => ⟨fun pins s' σ H' Q I h => h (s, H, C, cl, fp) pins s' I⟩)
    (fun σ s H C cl fp xe tkB => ⟨fun pins s' σ' H' Q I h => h (s, H, C, cl, fp) xe tkB pins s' I⟩) hs) fun φ ρ σ h H M E rh rs m l => ?_
  exact lc_simX own pi si hg ht he φ ρ σ h H _ (fun x H1 => gName i x σ H1 E.nx) _ rh rs m (fun φ' h' H' d v e1 rh1 rd q1 => l.nx φ' _ _ h' H' e1 rh1 ((rs.to rh e1).set hw rd) q1) (l.okx rh rs)
end

section
variable {g : MG} {tt : MT} {te : ME} {gd : MH → Prop}
theorem lcGoX_ind {xs : List D} {Q : D → MH → Prop} {E : XQ} {ρ : Ev} (I : Nat → List D → MH → Prop) {h : MH} (h0 : I 0 [] h) (hg : ∀ i acc h, i ≤ xs.length → I i acc h → gd h)
    (step : ∀ i d acc h (R : List D → MH → Prop), xs[i]? = some d → I i acc h → (∀ acc' h', I (i + 1) acc' h' → R acc' h') →
      g d ρ h (fun ρ1 h1 => tt ρ1 h1 (fun k h2 => ifB k (te ρ1 h2 (fun y h3 => R (acc ++ [y]) h3) E) (R acc h2)) (fun _ _ => False)) (fun _ _ => False))
    (fin : ∀ acc h, I xs.length acc h → Q (.loc h.length) (h ++ [.lst acc])) : lcGoX g tt te gd Q E xs [] ρ h := by
  have key : ∀ (n i : Nat) (acc : List D) (h : MH), xs.length - i = n → i ≤ xs.length → I i acc h → lcGoX g tt te gd Q E (xs.drop i) acc ρ h := by
    intro n
    induction n with
    | zero =>
      intro i acc h e le hi
      have : i = xs.length := by omega
      subst this
      rw [List.drop_length]
      exact ⟨hg _ _ _ le hi, fin _ _ hi⟩
    | succ n ih =>
      intro i acc h e le hi
      have hlt : i < xs.length := by omega
      rw [drop_cons (List.getElem?_eq_getElem hlt)]
      exact ⟨hg _ _ _ le hi, step i _ acc h (fun acc' h' => lcGoX g tt te gd Q E (xs.drop (i + 1)) acc' ρ h') (List.getElem?_eq_getElem hlt) hi fun acc' h' q => ih (i + 1) acc' h' (by omega) hlt q⟩
  have := key xs.length 0 [] h (by omega) (Nat.zero_le _) h0
  rwa [List.drop_zero] at this
end
end L3

/-! == of two instances, by the class's own __eq__ -/
namespace L3
open PySem PySem.Spec PyProof.Rows L2
section
variable {X : Cx} {k j : Nat} {c : Str} {sp : SpM}
def rEqI (C : Addr) (sp : Sp) : R2 := fun x y H Q => ∃ a b dx dy fs gs, x = .ref a ∧ y = .ref b ∧ H a = some (.ins C dx fs) ∧ H b = some (.ins C dy gs) ∧ sp [.ref a, .ref b] H (fun v H' => (∃ r, v = V.bl r) ∧ Q v H') (fun _ _ _ => False)
theorem op_eqI {C f : Addr} {fd : FuncData} {ps : List Str} {sp : Sp} (me : Meth X.K C "__eq__" f) (F : FnG X.prog X.w X.K X.mg X.base (L2N.CX X.prog X.w) k f fd ps sp) (b : Binds X.K fd ps []) (hr : Rm j X.A) (hk : k ≤ j) : OpR X (compareOp .Eq) (rEqI C sp) := by
  rintro pins s σ H x y v u Q I rx ry ⟨a, b', dx, dy, fs, gs, rfl, rfl, ha, hb, h⟩
  cases rx
  cases ry
  show wpAny (model X.prog X.w) X.A (richCompare .Eq (.ref a) (.ref b')) (EP X pins σ Q) X.xe s
  obtain ⟨mA, J, _⟩ := ins_get I.hok ha
  obtain ⟨mB, J', _⟩ := ins_get I.hok hb
  obtain ⟨od, J, _⟩ := J.look
  obtain ⟨od', J', _⟩ := J'.look
  obtain ⟨m, hF⟩ := I.fr
  refine PySem.W.cmp_K (op := .Eq) (tb := .ref C) (by have := hr.units; omega) hF I.ok.mod.kin J J'.type (by simp [PySem.W.notFirst]) me.at_ me.fn ?_
  have tk : L2N.Takes X (fun _ _ _ _ => False) := fun u s' ⟨_, _, _, _, _, _, _, _, _, _, _, _, _, _, _, _, w⟩ => w.elim
  refine wpAny_mono (run_fnG (E := WE fun _ _ _ _ => False) (us := [.ref a, .ref b']) (vs := [.ref a, .ref b']) F (hr.mono hk) b (L2N.passAt tk σ) I (.cons rfl (.cons rfl .nil)) h) (fun w s' q => ?_) fun _ _ z => z
  obtain ⟨v, H', I', rv, ⟨r, rfl⟩, q⟩ := q
  cases rv
  exact ⟨.bl r, H', I', rfl, q⟩
abbrev oEqI (c : Str) (sp : SpM) : MO := fun x y h Q => match x, y with
  | .loc n, .loc m => (∃ fs, h[n]? = some (.ins c fs)) ∧ (∃ fs, h[m]? = some (.ins c fs)) ∧ sp [.loc n, .loc m] h (fun d h' => (∃ b, d = .bl b) ∧ Q d h') (fun _ _ => False)
  | _, _ => False
theorem o_eqI (cc : Mt X.prog X.w X.K X.mg X.base k c "__eq__" sp) (hr : Rm j X.A) (hk : k ≤ j) : OpC X (compareOp .Eq) (oEqI c sp) := by
  obtain ⟨f, fd, ps, cl, me, F, b⟩ := cc.ex
  refine ⟨_, op_eqI me F b hr hk, fun φ h H dx dy x y Qm Q rh rx ry m ok => ?_⟩
  unfold oEqI at m
  split at m
  · cases rx with
    | loc e0 =>
      cases ry with
      | loc f0 =>
        obtain ⟨⟨fs, g1⟩, ⟨gs, g2⟩, m⟩ := m
        obtain ⟨d1, vs, a1, a2⟩ := rh.at_ _ _ _ e0 g1
        obtain ⟨d2, us, b1, b2⟩ := rh.at_ _ _ _ f0 g2
        refine ⟨_, _, _, _, _, _, rfl, rfl, a1, b1, φ, h, _, _, _, rh, .cons (.loc e0) (.cons (.loc f0) .nil), m, fun φ' h' H' d v e1 rh' rd q => ?_, fun _ _ _ _ _ _ _ _ _ z => z.elim⟩
        obtain ⟨⟨bb, rfl⟩, q⟩ := q
        cases rd
        exact ⟨⟨bb, rfl⟩, ok _ _ _ _ _ e1 rh' (.bl _) q⟩
  · exact m.elim
/-- an own class, for isinstance -/
structure InsC (K : PySem.W.Frag) (C : Addr) : Prop where
  cl : Cls K C
  ha : PySem.W.findIn K (.ref C) "__class__" = some (some (.builtin "object.__class__"))
  hn : PySem.W.specialIn K (.builtin "object.__class__") "__get__" = some (some (.builtin "getset_descriptor.__get__"))
  htk : PySem.W.takesIn K (.builtin "object.__class__") = some true
  hm : PySem.W.mroIn K C (.type "object") = some true
  kt : PySem.W.kitOne K (.ref C) (.ref C) = some true
abbrev mIsC (c : Str) (m : ME) : ME := fun ρ h Q E => m ρ h (fun d h1 => match d with | .loc n => (∃ fs, h1[n]? = some (.ins c fs)) ∧ Q (.bl true) h1 | _ => False) E
theorem ce_isC {W : Wz} {e : Expr} {m : ME} {p pc pos : Pos} (ic : InsC X.K (He.ga X.K c)) (he : CE X W e m) (hg : Gl X "isinstance") (hm : X.mg "isinstance" = none) (hm2 : X.mg c = some (.ref (He.ga X.K c))) (hg2 : Gl X c := by rfl) (hd2 : (c == ("__debug__" : Str)) = false := by decide)
    (h1 : starEach [e, .Name c pc] X.env = (false, eval e X.env) :: starEach [.Name c pc] X.env := by rfl) (h2 : starEach [.Name c pc] X.env = (false, eval (.Name c pc) X.env) :: starEach [] X.env := by rfl)
    (h3 : (backTo pos (starEach [.Name c pc] X.env)).any (·.1) = false := by rfl) :
    CE X W (.Call (.Name "isinstance" p) [e, .Name c pc] [] pos) (mIsC c m) :=
  .of (pe_callB call_isi hg hm (by decide +kernel) (pa_cons cE.pe (pa_cons (pe_glob (v := .ref (He.ga X.K c)) hg2 hm2 rfl hd2) pa_nil h2) h1) (by decide) (by decide) h1 h3) fun φ ρ σ h H Qm Q Xm rh rs q ok ox =>
  he.sim φ ρ σ h H _ _ _ rh rs q (fun φ1 h1 H1 d v e1 rh1 rx q1 => by
    split at q1
    · cases rx with
      | loc e0 =>
        obtain ⟨⟨fs, g1⟩, q1⟩ := q1
        obtain ⟨dx, vs, a1, a2⟩ := rh1.at_ _ _ _ e0 g1
        exact ⟨_, .ref (He.ga X.K c), _, _, true, rfl, .own _, .base (.ins a1 ic.cl ic.ha ic.hn ic.htk ic.hm), ic.kt, ok _ _ _ _ _ e1 rh1 (.bl _) q1⟩
    · exact q1.elim) ox
end
end L3
namespace L3
open PySem PySem.Spec PyProof.Rows L2
section
variable {X : Cx}
theorem fold_rep (c : Nat) : ∀ (n : Nat) (acc : Array Nat), (List.replicate n (#[c] : Array Nat)).foldl (· ++ ·) acc = acc ++ (List.replicate n c).toArray
  | 0, acc => by simp
  | n + 1, acc => by
    rw [List.replicate_succ, List.foldl_cons, fold_rep c n]
    apply Array.ext'
    simp [List.replicate_succ]
theorem op_mulS : OpR X (binaryOp .Mult) (fun x y H Q => ∃ (c : Nat) (n : Int), x = .str ⟨#[c]⟩ ∧ y = .int n ∧ 1 ≤ n ∧ n ≤ 1000 ∧ Q (.str ⟨(List.replicate n.toNat c).toArray⟩) H) := by
  rintro pins s σ H x y v u Q I rx ry ⟨c, n, rfl, rfl, n1, n2, q⟩
  obtain ⟨t, rfl⟩ := (show ∃ t, v = Value.str _ t from rx)
  obtain ⟨t', rfl⟩ := (show ∃ t, u = Value.int _ t from ry)
  have n63 : n ≤ (2 ^ 63 - 1) / n := by
    refine (Int.le_ediv_iff_mul_le (by omega)).mpr ?_
    have : n * n ≤ 1000 * 1000 := Int.mul_le_mul n2 n2 (by omega) (by decide)
    omega
  have l1 : ((⟨#[c]⟩ : Str).length : Int) = 1 := rfl
  refine PySem.P.mul_str (by simp; omega) (fun _ _ => ?_) (fun _ _ => ?_) ?_
  · rw [l1]
    omega
  · show (decide (1 * n.toNat > sizeLine)) = false
    exact decide_eq_false (by have : (1000 : Nat) < sizeLine := by decide
                              omega)
  · rw [if_neg (by omega)]
    by_cases e : n = 1
    · subst e
      rw [if_pos (by simp)]
      exact ⟨.str ⟨#[c]⟩, H, I, ⟨_, rfl⟩, q⟩
    · have hl : ((⟨#[c]⟩ : Str).length == 0) = false := rfl
      rw [hl, Bool.or_false, if_neg (by simpa using e)]
      refine ⟨?_, .str _, H, I.tok _, ⟨_, rfl⟩, ?_⟩
      · have z : (⟨(List.replicate n.toNat (#[c] : Array Nat)).foldl (· ++ ·) #[]⟩ : Str).length = n.toNat := by
          rw [fold_rep]
          show (#[] ++ (List.replicate n.toNat c).toArray).size = _
          simp
        have : (1000 : Nat) < sizeLine := by decide
        show (⟨(List.replicate n.toNat (#[c] : Array Nat)).foldl (· ++ ·) #[]⟩ : Str).length ≤ sizeLine
        omega
      · show Q (.str ⟨(List.replicate n.toNat (#[c] : Array Nat)).foldl (· ++ ·) #[]⟩) H
        rw [fold_rep]
        simpa using q
abbrev oMulS : MO := fun x y h Q => match x, y with
  | .str s, .int n => ∃ c : Nat, s = ⟨#[c]⟩ ∧ 1 ≤ n ∧ n ≤ 1000 ∧ Q (.str ⟨(List.replicate n.toNat c).toArray⟩) h
  | _, _ => False
theorem o_mulS : OpC X (binaryOp .Mult) oMulS := by
  refine ⟨_, op_mulS, fun φ h H dx dy x y Qm Q rh rx ry m ok => ?_⟩
  unfold oMulS at m
  split at m
  · cases rx
    cases ry
    obtain ⟨c, rfl, n1, n2, m⟩ := m
    exact ⟨c, _, rfl, rfl, n1, n2, ok _ _ _ _ _ .refl rh (.str _) m⟩
  · exact m.elim
end
end L3

/-! isinstance of the error at hand, a built-in class that none of the own errors is -/
namespace L3
open PySem PySem.Spec PyProof.Rows L2
abbrev mIsErrT (errs : List Str) (xc : Xc) : ME := fun _ h Q _ => xc.c ∈ errs ∧ Q (.bl false) h
theorem ce_isErrT {X : Cx} {errs : List Str} {en c : Str} {T : String} {i : Nat} {a : Addr} {oe : Obj} {cls : Value} {d : Option Addr} {pn : List (Addr × Obj)} {xc : Xc} {p pe pc pos : Pos}
    (kit : ∀ a ∈ errs, PySem.W.kitOne X.K (.ref (He.ga X.K a)) (.type T) = some false) (exc : ∀ a ∈ errs, ExcC X.K (He.ga X.K a)) (hz : L2N.Zn cls d oe) (hf : ∃ vs, oe.data = .fields vs)
    (hg : Gl X "isinstance") (hm : X.mg "isinstance" = none) (hm2 : X.mg c = none) (hg2 : Gl X c) (hb : bootBuiltins c = some (.type T)) (hN : X.N[i]? = some en) (hv : Vis X.env.scope en)
    (hd : (en == ("__debug__" : Str)) = false := by decide) (hcd : (en == ("__classdict__" : Str)) = false := by decide) (hd2 : (c == ("__debug__" : Str)) = false := by decide) (hn : c ≠ "__name__" := by decide)
    (h1 : starEach [.Name en pe, .Name c pc] X.env = (false, eval (.Name en pe) X.env) :: starEach [.Name c pc] X.env := by rfl) (h2 : starEach [.Name c pc] X.env = (false, eval (.Name c pc) X.env) :: starEach [] X.env := by rfl)
    (h3 : (backTo pos (starEach [.Name c pc] X.env)).any (·.1) = false := by rfl) :
    CE (X.suite a ((a, oe) :: pn)) (Wh i a xc cls d) (.Call (.Name "isinstance" p) [.Name en pe, .Name c pc] [] pos) (mIsErrT errs xc) :=
  .of (pe_callB (X := X.suite a ((a, oe) :: pn)) (call_isD hz.zc hf) hg hm (by decide +kernel) (pa_cons (pe_var (X := X.suite a ((a, oe) :: pn)) hN hv hd hcd) (pa_cons (pe_bltn (X := X.suite a ((a, oe) :: pn)) (v := .ty T) hg2 hm2 hb rfl hn hd2) pa_nil h2) h1) (he := h1) (hpl := h3)) fun φ ρ σ h H Qm Q Xm rh rs q ok ox => by
    obtain ⟨z1, z2, dd, fvs, z3, z4, z5⟩ := rs.z
    obtain ⟨q1, q2⟩ := q
    exact ⟨_, z1, _, .ty T, .type T, _, dd, fvs, z2, exc _ q1, rfl, .ty _, kit _ q1, z3, z4, ok _ _ _ _ _ .refl rh (.bl _) q2⟩
end L3

/-! comprehensions over a list where an error is handled -/
namespace HotX
open PySem PySem.Spec PyProof.Rows
section
variable {prog : Program} {w : World} {A : Around} {E : Value → Shared → Prop} {s : Shared}
theorem next_list_end_hot {it l x1 : Addr} {i : Nat} {items} {Q : Option Value → Shared → Prop} (hot : HotAt A x1 s.heap)
    (hit : s.heap.IsListIter it l i) (hl : s.heap.IsList l items) (hx : items[i]? = none)
    (hQ : ∀ h', Heap.ExtBut it s.heap h' → Q none { s with heap := h' }) : wpAny (model prog w) A (pyNext (.ref it)) Q E s := by
  obtain ⟨hh, o1, vs1, h1, d1, c1⟩ := hot
  obtain ⟨o, ho, hc, hd⟩ := id hit
  obtain ⟨ol, hol, _, nl, hdl⟩ := hl
  have ne : x1 ≠ it := fun z => by
    rw [z, ho] at h1
    have e := Option.some.inj h1
    rw [← e, hd] at d1
    have e2 := Data.fields.inj d1
    rw [← e2] at c1
    simp at c1
  unfold pyNext
  refine wpAny_bind (wpAny_attempt (wpAny_callSpecial?_slot (name := Str.ofString "__next__") hit.typeIs slot_listiter_next
    (wpAny_call_entry slot_listiter_next hit.typeIs entry_listiter_next ?_ (args_listiter_next _))))
  show wpAny _ _ (field (.ref it) 0 >>= _) _ _ s
  refine wpAny_bind (wpAny_field ho hd (x := .ref l) rfl ?_)
  show wpAny _ _ (if (Value.ref l == Value.none) = true then _ else _) _ _ s
  rw [if_neg (show ¬ ((Value.ref l == Value.none) = true) from Bool.false_ne_true)]
  show wpAny _ _ (field (.ref it) 1 >>= _) _ _ s
  refine wpAny_bind (wpAny_field ho hd (x := .int i 0) rfl ?_)
  show wpAny _ _ (seqItems? (.ref l) >>= _) _ _ s
  refine wpAny_bind (wpAny_seqItems hol hdl ?_)
  simp only [Int.toNat_natCast, hx]
  refine wpAny_bind (wpAny_rule (wpAny_bind (wpAny_setField ho hd (by simp) ?_)))
  show wpAny _ _ (newExc (.type "StopIteration") [] >>= _) _ _ _
  refine wpAny_bind ?_
  simp only [newExc, newTuple]
  refine wpAny_bind (wpAny_newObj_type ?_ (by size_fits))
  refine wpAny_bind (m := firstArgMember _ _) (wpAny_of_eq (a := Value.none) (by first | rfl | (simp only [firstArgMember]; rfl)) ?_)
  refine wpAny_newObj_type ?_ (by size_fits)
  have h1' : ∀ f, (s.heap.update it f).get? x1 = some o1 := fun f => by
    rw [Heap.get?_update_other _ _ (Ne.symm ne)]
    exact h1
  refine raiseNew_hot ⟨hh, o1, vs1, Heap.get?_push_of_some _ (Heap.get?_push_of_some _ (h1' _)), d1, c1⟩ (Nat.ne_of_lt (Heap.lt_size (Heap.get?_push_of_some _ (h1' _)))) (Heap.get?_push_size _ rfl) rfl (by first | (simp; done) | (simp; omega) | (simp only [Array.size_append]; simp; omega)) ?_
  refine wpAny_bind (wpAny_isInstance (T := "StopIteration") (b := true) ⟨_, Heap.get?_update_self _ (Heap.get?_push_size _ rfl) rfl, rfl⟩ isSubtype_stop ?_)
  refine wpAny_pure (hQ _ fun b ob hb e => ?_)
  have e2 : ∀ f, (s.heap.update it f).get? b = some ob := fun f => by
    rw [Heap.get?_update_other _ _ (Ne.symm hb)]
    exact e
  rw [Heap.get?_update_other _ _ (Nat.ne_of_gt (Heap.lt_size (Heap.get?_push_of_some _ (e2 _))))]
  exact Heap.get?_push_of_some _ (Heap.get?_push_of_some _ (e2 _))
end
end HotX
namespace L3
open PySem PySem.Spec PyProof.Rows L2 HotX
theorem turn_listH {P : Program} {w : World} {K : PySem.W.Frag} {tg : Expr} (a it : Addr)   : L2H.TurnH P w K tg (Itl K a) [it] it (fun i h => h.IsListIter it a i) where
  mem := by simp
  obj := fun i h st b hb => by
    have e : b = it := by simpa using hb
    subst e
    obtain ⟨o, e, c, d⟩ := st
    exact ⟨o, e, fun v z => by rw [d] at z; cases z⟩
  keep := fun i h h' st k => st.at fun o e => k it (by simp) o e
  item := by
    intro X hP hw hK hc i pins s σ H E I hf st hg
    subst hP hw hK
    obtain ⟨xs, x, hq, hx⟩ := hg
    obtain ⟨its, rv, p, hz⟩ := I.list hq
    obtain ⟨u, hu, ru⟩ := rv.get hx
    obtain ⟨f0, f1, f2, f3, f4, f5⟩ := hf it (by simp)
    refine wpAny_pyNext_list_item st p.isList (x := u) (by simpa using hu) fun h' st' sb => ?_
    have I1 : Inv X pins σ H { s with heap := h' } := I.turned (t' := s.toks) (fun b o hb e => (sb.2 b hb).trans e) f0 f1 f3 f4 f5
    obtain ⟨o, e, c, d⟩ := id st'
    exact ⟨u, rfl, go_of (s := { s with heap := h' }) e c d (by decide) ⟨x, H, I1, ru, ⟨rfl, fun ys hy => by rw [I.list_inj hy hq]; exact hx⟩, st', fun b hb => (hf b hb).1⟩⟩
  done := by
    intro X hP hw hK hc i pins s σ H E I hf st hg
    subst hP hw hK
    obtain ⟨xs, hq, hx⟩ := hg
    obtain ⟨its, rv, p, hz⟩ := I.list hq
    obtain ⟨f0, f1, f2, f3, f4, f5⟩ := hf it (by simp)
    have hl := rv.length
    obtain ⟨x1, hot⟩ := hc.at I
    exact next_list_end_hot hot st p.isList (by simp; omega) fun h' eb => ⟨rfl, I.turned (t' := s.toks) (fun b o hb e => eb b o hb e) f0 f1 f3 f4 f5⟩
  self := fun _ _ _ _ _ st h => wpAny_pyIter_listiter st h
section
variable {X : Cx} {W : Wz} {pos : Pos} {tg e : Expr}
theorem pi_listH {l : Expr} {tl : TE} (hl : PE X l tl) : L2H.PIH X tg l (iList X.K tl) := by
  refine ⟨fun pins s σ H R I h => ?_⟩
  refine thn (hl.run pins s σ H _ I h) fun v s1 ⟨x, H1, I1, r1, q1⟩ => ?_
  obtain ⟨a, e, ⟨xs, hq⟩, q⟩ := q1
  subst e
  cases r1
  obtain ⟨its, rv, p, hz⟩ := I1.list hq
  refine wpAny_pyIter_list p.isList ?_
  refine ⟨s1.heap.objs.size, [s1.heap.objs.size], _, _, H1, rfl, I1.kept (t' := s1.toks) fun b o e => Heap.get?_push_of_some _ e, turn_listH a _, ⟨_, Heap.get?_push_size _ rfl, rfl, rfl⟩, fun b hb => ?_, q⟩
  have e : b = s1.heap.objs.size := by simpa using hb
  subst e
  exact I1.fpOk (Nat.le_refl _) (I1.hok.fresh (Nat.le_refl _))
abbrev miLst (m : ME) : MI := fun ρ h R E => m ρ h (fun d h1 => match d with
  | .loc n => lstAt h1 n fun ds => R ds (fun h2 => lstAt h2 n fun es => es = ds) h1
  | _ => False) E
theorem ci_lstH {m : ME} (he : CE X W e m) : CIH X W tg e (miLst m) := ⟨_, pi_listH cE.pe, fun φ ρ σ h H R Rm Xm rh rs q ok ox =>
  he.sim φ ρ σ h H _ _ _ rh rs q (fun φ1 h1 H1 d v e1 rh1 rx q1 => by
    split at q1
    · cases rx with
      | loc e0 =>
        obtain ⟨ds, vs, sq, r, q2⟩ := rh1.rdL e0 q1
        exact ⟨_, rfl, ⟨vs, sq⟩, ok _ _ _ _ _ _ e1 rh1 (it_lst e0) q2⟩
    · exact q1.elim) ox⟩
theorem ce_lcH {elt iter : Expr} {ifs : List Expr} {scope : Scope} (own : List (Str × Nat)) {mi : MI} {g : MG} {tt : MT} {te : ME} (hc : L2H.HotC X) (hN : X.N.Nodup) (hi : CIH X W tg iter mi) (ok : BlkOk X.N X.env.scope scope own)
    (hg : ∀ (s : Shared) (H : Hp) (C : Addr) (cl : List (Str × Addr)) (fp : List Addr), CG (X.blkH s H scope (compEnvC scope cl C X.env) fp) Wf (own.map (·.2)) tg g)
    (ht : ∀ (s : Shared) (H : Hp) (C : Addr) (cl : List (Str × Addr)) (fp : List Addr), CTs (X.blkH s H scope (compEnvC scope cl C X.env) fp) ifs tt)
    (he : ∀ (s : Shared) (H : Hp) (C : Addr) (cl : List (Str × Addr)) (fp : List Addr), CE (X.blkH s H scope (compEnvC scope cl C X.env) fp) Wf elt te) (hs : ∀ x, foldedSetIterable iter X.env x = pure x := by intro _; rfl) :
    CE X W (.ListComp elt [⟨tg, iter, ifs, 0⟩] scope pos) (mLc (own.map (·.2)) mi g tt te) := by
  obtain ⟨ti, pi, si⟩ := hi.ex
  let Y : Shared × Hp × Addr × List (Str × Addr) × List Addr → Cx := fun i => X.blkH i.1 i.2.1 scope (compEnvC scope i.2.2.2.1 i.2.2.1 X.env) i.2.2.2.2
  refine .of (pe_lcH (g := cGU Y tg) (tt := cTU Y ifs) (te := cEU Y elt) hc hN pi ok (fun s H C cl fp => ⟨fun pins s' σ H' v u Q I r h => h (s, H, C, cl, fp) pins s' u I r⟩) (fun s H C cl fp => ⟨fun pins s' σ H' Q I h => h (s, H, C, cl, fp) pins s' I⟩)
    (fun s H C cl fp => ⟨fun pins s' σ H' Q I h => h (s, H, C, cl, fp) pins s' I⟩) hs) fun φ ρ σ h H Qm Q Xm rh rs q okv ox => ?_
  have noX : ∀ {φ : List Addr} {H : Hp} {τ : L2.St}, OkX X.K φ H τ (fun _ _ => False) Wf := fun _ _ _ _ _ _ _ _ _ z => z.elim
  refine si φ ρ σ h H _ _ _ rh rs q (fun φ1 h1 H1 J xs gd e1 rh1 it q1 => ?_) ox
  intro Dp hD
  obtain ⟨hx, q1⟩ := q1
  have rs1 : RS X.K none φ1 H1 (wipeE ρ (own.map (·.2))) (L2.wipe σ (own.map (·.2))) := (rs.to rh e1).none_.wipe _
  obtain ⟨rh2, e2⟩ := rh1.new hD (.lst [])
  refine ⟨fun i m H' => ∃ φ' h' acc vacc, Ext φ1 H1 φ' H' ∧ RH X.K φ' h' H' ∧ Dp ∉ φ' ∧ H' Dp = some (.lst vacc) ∧ RDs X.K φ' H' acc vacc ∧ RS X.K none φ' H' (wipeE ρ (own.map (·.2))) (L2.wipe σ (own.map (·.2))) ∧ acc.length ≤ i ∧ i ≤ xs.length ∧ m = xs.length - i ∧
    lcGo g tt te gd Qm (xs.drop i) acc (wipeE ρ (own.map (·.2))) h', ⟨xs.length, φ1, h1, [], [], e2, rh2, rh1.fresh hD, upd_same, .nil, rs1.mo e2.toMo, Nat.le_refl _, Nat.zero_le _, by simp, by rw [List.drop_zero]; exact q1⟩, ?_⟩
  rintro i m H' ⟨φ', h', acc, vacc, E1, rh', nD, eD, ra, rs', la, li, rfl, q'⟩
  by_cases hlt : i < xs.length
  · have e0 : xs[i]? = some xs[i] := List.getElem?_eq_getElem hlt
    rw [drop_cons e0] at q'
    obtain ⟨j1, j2⟩ := (it φ' h' H' E1.toMo rh' q'.1).1 i _ e0
    refine .inr ⟨j1, fun H2 => ∃ φ2 h2 acc2 vacc2, Ext φ1 H1 φ2 H2 ∧ RH X.K φ2 h2 H2 ∧ Dp ∉ φ2 ∧ H2 Dp = some (.lst vacc2) ∧ RDs X.K φ2 H2 acc2 vacc2 ∧ RS X.K none φ2 H2 (wipeE ρ (own.map (·.2))) (L2.wipe σ (own.map (·.2))) ∧ acc2.length ≤ i + 1 ∧
      lcGo g tt te gd Qm (xs.drop (i + 1)) acc2 (wipeE ρ (own.map (·.2))) h2, ?_, fun x H2 y => ?_⟩
    · rintro H2 ⟨φ2, h2, acc2, vacc2, a1, a2, a3, a4, a5, a6, a7, a8⟩
      exact ⟨xs.length - (i + 1), by omega, φ2, h2, acc2, vacc2, a1, a2, a3, a4, a5, a6, a7, hlt, rfl, a8⟩
    · obtain ⟨x2, rh2, rd⟩ := j2 x H2 y
      intro iy pins s u I r
      obtain ⟨s0, H0, C, cl, fp⟩ := iy
      obtain ⟨tg', pg, sg⟩ := (hg s0 H0 C cl fp).ex
      refine pg.run pins s _ H2 x u _ I r (sg φ' _ _ h' H2 _ _ _ _ _ rh2 (rs'.to rh' x2) rd q'.2 (fun φ3 ρ3 σ3 h3 H3 x3 rh3 rs3 w3 q3 => ⟨w3.trans ?_, ?_⟩) noX)
      · exact wipe_wipe _
      · intro iy pins s I
        obtain ⟨s0, H0, C, cl, fp⟩ := iy
        obtain ⟨tt', pt, st⟩ := (ht s0 H0 C cl fp).ex
        refine pt.run pins s _ H3 _ I (st φ3 _ _ h3 H3 _ _ _ rh3 rs3 q3 (fun φ4 h4 H4 b x4 rh4 q4 => ?_) noX)
        have K3 := x2.trans (x3.trans x4)
        obtain ⟨k1, k2⟩ := K3.keep _ _ eD nD
        have rs4 := (rs'.to rh' K3)
        have E4 := E1.trans K3
        cases b with
        | false => exact ⟨φ4, h4, acc, vacc, E4, rh4, k2, k1, ra.to K3.toMo, rs4, Nat.le_succ_of_le la, q4⟩
        | true =>
          intro iy pins s I
          obtain ⟨s0, H0, C, cl, fp⟩ := iy
          refine (he s0 H0 C cl fp).sim φ4 _ _ h4 H4 _ _ _ rh4 (rs3.to rh3 x4) q4 (fun φ5 h5 H5 d v x5 rh5 rd5 q5 => ?_) noX pins s I
          obtain ⟨k3, k4⟩ := x5.keep _ _ k1 k2
          have E5 := E4.trans x5
          obtain ⟨rh6, m6⟩ := rh5.side (us := vacc ++ [v]) k4 k3
          have ra5 := (ra.to K3.toMo).to x5.toMo
          refine ⟨vacc, k3, by rw [← ra.len]; exact Nat.lt_of_le_of_lt la (Nat.lt_of_lt_of_le hlt (big hx)), φ5, h5, acc ++ [d], vacc ++ [v], ⟨⟨E5.pre, fun a xs z => m6.tup _ _ (E5.tup _ _ z), fun a o u z => m6.frz _ _ _ (E5.frz _ _ _ z)⟩, fun a o z na => ?_⟩, rh6, k4, upd_same, (ra5.snoc rd5).to m6, (rs4.to rh4 x5).mo m6, ?_, q5⟩
          · rw [upd_ne (ne_of_none z hD)]
            exact E5.keep _ _ z na
          · rw [List.length_append]
            exact Nat.succ_le_succ la
  · have hi2 : i = xs.length := by omega
    subst hi2
    rw [List.drop_length] at q'
    refine .inl ⟨(it φ' h' H' E1.toMo rh' q'.1).2 _ (Nat.le_refl _), ?_⟩
    have rh3 := rh'.reg nD (x := .lst acc) ⟨vacc, eD, ra.to Mo.reg⟩
    refine okv _ _ _ _ _ (e1.trans (E1.reg hD)) rh3 (.loc ?_) q'.2
    rw [← rh'.len]; simp
end
end L3

/-! is True, is not True -/
namespace L3
open PySem PySem.Spec PyProof.Rows L2
section
variable {X : Cx}
abbrev oIsB (f : Bool → Bool) : MO := fun x y h Q => match x with
  | .bl a => (match y with | .bl b => Q (.bl (f (decide (a = b)))) h | _ => False)
  | _ => False
theorem om_isB {K : PySem.W.Frag} {f : Bool → Bool} : OpM K (fun x y H Q => ∃ a b : Bool, x = .bl a ∧ y = .bl b ∧ Q (.bl (f (decide (a = b)))) H) (oIsB f) := fun φ h H dx dy x y Qm Q rh rx ry m ok => by
  unfold oIsB at m
  split at m
  · split at m
    · cases rx
      cases ry
      exact ⟨_, _, rfl, rfl, ok _ _ _ _ _ .refl rh (.bl _) m⟩
    · exact m.elim
  · exact m.elim
theorem o_isB : OpC X (compareOp .Is) (oIsB fun b => b) := ⟨_, op_isBl, om_isB⟩
theorem o_isnotB : OpC X (compareOp .IsNot) (oIsB fun b => !b) := ⟨_, op_notBl, om_isB⟩
end
end L3

/-! dicts whose keys are tuples, written where they are used -/
namespace L3
open PySem PySem.Spec PyProof.Rows L2
def tKey (ds : List D) : Option (List Key) := ds.mapM dKey
def valT (kvs : List (List Key × D)) (k : List Key) : Option D := (kvs.find? fun kv => decide (kv.1 = k)).map (·.2)
def putT (kvs : List (List Key × D)) (k : List Key) (d : D) : List (List Key × D) :=
  if (kvs.any fun kv => decide (kv.1 = k)) = true then kvs.map (fun kv => if kv.1 = k then (kv.1, d) else kv) else kvs ++ [(k, d)]
section
variable {K : PySem.W.Frag} {φ φ' : List Addr} {H H' : Hp} {h : MH}
theorem tkey_rel : ∀ {ds : List D} {vs : List V} {k : List Key}, RDs K φ H ds vs → tKey ds = some k → vs = k.map kV
  | [], _, k, .nil, e => by
    have e : some [] = some k := e
    cases e
    rfl
  | d :: ds, _, k, .cons r t, e => by
    unfold tKey at e
    rw [List.mapM_cons] at e
    cases e1 : dKey d with
    | none => rw [e1] at e; cases e
    | some k0 =>
      rw [e1] at e
      cases e2 : ds.mapM dKey with
      | none => rw [e2] at e; cases e
      | some k1 =>
        rw [e2] at e
        have e : some (k0 :: k1) = some k := e
        cases e
        rw [List.map_cons, key_rel r e1, tkey_rel t e2]
theorem RKs.valT {kvs : List (List Key × D)} {vs : List (List Key × V)} (r : RKs K φ H kvs vs) (k : List Key) :
    (L3.valT kvs k = none ∧ valV vs k = none) ∨ ∃ d v, L3.valT kvs k = some d ∧ valV vs k = some v ∧ RD K φ H d v := by
  unfold RKs at r
  induction r with
  | nil => exact .inl ⟨rfl, rfl⟩
  | @cons p q ps qs h t ih =>
    obtain ⟨h1, h2⟩ := h
    by_cases e : p.1 = k
    · exact .inr ⟨_, _, by simp [L3.valT, List.find?_cons, e], valV_pos (h1.symm.trans e), h2⟩
    · have b : L3.valT (p :: ps) k = L3.valT ps k := by simp [L3.valT, List.find?_cons, e]
      rw [b, valV_neg (fun z => e (h1.trans z))]
      exact ih
theorem RKs.putT {kvs : List (List Key × D)} {vs : List (List Key × V)} (r : RKs K φ H kvs vs) (k : List Key) {d : D} {v : V} (rd : RD K φ H d v) : RKs K φ H (L3.putT kvs k d) (L2.putK vs k v) := by
  have ha : (kvs.any fun kv => decide (kv.1 = k)) = vs.any fun kv => decide (kv.1 = k) := by
    unfold RKs at r
    clear rd
    induction r with
    | nil => rfl
    | cons h t ih => rw [List.any_cons, List.any_cons, ih, h.1]
  unfold L3.putT L2.putK
  rw [ha]
  split
  · clear ha
    unfold RKs at r ⊢
    rename_i hh
    clear hh
    induction r with
    | nil => exact .nil
    | @cons p q ps qs h t ih =>
      rw [List.map_cons, List.map_cons]
      refine .cons ?_ ih
      obtain ⟨h1, h2⟩ := h
      by_cases e : p.1 = k
      · rw [if_pos e, if_pos (h1.symm.trans e)]; exact ⟨h1, rd⟩
      · rw [if_neg e, if_neg (fun z => e (h1.trans z))]; exact ⟨h1, h2⟩
  · exact Paired.snoc r ⟨rfl, rd⟩
def ditAt (h : MH) (n : Nat) (k : List (List Key × D) → Prop) : Prop := match h[n]? with | some (.dit kvs) => k kvs | _ => False
theorem ditAt_of {n : Nat} {ds : List (List Key × D)} {k : List (List Key × D) → Prop} (e : h[n]? = some (.dit ds)) (q : k ds) : ditAt h n k := by unfold ditAt; rw [e]; exact q
theorem RH.rdT (r : RH K φ h H) {n : Nat} {a : Addr} (e : φ[n]? = some a) {k : List (List Key × D) → Prop} (q : ditAt h n k) : ∃ ds vs, h[n]? = some (.dit ds) ∧ H a = some (.dT vs) ∧ RKs K φ H ds vs ∧ k ds := by
  unfold ditAt at q
  split at q
  · rename_i kvs e1
    obtain ⟨vs, h1, h2⟩ := r.at_ _ _ _ e e1
    exact ⟨_, vs, e1, h1, h2, q⟩
  · exact q.elim
theorem RH.chgT (r : RH K φ h H) {n : Nat} {a : Addr} (e : φ[n]? = some a) {ds : List (List Key × D)} {vs : List (List Key × V)} (q : RKs K φ H ds vs) : RH K φ (h.set n (.dit ds)) (upd H a (.dT vs)) ∧ Ext φ H φ (upd H a (.dT vs)) :=
  r.chg e fun m => ⟨vs, upd_same, RKs.to q m⟩
end
section
variable {X : Cx} {W : Wz} {a b c e tg : Expr} {es : List Expr} {pos tpos : Pos}
/-- d[x, y] -/
def oTGet (x : D) (ks : List D) (h : MH) (Q : D → MH → Prop) : Prop := match x, tKey ks with
  | .loc n, some k => ditAt h n fun kvs => (match valT kvs k with | some d => Q d h | none => False)
  | _, _ => False
theorem oTGet_of {h : MH} {n : Nat} {ks : List D} {d : D} {k : List Key} {kvs : List (List Key × D)} {Q : D → MH → Prop} (e : h[n]? = some (.dit kvs)) (ey : tKey ks = some k) (ed : valT kvs k = some d) (q : Q d h) : oTGet (.loc n) ks h Q := by
  unfold oTGet
  rw [ey]
  refine ditAt_of e ?_
  rw [ed]; exact q
abbrev mTGet (ma : ME) (mk : MA) : ME := fun ρ h Q E => ma ρ h (fun x h1 => mk ρ h1 (fun ks h2 => ks.length ≤ 1000 ∧ oTGet x ks h2 Q) E) E
theorem ce_tget {j k0 : Nat} {ma : ME} {mk : MA} (hr : L2H.RoomH j X.A) (ha : CE X W a ma) (hk : CA X W es mk) (hs : NoSl (.Tuple es k0 tpos)) : CE X W (.Subscript a (.Tuple es k0 tpos) pos) (mTGet ma mk) :=
  .of (pe_dget (by have := hr.un; omega) cE.pe (pe_tup cA.pa) hs) fun φ ρ σ h H Qm Q Xm rh rs m ok ox =>
  ha.sim φ ρ σ h H _ _ _ rh rs m (fun φ1 h1 H1 d1 v1 e1 rh1 rx q1 => hk.sim φ1 ρ σ h1 H1 _ _ _ rh1 (rs.to rh e1) q1 (fun φ2 h2 H2 ks us e2 rh2 rk q2 => ⟨by rw [← rk.len]; exact sz q2.1, fun p hp => by
    obtain ⟨q21, q2⟩ := q2
    have rx2 := rx.to e2.toMo
    unfold oTGet at q2
    split at q2
    · rename_i n k ek
      cases rx2 with
      | loc e0 =>
        obtain ⟨ds, vs, _, hv, r, q3⟩ := rh2.rdT e0 q2
        have eu := tkey_rel rk ek
        subst eu
        obtain ⟨rh3, e3⟩ := rh2.new hp (.tup (k.map kV))
        rcases RKs.valT r k with ⟨z, _⟩ | ⟨d, v, z1, z2, z3⟩
        · rw [z] at q3; exact q3.elim
        · rw [z1] at q3
          refine ⟨_, v, rfl, ?_, ok _ _ _ _ _ ((e1.trans e2).trans e3) rh3 (z3.to e3.toMo) q3⟩
          have hv' : upd H2 p (.tup (k.map kV)) _ = some (.dT vs) := (upd_ne (ne_of_none hv hp)).trans hv
          have := DGet.t (k := k) hv' upd_same
          rw [z2] at this
          exact this
    · exact q2.elim⟩) (ox.to e1)) ox
/-- (x, y) in d -/
def oTIn (f : Bool → Bool) (ks : List D) (x : D) (h : MH) (Q : D → MH → Prop) : Prop := match x, tKey ks with
  | .loc n, some k => ditAt h n fun kvs => Q (.bl (f (valT kvs k).isSome)) h
  | _, _ => False
theorem oTIn_of {f : Bool → Bool} {h : MH} {n : Nat} {ks : List D} {k : List Key} {kvs : List (List Key × D)} {Q : D → MH → Prop} (e : h[n]? = some (.dit kvs)) (ey : tKey ks = some k) (q : Q (.bl (f (valT kvs k).isSome)) h) : oTIn f ks (.loc n) h Q := by
  unfold oTIn
  rw [ey]
  exact ditAt_of e q
abbrev mTIn (f : Bool → Bool) (mk : MA) (mb : ME) : ME := fun ρ h Q E => mk ρ h (fun ks h1 => ks.length ≤ 1000 ∧ mb ρ h1 (fun x h2 => oTIn f ks x h2 Q) E) E
theorem sim_tin {mk : MA} {mb : ME} (hk : CA X W es mk) (hb : CE X W b mb) : SimE X.K W (tDIn (tTup (cA X es)) (cE X b)) (mTIn (fun b => b) mk mb) := fun φ ρ σ h H Qm Q Xm rh rs m ok ox =>
  hk.sim φ ρ σ h H _ _ _ rh rs m (fun φ1 h1 H1 ks us e1 rh1 rk q1 => ⟨by rw [← rk.len]; exact sz q1.1, fun p hp => by
    obtain ⟨rh1', e1'⟩ := rh1.new hp (.tup us)
    exact hb.sim φ1 ρ σ h1 _ _ _ _ rh1' (rs.to rh (e1.trans e1')) q1.2 (fun φ2 h2 H2 d2 v2 e2 rh2 rx q2 => by
      unfold oTIn at q2
      split at q2
      · rename_i n k ek
        cases rx with
        | loc e0 =>
          obtain ⟨ds, vs, _, hv, r, q3⟩ := rh2.rdT e0 q2
          have eu := tkey_rel rk ek
          subst eu
          refine ⟨_, valV vs k, rfl, DGet.t hv (e2.tup _ _ upd_same), ?_⟩
          rcases RKs.valT r k with ⟨z, y⟩ | ⟨d, v, z1, z2, z3⟩
          · rw [y]; rw [z] at q3; exact ok _ _ _ _ _ ((e1.trans e1').trans e2) rh2 (.bl _) q3
          · rw [z2]; rw [z1] at q3; exact ok _ _ _ _ _ ((e1.trans e1').trans e2) rh2 (.bl _) q3
      · exact q2.elim) (ox.to (e1.trans e1'))⟩) ox
theorem sim_tnotin {mk : MA} {mb : ME} (hk : CA X W es mk) (hb : CE X W b mb) : SimE X.K W (tDNotIn (tTup (cA X es)) (cE X b)) (mTIn (fun b => !b) mk mb) := fun φ ρ σ h H Qm Q Xm rh rs m ok ox =>
  hk.sim φ ρ σ h H _ _ _ rh rs m (fun φ1 h1 H1 ks us e1 rh1 rk q1 => ⟨by rw [← rk.len]; exact sz q1.1, fun p hp => by
    obtain ⟨rh1', e1'⟩ := rh1.new hp (.tup us)
    exact hb.sim φ1 ρ σ h1 _ _ _ _ rh1' (rs.to rh (e1.trans e1')) q1.2 (fun φ2 h2 H2 d2 v2 e2 rh2 rx q2 => by
      unfold oTIn at q2
      split at q2
      · rename_i n k ek
        cases rx with
        | loc e0 =>
          obtain ⟨ds, vs, _, hv, r, q3⟩ := rh2.rdT e0 q2
          have eu := tkey_rel rk ek
          subst eu
          refine ⟨_, valV vs k, rfl, DGet.t hv (e2.tup _ _ upd_same), ?_⟩
          rcases RKs.valT r k with ⟨z, y⟩ | ⟨d, v, z1, z2, z3⟩
          · rw [y]; rw [z] at q3; exact ok _ _ _ _ _ ((e1.trans e1').trans e2) rh2 (.bl _) q3
          · rw [z2]; rw [z1] at q3; exact ok _ _ _ _ _ ((e1.trans e1').trans e2) rh2 (.bl _) q3
      · exact q2.elim) (ox.to (e1.trans e1'))⟩) ox
theorem ce_tin {j k0 : Nat} {mk : MA} {mb : ME} (hr : L2H.RoomH j X.A) (hk : CA X W es mk) (hb : CE X W b mb) (hm : behindInMarks .In b = false) : CE X W (.Compare (.Tuple es k0 tpos) [.In] [b] pos) (mTIn (fun b => b) mk mb) :=
  .of (pe_cmp (pc_din (by have := hr.un; omega) (pe_tup cA.pa) cE.pe) hm) (sim_tin hk hb)
theorem ce_tnotin {j k0 : Nat} {mk : MA} {mb : ME} (hr : L2H.RoomH j X.A) (hk : CA X W es mk) (hb : CE X W b mb) (hm : behindInMarks .NotIn b = false) : CE X W (.Compare (.Tuple es k0 tpos) [.NotIn] [b] pos) (mTIn (fun b => !b) mk mb) :=
  .of (pe_cmp (pc_dnotin (by have := hr.un; omega) (pe_tup cA.pa) cE.pe) hm) (sim_tnotin hk hb)
theorem ct_tin {j k0 : Nat} {mk : MA} {mb : ME} (hr : L2H.RoomH j X.A) (hk : CA X W es mk) (hb : CE X W b mb) (hm : behindInMarks .In b = false) : CT X W (.Compare (.Tuple es k0 tpos) [.In] [b] pos) (mTst (mTIn (fun b => b) mk mb)) :=
  .of (pt_cmp (pc_din (by have := hr.un; omega) (pe_tup cA.pa) cE.pe) hm) (sim_tst (sim_tin hk hb))
theorem ct_tnotin {j k0 : Nat} {mk : MA} {mb : ME} (hr : L2H.RoomH j X.A) (hk : CA X W es mk) (hb : CE X W b mb) (hm : behindInMarks .NotIn b = false) : CT X W (.Compare (.Tuple es k0 tpos) [.NotIn] [b] pos) (mTst (mTIn (fun b => !b) mk mb)) :=
  .of (pt_cmp (pc_dnotin (by have := hr.un; omega) (pe_tup cA.pa) cE.pe) hm) (sim_tst (sim_tnotin hk hb))
/-- {} for tuples -/
abbrev mTNew : ME := fun _ h Q _ => Q (.loc h.length) (h ++ [.dit []])
theorem ce_tnew : CE X W (.Dict [] [] pos) mTNew := .of pe_dnewT fun φ ρ σ h H Qm Q Xm rh rs q ok ox => fun p hp => by
  have e := (rh.new hp (.dT [])).2.reg hp
  obtain ⟨r1, r2⟩ := rh.push hp (o := .dT []) (x := .dit []) ⟨[], upd_same, .nil⟩
  refine ok _ _ _ _ _ r2 r1 (.loc ?_) q
  rw [← rh.len]; simp
/-- d[x, y] = v -/
def oTPut (o : D) (ks : List D) (d : D) (h : MH) (Q : MH → Prop) : Prop := match o, tKey ks with
  | .loc n, some k => ditAt h n fun kvs => kvs.length < 100000 ∧ Q (h.set n (.dit (putT kvs k d)))
  | _, _ => False
theorem oTPut_of {h : MH} {n : Nat} {ks : List D} {d : D} {k : List Key} {kvs : List (List Key × D)} {Q : MH → Prop} (e : h[n]? = some (.dit kvs)) (ey : tKey ks = some k) (l : kvs.length < 100000) (q : Q (h.set n (.dit (putT kvs k d)))) : oTPut (.loc n) ks d h Q := by
  unfold oTPut
  rw [ey]
  exact ditAt_of e ⟨l, q⟩
abbrev mTPut (mo : ME) (mk : MA) (mv : ME) : MS := fun M ρ h => mv ρ h (fun d h1 => mo ρ h1 (fun o h2 => mk ρ h2 (fun ks h3 => ks.length ≤ 1000 ∧ oTPut o ks d h3 (M.nx ρ)) (fun x h => M.ex x ρ h)) (fun x h => M.ex x ρ h)) (fun x h => M.ex x ρ h)
theorem cs_tput {j k0 : Nat} {pos' : Pos} {o value : Expr} {mo mv : ME} {mk : MA} (hr : L2H.RoomH j X.A) (ho : CE X W o mo) (hk : CA X W es mk) (hv : CE X W value mv) (hs : swapsWith value (some (.Subscript o (.Tuple es k0 tpos) pos')) pos.line X.env = pure false := by rfl) :
    CS X W (.Assign [.Subscript o (.Tuple es k0 tpos) pos'] value pos) (mTPut mo mk mv) :=
  .of (ps_dput (by have := hr.un; omega) cE.pe (pe_tup cA.pa) cE.pe hs) fun φ ρ σ h H M E rh rs q l =>
  hv.sim φ ρ σ h H _ _ _ rh rs q (fun φ1 h1 H1 d1 v1 e1 rh1 r1 q1 => ho.sim φ1 ρ σ h1 H1 _ _ _ rh1 (rs.to rh e1) q1 (fun φ2 h2 H2 d2 v2 e2 rh2 r2 q2 => hk.sim φ2 ρ σ h2 H2 _ _ _ rh2 (rs.to rh (e1.trans e2)) q2 (fun φ3 h3 H3 ks us e3 rh3 rk q3 => ⟨by rw [← rk.len]; exact sz q3.1, fun p hp => by
    obtain ⟨_, q3⟩ := q3
    have E3 := e1.trans (e2.trans e3)
    have rx := r2.to e3.toMo
    have rv := r1.to (e2.trans e3).toMo
    unfold oTPut at q3
    split at q3
    · rename_i n k ek
      cases rx with
      | loc e0 =>
        have eu := tkey_rel rk ek
        subst eu
        obtain ⟨rh3', e3'⟩ := rh3.new hp (.tup (k.map kV))
        obtain ⟨ds, vs, _, hv, r, q4, q5⟩ := rh3'.rdT e0 q3
        obtain ⟨rh4, e4⟩ := rh3'.chgT e0 (r.putT k (rv.to e3'.toMo))
        have E4 := (E3.trans e3').trans e4
        exact ⟨_, _, rfl, DPut.t hv upd_same (by rw [← Paired.length r]; exact Nat.lt_of_lt_of_le q4 (big (Nat.le_refl _))), l.nx _ _ _ _ _ E4 rh4 (rs.to rh E4) q5⟩
    · exact q3.elim⟩) ((l.okx rh rs).to (e1.trans e2))) ((l.okx rh rs).to e1)) (l.okx rh rs)
end
end L3

/-! a pair turned about: t[::-1] of a tuple of two -/
namespace HT
open PySem PySem.Spec PyProof.Rows
section
variable {prog : Program} {w : World} {A : Around} {E : Value → Shared → Prop} {s : Shared}
theorem applied_rev2 {sl : Addr} {vl vu vs : Value} {Q : Int × Int × Nat → Shared → Prop} (hs : s.heap.IsSliceOf sl vl vu vs) (pl : IsPart vl none) (pu : IsPart vu none) (ps : IsPart vs (some (-1)))
    (h : Q (1, -1, 2) s) : wpAny (model prog w) A (Builtin.Slice.sliceApplied (.ref sl) (pure (2 : Int))) Q E s := by
  obtain ⟨os, hos, hcs, hds⟩ := id hs
  unfold Builtin.Slice.sliceApplied Builtin.Slice.sliceFields
  refine wpAny_bind (wpAny_bind (wpAny_field hos hds (x := vl) rfl (wpAny_bind (wpAny_field hos hds (x := vu) rfl (wpAny_bind (wpAny_field hos hds (x := vs) rfl (wpAny_pure ?_)))))))
  refine wpAny_bind (slicePart_ ps ?_)
  show wpAny _ _ (if ((-1 : Int) == 0) = true then _ else _) _ _ s
  rw [if_neg (by decide)]
  refine wpAny_bind (slicePart_ pl (wpAny_bind (slicePart_ pu (wpAny_bind (wpAny_pure ?_)))))
  exact wpAny_pure h
theorem getItem_rev2 {t sl : Addr} {x y : Value} {vl vu vs : Value} {Q : Value → Shared → Prop} (ht : IsTup s.heap t #[x, y]) (hs : s.heap.IsSliceOf sl vl vu vs) (pl : IsPart vl none) (pu : IsPart vu none) (ps : IsPart vs (some (-1)))
    (h : Q (.ref s.heap.objs.size) { s with heap := s.heap.push { cls := .type "tuple", data := .seq #[y, x] } }) : wpAny (model prog w) A (getItem (.ref t) (.ref sl)) Q E s := by
  have htake : sizeOk (.seq #[y, x]) := by
    show 2 ≤ sizeLine
    decide
  obtain ⟨os, hos, hcs, hds⟩ := id hs
  have hTs : s.TypeIs (.ref sl) "slice" := ⟨os, hos, hcs⟩
  unfold getItem
  try with_reducible refine wpAny_holding ?_
  first | refine wpAny_bind (wpAny_pure ?_) | skip
  refine wpAny_bind (wpAny_sequenceKey ht.typeIs (by decide) ?_)
  refine wpAny_bind (wpAny_callSpecial?_slot (name := Str.ofString "__getitem__") ht.typeIs PyProof.Rows.slot_tuple_getitem
    (wpAny_call_entry PyProof.Rows.slot_tuple_getitem ht.typeIs entry_tuple_getitem ?_ (args_tuple_getitem _ _)))
  show wpAny _ _ (Builtin.Tuple.tupleItemsOf (.ref t) >>= _) _ _ s
  refine wpAny_bind (tupleItemsOf_ ht ?_)
  refine wpAny_bind (wpAny_typeOf hTs ?_)
  rw [if_pos (by decide)]
  refine wpAny_bind (applied_rev2 hs pl pu ps ?_)
  show wpAny _ _ (if ((1 : Int) == 0 && (-1 : Int) == 1 && (2 : Nat) == 2) = true then _ else _) _ _ s
  rw [if_neg (by decide)]
  first
    | exact wpAny_bind (m := Builtin.Tuple.tupleExact _) (wpAny_newObj_type (wpAny_pure ⟨_, rfl, wpAny_pure h⟩) htake)
    | exact wpAny_bind (m := Builtin.Tuple.tupleExact _) (wpAny_newObj_type (wpAny_bind (wpAny_pure (wpAny_pure ⟨_, rfl, wpAny_pure h⟩))) htake)
    | exact wpAny_bind (wpAny_bind (m := Builtin.Tuple.tupleExact _) (wpAny_newObj_type (wpAny_pure (wpAny_pure ⟨_, rfl, wpAny_pure h⟩)) htake))
    | exact wpAny_bind (wpAny_bind (m := Builtin.Tuple.tupleExact _) (wpAny_newObj_type (wpAny_pure ⟨_, rfl, wpAny_pure h⟩) htake))
end
end HT
namespace L3
open PySem PySem.Spec PyProof.Rows L2
section
variable {X : Cx} {W : Wz} {pos : Pos} {a : Expr}
def tRev2 (K : PySem.W.Frag) (te : TE) : TE := fun τ J R => te τ J fun x J1 => ∃ a y z, x = .ref a ∧ SqT K J1 a [y, z] ∧ NewG J1 [z, y] R
theorem pe_rev2 {e : Expr} {te : TE} {k : Nat} {p1 p2 p3 pos : Pos} (he : PE X e te) : PE X (.Subscript e (.Slice none none (some (.UnaryOp .USub (.Constant (.int 1) k p1) p2)) p3) pos) (tRev2 X.K te) := by
  refine ⟨fun pn s σ H Q I h => ?_⟩
  refine Subscript_ (thn (he.run pn s σ H _ I h) fun v s1 ⟨x, H1, I1, r1, a, y, z, ex, hx, q⟩ => ?_)
  subst ex
  cases r1
  have hst : PO X (some (.UnaryOp .USub (.Constant (.int 1) k p1) p2)) (tPart (tUn (rU fun i => .int (-i)) (tC (.int 1)))) := po_some (pe_un un_neg pe_int)
  refine wpAny_Slice (thn (po_none.run pn s1 σ H1 (fun o H2 => o = none ∧ H2 = H1) I1 ⟨rfl, rfl⟩) fun vl s2 ⟨l, H2, I2, pl, el, e2⟩ => ?_)
  subst el e2
  refine thn (po_none.run pn s2 σ H2 (fun o H3 => o = none ∧ H3 = H2) I2 ⟨rfl, rfl⟩) fun vu s3 ⟨u, H3, I3, pu, eu, e3⟩ => ?_
  subst eu e3
  refine thn (hst.run pn s3 σ H3 (fun o H4 => o = some (-1) ∧ H4 = H3) I3 ⟨1, rfl, -1, rfl, rfl, rfl⟩) fun vs s4 ⟨o, H4, I4, ps, eo, e4⟩ => ?_
  subst eo e4
  have I5 : Inv X pn σ H4 { s4 with heap := s4.heap.push { cls := .type "slice", data := .fields #[vl, vu, vs] } } := I4.kept (t' := s4.toks) fun b ob q => Heap.get?_push_of_some _ q
  obtain ⟨its, r, ht, hz⟩ := I5.tuple hx
  obtain ⟨u1, u2, rfl, ry, rz⟩ : ∃ u1 u2, its = [u1, u2] ∧ RelV y u1 ∧ RelV z u2 := by
    cases r with
    | cons a1 t1 =>
      cases t1 with
      | cons a2 t2 =>
        cases t2
        exact ⟨_, _, rfl, a1, a2⟩
  show wpAny (model X.prog X.w) X.A (subscriptTail e (.Slice none none (some (.UnaryOp .USub (.Constant (.int 1) k p1) p2)) p3) (.ref a) (.ref s4.heap.objs.size)) (EP X pn σ Q) X.xe { s4 with heap := s4.heap.push { cls := .type "slice", data := .fields #[vl, vu, vs] } }
  refine tail_any (ops := [.ref a, .ref s4.heap.objs.size]) ht.typeIs (PyProof.Rows.slot_tuple_getitem.lookup) ?_ (by with_unfolding_all rfl)
  refine HT.getItem_rev2 ht (Heap.IsSliceOf.new _ vl vu vs) pl pu ps ?_
  exact made_tup I5 (.cons rz (.cons ry .nil)) (show 2 ≤ sizeLine by decide) q
abbrev mRev2 (m : ME) : ME := fun ρ h Q E => m ρ h (fun d h1 => match d with
  | .tup [x, y] => Q (.tup [y, x]) h1
  | _ => False) E
theorem ce_rev2 {m : ME} {k : Nat} {p1 p2 p3 : Pos} (ha : CE X W a m) : CE X W (.Subscript a (.Slice none none (some (.UnaryOp .USub (.Constant (.int 1) k p1) p2)) p3) pos) (mRev2 m) :=
  .of (pe_rev2 cE.pe) fun φ ρ σ h H Qm Q Xm rh rs m ok ox => ha.sim φ ρ σ h H _ _ _ rh rs m (fun φ1 h1 H1 d v e1 rh1 r1 q1 => by
    split at q1
    · cases r1 with
      | tup t r =>
        cases r with
        | cons a1 t1 =>
          cases t1 with
          | cons a2 t2 =>
            cases t2
            exact ⟨_, _, _, rfl, t.sq, newG_of rh1 (.cons a2 (.cons a1 .nil)) (ok.to e1) q1⟩
    · exact q1.elim) ox
end
end L3

/-! sorted(texts) -/
namespace L3
open PySem PySem.Spec PyProof.Rows L2
section
variable {X : Cx} {W : Wz} {pos : Pos} {a : Expr}
abbrev bSortedS : MB := fun ds h Q => match ds with | [.loc n] => lstAt h n fun xs => ∃ ss : List Str, xs = ss.map D.str ∧ ss.length < 64 ∧ ∀ ys : List Str, ys.Perm ss → sortedS ys = true → Q (.loc h.length) (h ++ [.lst (ys.map D.str)]) | _ => False
theorem rds_ofStr {K : PySem.W.Frag} {φ : List Addr} {H : Hp} : ∀ ns : List Str, RDs K φ H (ns.map D.str) (ns.map V.str)
  | [] => .nil
  | n :: ns => .cons (.str n) (rds_ofStr ns)
theorem rds_strV {K : PySem.W.Frag} {φ : List Addr} {H : Hp} : ∀ {ss : List Str} {vs : List V}, RDs K φ H (ss.map D.str) vs → vs = ss.map V.str
  | [], _, .nil => rfl
  | s :: ss, _, .cons r t => by
    cases r
    rw [rds_strV t]
    rfl
theorem b_sortedS : BC X (.builtin "sorted") bSortedS := ⟨_, cr_sortedS, fun φ h H ds vs Qm Q rh r m ok => by
  unfold bSortedS at m
  split at m
  · obtain ⟨v, rfl, r1⟩ := r.one
    cases r1 with
    | loc e0 =>
      obtain ⟨ds, vs, sq, rv, ss, rfl, l, q⟩ := rh.rdL e0 m
      refine ⟨_, ss, rfl, by rw [← rds_strV rv]; exact sq, l, fun ks p h1 h2 hp => ?_⟩
      obtain ⟨r3, x3, rd⟩ := push_lst rh hp (rds_ofStr ks)
      exact ok _ _ _ _ _ x3 r3 rd (q ks h1 h2)
  · exact m.elim⟩
/-- str(text) -/
abbrev bStrS : MB := fun ds h Q => match ds with | [.str s] => Q (.str s) h | _ => False
theorem b_strS : BC X (.type "str") bStrS := ⟨_, SkE.call_str_str, fun φ h H ds vs Qm Q rh r m ok => by
  unfold bStrS at m
  split at m
  · obtain ⟨v, rfl, r1⟩ := r.one
    cases r1
    exact ⟨_, rfl, ok _ _ _ _ _ .refl rh (.str _) m⟩
  · exact m.elim⟩
/-- a row that rises is the one -/
theorem le_of_rise {a b : Str} (h : ltCps b.cps.toList a.cps.toList = false) : a.cps.toList ≤ b.cps.toList := by
  rw [ltCps_eq] at h
  exact of_decide_eq_false h
theorem pair_rising : ∀ {p : Str} {l : List Str}, risingS p l = true → ∀ x ∈ l, p.cps.toList ≤ x.cps.toList
  | p, y :: r, h, x, hx => by
    have h : (!ltCps y.cps.toList p.cps.toList && risingS y r) = true := h
    rw [Bool.and_eq_true] at h
    have h1 : p.cps.toList ≤ y.cps.toList := le_of_rise (by simpa using h.1)
    rcases List.mem_cons.mp hx with rfl | hx
    · exact h1
    · exact List.le_trans h1 (pair_rising h.2 x hx)
theorem sorted_tail : ∀ {p : Str} {l : List Str}, risingS p l = true → sortedS l = true
  | _, [], _ => rfl
  | p, y :: r, h => by
    have h : (!ltCps y.cps.toList p.cps.toList && risingS y r) = true := h
    rw [Bool.and_eq_true] at h
    exact h.2
theorem str_ext {a b : Str} (h : a.cps.toList = b.cps.toList) : a = b := by
  cases a with | mk x => cases b with | mk y => exact congrArg Str.mk (Array.toList_inj.mp h)
theorem sortedS_one : ∀ {a b : List Str}, sortedS a = true → sortedS b = true → a.Perm b → a = b
  | [], b, _, _, p => (List.nil_perm.mp p).symm
  | x :: r, [], _, _, p => absurd (List.perm_nil.mp p) (by simp)
  | x :: r, y :: t, ha, hb, p => by
    have ha : risingS x r = true := ha
    have hb : risingS y t = true := hb
    have e : x = y := by
      have m1 : x ∈ y :: t := p.mem_iff.mp (List.mem_cons_self ..)
      have m2 : y ∈ x :: r := p.mem_iff.mpr (List.mem_cons_self ..)
      rcases List.mem_cons.mp m1 with e | m1
      · exact e
      rcases List.mem_cons.mp m2 with e | m2
      · exact e.symm
      exact str_ext (List.le_antisymm (pair_rising ha y m2) (pair_rising hb x m1))
    subst e
    rw [sortedS_one (sorted_tail ha) (sorted_tail hb) (List.Perm.cons_inv p)]
end
end L3

/-! itertools.combinations(xs, r): its type, slots, entries -/
namespace HC
open PySem PySem.Spec
open Sem (wp)
abbrev CN : String := "itertools.combinations"
theorem mro_cb : mroOf (.type "itertools.combinations") = pure [.type "itertools.combinations", .type "object"] := by rw [mroOf_type]; kernel_rfl
theorem look_cb : typeLookup (.type "itertools.combinations") "__new__" = pure (some (.builtin "itertools.combinations.__new__")) := by rw [typeLookup_type, builtinLookup_eq_fast]; kernel_rfl
theorem init_cb : Slot "itertools.combinations" "__init__" "object.__init__" :=
  .of (owner := "object") (n := "__init__") (by rw [typeLookup_type, builtinLookup_eq_fast]; kernel_rfl) (by decide +kernel) (by decide +kernel) (by decide +kernel)
    (by first | exact .inl (by decide +kernel) | exact .inr (by decide +kernel)) (by rw [isSubtype_type]; kernel_rfl)
theorem sub_cb : isSubtype (.type "itertools.combinations") (.type "itertools.combinations") = pure true := by rw [isSubtype_type]; kernel_rfl
theorem called_cb : TypeCalled "itertools.combinations" "itertools.combinations.__new__" "object.__init__" :=
  ⟨by decide +kernel, by decide +kernel, ⟨_, _, mro_cb⟩, madeBy_type mro_cb look_cb (by decide +kernel), by decide +kernel, sub_cb, init_cb⟩
theorem tcall_cb (a b : Value) : checkTypeCall "itertools.combinations" ⟨[a, b], []⟩ = pure () := by kernel_rfl
theorem ncall_cb (a b : Value) : checkBuiltinCall "itertools.combinations.__new__" ⟨[.type "itertools.combinations", a, b], []⟩ = pure () := by kernel_rfl
theorem new_cb : entryFor table "itertools.combinations.__new__" = some Builtin.«itertools.combinations.__new__» := entryFor_of_tree (by kernel_rfl)
theorem sIter_cb : Slot "itertools.combinations" "__iter__" "itertools.combinations.__iter__" :=
  .of (owner := "itertools.combinations") (n := "__iter__") (by rw [typeLookup_type, builtinLookup_eq_fast]; kernel_rfl) (by decide +kernel) (by decide +kernel) (by decide +kernel)
    (by first | exact .inl (by decide +kernel) | exact .inr (by decide +kernel)) sub_cb
theorem sNext_cb : Slot "itertools.combinations" "__next__" "itertools.combinations.__next__" :=
  .of (owner := "itertools.combinations") (n := "__next__") (by rw [typeLookup_type, builtinLookup_eq_fast]; kernel_rfl) (by decide +kernel) (by decide +kernel) (by decide +kernel)
    (by first | exact .inl (by decide +kernel) | exact .inr (by decide +kernel)) sub_cb
theorem eIter_cb : entryFor table "itertools.combinations.__iter__" = some Builtin.«dict_keyiterator.__iter__» :=
  entryFor_alias (id' := "dict_keyiterator.__iter__") (by kernel_rfl) (by first | rfl | decide +kernel | (unfold String.splitOn; simp +decide [String.splitOnAux])) (by decide +kernel) (by kernel_rfl)
theorem eNext_cb : entryFor table "itertools.combinations.__next__" = some Builtin.«itertools.combinations.__next__» := entryFor_of_tree (by kernel_rfl)
theorem owner_cb : Manifest.owners.lookup (String.ofList "itertools.combinations".toList.reverse.reverse) = some Manifest.sig_itertools_combinations := by kernel_rfl
theorem noDict_cb : typeHasDict (.type "itertools.combinations") = false := by decide +kernel
end HC

namespace HC
open PySem PySem.Spec PyProof.Rows
theorem sub2 : isSubtype (.type "itertools.combinations") (.type ("itertools." ++ "combinations")) = pure true := by
  rw [show ("itertools." ++ "combinations" : String) = "itertools.combinations" by decide +kernel]
  exact sub_cb
theorem bind_cb (a b : Value) : Builtin.Itertools.itBindNamed "combinations" ["iterable", "r"] 2 2 [a, b] [] = pure [some a, some b] := by kernel_rfl
theorem own2 : Manifest.owners.lookup (String.ofList ("snoitanibmoc.slootreti".toList).reverse) = some Manifest.sig_itertools_combinations := by kernel_rfl
def cbV (T : Addr) (st : Int) (last : Value) (ix : List Nat) : Array Value := ([.ref T, rawInt st, last] ++ ix.map fun (i : Nat) => rawInt (i : Nat)).toArray
/-- a combinations object: its pool, how far it is, what it told last, the places of the next or last one -/
structure IsCb (h : Heap) (it T : Addr) (items : Array Value) (st : Int) (last : Value) (ix : List Nat) : Prop where
  ob : h.get? it = some { cls := .type "itertools.combinations", data := .fields (cbV T st last ix) }
  tp : IsTup h T items
  ne : it ≠ T
section
variable {prog : Program} {w : World} {A : Around} {E : Value → Shared → Prop} {s : Shared}
theorem call_cb {L : Addr} {items : Array Value} {r : Nat} {t : Tok} {Q : Value → Shared → Prop} (hl : s.heap.IsList L items) (hr : r ≤ items.size) (hz : items.size ≤ 1000)
    (hQ : ∀ h1 h' : Heap, (∀ b o, s.heap.get? b = some o → h1.get? b = some o) → IsCb h' (h1.objs.size + 1) h1.objs.size items 0 .none (List.range r) → (∀ b o, h1.get? b = some o → h'.get? b = some o) → Q (.ref (h1.objs.size + 1)) { s with heap := h' }) :
    wpAny (model prog w) A (call (.type "itertools.combinations") [.ref L, .int (r : Nat) t]) Q E s := by
  refine callType_codes (Q₁ := fun obj s₁ => s₁.TypeIs obj "itertools.combinations" ∧ Q obj s₁) called_cb (tcall_cb _ _) F.entry_object_init ?_ ?_
  · refine codeAny_of_tree ?_
    show wpAny _ A.in1.in1 (do checkBuiltinCall "itertools.combinations.__new__" ⟨[.type "itertools.combinations", .ref L, .int (r : Nat) t], []⟩; again (.builtin "itertools.combinations.__new__" ⟨[.type "itertools.combinations", .ref L, .int (r : Nat) t], []⟩)) _ _ s
    refine wpAny_bind (wpAny_of_eq (ncall_cb _ _) (wpAny_pure ⟨plainId_quiet (by decide +kernel) _, codeAny_builtin new_cb ?_⟩))
    rw [Around.under_plainId (by decide +kernel) _]
    unfold Builtin.«itertools.combinations.__new__»
    show wpAny _ _ (((Builtin.Itertools.itClassAndRest "combinations" _) >>= _) >>= _) _ _ s
    refine wpAny_bind (wpAny_bind ?_)
    unfold Builtin.Itertools.itClassAndRest
    repeat (first | wp_step)
    refine wpAny_of_eq sub2 ?_
    rw [if_neg (by decide)]
    refine wpAny_pure ?_
    dsimp only
    refine wpAny_bind (wpAny_of_eq (bind_cb _ _) ?_)
    dsimp only
    refine wpAny_bind ?_
    unfold Builtin.Itertools.itSsizeArg
    repeat (first | wp_step)
    have hr0 : ((r : Nat) : Int) ≤ 1000 := by omega
    rw [if_neg (by rw [decide_eq_false (show ¬ ((r : Nat) : Int) < -2 ^ 63 by omega), decide_eq_false (show ¬ ((r : Nat) : Int) ≥ 2 ^ 63 by omega)]; decide)]
    refine wpAny_pure ?_
    obtain ⟨ol, ho, hc, nl, hd⟩ := id hl
    refine wpAny_bind (wpAny_collect_seq L (.inl rfl) ho hc hd (fun h1 k1 => ?_) (Nat.le_trans hz (by decide)))
    rw [if_neg (by omega), if_neg (by unfold Builtin.Itertools.itTooMany; rw [decide_eq_false (by omega)]; decide)]
    have hsz : items.toList.toArray.size ≤ sizeLine := by
      rw [List.size_toArray, Array.length_toList]
      exact Nat.le_trans hz (by decide)
    refine wpAny_bind (wpAny_newObj_type (wpAny_pure ?_) hsz)
    dsimp only
    rw [Int.toNat_natCast, Array.length_toList, if_neg (by omega), Array.toArray_toList]
    refine wpAny_bind ?_
    unfold Builtin.Itertools.itNewRecord
    rw [noDict_cb]
    rw [if_pos (by decide)]
    refine wpAny_newObj_type (wpAny_pure ?_) ?_
    · have q := hQ h1 ((h1.push { cls := .type "tuple", data := .seq items }).push { cls := .type "itertools.combinations", data := .fields (cbV h1.objs.size 0 .none (List.range r)) }) k1
        ⟨by rw [show h1.objs.size + 1 = (h1.push { cls := .type "tuple", data := .seq items }).objs.size from (Heap.size_push ..).symm]; exact Heap.get?_push_size _ rfl, ⟨_, Heap.get?_push_of_some _ (Heap.get?_push_size _ rfl), rfl, _, rfl⟩, Nat.succ_ne_self _⟩
        (fun b o e => Heap.get?_push_of_some _ (Heap.get?_push_of_some _ e))
      rw [← show (h1.push { cls := .type "tuple", data := .seq items }).objs.size = h1.objs.size + 1 from Heap.size_push ..] at q
      exact ⟨⟨_, Heap.get?_push_size _ rfl, rfl⟩, q⟩
    · show (([Value.ref h1.objs.size, rawInt 0, Value.none] ++ List.map (fun (i : Nat) => rawInt (i : Nat)) (List.range r)).toArray).size ≤ sizeLine + 2
      rw [List.size_toArray, List.length_append, List.length_map, List.length_range]
      have : 1003 ≤ sizeLine + 2 := by decide
      show 3 + r ≤ _
      omega
  · rintro obj s₁ ⟨h1, h2⟩
    exact ⟨h1, F.args_object_init_3 obj _ _, object_init_meets called_cb.init.lookup called_cb.made (by decide) prog w A.in1 _ s₁ ⟨h1, rfl, h2⟩⟩
theorem aIter_cb (a : Value) : argsOk "itertools.combinations.__iter__" ⟨[a], []⟩ := by
  unfold argsOk; rw [signature?_of (id := "itertools.combinations.__iter__") (n := ['_', '_', 'r', 'e', 't', 'i', '_', '_']) (o := "snoitanibmoc.slootreti".toList) (by kernel_rfl) own2]; kernel_rfl
theorem aNext_cb (a : Value) : argsOk "itertools.combinations.__next__" ⟨[a], []⟩ := by
  unfold argsOk; rw [signature?_of (id := "itertools.combinations.__next__") (n := ['_', '_', 't', 'x', 'e', 'n', '_', '_']) (o := "snoitanibmoc.slootreti".toList) (by kernel_rfl) own2]; kernel_rfl
theorem iter_cb {it T : Addr} {items : Array Value} {st : Int} {last : Value} {ix : List Nat} {Q : Value → Shared → Prop} (hit : IsCb s.heap it T items st last ix) (h : Q (.ref it) s) : wpAny (model prog w) A (pyIter (.ref it)) Q E s := by
  have hT : s.TypeIs (.ref it) "itertools.combinations" := ⟨_, hit.ob, rfl⟩
  refine wpAny_pyIter_slot hT sIter_cb (wpAny_call_entry sIter_cb hT eIter_cb ?_ (aIter_cb _))
  show wpAny _ _ (ret (.ref it)) _ _ s
  exact wpAny_pure ⟨_, rfl, "itertools.combinations", _, hT, sNext_cb.lookup, h⟩
/-- the row of places behind one -/
def stepC (m : Nat) (l : List Nat) : Option (List Nat) :=
  match (List.range l.length).reverse.find? (fun k => l.getD k 0 != k + m - l.length) with
  | none => none
  | some k => some (l.take k ++ (List.range (l.length - k)).map (l.getD k 0 + 1 + ·))
def tupOf (items : Array Value) (ix : List Nat) : Array Value := (ix.map fun i => items.getD i .none).toArray
theorem cbV_get2 (T : Addr) (st : Int) (last : Value) (ix : List Nat) : (cbV T st last ix)[2]? = some last := by
  unfold cbV
  rw [List.getElem?_toArray]
  rfl
theorem cbV_get1 (T : Addr) (st : Int) (last : Value) (ix : List Nat) : (cbV T st last ix)[1]? = some (rawInt st) := by
  unfold cbV
  rw [List.getElem?_toArray]
  rfl
theorem cbV_get0 (T : Addr) (st : Int) (last : Value) (ix : List Nat) : (cbV T st last ix)[0]? = some (.ref T) := by
  unfold cbV
  rw [List.getElem?_toArray]
  rfl
theorem cbV_size (T : Addr) (st : Int) (last : Value) (ix : List Nat) : (cbV T st last ix).size = 3 + ix.length := by
  unfold cbV
  rw [List.size_toArray, List.length_append, List.length_map]
  rfl
theorem cbV_set2 (T : Addr) (st : Int) (last l2 : Value) (ix : List Nat) : (cbV T st last ix).setIfInBounds 2 l2 = cbV T st l2 ix := by
  unfold cbV
  rw [List.setIfInBounds_toArray]
  rfl
theorem cbV_set1 (T : Addr) (st s2 : Int) (last : Value) (ix : List Nat) : (cbV T st last ix).setIfInBounds 1 (rawInt s2) = cbV T s2 last ix := by
  unfold cbV
  rw [List.setIfInBounds_toArray]
  rfl
theorem cbV_drop (T : Addr) (st : Int) (last : Value) (ix : List Nat) : (((cbV T st last ix).toList.drop 3).map fun x => match x with | .int n _ => n.toNat | _ => 0) = ix := by
  unfold cbV
  show ((ix.map fun (i : Nat) => rawInt (i : Nat)).map _) = ix
  rw [List.map_map]
  have : ∀ l : List Nat, l.map ((fun x => match x with | Value.int n _ => n.toNat | _ => 0) ∘ fun (i : Nat) => rawInt (i : Nat)) = l := fun l => by
    induction l with
    | nil => rfl
    | cons a r ih =>
      rw [List.map_cons, ih]
      show ((a : Nat) : Int).toNat :: r = _
      rw [Int.toNat_natCast]
  exact this ix
theorem cbV_put (T : Addr) (st : Int) (last : Value) (ix jx : List Nat) : (cbV T st last ix).extract 0 3 ++ (jx.map fun (n : Nat) => rawInt (n : Nat)).toArray = cbV T st last jx := by
  unfold cbV
  rw [List.extract_toArray, List.append_toArray]
  rfl
theorem nums_cb {it T : Addr} {items : Array Value} {st : Int} {last : Value} {ix : List Nat} {Q : List Nat → Shared → Prop} (hit : IsCb s.heap it T items st last ix) (h : Q ix s) : wpAny (model prog w) A (Builtin.Itertools.itNumbersFrom (.ref it) 3) Q E s := by
  unfold Builtin.Itertools.itNumbersFrom
  refine wpAny_bind (wpAny_load hit.ob (wpAny_pure ?_))
  exact Eq.subst (motive := fun l => Q l s) (cbV_drop T st last ix).symm h
theorem hand_cb {it T : Addr} {items : Array Value} {st : Int} {last : Value} {ix jx : List Nat} {Q : Fin → Shared → Prop} (hit : IsCb s.heap it T items st last ix) (hj : jx.length ≤ 1000)
    (hQ : ∀ h' : Heap, IsCb h' it T items st (.ref s.heap.objs.size) ix → h'.get? s.heap.objs.size = some { cls := .type "tuple", data := .seq (tupOf items jx) } → (∀ b o, b ≠ it → s.heap.get? b = some o → h'.get? b = some o) → Q (.done (.ret (.ref s.heap.objs.size))) { s with heap := h' }) :
    wpAny (model prog w) A ((Builtin.Itertools.itPoolItems (.ref T) >>= fun xs => newTuple (jx.map fun i => xs.getD i .none)) >>= fun result => field (.ref it) 2 >>= fun before => setField (.ref it) 2 result >>= fun _ => letGo [before] [result] >>= fun _ => ret result) Q E s := by
  obtain ⟨oT, hoT, hcT, nT, hdT⟩ := id hit.tp
  have hlt := Heap.lt_size hit.ob
  unfold Builtin.Itertools.itPoolItems
  refine wpAny_bind (wpAny_bind (wpAny_bind (wpAny_seqItems hoT hdT (wpAny_pure ?_))))
  refine wpAny_newObj_type ?_ (by
    show ((jx.map fun i => items.getD i .none).toArray).size ≤ sizeLine
    rw [List.size_toArray, List.length_map]
    exact Nat.le_trans hj (by decide))
  have ho1 : (s.heap.push { cls := .type "tuple", data := .seq (jx.map fun i => items.getD i .none).toArray }).get? it = some _ := Heap.get?_push_of_some _ hit.ob
  refine wpAny_bind (wpAny_field ho1 rfl (cbV_get2 ..) ?_)
  refine wpAny_bind (wpAny_setField ho1 rfl (by rw [cbV_size]; omega) ?_)
  refine wpAny_bind (wpAny_letGo (wpAny_pure ?_))
  have kp : ∀ f, ∀ b o, b ≠ it → s.heap.get? b = some o → ((s.heap.push { cls := .type "tuple", data := .seq (jx.map fun i => items.getD i .none).toArray }).update it f).get? b = some o := fun f b o hb e => (Heap.get?_update_other _ f (Ne.symm hb)).trans (Heap.get?_push_of_some _ e)
  refine hQ _ ⟨?_, ⟨oT, kp _ T oT hit.ne.symm hoT, hcT, nT, hdT⟩, hit.ne⟩ ((Heap.get?_update_other _ _ (Nat.ne_of_lt hlt)).trans (Heap.get?_push_size _ rfl)) (kp _)
  rw [Heap.get?_update_self _ ho1 rfl]
  show some _ = some _
  rw [← cbV_set2 T st last (.ref s.heap.objs.size) ix]
  rfl
theorem next0_cb {it T : Addr} {items : Array Value} {last : Value} {ix : List Nat} {Q : Option Value → Shared → Prop} (hit : IsCb s.heap it T items 0 last ix) (hj : ix.length ≤ 1000)
    (hQ : ∀ h' : Heap, IsCb h' it T items 1 (.ref s.heap.objs.size) ix → h'.get? s.heap.objs.size = some { cls := .type "tuple", data := .seq (tupOf items ix) } → (∀ b o, b ≠ it → s.heap.get? b = some o → h'.get? b = some o) → Q (some (.ref s.heap.objs.size)) { s with heap := h' }) : wpAny (model prog w) A (pyNext (.ref it)) Q E s := by
  have hT : s.TypeIs (.ref it) "itertools.combinations" := ⟨_, hit.ob, rfl⟩
  unfold pyNext
  refine wpAny_bind (wpAny_attempt (wpAny_callSpecial?_slot (name := Str.ofString "__next__") hT sNext_cb (wpAny_call_entry sNext_cb hT eNext_cb ?_ (aNext_cb _))))
  show wpAny _ _ (field (.ref it) 0 >>= _) _ _ s
  refine wpAny_bind (wpAny_field hit.ob rfl (cbV_get0 ..) ?_)
  show wpAny _ _ (Builtin.Itertools.itNumbersFrom (.ref it) 3 >>= _) _ _ s
  refine wpAny_bind (nums_cb hit ?_)
  show wpAny _ _ (Builtin.Itertools.itIntField (.ref it) 1 >>= _) _ _ s
  refine wpAny_bind ?_
  unfold Builtin.Itertools.itIntField
  refine wpAny_bind (wpAny_field hit.ob rfl (cbV_get1 ..) (wpAny_pure ?_))
  refine wpAny_bind (wpAny_setField hit.ob rfl (by rw [cbV_size]; omega) ?_)
  have h2 : IsCb (s.heap.update it (Obj.mapFields fun x => x.setIfInBounds 1 (rawInt 1))) it T items 1 last ix := by
    obtain ⟨oT, hoT, r⟩ := hit.tp
    refine ⟨?_, ⟨oT, (Heap.get?_update_other _ _ hit.ne).trans hoT, r⟩, hit.ne⟩
    rw [Heap.get?_update_self _ hit.ob rfl, ← cbV_set1 T 0 1 last ix]
    rfl
  refine hand_cb h2 hj fun h' c1 c2 c3 => ?_
  have sz : (s.heap.update it (Obj.mapFields fun x => x.setIfInBounds 1 (rawInt 1))).objs.size = s.heap.objs.size := Heap.size_after_update ..
  have q := hQ h' (by rw [← sz]; exact c1) (by rw [← sz]; exact c2) fun b o hb e => c3 b o hb ((Heap.get?_update_other _ _ (Ne.symm hb)).trans e)
  rw [← sz] at q
  exact ⟨_, rfl, wpAny_pure q⟩
theorem next1_cb {it T : Addr} {items : Array Value} {last : Value} {ix jx : List Nat} {Q : Option Value → Shared → Prop} (hit : IsCb s.heap it T items 1 last ix) (hs : stepC items.size ix = some jx) (hj : jx.length ≤ 1000)
    (hQ : ∀ h' : Heap, IsCb h' it T items 1 (.ref s.heap.objs.size) jx → h'.get? s.heap.objs.size = some { cls := .type "tuple", data := .seq (tupOf items jx) } → (∀ b o, b ≠ it → s.heap.get? b = some o → h'.get? b = some o) → Q (some (.ref s.heap.objs.size)) { s with heap := h' }) : wpAny (model prog w) A (pyNext (.ref it)) Q E s := by
  have hT : s.TypeIs (.ref it) "itertools.combinations" := ⟨_, hit.ob, rfl⟩
  unfold pyNext
  refine wpAny_bind (wpAny_attempt (wpAny_callSpecial?_slot (name := Str.ofString "__next__") hT sNext_cb (wpAny_call_entry sNext_cb hT eNext_cb ?_ (aNext_cb _))))
  show wpAny _ _ (field (.ref it) 0 >>= _) _ _ s
  refine wpAny_bind (wpAny_field hit.ob rfl (cbV_get0 ..) ?_)
  show wpAny _ _ (Builtin.Itertools.itNumbersFrom (.ref it) 3 >>= _) _ _ s
  refine wpAny_bind (nums_cb hit ?_)
  show wpAny _ _ (Builtin.Itertools.itIntField (.ref it) 1 >>= _) _ _ s
  refine wpAny_bind ?_
  unfold Builtin.Itertools.itIntField
  refine wpAny_bind (wpAny_field hit.ob rfl (cbV_get1 ..) (wpAny_pure ?_))
  show wpAny _ _ (Builtin.Itertools.itPoolItems (.ref T) >>= _) _ _ s
  obtain ⟨oT, hoT, hcT, nT, hdT⟩ := id hit.tp
  refine wpAny_bind ?_
  unfold Builtin.Itertools.itPoolItems
  refine wpAny_bind (wpAny_seqItems hoT hdT (wpAny_pure ?_))
  show wpAny _ _ (match stepC items.size ix with | some _ => _ | none => _) _ _ s
  rw [hs]
  show wpAny _ _ (Builtin.Itertools.itSetNumbersFrom (.ref it) 3 jx >>= _) _ _ s
  refine wpAny_bind ?_
  unfold Builtin.Itertools.itSetNumbersFrom
  refine wpAny_updateFields hit.ob rfl ?_ ?_
  · have h2 : IsCb (s.heap.update it (Obj.mapFields fun fs => fs.extract 0 3 ++ (jx.map fun (n : Nat) => rawInt (n : Nat)).toArray)) it T items 1 last jx := by
      refine ⟨?_, ⟨oT, (Heap.get?_update_other _ _ hit.ne).trans hoT, hcT, nT, hdT⟩, hit.ne⟩
      rw [Heap.get?_update_self _ hit.ob rfl, ← cbV_put T 1 last ix jx]
      rfl
    refine hand_cb h2 hj fun h' c1 c2 c3 => ?_
    have sz : (s.heap.update it (Obj.mapFields fun fs => fs.extract 0 3 ++ (jx.map fun (n : Nat) => rawInt (n : Nat)).toArray)).objs.size = s.heap.objs.size := Heap.size_after_update ..
    have q := hQ h' (by rw [← sz]; exact c1) (by rw [← sz]; exact c2) fun b o hb e => c3 b o hb ((Heap.get?_update_other _ _ (Ne.symm hb)).trans e)
    rw [← sz] at q
    exact ⟨_, rfl, wpAny_pure q⟩
  · rw [cbV_put, cbV_size]
    have : 1003 ≤ sizeLine + 3 := by decide
    omega
end
end HC

namespace HC
open PySem PySem.Spec PyProof.Rows
section
variable {prog : Program} {w : World} {A : Around} {E : Value → Shared → Prop} {s : Shared}
theorem end1_cb {it T : Addr} {items : Array Value} {last : Value} {ix : List Nat} {Q : Option Value → Shared → Prop} (hh : A.handled = none) (hit : IsCb s.heap it T items 1 last ix) (hs : stepC items.size ix = none)
    (hQ : ∀ h' : Heap, (∀ b o, b ≠ it → s.heap.get? b = some o → h'.get? b = some o) → Q none { s with heap := h' }) : wpAny (model prog w) A (pyNext (.ref it)) Q E s := by
  have hT : s.TypeIs (.ref it) "itertools.combinations" := ⟨_, hit.ob, rfl⟩
  unfold pyNext
  refine wpAny_bind (wpAny_attempt (wpAny_callSpecial?_slot (name := Str.ofString "__next__") hT sNext_cb (wpAny_call_entry sNext_cb hT eNext_cb ?_ (aNext_cb _))))
  show wpAny _ _ (field (.ref it) 0 >>= _) _ _ s
  refine wpAny_bind (wpAny_field hit.ob rfl (cbV_get0 ..) ?_)
  show wpAny _ _ (Builtin.Itertools.itNumbersFrom (.ref it) 3 >>= _) _ _ s
  refine wpAny_bind (nums_cb hit ?_)
  show wpAny _ _ (Builtin.Itertools.itIntField (.ref it) 1 >>= _) _ _ s
  refine wpAny_bind ?_
  unfold Builtin.Itertools.itIntField
  refine wpAny_bind (wpAny_field hit.ob rfl (cbV_get1 ..) (wpAny_pure ?_))
  show wpAny _ _ (Builtin.Itertools.itPoolItems (.ref T) >>= _) _ _ s
  obtain ⟨oT, hoT, hcT, nT, hdT⟩ := id hit.tp
  refine wpAny_bind ?_
  unfold Builtin.Itertools.itPoolItems
  refine wpAny_bind (wpAny_seqItems hoT hdT (wpAny_pure ?_))
  show wpAny _ _ (match stepC items.size ix with | some _ => _ | none => _) _ _ s
  rw [hs]
  show wpAny _ _ (setField (.ref it) 1 (rawInt 2) >>= _) _ _ s
  refine wpAny_bind (wpAny_setField hit.ob rfl (by rw [cbV_size]; omega) ?_)
  show wpAny _ _ (newExc (.type "StopIteration") [] >>= _) _ _ _
  refine wpAny_bind ?_
  simp only [newExc, newTuple]
  refine wpAny_bind (wpAny_newObj_type ?_ (by size_fits))
  refine wpAny_bind (m := firstArgMember _ _) (wpAny_of_eq (a := Value.none) (by first | rfl | (simp only [firstArgMember]; rfl)) ?_)
  refine wpAny_newObj_type ?_ (by size_fits)
  simp only [raiseNew]
  refine wpAny_bind (wpAny_handled ?_)
  first | rw [show A.in1.handled = none from hh] | rw [hh]
  refine wpAny_bind (wpAny_pure (wpAny_throw ?_))
  refine wpAny_bind (wpAny_isInstance (T := "StopIteration") (b := true) ⟨_, Heap.get?_push_size _ rfl, rfl⟩ isSubtype_stop ?_)
  exact wpAny_pure (hQ _ fun b o hb e => Heap.get?_push_of_some _ (Heap.get?_push_of_some _ ((Heap.get?_update_other _ _ (Ne.symm hb)).trans e)))
end
end HC
namespace L2
open PySem PySem.Spec PyProof.Rows
/-- rows of places, each the next of the one ahead -/
structure Rows (n : Nat) (C : List (List Nat)) : Prop where
  nx : ∀ i ix jx, C[i]? = some ix → C[i + 1]? = some jx → HC.stepC n ix = some jx
  en : ∀ i ix, C[i]? = some ix → C[i + 1]? = none → HC.stepC n ix = none
  sz : ∀ ix ∈ C, ix.length ≤ 1000 ∧ ∀ k ∈ ix, k < n
def rowV (xs : List V) (ix : List Nat) : List V := ix.map fun i => xs.getD i .non
/-- the items at the places of each row, in a new tuple -/
def Icb (xs : List V) (C : List (List Nat)) : It :=
  ⟨fun i _ => i < C.length, fun i H v H' => ∃ (T : Addr) (o : Obj) (ix : List Nat), C[i]? = some ix ∧ v = .ref T ∧ o.dict = none ∧ H T = none ∧ H' = upd H T (.frz o (.tup (rowV xs ix))), fun i _ => C.length ≤ i⟩
def CbAt (it T : Addr) (items : Array Value) (C : List (List Nat)) (i : Nat) (h : Heap) : Prop := match i with
  | 0 => ∃ ix, C[0]? = some ix ∧ HC.IsCb h it T items 0 .none ix
  | i + 1 => ∃ ix last, C[i]? = some ix ∧ HC.IsCb h it T items 1 last ix
theorem rows_vals {xs : List V} {its : List Value} (rv : Vals xs its) : ∀ {ix : List Nat}, (∀ k ∈ ix, k < its.length) → Vals (rowV xs ix) (ix.map fun i => its.toArray.getD i .none)
  | [], _ => .nil
  | k :: r, h => by
    have hk := h k (List.mem_cons_self ..)
    have lx : k < xs.length := by rw [Vals.length rv]; exact hk
    obtain ⟨u, h1, h2⟩ := Vals.get rv (List.getElem?_eq_getElem lx)
    refine .cons ?_ (rows_vals rv fun k hk => h k (List.mem_cons_of_mem _ hk))
    have e1 : xs.getD k .non = xs[k] := by rw [List.getD_eq_getElem?_getD, List.getElem?_eq_getElem lx]; rfl
    have e2 : its.toArray.getD k .none = u := by
      rw [Array.getD_eq_getD_getElem?, List.getElem?_toArray, h1]
      rfl
    show RelV (xs.getD k .non) (its.toArray.getD k .none)
    rw [e1, e2]
    exact h2
theorem cb_of {it T : Addr} {items : Array Value} {C : List (List Nat)} {h : Heap} : ∀ {i : Nat}, CbAt it T items C i h → ∃ st last ix, HC.IsCb h it T items st last ix
  | 0, ⟨_, _, z⟩ => ⟨_, _, _, z⟩
  | _ + 1, ⟨_, _, _, z⟩ => ⟨_, _, _, z⟩
theorem cb_keep {it T : Addr} {items : Array Value} {st : Int} {last : Value} {ix : List Nat} {h h' : Heap} (c : HC.IsCb h it T items st last ix) (k : ∀ b ∈ [it, T], ∀ o, h.get? b = some o → h'.get? b = some o) : HC.IsCb h' it T items st last ix := by
  obtain ⟨oT, hoT, r⟩ := c.tp
  exact ⟨k it (by simp) _ c.ob, ⟨oT, k T (by simp) _ hoT, r⟩, c.ne⟩
theorem turn_cb {P : Program} {w : World} {K : PySem.W.Frag} {tg : Expr} {xs : List V} {its : List Value} {C : List (List Nat)} (it T : Addr) (rv : Vals xs its) (R : Rows its.length C) : Turn P w K tg (Icb xs C) [it, T] it (CbAt it T its.toArray C) where
  mem := by simp
  obj := fun i h st b hb => by
    obtain ⟨_, _, _, c⟩ := cb_of st
    obtain ⟨oT, hoT, hcT, nT, hdT⟩ := c.tp
    have e : b = it ∨ b = T := by simpa using hb
    rcases e with q | q
    · rw [q]; exact ⟨_, c.ob, fun v q => nomatch q⟩
    · rw [q]; exact ⟨_, hoT, fun v q => by rw [hdT] at q; cases q⟩
  keep := fun i h h' st k => by
    cases i with
    | zero => obtain ⟨ix, e, c⟩ := st; exact ⟨ix, e, cb_keep c k⟩
    | succ i => obtain ⟨ix, last, e, c⟩ := st; exact ⟨ix, last, e, cb_keep c k⟩
  item := by
    intro X hP hw hK hc i pins s σ H E I hf st hg
    subst hP hw hK
    have hg : i < C.length := hg
    have go : ∀ (jx : List Nat) (h' : Heap), C[i]? = some jx → HC.IsCb h' it T its.toArray 1 (.ref s.heap.objs.size) jx → h'.get? s.heap.objs.size = some { cls := .type "tuple", data := .seq (HC.tupOf its.toArray jx) } → (∀ b o, b ≠ it → s.heap.get? b = some o → h'.get? b = some o) →
        ∃ u, some (Value.ref s.heap.objs.size) = some u ∧ wpAny (model X.prog X.w) X.A (letOwnedTupleGo tg (.ref it) u) (fun _ s2 => ∃ x H', Inv X pins σ H' s2 ∧ RelV x u ∧ (Icb xs C).yld i H x H' ∧ CbAt it T its.toArray C (i + 1) s2.heap ∧ ∀ b ∈ [it, T], H' b = none) E { s with heap := h' } := by
      intro jx h' hj c1 c2 c3
      have sz := R.sz jx (List.mem_of_getElem? hj)
      have new : ObjOk X.prog X.w (upd H s.heap.objs.size (.frz { cls := .type "tuple", data := .seq (HC.tupOf its.toArray jx) } (.tup (rowV xs jx)))) h' s.heap.objs.size (.frz { cls := .type "tuple", data := .seq (HC.tupOf its.toArray jx) } (.tup (rowV xs jx))) :=
        ⟨c2, by show (rowV xs jx).length ≤ sizeLine; unfold rowV; rw [List.length_map]; exact Nat.le_trans sz.1 (by decide), _, rows_vals rv sz.2, ⟨_, c2, rfl, _, rfl⟩⟩
      have I1 : Inv X pins σ (upd H s.heap.objs.size (.frz { cls := .type "tuple", data := .seq (HC.tupOf its.toArray jx) } (.tup (rowV xs jx)))) { s with heap := h' } :=
        I.turnedNew (t' := s.toks) (ch := [it, T]) (fun c o hb q => c3 c o (fun q' => hb (by simp [q'])) q) hf (Nat.le_refl _) new
      refine ⟨_, rfl, go_of (s := { s with heap := h' }) c1.ob rfl rfl (by decide) ⟨.ref s.heap.objs.size, _, I1, rfl, ⟨_, _, jx, hj, rfl, rfl, I.hok.fresh (Nat.le_refl _), rfl⟩, ⟨jx, _, hj, c1⟩, fun c hcm => ?_⟩⟩
      obtain ⟨_, _, _, c0⟩ := cb_of st
      obtain ⟨oT, hoT, _⟩ := c0.tp
      have hlt : c < s.heap.objs.size := by
        have e' : c = it ∨ c = T := by simpa using hcm
        rcases e' with q | q
        · rw [q]; exact Heap.lt_size c0.ob
        · rw [q]; exact Heap.lt_size hoT
      rw [upd_ne (Nat.ne_of_lt hlt)]
      exact (hf c hcm).1
    cases i with
    | zero =>
      obtain ⟨ix, e, c⟩ := st
      exact HC.next0_cb c (R.sz ix (List.mem_of_getElem? e)).1 fun h' c1 c2 c3 => go ix h' e c1 c2 c3
    | succ i =>
      obtain ⟨ix, last, e, c⟩ := st
      have ej := List.getElem?_eq_getElem hg
      refine HC.next1_cb c ?_ (R.sz _ (List.mem_of_getElem? ej)).1 fun h' c1 c2 c3 => go _ h' ej c1 c2 c3
      rw [List.size_toArray]
      exact R.nx i ix _ e ej
  done := by
    intro X hP hw hK hc i pins s σ H E I hf st hg
    subst hP hw hK
    have hg : C.length ≤ i := hg
    cases i with
    | zero =>
      obtain ⟨ix, e, c⟩ := st
      rw [List.getElem?_eq_none hg] at e
      cases e
    | succ i =>
      obtain ⟨ix, last, e, c⟩ := st
      refine HC.end1_cb (I.ok.hd hc) c (by rw [List.size_toArray]; exact R.en i ix e (List.getElem?_eq_none hg)) fun h' hk => ⟨rfl, I.turnedL (t' := s.toks) (ch := [it, T]) (fun c o hb q => hk c o (fun q' => hb (by simp [q'])) q) hf⟩
  self := fun A i s Q E st h => by
    obtain ⟨_, _, _, c⟩ := cb_of st
    exact HC.iter_cb c h
end L2

namespace L2
open PySem PySem.Spec PyProof.Rows
def iComb (K : PySem.W.Frag) (ta : TA) : TI := fun σ H R => ta σ H fun vs H1 => ∃ (a : Addr) (xs : List V) (r : Nat) (C : List (List Nat)), vs = [.ref a, .int (r : Nat)] ∧ SqL K H1 a xs ∧ r ≤ xs.length ∧ xs.length ≤ 1000 ∧ Rows xs.length C ∧ C[0]? = some (List.range r) ∧ R (Icb xs C) H1
theorem pi_comb {X : Cx} {tg e e2 : Expr} {ta : TA} {p pos : Pos} (hg : Gl X "combinations") (hm : X.mg "combinations" = some (.type "itertools.combinations")) (ha : PA X [e, e2] ta)
    (hs : starEach [e, e2] X.env = (false, eval e X.env) :: starEach [e2] X.env := by rfl) (hpl : (backTo pos (starEach [e2] X.env)).any (·.1) = false := by rfl) :
    PI X tg (.Call (.Name "combinations" p) [e, e2] [] pos) (iComb X.K ta) := by
  refine ⟨fun pins s σ H R I h => ?_⟩
  refine Call_ (ld_glob I hg hm (PyProof.Rows.callWith_type1 (thn (ha.run pos pins s σ H _ I h) fun us s1 ⟨vs, H1, I1, r1, q1⟩ => ?_) hs hpl))
  obtain ⟨a, xs, r, C, ex, hq, hr, hz, hR, h0, q⟩ := q1
  subst ex
  cases r1 with
  | cons r1 rr =>
    cases rr with
    | cons r2 rr =>
      cases rr
      cases r1
      obtain ⟨t, rfl⟩ := r2
      obtain ⟨its, rv, p', _⟩ := I1.list hq
      have hl := rv.length
      refine HC.call_cb p'.isList (by rw [List.size_toArray]; omega) (by rw [List.size_toArray]; omega) fun h1 h' k1 c k2 => HC.iter_cb c ?_
      have I1' : Inv X pins σ H1 { s1 with heap := h1 } := I1.kept (t' := s1.toks) k1
      have I2 : Inv X pins σ H1 { s1 with heap := h' } := I1'.kept (t' := s1.toks) k2
      refine ⟨_, [h1.objs.size + 1, h1.objs.size], _, Icb xs C, H1, rfl, I2, turn_cb _ _ rv (by rw [← hl]; exact hR), ⟨_, h0, c⟩, fun b hb => ?_, q⟩
      have e' : b = h1.objs.size + 1 ∨ b = h1.objs.size := by simpa using hb
      rcases e' with z | z
      · rw [z]; exact I1'.fpOk (Nat.le_succ _) (I1'.hok.fresh (Nat.le_succ _))
      · rw [z]; exact I1'.fpOk (Nat.le_refl _) (I1'.hok.fresh (Nat.le_refl _))
end L2

namespace L3
open PySem PySem.Spec PyProof.Rows L2
section
variable {X : Cx} {W : Wz} {a b tg : Expr} {pos : Pos}
def rowD (xs : List D) (ix : List Nat) : List D := ix.map fun i => xs.getD i .non
/-- combinations of a list -/
abbrev miComb (m : MA) : MI := fun ρ h R E => m ρ h (fun ds h1 => match ds with
  | [.loc n, .int r] => lstAt h1 n fun xs => ∃ (C : List (List Nat)) (k : Nat), r = (k : Nat) ∧ k ≤ xs.length ∧ xs.length ≤ 1000 ∧ Rows xs.length C ∧ C[0]? = some (List.range k) ∧ R (C.map fun ix => .tup (rowD xs ix)) (fun _ => True) h1
  | _ => False) E
theorem row_rd {K : PySem.W.Frag} {φ : List Addr} {H : Hp} {ds : List D} {vs : List V} (r : RDs K φ H ds vs) : ∀ {ix : List Nat}, (∀ k ∈ ix, k < ds.length) → RDs K φ H (rowD ds ix) (rowV vs ix)
  | [], _ => .nil
  | k :: t, h => by
    have hk := h k (List.mem_cons_self ..)
    obtain ⟨v, hv, rd⟩ := r.at_ (List.getElem?_eq_getElem hk)
    refine .cons ?_ (row_rd r fun k hk => h k (List.mem_cons_of_mem _ hk))
    show RD K φ H (ds.getD k .non) (vs.getD k .non)
    rw [show ds.getD k .non = ds[k] by rw [List.getD_eq_getElem?_getD, List.getElem?_eq_getElem hk]; rfl, show vs.getD k .non = v by rw [List.getD_eq_getElem?_getD, hv]; rfl]
    exact rd
theorem ci_comb {p : Pos} {m : MA} (hg : Gl X "combinations") (hm : X.mg "combinations" = some (.type "itertools.combinations")) (ha : CA X W [a, b] m)
    (hs : starEach [a, b] X.env = (false, eval a X.env) :: starEach [b] X.env := by rfl) (hpl : (backTo pos (starEach [b] X.env)).any (·.1) = false := by rfl) : CI X W tg (.Call (.Name "combinations" p) [a, b] [] pos) (miComb m) :=
  ⟨_, pi_comb hg hm cA.pa hs hpl, fun φ ρ σ h H R Rm Xm rh rs q ok ox => ha.sim φ ρ σ h H _ _ _ rh rs q (fun φ1 h1 H1 ds vs e1 rh1 r q1 => by
    split at q1
    · cases r with
      | cons r1 r2 =>
        cases r2 with
        | cons r2 r3 =>
          cases r1 with
          | loc e0 =>
            cases r2
            cases r3
            obtain ⟨xs, vs0, sq0, rv0, C, k, rfl, hk, hz, hR, h0, q2⟩ := rh1.rdL e0 q1
            have el := rv0.len
            refine ⟨_, vs0, k, C, rfl, sq0, by rw [← el]; exact hk, by rw [← el]; exact hz, by rw [← el]; exact hR, h0, ok _ _ _ _ _ _ e1 rh1 (fun φ' h' H' x rh g => ⟨fun i d hd => ?_, fun i hi => by rw [List.length_map] at hi; exact hi⟩) q2⟩
            rw [List.getElem?_map] at hd
            obtain ⟨ix, hix, rfl⟩ := Option.map_eq_some_iff.mp hd
            refine ⟨(List.getElem?_eq_some_iff.mp hix).1, fun z H2 ⟨T, o, jx, e3, e4, e5, hT, e6⟩ => ?_⟩
            rw [hix] at e3
            cases e3
            subst e4 e6
            obtain ⟨r1, e, rd⟩ := push_tup rh hT e5 ((row_rd rv0 (hR.sz ix (List.mem_of_getElem? hix)).2).to x)
            exact ⟨e, r1, rd⟩
    · exact q1.elim) ox⟩
end
end L3

/-! the rows of places of combinations, by their last place -/
namespace L2
open PySem PySem.Spec HC
def loC (l : List Nat) : Nat := match l.getLast? with | some x => x + 1 | none => 0
def extC (n : Nat) (l : List Nat) : List (List Nat) := (List.range (n + 1 - loC l)).map fun j => l ++ [loC l + j]
def lotsC : Nat → Nat → List (List Nat)
  | 0, _ => [[]]
  | _ + 1, 0 => []
  | k + 1, n + 1 => (lotsC k n).flatMap (extC n)
def Lnk (n : Nat) : List (List Nat) → Prop
  | [] => True
  | x :: r => stepC n x = r.head? ∧ Lnk n r
theorem loC_snoc (l : List Nat) (x : Nat) : loC (l ++ [x]) = x + 1 := by
  unfold loC
  rw [List.getLast?_concat]
theorem rev_range (n : Nat) : (List.range (n + 1)).reverse = n :: (List.range n).reverse := by
  rw [List.range_succ, List.reverse_append]
  rfl
theorem step_in {n : Nat} {l : List Nat} {x : Nat} (h : x < n) : stepC (n + 1) (l ++ [x]) = some (l ++ [x + 1]) := by
  unfold stepC
  rw [List.length_append, List.length_singleton, rev_range, List.find?_cons]
  have e : (l ++ [x]).getD l.length 0 = x := by
    rw [List.getD_eq_getElem?_getD, List.getElem?_append_right (Nat.le_refl _), Nat.sub_self]
    rfl
  have c : ((l ++ [x]).getD l.length 0 != l.length + (n + 1) - (l.length + 1)) = true := by
    rw [e, show l.length + (n + 1) - (l.length + 1) = n by omega]
    simp
    omega
  rw [c]
  dsimp only
  rw [e, List.take_left, show l.length + 1 - l.length = 1 by omega]
  rfl
theorem step_out {n : Nat} {l : List Nat} : stepC (n + 1) (l ++ [n]) = (stepC n l).map fun l' => l' ++ [loC l'] := by
  unfold stepC
  rw [List.length_append, List.length_singleton, rev_range, List.find?_cons]
  have e : (l ++ [n]).getD l.length 0 = n := by
    rw [List.getD_eq_getElem?_getD, List.getElem?_append_right (Nat.le_refl _), Nat.sub_self]
    rfl
  have c : ((l ++ [n]).getD l.length 0 != l.length + (n + 1) - (l.length + 1)) = false := by
    rw [e, show l.length + (n + 1) - (l.length + 1) = n by omega]
    simp
  rw [c]
  dsimp only
  have g : ∀ k, k < l.length → (l ++ [n]).getD k 0 = l.getD k 0 := fun k hk => by
    rw [List.getD_eq_getElem?_getD, List.getD_eq_getElem?_getD, List.getElem?_append_left hk]
  have f : (List.range l.length).reverse.find? (fun k => (l ++ [n]).getD k 0 != k + (n + 1) - (l.length + 1)) = (List.range l.length).reverse.find? (fun k => l.getD k 0 != k + n - l.length) := by
    have q : ∀ m : List Nat, (∀ k ∈ m, k < l.length) → m.find? (fun k => (l ++ [n]).getD k 0 != k + (n + 1) - (l.length + 1)) = m.find? (fun k => l.getD k 0 != k + n - l.length) := fun m => by
      induction m with
      | nil => intro _; rfl
      | cons a r ih =>
        intro h
        rw [List.find?_cons, List.find?_cons, g a (h a (List.mem_cons_self ..)), show a + (n + 1) - (l.length + 1) = a + n - l.length by omega, ih fun k hk => h k (List.mem_cons_of_mem _ hk)]
    exact q _ fun k hk => by simpa using hk
  rw [f]
  cases z : (List.range l.length).reverse.find? (fun k => l.getD k 0 != k + n - l.length) with
  | none => rfl
  | some k =>
    have hk : k < l.length := by simpa using List.mem_of_find?_eq_some z
    dsimp only [Option.map_some]
    rw [g k hk, List.take_append_of_le_length (Nat.le_of_lt hk)]
    obtain ⟨d, hd⟩ : ∃ d, l.length - k = d + 1 := ⟨l.length - k - 1, by omega⟩
    rw [show l.length + 1 - k = (d + 1) + 1 by omega, hd, List.range_succ (n := d + 1), List.map_append, ← List.append_assoc]
    congr 2
    rw [List.range_succ, List.map_append, ← List.append_assoc]
    show [l.getD k 0 + 1 + (d + 1)] = [loC (_ ++ [l.getD k 0 + 1 + d])]
    rw [loC_snoc]
    rfl
theorem lots_in : ∀ {k n : Nat} {l : List Nat}, l ∈ lotsC k n → l.length = k ∧ ∀ x ∈ l, x < n
  | 0, _, l, h => by
    have : l = [] := by
      unfold lotsC at h
      exact List.mem_singleton.mp h
    subst this
    exact ⟨rfl, fun _ z => absurd z List.not_mem_nil⟩
  | _ + 1, 0, l, h => by unfold lotsC at h; exact absurd h List.not_mem_nil
  | k + 1, n + 1, l, h => by
    unfold lotsC at h
    obtain ⟨p, hp, hl⟩ := List.mem_flatMap.mp h
    obtain ⟨j, hj, rfl⟩ := List.mem_map.mp hl
    obtain ⟨h1, h2⟩ := lots_in hp
    have hj := List.mem_range.mp hj
    refine ⟨by rw [List.length_append, List.length_singleton, h1], fun x hx => ?_⟩
    rcases List.mem_append.mp hx with hx | hx
    · exact Nat.lt_succ_of_lt (h2 x hx)
    · rw [List.mem_singleton.mp hx]; omega
theorem loC_le {n : Nat} {l : List Nat} (h : ∀ x ∈ l, x < n) : loC l ≤ n := by
  unfold loC
  cases e : l.getLast? with
  | none => exact Nat.zero_le _
  | some x => exact h x (List.mem_of_getLast? e)
/-- a group: one row's ways on, with what comes behind -/
theorem grp {n : Nat} {l : List Nat} {T : List (List Nat)} (ht : stepC (n + 1) (l ++ [n]) = T.head?) (hT : Lnk (n + 1) T) : ∀ (d a : Nat), a + d = n → Lnk (n + 1) (((List.range (d + 1)).map fun j => l ++ [a + j]) ++ T)
  | 0, a, e => by
    have e : a = n := by omega
    subst e
    exact ⟨ht, hT⟩
  | d + 1, a, e => by
    have i := grp ht hT d (a + 1) (by omega)
    have s : ((List.range (d + 1 + 1)).map fun j => l ++ [a + j]) = (l ++ [a]) :: ((List.range (d + 1)).map fun j => l ++ [a + 1 + j]) := by
      rw [List.range_succ_eq_map, List.map_cons, List.map_map]
      congr 1
      refine List.map_congr_left fun j _ => ?_
      show l ++ [a + (j + 1)] = l ++ [a + 1 + j]
      rw [show a + (j + 1) = a + 1 + j by omega]
    rw [s]
    refine ⟨?_, i⟩
    rw [step_in (by omega), List.range_succ_eq_map]
    rfl
theorem ext_head {n : Nat} {l : List Nat} (h : loC l ≤ n) (T : List (List Nat)) : (extC n l ++ T).head? = some (l ++ [loC l]) := by
  unfold extC
  obtain ⟨d, hd⟩ : ∃ d, n + 1 - loC l = d + 1 := ⟨n - loC l, by omega⟩
  rw [hd, List.range_succ_eq_map]
  rfl
theorem lnk_ext {n : Nat} : ∀ {P : List (List Nat)}, (∀ l ∈ P, ∀ x ∈ l, x < n) → Lnk n P → Lnk (n + 1) (P.flatMap (extC n))
  | [], _, _ => trivial
  | l :: r, h, ⟨h1, h2⟩ => by
    have i := lnk_ext (fun l hl => h l (List.mem_cons_of_mem _ hl)) h2
    rw [List.flatMap_cons]
    have hl := loC_le (h l (List.mem_cons_self ..))
    have ht : stepC (n + 1) (l ++ [n]) = (r.flatMap (extC n)).head? := by
      rw [step_out, h1]
      cases r with
      | nil => rfl
      | cons m r =>
        rw [List.flatMap_cons, ext_head (loC_le (h m (List.mem_cons_of_mem _ (List.mem_cons_self ..))))]
        rfl
    have := grp ht i (n - loC l) (loC l) (by omega)
    rw [show n - loC l + 1 = n + 1 - loC l by omega] at this
    exact this
theorem lots_lnk : ∀ k n : Nat, Lnk n (lotsC k n)
  | 0, _ => ⟨rfl, trivial⟩
  | _ + 1, 0 => trivial
  | k + 1, n + 1 => by
    unfold lotsC
    exact lnk_ext (fun l hl => (lots_in hl).2) (lots_lnk k n)
theorem lnk_at {n : Nat} : ∀ {C : List (List Nat)} {i : Nat} {x : List Nat}, Lnk n C → C[i]? = some x → stepC n x = C[i + 1]?
  | y :: r, 0, x, h, e => by
    have e := Option.some.inj e
    subst e
    rw [h.1]
    cases r <;> rfl
  | y :: r, i + 1, x, h, e => lnk_at (i := i) h.2 (by simpa using e)
  | [], _, _, _, e => by simp at e
theorem lots_rows {k n : Nat} (h : k ≤ 1000) : Rows n (lotsC k n) :=
  ⟨fun i ix jx e1 e2 => (lnk_at (lots_lnk k n) e1).trans e2, fun i ix e1 e2 => (lnk_at (lots_lnk k n) e1).trans e2, fun ix hx => ⟨by rw [(lots_in hx).1]; exact h, (lots_in hx).2⟩⟩
theorem lots_head : ∀ {k n : Nat}, k ≤ n → (lotsC k n)[0]? = some (List.range k)
  | 0, _, _ => rfl
  | k + 1, 0, h => absurd h (by omega)
  | k + 1, n + 1, h => by
    have i := lots_head (k := k) (n := n) (by omega)
    unfold lotsC
    cases z : lotsC k n with
    | nil => rw [z] at i; cases i
    | cons l r =>
      rw [z] at i
      have e := Option.some.inj i
      have lk : loC l = k := by
        have e : l = List.range k := e
        rw [e]
        cases k with
        | zero => rfl
        | succ k => rw [List.range_succ, loC_snoc]
      rw [List.flatMap_cons, ← List.head?_eq_getElem?, ext_head (by omega), lk]
      have e : l = List.range k := e
      rw [e, List.range_succ]
end L2

/-! list.index of data: tuples in a list -/
namespace L3
open PySem PySem.Spec PyProof.Rows L2
abbrev mmIndexD : MM := fun d ds h Q => match d, ds with | .loc n, [y] => lstAt h n fun xs => ∃ (es : List PyData) (e : PyData) (j : Nat) (z : PyData), D.pys xs = some es ∧ y.pyH h = some e ∧ SeqAt.shaped (.list es) = true ∧ SeqAt.shaped e = true ∧ es[j]? = some z ∧ PyData.eqv z e = true ∧ (∀ (m : Nat) (z' : PyData), m < j → es[m]? = some z' → PyData.eqv z' e = false) ∧ Q (.int (j : Nat)) h | _, _ => False
theorem m_indexD {K : PySem.W.Frag} : MMr K (rIndexD K) mmIndexD := fun φ h H d ds v vs Qm Q rh rx rv m ok => by
  unfold mmIndexD at m
  split at m
  · rename_i n y
    obtain ⟨u, rfl, ru⟩ := rv.one
    have e0 := rx
    unfold lstAt at m
    split at m
    · rename_i xs e1
      obtain ⟨es, e, j, z, q1, q2, q3, q4, q5, q6, q7, q8⟩ := m
      have dp : Dp K H v (.list es) := rx.dpH rh (by
        unfold D.pyH
        dsimp only
        rw [e1]
        show (D.pys xs).map PyData.list = _
        rw [q1]
        rfl)
      cases rx with
      | loc e0 => exact ⟨_, u, e, es, j, z, rfl, rfl, dp, ru.dpH rh q2, q3, q4, q5, q6, q7, ok _ _ _ _ _ .refl rh (.int _) q8⟩
    · exact m.elim
  · exact m.elim
section
variable {X : Cx} {W : Wz} {o e a b : Expr} {es : List Expr} {pos : Pos}
theorem ce_indexD {apos cpos : Pos} {mo : ME} {ma : MA} {k : Nat} (hr : Rm k X.A) (ho : CE X W o mo) (ha : CA X W (e :: es) ma)
    (hbase : attributeBase o "index" X.env (eval o X.env) = eval o X.env := by rfl)
    (hfew : ((backTo cpos (starEach (e :: es) X.env)).all (fun x => !x.1) && (backToKw cpos (keywordEach [] X.env)).all (fun x => x.1.isSome)
      && decide ((e :: es).length + ([] : List Keyword).length + (if ([] : List Keyword).isEmpty then 0 else 1) < 30)) = true := by rfl)
    (hline : (apos.endLine == cpos.line) = true := by rfl) (hs : starEach (e :: es) X.env = (false, eval e X.env) :: starEach es X.env := by rfl) (hplain : (backTo cpos (starEach es X.env)).any (·.1) = false := by rfl) :
    CE X W (.Call (.Attribute o "index" apos) (e :: es) [] cpos) (mBM mmIndexD mo ma) := ce_bm PySem.F.slot_list_index PySem.F.type_list_index (mt_indexD (by have := hr.un; omega)) m_indexD ho ha hbase hfew hline hs hplain
end
end L3

/-! == of data with lists in lists -/
namespace L3
open PySem PySem.Spec PyProof.Rows L2
abbrev oEqN (f : Bool → Bool) : MO := fun x y h Q => ∃ d e, PyOf h x d ∧ PyOf h y e ∧ SeqAt.shaped d = true ∧ SeqAt.shaped e = true ∧ Q (.bl (f (PyData.eqv d e))) h
theorem om_eqN {K : PySem.W.Frag} {f : Bool → Bool} : OpM K (fun x y H Q => ∃ d e, Dp K H x d ∧ Dp K H y e ∧ SeqAt.shaped d = true ∧ SeqAt.shaped e = true ∧ Q (.bl (f (PyData.eqv d e))) H) (oEqN f) := fun φ h H dx dy x y Qm Q rh rx ry m ok => by
  obtain ⟨d, e, h1, h2, s1, s2, q⟩ := m
  exact ⟨d, e, h1.dp rh rx, h2.dp rh ry, s1, s2, ok _ _ _ _ _ .refl rh (.bl _) q⟩
section
variable {X : Cx}
theorem o_eqN {k : Nat} (hr : Rm k X.A) : OpC X (compareOp .Eq) (oEqN fun b => b) := ⟨_, op_eqD hr.units, om_eqN⟩
theorem o_neN {k : Nat} (hr : Rm k X.A) : OpC X (compareOp .NotEq) (oEqN fun b => !b) := ⟨_, op_neD hr.units, om_eqN⟩
end
/-- isinstance(e, (c, c')), e the error at hand -/
abbrev mIsErr2 (errs : List Str) (c1 c2 : Str) (xc : Xc) : ME := fun _ h Q _ => xc.c ∈ errs ∧ Q (.bl (subC xc.c c1 || subC xc.c c2)) h
section
variable {X : Cx} {W : Wz} {p pos : Pos}
theorem ce_isErr2 {errs : List Str} {en c1 c2 : Str} {i : Nat} {a : Addr} {oe : Obj} {cls : Value} {d : Option Addr} {pn : List (Addr × Obj)} {xc : Xc} {pe pc pd p2 : Pos} {kk : Nat}
    (kit1 : ∀ a ∈ errs, PySem.W.kitOne X.K (.ref (He.ga X.K a)) (.ref (He.ga X.K c1)) = some (subC a c1)) (kit2 : ∀ a ∈ errs, PySem.W.kitOne X.K (.ref (He.ga X.K a)) (.ref (He.ga X.K c2)) = some (subC a c2)) (exc : ∀ a ∈ errs, ExcC X.K (He.ga X.K a)) (hz : L2N.Zn cls d oe) (hf : ∃ vs, oe.data = .fields vs)
    (hg : Gl X "isinstance") (hm : X.mg "isinstance" = none) (hm1 : X.mg c1 = some (.ref (He.ga X.K c1))) (hm2 : X.mg c2 = some (.ref (He.ga X.K c2))) (hg1 : Gl X c1) (hg2 : Gl X c2) (hN : X.N[i]? = some en) (hv : Vis X.env.scope en)
    (hd : (en == ("__debug__" : Str)) = false := by decide) (hcd : (en == ("__classdict__" : Str)) = false := by decide) (hd1 : (c1 == ("__debug__" : Str)) = false := by decide) (hd2 : (c2 == ("__debug__" : Str)) = false := by decide)
    (hs1 : starEach [.Name en pe, .Tuple [.Name c1 pc, .Name c2 pd] kk p2] X.env = (false, eval (.Name en pe) X.env) :: starEach [.Tuple [.Name c1 pc, .Name c2 pd] kk p2] X.env := by rfl)
    (hs3 : starEach [.Name c1 pc, .Name c2 pd] X.env = (false, eval (.Name c1 pc) X.env) :: starEach [.Name c2 pd] X.env := by rfl) (hs4 : starEach [.Name c2 pd] X.env = (false, eval (.Name c2 pd) X.env) :: starEach [] X.env := by rfl) (hpl : (backTo pos (starEach [.Tuple [.Name c1 pc, .Name c2 pd] kk p2] X.env)).any (·.1) = false := by rfl) :
    CE (X.suite a ((a, oe) :: pn)) (Wh i a xc cls d) (.Call (.Name "isinstance" p) [.Name en pe, .Tuple [.Name c1 pc, .Name c2 pd] kk p2] [] pos) (mIsErr2 errs c1 c2 xc) :=
  .of (pe_callB (X := X.suite a ((a, oe) :: pn)) (call_isDT hz.zc hf) hg hm (by decide +kernel) (pa_cons (pe_var (X := X.suite a ((a, oe) :: pn)) hN hv hd hcd) (pa_cons (pe_tup (pa_cons (pe_glob (v := .ref (He.ga X.K c1)) hg1 hm1 rfl hd1) (pa_cons (pe_glob (v := .ref (He.ga X.K c2)) hg2 hm2 rfl hd2) pa_nil hs4) hs3)) pa_nil) hs1) (by decide) (by decide) hs1 hpl) fun φ ρ σ h H Qm Q Xm rh rs q ok ox => by
    obtain ⟨z1, z2, dd, fvs, z3, z4, z5⟩ := rs.z
    obtain ⟨q1, q2⟩ := q
    refine ⟨_, z1, ?_⟩
    refine ⟨by show 2 ≤ sizeLine; decide, fun t ht => ?_⟩
    obtain ⟨r3, x3⟩ := rh.new ht (.tup [.ref (He.ga X.K c1), .ref (He.ga X.K c2)])
    have k1 := kit1 _ q1
    have k2 := kit2 _ q1
    have nd : dd ≠ t := fun e => by rw [e, ht] at z4; cases z4
    refine ⟨_, t, _, _, _, dd, fvs, z2, exc _ q1, rfl, upd_same, .cons (.own _) (.cons (.own _) .nil), ?_, z3, (upd_ne nd).trans z4, ok _ _ _ _ _ x3 r3 (.bl _) q2⟩
    cases hb : subC xc.c c1 with
    | true =>
      rw [hb] at k1
      exact kitAny_cons k1 (fun z => nomatch z) (fun _ => rfl)
    | false =>
      rw [hb] at k1
      refine kitAny_cons k1 (fun _ => ?_) (fun z => nomatch z)
      unfold PySem.W.kitAny
      rw [k2]
      cases subC xc.c c2 <;> rfl
end
end L3

/-! d.get(k, x) -/
namespace L3
open PySem PySem.Spec PyProof.Rows L2
def getDK (h : MH) (x y z : D) (Q : D → MH → Prop) : Prop := match x, dKey y with
  | .loc n, some k => dicAt h n fun kvs => Q ((valQ kvs k).getD z) h
  | _, _ => False
theorem getDK_of {h : MH} {n : Nat} {y z d : D} {k : Key} {kvs : List (Key × D)} {Q : D → MH → Prop} (e : h[n]? = some (.dic kvs)) (ey : dKey y = some k) (ed : (valQ kvs k).getD z = d) (q : Q d h) : getDK h (.loc n) y z Q := by
  unfold getDK
  rw [ey]
  refine dicAt_of e ?_
  rw [ed]; exact q
def isDic (h : MH) (x : D) (k : Prop) : Prop := match x with | .loc n => dicAt h n fun _ => k | _ => False
theorem isDic_of {h : MH} {n : Nat} {kvs : List (Key × D)} {k : Prop} (e : h[n]? = some (.dic kvs)) (q : k) : isDic h (.loc n) k := dicAt_of e q
abbrev mGetD (mo ma mb : ME) : ME := fun ρ h Q E => mo ρ h (fun x h1 => isDic h1 x (ma ρ h1 (fun y h2 => mb ρ h2 (fun z h3 => getDK h3 x y z Q) E) E)) E
section
variable {X : Cx} {W : Wz} {o e f : Expr} {apos cpos : Pos} {mo ma mb : ME}
theorem ce_dgetD {j : Nat} (hr : L2H.RoomH j X.A) (ho : CE X W o mo) (he : CE X W e ma) (hf : CE X W f mb) (m : M2 X o "get" apos e f cpos) : CE X W (.Call (.Attribute o "get" apos) [e, f] [] cpos) (mGetD mo ma mb) :=
  .of (pe_dget2 (by have := hr.un; omega) cE.pe cE.pe cE.pe m) fun φ ρ σ h H Qm Q Xm rh rs q ok ox =>
  ho.sim φ ρ σ h H _ _ _ rh rs q (fun φ1 h1 H1 d1 v1 e1 rh1 rx q1 => by
    unfold isDic at q1
    split at q1
    · rename_i n
      cases rx with
      | loc e0 =>
        obtain ⟨ds, vs, _, hv, r, q1⟩ := rh1.rdD e0 q1
        refine ⟨_, rfl, .inl ⟨vs, .of hv⟩, ?_⟩
        refine he.sim φ1 ρ σ h1 H1 _ _ _ rh1 (rs.to rh e1) q1 (fun φ2 h2 H2 d2 v2 e2 rh2 ry q2 => ?_) (ox.to e1)
        refine hf.sim φ2 ρ σ h2 H2 _ _ _ rh2 (rs.to rh (e1.trans e2)) q2 (fun φ3 h3 H3 d3 v3 e3 rh3 rz q3 => ?_) (ox.to (e1.trans e2))
        unfold getDK at q3
        split at q3
        · rename_i n' k en ek
          cases en
          obtain ⟨ds3, vs3, _, hv3, r3, q3⟩ := rh3.rdD (by have := (RD.loc e0 : RD X.K φ1 H1 (.loc n) _).to (e2.trans e3).toMo; cases this with | loc z => exact z) q3
          have ev := key_rel (ry.to e3.toMo) ek
          subst ev
          refine ⟨valV vs3 k, .inl ⟨vs3, k, .of hv3, rfl, rfl⟩, ?_⟩
          rcases RKs.val r3 k with ⟨z, z2⟩ | ⟨d, v, z1, z2, z3⟩
          · rw [z] at q3
            rw [z2]
            exact ok _ _ _ _ _ ((e1.trans e2).trans e3) rh3 rz q3
          · rw [z1] at q3
            rw [z2]
            exact ok _ _ _ _ _ ((e1.trans e2).trans e3) rh3 z3 q3
        · exact q3.elim
    · exact q1.elim) ox
end
end L3

/-! == and != of an instance and anything, by the class's own __eq__ -/
namespace L3
open PySem PySem.Spec PyProof.Rows L2 PySem.SeqAt
open AutoSeq1 (wpAny_loadPart')
/-- a plain value, at a state -/
inductive DV (s : Shared) : Value → String → Prop
  | non : DV s .none "NoneType"
  | bl (b : Bool) : DV s (.bool b) "bool"
  | int (i : Int) (t : Tok) : DV s (.int i t) "int"
  | str (x : Str) (t : Tok) : DV s (.str x t) "str"
  | tup {a : Addr} {o : Obj} (h : s.heap.get? a = some o) (c : o.cls = .type "tuple") : DV s (.ref a) "tuple"
  | lst {a : Addr} {o : Obj} (h : s.heap.get? a = some o) (c : o.cls = .type "list") : DV s (.ref a) "list"
theorem DV.keeps {s s' : Shared} {v : Value} {T : String} (d : DV s v T) (k : ∀ b o, s.heap.get? b = some o → s'.heap.get? b = some o) : DV s' v T := by
  cases d with
  | non => exact .non
  | bl b => exact .bl b
  | int i t => exact .int i t
  | str i t => exact .str i t
  | tup h c => exact .tup (k _ _ h) c
  | lst h c => exact .lst (k _ _ h) c
theorem DV.is {s : Shared} {v : Value} {T : String} (d : DV s v T) : s.TypeIs v T := by
  cases d with
  | non => rfl
  | bl b => rfl
  | int i t => exact typeIs_int s i t
  | str i t => exact typeIs_str s i t
  | tup h c => exact ⟨_, h, c⟩
  | lst h c => exact ⟨_, h, c⟩
section
variable {prog : Program} {w : World} {A : Around} {E : Value → Shared → Prop} {s : Shared} {x C : Addr} {ox : Obj}
theorem dec_int {i : Int} {t : Tok} {Q : Value → Shared → Prop} (h : s.heap.get? x = some ox) (hd : ox.data = .plain) (q : Q .notImplemented s) :
    wpAny (model prog w) A (call (.builtin "int.__eq__") [.int i t, .ref x]) Q E s := by
  refine GQ.call_here F.slot_int_eq (typeIs_int s i t) F.entry_int_eq (F.args_int_eq_2 _ _) ?_
  obtain ⟨hp, g, d, tk, os⟩ := s
  obtain ⟨oc, od, oda, osl⟩ := ox
  simp only at hd
  subst hd
  wp_walk using wpAny_loadPart' h, wpAny_load h
  exact q
variable {l : Addr} {ol : Obj}
theorem dec_int_ne {i : Int} {t : Tok} {Q : Value → Shared → Prop} (h : s.heap.get? x = some ox) (hd : ox.data = .plain) (q : Q .notImplemented s) :
    wpAny (model prog w) A (call (.builtin "int.__ne__") [.int i t, .ref x]) Q E s := by
  refine GQ.call_here F.slot_int_ne (typeIs_int s i t) F.entry_int_ne (F.args_int_ne_2 _ _) ?_
  obtain ⟨hp, g, d, tk, os⟩ := s
  obtain ⟨oc, od, oda, osl⟩ := ox
  simp only at hd
  subst hd
  wp_walk using wpAny_loadPart' h, wpAny_load h
  exact q
theorem dec_str_eq {i : Str} {t : Tok} {Q : Value → Shared → Prop} (h : s.heap.get? x = some ox) (hd : ox.data = .plain) (q : Q .notImplemented s) :
    wpAny (model prog w) A (call (.builtin "str.__eq__") [.str i t, .ref x]) Q E s := by
  refine GQ.call_here F.slot_str_eq (typeIs_str s i t) F.entry_str_eq (F.args_str_eq_2 _ _) ?_
  obtain ⟨hp, g, d, tk, os⟩ := s
  obtain ⟨oc, od, oda, osl⟩ := ox
  simp only at hd
  subst hd
  wp_walk using wpAny_loadPart' h, wpAny_load h
  exact q
theorem dec_str_ne {i : Str} {t : Tok} {Q : Value → Shared → Prop} (h : s.heap.get? x = some ox) (hd : ox.data = .plain) (q : Q .notImplemented s) :
    wpAny (model prog w) A (call (.builtin "str.__ne__") [.str i t, .ref x]) Q E s := by
  refine GQ.call_here F.slot_str_ne (typeIs_str s i t) F.entry_str_ne (F.args_str_ne_2 _ _) ?_
  obtain ⟨hp, g, d, tk, os⟩ := s
  obtain ⟨oc, od, oda, osl⟩ := ox
  simp only at hd
  subst hd
  wp_walk using wpAny_loadPart' h, wpAny_load h
  exact q
theorem dec_bl_eq {i : Bool} {Q : Value → Shared → Prop} (h : s.heap.get? x = some ox) (hd : ox.data = .plain) (q : Q .notImplemented s) :
    wpAny (model prog w) A (call (.builtin "int.__eq__") [.bool i, .ref x]) Q E s := by
  refine GQ.call_here F.slot_bool_eq rfl F.entry_int_eq (F.args_int_eq_2 _ _) ?_
  obtain ⟨hp, g, d, tk, os⟩ := s
  obtain ⟨oc, od, oda, osl⟩ := ox
  simp only at hd
  subst hd
  wp_walk using wpAny_loadPart' h, wpAny_load h
  exact q
theorem dec_bl_ne {i : Bool} {Q : Value → Shared → Prop} (h : s.heap.get? x = some ox) (hd : ox.data = .plain) (q : Q .notImplemented s) :
    wpAny (model prog w) A (call (.builtin "int.__ne__") [.bool i, .ref x]) Q E s := by
  refine GQ.call_here F.slot_bool_ne rfl F.entry_int_ne (F.args_int_ne_2 _ _) ?_
  obtain ⟨hp, g, d, tk, os⟩ := s
  obtain ⟨oc, od, oda, osl⟩ := ox
  simp only at hd
  subst hd
  wp_walk using wpAny_loadPart' h, wpAny_load h
  exact q
theorem dec_non_eq {Q : Value → Shared → Prop} (h : s.heap.get? x = some ox) (hd : ox.data = .plain) (q : Q .notImplemented s) :
    wpAny (model prog w) A (call (.builtin "NoneType.__eq__") [.none, .ref x]) Q E s := by
  refine GQ.call_here F.slot_NoneType_eq rfl F.entry_NoneType_eq (F.args_NoneType_eq_2 _ _) ?_
  obtain ⟨hp, g, d, tk, os⟩ := s
  obtain ⟨oc, od, oda, osl⟩ := ox
  simp only at hd
  subst hd
  wp_walk using wpAny_loadPart' h, wpAny_load h
  exact q
theorem dec_non_ne {Q : Value → Shared → Prop} (h : s.heap.get? x = some ox) (hd : ox.data = .plain) (q : Q .notImplemented s) :
    wpAny (model prog w) A (call (.builtin "NoneType.__ne__") [.none, .ref x]) Q E s := by
  refine GQ.call_here F.slot_NoneType_ne rfl F.entry_NoneType_ne (F.args_NoneType_ne_2 _ _) ?_
  obtain ⟨hp, g, d, tk, os⟩ := s
  obtain ⟨oc, od, oda, osl⟩ := ox
  simp only at hd
  subst hd
  wp_walk using wpAny_loadPart' h, wpAny_load h
  exact q
theorem dec_tuple_eq {Q : Value → Shared → Prop} (h : s.heap.get? l = some ol) (hc : ol.cls = .type "tuple") (L : PySem.W.Looks (model prog w) s.heap (isInstance (.ref x) (.type "tuple")) false) (q : Q .notImplemented s) :
    wpAny (model prog w) A (call (.builtin "tuple.__eq__") [.ref l, .ref x]) Q E s := by
  refine GQ.call_here F.slot_tuple_eq ⟨_, h, hc⟩ F.entry_tuple_eq (F.args_tuple_eq_2 _ _) ?_
  obtain ⟨hp, g, d, tk, os⟩ := s
  obtain ⟨oc, od, oda, osl⟩ := ol
  simp only at hc
  subst hc
  wp_walk using wpAny_loadPart' h, wpAny_load h, L.here
  exact q
theorem dec_tuple_ne {Q : Value → Shared → Prop} (h : s.heap.get? l = some ol) (hc : ol.cls = .type "tuple") (L : PySem.W.Looks (model prog w) s.heap (isInstance (.ref x) (.type "tuple")) false) (q : Q .notImplemented s) :
    wpAny (model prog w) A (call (.builtin "tuple.__ne__") [.ref l, .ref x]) Q E s := by
  refine GQ.call_here F.slot_tuple_ne ⟨_, h, hc⟩ F.entry_tuple_ne (F.args_tuple_ne_2 _ _) ?_
  obtain ⟨hp, g, d, tk, os⟩ := s
  obtain ⟨oc, od, oda, osl⟩ := ol
  simp only at hc
  subst hc
  wp_walk using wpAny_loadPart' h, wpAny_load h, L.here
  exact q
theorem dec_list_eq {Q : Value → Shared → Prop} (h : s.heap.get? l = some ol) (hc : ol.cls = .type "list") (L : PySem.W.Looks (model prog w) s.heap (isInstance (.ref x) (.type "list")) false) (q : Q .notImplemented s) :
    wpAny (model prog w) A (call (.builtin "list.__eq__") [.ref l, .ref x]) Q E s := by
  refine GQ.call_here F.slot_list_eq ⟨_, h, hc⟩ F.entry_list_eq (F.args_list_eq_2 _ _) ?_
  obtain ⟨hp, g, d, tk, os⟩ := s
  obtain ⟨oc, od, oda, osl⟩ := ol
  simp only at hc
  subst hc
  wp_walk using wpAny_loadPart' h, wpAny_load h, L.here
  exact q
theorem dec_list_ne {Q : Value → Shared → Prop} (h : s.heap.get? l = some ol) (hc : ol.cls = .type "list") (L : PySem.W.Looks (model prog w) s.heap (isInstance (.ref x) (.type "list")) false) (q : Q .notImplemented s) :
    wpAny (model prog w) A (call (.builtin "list.__ne__") [.ref l, .ref x]) Q E s := by
  refine GQ.call_here F.slot_list_ne ⟨_, h, hc⟩ F.entry_list_ne (F.args_list_ne_2 _ _) ?_
  obtain ⟨hp, g, d, tk, os⟩ := s
  obtain ⟨oc, od, oda, osl⟩ := ol
  simp only at hc
  subst hc
  wp_walk using wpAny_loadPart' h, wpAny_load h, L.here
  exact q
theorem dec_none {nm : Str} {id : String} {T : String} {v : Value} {Q : Option Value → Shared → Prop} (hT : s.TypeIs v T) (sl : Slot T nm id)
    (h : ∀ Q' : Value → Shared → Prop, Q' .notImplemented s → wpAny (model prog w) A (call (.builtin id) [v, .ref x]) Q' E s) (q : Q none s) :
    wpAny (model prog w) A (tryCompare v nm (.ref x)) Q E s := by
  simp only [tryCompare]
  exact wpAny_bind (wpAny_callSpecialIfBound?_slot hT sl (h _ (wpAny_pure q)))
theorem try_dec {v : Value} {T : String} (d : DV s v T) {op : CmpOp} (ho : op = .Eq ∨ op = .NotEq) (h : s.heap.get? x = some ox) (hd : ox.data = .plain) (Lt : PySem.W.Looks (model prog w) s.heap (isInstance (.ref x) (.type "tuple")) false)
    (Ll : PySem.W.Looks (model prog w) s.heap (isInstance (.ref x) (.type "list")) false) {Q : Option Value → Shared → Prop} (q : Q none s) : wpAny (model prog w) A (tryCompare v (cmpInfo op).2.1 (.ref x)) Q E s := by
  rcases ho with rfl | rfl
  · cases d with
    | non => exact dec_none rfl F.slot_NoneType_eq (fun _ z => dec_non_eq h hd z) q
    | bl b => exact dec_none rfl F.slot_bool_eq (fun _ z => dec_bl_eq h hd z) q
    | int i t => exact dec_none (typeIs_int s i t) F.slot_int_eq (fun _ z => dec_int h hd z) q
    | str i t => exact dec_none (typeIs_str s i t) F.slot_str_eq (fun _ z => dec_str_eq h hd z) q
    | tup e c => exact dec_none ⟨_, e, c⟩ F.slot_tuple_eq (fun _ z => dec_tuple_eq e c Lt z) q
    | lst e c => exact dec_none ⟨_, e, c⟩ F.slot_list_eq (fun _ z => dec_list_eq e c Ll z) q
  · cases d with
    | non => exact dec_none rfl F.slot_NoneType_ne (fun _ z => dec_non_ne h hd z) q
    | bl b => exact dec_none rfl F.slot_bool_ne (fun _ z => dec_bl_ne h hd z) q
    | int i t => exact dec_none (typeIs_int s i t) F.slot_int_ne (fun _ z => dec_int_ne h hd z) q
    | str i t => exact dec_none (typeIs_str s i t) F.slot_str_ne (fun _ z => dec_str_ne h hd z) q
    | tup e c => exact dec_none ⟨_, e, c⟩ F.slot_tuple_ne (fun _ z => dec_tuple_ne e c Lt z) q
    | lst e c => exact dec_none ⟨_, e, c⟩ F.slot_list_ne (fun _ z => dec_list_ne e c Ll z) q
/-- a class with its own == , and no class of a built-in value -/
structure EqFC (K : PySem.W.Frag) (C : Addr) : Prop where
  ne : PySem.W.findIn K (.ref C) "__ne__" = some (some (.builtin "object.__ne__"))
  ob : PySem.W.mroIn K C (.type "object") = some true
  no : ∀ T ∈ (["NoneType", "bool", "int", "str", "tuple", "list"] : List String), PySem.W.mroIn K C (.type T) = some false
  kt : ∀ T ∈ (["NoneType", "bool", "int", "str", "tuple", "list"] : List String), PySem.W.kitOne K (.type T) (.ref C) = some false
theorem notF {K : PySem.W.Frag} {C : Addr} {T : String} (h : T ∈ (["NoneType", "bool", "int", "str", "tuple", "list"] : List String)) : PySem.W.notFirst K C (.type T) = true := by
  simp only [List.mem_cons, List.not_mem_nil, or_false] at h
  rcases h with rfl | rfl | rfl | rfl | rfl | rfl <;> rfl
theorem DV.mem {s : Shared} {v : Value} {T : String} (d : DV s v T) : T ∈ (["NoneType", "bool", "int", "str", "tuple", "list"] : List String) := by
  cases d <;> decide
variable {K : PySem.W.Frag} {L f : Addr} {h₀ : Heap} {m : Str → Option Value} {od : Option Obj} {b tb : Value}
/-- != of an instance, by its own == -/
theorem try_ne {Q : Option Value → Shared → Prop} (hu : A.units + 1 < cLine) (X : K.In s.heap) (I : PySem.W.InstAt s.heap x ox C od) (e : EqFC K C)
    (hs : PySem.W.findIn K (.ref C) "__eq__" = some (some (.ref f))) (hf : PySem.W.isFn K (.ref f) = true)
    (h : wpAny (model prog w) A.in1 (call (.ref f) [.ref x, b]) (fun v s' => ∃ r, v = .bool r ∧ Q (some (.bool (!r))) s') E s) : wpAny (model prog w) A (tryCompare (.ref x) "__ne__" b) Q E s := by
  simp only [tryCompare]
  refine wpAny_bind ?_
  simp only [callSpecialIfBound?, bindSpecialIfBound?]
  refine wpAny_holding (wpAny_bind (wpAny_bind (wpAny_bind (I.type.here ((PySem.W.looks_findIn X e.ne).here ?_)))))
  simp only [F.cmp_object.ne.bind]
  refine wpAny_bind (wpAny_askSetting (wpAny_ite ?_))
  have LI : PySem.W.Looks (model prog w) s.heap (isInstance (.ref x) (.type "object")) true := I.type.andThen (PySem.W.looks_mroIn X e.ob)
  have fin : ∀ R : Option Value → Shared → Prop, (∀ (r : Bool) s', Q (some (.bool r)) s' → R (some (.bool r)) s') → wpAny (model prog w) A (call (.builtin "object.__ne__") ([.ref x] ++ [b]) >>= fun v => pure (some v)) R E s := fun R hR => by
    refine wpAny_bind (wpAny_call (codeAny_call_builtin F.cmp_object.ne.plain F.cmpEntry_ne (PySem.W.check_slot F.cmpKind_ne F.cmpSplit_ne LI (F.cmpArgs_ne _ _) ?_)))
    unfold Builtin.«object.__ne__»
    repeat (first | with_reducible refine wpAny_cRoomFor hu ?_ | with_reducible refine PySem.W.ifBound_K X I hs hf (wpAny_mono h (fun v s' hv => ?_) fun _ _ e => e) | wp_step)
    obtain ⟨r, rfl, hv⟩ := hv
    repeat wp_step
    exact hR _ _ hv
  split
  · exact wpAny_bind (wpAny_pure (wpAny_pure (by exact fin _ fun r s' z => wpAny_pure z)))
  · exact wpAny_tryCatch (wpAny_bind (wpAny_pure (wpAny_pure (by exact fin _ fun r s' z => wpAny_pure z))))
theorem try_eq {Q : Option Value → Shared → Prop} (X : K.In s.heap) (I : PySem.W.InstAt s.heap x ox C od)
    (hs : PySem.W.findIn K (.ref C) "__eq__" = some (some (.ref f))) (hf : PySem.W.isFn K (.ref f) = true)
    (h : wpAny (model prog w) A (call (.ref f) [.ref x, b]) (fun v s' => ∃ r, v = .bool r ∧ Q (some (.bool r)) s') E s) : wpAny (model prog w) A (tryCompare (.ref x) "__eq__" b) Q E s := by
  unfold tryCompare
  refine wpAny_bind (PySem.W.ifBound_K X I hs hf (wpAny_mono h (fun v s' hv => ?_) fun _ _ e => e))
  obtain ⟨r, rfl, hv⟩ := hv
  exact wpAny_pure hv
theorem cmp_left {op : CmpOp} {Q : Value → Shared → Prop} (hu : A.units < cLine) (X : K.In s.heap) (I : PySem.W.InstAt s.heap x ox C od) (hb : PySem.W.Looks (model prog w) s.heap (typeOf b) tb) (hn : PySem.W.notFirst K C tb = true)
    (one : wpAny (model prog w) A (tryCompare (.ref x) (cmpInfo op).2.1 b) (fun r s' => ∃ v, r = some v ∧ Q v s') E s) : wpAny (model prog w) A (richCompare op (.ref x) b) Q E s := by
  unfold richCompare
  simp only [PySem.oneThing_ref]
  refine wpAny_holding (wpAny_bind (wpAny_cRoomFor hu ?_))
  refine wpAny_bind (I.type.here (wpAny_bind (hb.here ?_)))
  split
  · rename_i q
    have e : PySem.W.subIn K tb (.ref C) = some false := by
      rcases Bool.or_eq_true_iff.mp hn with e | e
      · rw [beq_iff_eq.mp e] at q; simp at q
      · exact beq_iff_eq.mp e
    refine wpAny_bind ((PySem.W.looks_subIn X e).here ?_)
    simp only [Bool.false_eq_true, if_false]
    refine wpAny_bind (wpAny_mono one (fun r s' z => ?_) fun _ _ e => e)
    obtain ⟨v, rfl, hq⟩ := z
    exact wpAny_pure hq
  · refine wpAny_bind (wpAny_pure ?_)
    simp only [Bool.false_eq_true, if_false]
    refine wpAny_bind (wpAny_mono one (fun r s' z => ?_) fun _ _ e => e)
    obtain ⟨v, rfl, hq⟩ := z
    exact wpAny_pure hq
theorem cmp_right {op : CmpOp} {v : Value} {T : String} {Q : Value → Shared → Prop} (ho : op = .Eq ∨ op = .NotEq) (d : DV s v T) (hu : A.units < cLine) (X : K.In s.heap) (I : PySem.W.InstAt s.heap x ox C od) (hp : ox.data = .plain) (e : EqFC K C)
    (one : wpAny (model prog w) A (tryCompare (.ref x) (cmpInfo op).2.2 v) (fun r s' => ∃ v, r = some v ∧ Q v s') E s) : wpAny (model prog w) A (richCompare op v (.ref x)) Q E s := by
  have sub : ∀ T ∈ (["NoneType", "bool", "int", "str", "tuple", "list"] : List String), PySem.W.Looks (model prog w) s.heap (isSubtype (.ref C) (.type T)) false := fun T hT => PySem.W.looks_mroIn X (e.no T hT)
  have inst : ∀ T ∈ (["NoneType", "bool", "int", "str", "tuple", "list"] : List String), PySem.W.Looks (model prog w) s.heap (isInstance (.ref x) (.type T)) false := fun T hT => I.type.andThen (sub T hT)
  have left := fun {Q : Option Value → Shared → Prop} (q : Q none s) => try_dec (prog := prog) (w := w) (A := A) (E := E) d ho I.at_ hp (inst "tuple" (by simp)) (inst "list" (by simp)) q
  have ot : oneThing? op v (.ref x) = none := d.is.oneThing_none _ _
  unfold richCompare
  simp only [ot]
  refine wpAny_holding (wpAny_bind (wpAny_cRoomFor hu ?_))
  refine wpAny_bind (wpAny_typeOf d.is (wpAny_bind (I.type.here ?_)))
  rw [if_pos (by simp)]
  refine wpAny_bind ((sub T d.mem).here ?_)
  simp only [Bool.false_eq_true, if_false]
  refine wpAny_bind (left ?_)
  simp only [Bool.not_false, if_true]
  refine wpAny_bind (wpAny_mono one (fun r s' z => ?_) fun _ _ e => e)
  obtain ⟨v, rfl, hq⟩ := z
  exact wpAny_pure hq
end
section
variable {X : Cx} {k j : Nat} {c : Str} {sp : SpM}
/-- a plain value, by the abstract heap -/
inductive DT (K : PySem.W.Frag) (H : Hp) : V → String → Prop
  | non : DT K H .non "NoneType"
  | bl (b : Bool) : DT K H (.bl b) "bool"
  | int (i : Int) : DT K H (.int i) "int"
  | str (x : Str) : DT K H (.str x) "str"
  | lst {a : Addr} {xs : List V} (e : H a = some (.lst xs)) : DT K H (.ref a) "list"
  | tupF {a : Addr} {o : Obj} {xs : List V} (e : H a = some (.frz o (.tup xs))) : DT K H (.ref a) "tuple"
  | tupK {a : Addr} {o : Obj} (e : K.lookup a = some o) (c : o.cls = .type "tuple") : DT K H (.ref a) "tuple"
theorem DT.dv {pins : List (Addr × Obj)} {σ : L2.St} {H : Hp} {s : Shared} {x : V} {u : Value} {T : String} (I : Inv X pins σ H s) (rx : RelV x u) (d : DT X.K H x T) : DV s u T := by
  cases d with
  | non => cases (show u = Value.none from rx); exact .non
  | bl b => cases (show u = Value.bool b from rx); exact .bl b
  | int i => obtain ⟨t, rfl⟩ := (show ∃ t, u = Value.int i t from rx); exact .int i t
  | str i => obtain ⟨t, rfl⟩ := (show ∃ t, u = Value.str i t from rx); exact .str i t
  | @lst a xs ea =>
    cases (show u = Value.ref a from rx)
    have z := (show ObjOk X.prog X.w H s.heap a (.lst xs) from I.hok a _ ea)
    unfold ObjOk at z
    obtain ⟨_, its, n, _, h1⟩ := z
    exact .lst h1 rfl
  | @tupF a ob xs ea =>
    cases (show u = Value.ref a from rx)
    obtain ⟨_, _, _, _, o, h1, h2, _⟩ := (show ObjOk X.prog X.w H s.heap a (.frz ob (.tup xs)) from I.hok a _ ea)
    exact .tup h1 h2
  | @tupK a o e c =>
    cases (show u = Value.ref a from rx)
    exact .tup (I.kIn _ _ e) c
theorem in1_guards {A : Around} : A.in1.guards = A.guards := rfl
/-- a call, by a part of the machine below the running body -/
theorem run_inG {A : Around} {kk : Nat} {f : Addr} {fd : FuncData} {ps : List Str} {sp : Sp} {E : XK} {pins : List (Addr × Obj)} {σ : L2.St} {H : Hp} {s : Shared} {Q : VK} {us : List Value} {vs : List V} (hfr : A.frames = X.A.frames)
    (F : FnG X.prog X.w X.K X.mg X.base (L2N.CX X.prog X.w) kk f fd ps sp) (r : Rm kk A) (b : Binds X.K fd ps []) (hx : PassesAt (L2N.CX X.prog X.w) X σ E)
    (I : Inv X pins σ H s) (rv : Vals vs us) (h : sp vs H Q E) : wpAny (model X.prog X.w) A (call (.ref f) us) (EP X pins σ Q) X.xe s := by
  have n : us.length = ps.length := rv.length.symm.trans (F.len _ _ _ _ h)
  have bb := b s us I.kIn (by rw [List.append_nil]; exact n)
  rw [List.append_nil] at bb
  have e0 : Env0 X.prog X.w X.K X.mg X.base A X.stack s H := by
    have e := I.env0
    exact ⟨by rw [hfr]; exact e.frames, e.mod, e.bs, e.bsz, e.funs, e.frf, e.hok, e.bare⟩
  refine wpAny_call (codeAny_mono (F.run A X.stack s H ⟨us, []⟩ us vs Q E r e0 bb rv h) ?_)
  rintro (e | fl) s2 hq
  · exact hx pins H s e s2 I hq
  · cases fl with
    | ret u => exact I.after hq
    | next => exact hq.elim
    | brk => exact hq.elim
    | cont => exact hq.elim
/-- == (g the identity) or != (g not) of an instance and anything plain, on either side -/
def rCmpV (K : PySem.W.Frag) (C : Addr) (sp : Sp) (g : Bool → Bool) : R2 := fun x y H Q =>
  (∃ a dx fs, x = .ref a ∧ H a = some (.ins C dx fs) ∧ ((∃ b dy gs, y = .ref b ∧ H b = some (.ins C dy gs)) ∨ ∃ T, DT K H y T) ∧ sp [x, y] H (fun v H' => ∃ r, v = V.bl r ∧ Q (.bl (g r)) H') (fun _ _ _ => False)) ∨
  (∃ b dy gs T, y = .ref b ∧ H b = some (.ins C dy gs) ∧ DT K H x T ∧ sp [y, x] H (fun v H' => ∃ r, v = V.bl r ∧ Q (.bl (g r)) H') (fun _ _ _ => False))
theorem op_cmpV {op : CmpOp} {g : Bool → Bool} (ho : (op = .Eq ∧ g = id) ∨ (op = .NotEq ∧ g = not)) {C f : Addr} {fd : FuncData} {ps : List Str} {sp : Sp} (me : Meth X.K C "__eq__" f) (e : EqFC X.K C) (F : FnG X.prog X.w X.K X.mg X.base (L2N.CX X.prog X.w) k f fd ps sp) (b : Binds X.K fd ps []) (hr : Rm j X.A) (hk : k < j) : OpR X (compareOp op) (rCmpV X.K C sp g) := by
  intro pins s σ H x y v u Q I rx ry h
  have hop : op = .Eq ∨ op = .NotEq := ho.imp (·.1) (·.1)
  have goal : wpAny (model X.prog X.w) X.A (richCompare op v u) (EP X pins σ Q) X.xe s := ?_
  · rcases hop with rfl | rfl <;> exact goal
  have tk : L2N.Takes X (fun _ _ _ _ => False) := fun u s' ⟨_, _, _, _, _, _, _, _, _, _, _, _, _, _, _, _, w⟩ => w.elim
  have hu : X.A.units + 1 < cLine := by have := hr.un; omega
  have r1 : Rm (k + 1) X.A := hr.mono hk
  have rin : Rm k X.A.in1 := ⟨r1.toRoom.in1, r1.gd⟩
  have one : ∀ {a dx : Addr} {fs : List (Str × V)} {z : V} {zu : Value}, H a = some (.ins C dx fs) → RelV z zu → sp [.ref a, z] H (fun v H' => ∃ r, v = V.bl r ∧ Q (.bl (g r)) H') (fun _ _ _ => False) → ∀ od, PySem.W.InstAt s.heap a (PySem.W.instObj C dx) C od →
      wpAny (model X.prog X.w) X.A (tryCompare (.ref a) (cmpInfo op).2.1 zu) (fun r s' => ∃ v, r = some v ∧ EP X pins σ Q v s') X.xe s := by
    intro a dx fs z zu ha rz h od J
    rcases ho with ⟨rfl, rfl⟩ | ⟨rfl, rfl⟩
    · refine try_eq I.kIn J me.at_ me.fn (wpAny_mono (run_inG (E := fun _ _ _ => False) (us := [.ref a, zu]) (vs := [.ref a, z]) rfl F (hr.mono (Nat.le_of_lt hk)) b (L2N.passAt tk σ) I (.cons rfl (.cons rz .nil)) h) (fun w s' q => ?_) fun _ _ z => z)
      obtain ⟨v, H', I', rv, r, rfl, q⟩ := q
      cases rv
      exact ⟨r, rfl, _, rfl, .bl r, H', I', rfl, q⟩
    · refine try_ne hu I.kIn J e me.at_ me.fn (wpAny_mono (run_inG (E := fun _ _ _ => False) (us := [.ref a, zu]) (vs := [.ref a, z]) rfl F rin b (L2N.passAt tk σ) I (.cons rfl (.cons rz .nil)) h) (fun w s' q => ?_) fun _ _ z => z)
      obtain ⟨v, H', I', rv, r, rfl, q⟩ := q
      cases rv
      exact ⟨r, rfl, _, rfl, .bl (!r), H', I', rfl, q⟩
  rcases h with ⟨a, dx, fs, rfl, ha, hy, h⟩ | ⟨b', dy, gs, T, rfl, hb, hx, h⟩
  · cases rx
    obtain ⟨mA, J, _⟩ := ins_get I.hok ha
    obtain ⟨od, J, _⟩ := J.look
    rcases hy with ⟨b', dy, gs, rfl, hb⟩ | ⟨T, hy⟩
    · cases ry
      obtain ⟨mB, J', _⟩ := ins_get I.hok hb
      obtain ⟨od', J', _⟩ := J'.look
      exact cmp_left (by omega) I.kIn J J'.type (by simp [PySem.W.notFirst]) (one (z := .ref b') (zu := .ref b') ha rfl h _ J)
    · have d := hy.dv I ry
      have L : PySem.W.Looks (model X.prog X.w) s.heap (typeOf u) (.type T) := fun A Q E s' k q => wpAny_typeOf (d.keeps k).is q
      exact cmp_left (by omega) I.kIn J L (notF d.mem) (one ha ry h _ J)
  · cases ry
    obtain ⟨mA, J, _⟩ := ins_get I.hok hb
    obtain ⟨od, J, _⟩ := J.look
    refine cmp_right hop (hx.dv I rx) (by omega) I.kIn J rfl e ?_
    have := one hb rx h _ J
    rcases hop with rfl | rfl <;> exact this
/-- plain data -/
def plainD (h : MH) (d : D) : Prop := match d with | .non => True | .bl _ => True | .int _ => True | .str _ => True | .tup _ => True | .loc n => ∃ xs, h[n]? = some (.lst xs) | _ => False
def insD (h : MH) (c : Str) (d : D) : Prop := ∃ n fs, d = .loc n ∧ h[n]? = some (.ins c fs)
theorem plain_dt {K : PySem.W.Frag} {φ : List Addr} {h : MH} {H : Hp} (rh : RH K φ h H) {d : D} {v : V} (r : RD K φ H d v) (p : plainD h d) : ∃ T, DT K H v T := by
  cases r with
  | non => exact ⟨_, .non⟩
  | bl b => exact ⟨_, .bl b⟩
  | int i => exact ⟨_, .int i⟩
  | str i => exact ⟨_, .str i⟩
  | tup t rv =>
    rcases t with ⟨o, _, t⟩ | ⟨o, its, n, h1, _, h2, _⟩
    · exact ⟨_, .tupF t⟩
    · exact ⟨_, .tupK h1 h2⟩
  | pr t rv => exact p.elim
  | kls t rv => exact p.elim
  | loc e0 =>
    obtain ⟨xs, e⟩ := p
    obtain ⟨y, e1, rn⟩ := rh.get e0
    rw [e] at e1
    cases e1
    obtain ⟨vs, h1, _⟩ := rn
    exact ⟨_, .lst h1⟩
def oCmpV (c : Str) (sp : SpM) (g : Bool → Bool) : MO := fun x y h Q =>
  (insD h c x ∧ (insD h c y ∨ plainD h y) ∧ sp [x, y] h (fun d h' => ∃ b, d = .bl b ∧ Q (.bl (g b)) h') (fun _ _ => False)) ∨
  (insD h c y ∧ plainD h x ∧ sp [y, x] h (fun d h' => ∃ b, d = .bl b ∧ Q (.bl (g b)) h') (fun _ _ => False))
theorem o_cmpV {op : CmpOp} {g : Bool → Bool} (ho : (op = .Eq ∧ g = id) ∨ (op = .NotEq ∧ g = not)) (cc : Mt X.prog X.w X.K X.mg X.base k c "__eq__" sp) (e : EqFC X.K (He.ga X.K c)) (hr : Rm j X.A) (hk : k < j) : OpC X (compareOp op) (oCmpV c sp g) := by
  obtain ⟨f, fd, ps, cl, me, F, b⟩ := cc.ex
  refine ⟨_, op_cmpV ho me e F b hr hk, fun φ h H dx dy x y Qm Q rh rx ry m ok => ?_⟩
  have insd : ∀ {d : D} {v : V}, RD X.K φ H d v → insD h c d → ∃ a dx fs, v = .ref a ∧ H a = some (.ins (He.ga X.K c) dx fs) := by
    rintro d v r ⟨n, fs, rfl, g1⟩
    cases r with
    | loc e0 =>
      obtain ⟨d1, vs, a1, a2⟩ := rh.at_ _ _ _ e0 g1
      exact ⟨_, _, _, rfl, a1⟩
  have fin : ∀ {d1 d2 : D} {v1 v2 : V}, RD X.K φ H d1 v1 → RD X.K φ H d2 v2 → sp [d1, d2] h (fun d h' => ∃ b, d = .bl b ∧ Qm (.bl (g b)) h') (fun _ _ => False) → up X.K sp [v1, v2] H (fun v H' => ∃ r, v = V.bl r ∧ Q (.bl (g r)) H') (fun _ _ _ => False) :=
    fun r1 r2 m => ⟨φ, h, _, _, _, rh, .cons r1 (.cons r2 .nil), m, fun φ' h' H' d v e1 rh' rd q => by
      obtain ⟨bb, rfl, q⟩ := q
      cases rd
      exact ⟨bb, rfl, ok _ _ _ _ _ e1 rh' (.bl _) q⟩, fun _ _ _ _ _ _ _ _ _ z => z.elim⟩
  rcases m with ⟨i1, i2, m⟩ | ⟨i1, i2, m⟩
  · obtain ⟨a, d1, fs, rfl, ha⟩ := insd rx i1
    refine .inl ⟨a, d1, fs, rfl, ha, ?_, fin rx ry m⟩
    rcases i2 with i2 | i2
    · exact .inl (insd ry i2)
    · exact .inr (plain_dt rh ry i2)
  · obtain ⟨a, d1, fs, rfl, ha⟩ := insd ry i1
    obtain ⟨T, dt⟩ := plain_dt rh rx i2
    exact .inr ⟨a, d1, fs, T, rfl, ha, dt, fin ry rx m⟩
/-- isinstance(x, C), x anything plain or of the class -/
abbrev mIsCV (c : Str) (m : ME) : ME := fun ρ h Q E => m ρ h (fun d h1 => (insD h1 c d ∧ Q (.bl true) h1) ∨ (plainD h1 d ∧ Q (.bl false) h1)) E
theorem DT.tyx {K : PySem.W.Frag} {H : Hp} {v : V} {T : String} (d : DT K H v T) : TyX K H v (.type T) := by
  cases d with
  | non => exact .base .non
  | bl b => exact .base (.bl b)
  | int b => exact .base (.int b)
  | str b => exact .base (.str b)
  | lst e => exact .base (.lst e)
  | tupF e => exact .fTuple e
  | tupK e c => exact .kTuple e c
theorem DT.mem {K : PySem.W.Frag} {H : Hp} {v : V} {T : String} (d : DT K H v T) : T ∈ (["NoneType", "bool", "int", "str", "tuple", "list"] : List String) := by
  cases d <;> decide
theorem ce_isCV {W : Wz} {e : Expr} {m : ME} {p pc pos : Pos} (ic : InsC X.K (He.ga X.K c)) (ec : EqFC X.K (He.ga X.K c)) (he : CE X W e m) (hg : Gl X "isinstance") (hm : X.mg "isinstance" = none) (hm2 : X.mg c = some (.ref (He.ga X.K c))) (hg2 : Gl X c := by rfl) (hd2 : (c == ("__debug__" : Str)) = false := by decide)
    (h1 : starEach [e, .Name c pc] X.env = (false, eval e X.env) :: starEach [.Name c pc] X.env := by rfl) (h2 : starEach [.Name c pc] X.env = (false, eval (.Name c pc) X.env) :: starEach [] X.env := by rfl)
    (h3 : (backTo pos (starEach [.Name c pc] X.env)).any (·.1) = false := by rfl) :
    CE X W (.Call (.Name "isinstance" p) [e, .Name c pc] [] pos) (mIsCV c m) :=
  .of (pe_callB call_isi hg hm (by decide +kernel) (pa_cons cE.pe (pa_cons (pe_glob (v := .ref (He.ga X.K c)) hg2 hm2 rfl hd2) pa_nil h2) h1) (by decide) (by decide) h1 h3) fun φ ρ σ h H Qm Q Xm rh rs q ok ox =>
  he.sim φ ρ σ h H _ _ _ rh rs q (fun φ1 h1 H1 d v e1 rh1 rx q1 => by
    rcases q1 with ⟨⟨n, fs, rfl, g1⟩, q1⟩ | ⟨p1, q1⟩
    · cases rx with
      | loc e0 =>
        obtain ⟨dx, vs, a1, a2⟩ := rh1.at_ _ _ _ e0 g1
        exact ⟨_, .ref (He.ga X.K c), _, _, true, rfl, .own _, .base (.ins a1 ic.cl ic.ha ic.hn ic.htk ic.hm), ic.kt, ok _ _ _ _ _ e1 rh1 (.bl _) q1⟩
    · obtain ⟨T, dt⟩ := plain_dt rh1 rx p1
      exact ⟨_, .ref (He.ga X.K c), _, _, false, rfl, .own _, dt.tyx, ec.kt T dt.mem, ok _ _ _ _ _ e1 rh1 (.bl _) q1⟩) ox
end
end L3

/-! dict(d); list.remove of what is there; t[:0:-1] of a tuple of three or four -/
namespace L3
open PySem PySem.Spec PyProof.Rows L2
section
variable {X : Cx} {W : Wz} {o e a b : Expr} {es : List Expr} {pos : Pos}
abbrev bDict : MB := fun ds h Q => match ds with
  | [.loc n] => (match h[n]? with | some (.dic kvs) => Q (.loc h.length) (h ++ [.dic kvs]) | _ => False)
  | _ => False
theorem b_dict : BC X (.type "dict") bDict := ⟨_, call_dictD, fun φ h H ds vs Qm Q rh r m ok => by
  unfold bDict at m
  split at m
  · obtain ⟨v, rfl, r1⟩ := r.one
    cases r1 with
    | loc e0 =>
      split at m
      · rename_i kvs e1
        obtain ⟨us, h1, rk⟩ := rh.at_ _ _ _ e0 e1
        refine ⟨_, us, rfl, .inl h1, fun l hl => ?_⟩
        obtain ⟨r3, x3, rd⟩ := push_dic rh hl rk
        exact ok _ _ _ _ _ x3 r3 rd m
      · exact m.elim
  · exact m.elim⟩
def rRemI : V → List V → Hp → VK → Prop := fun x vs H Q => ∃ (a : Addr) (ys : List V) (y : V) (j : Nat) (z : V), x = .ref a ∧ vs = [y] ∧ H a = some (.lst ys) ∧ flatV y = true ∧ ys.all flatV = true ∧ ys[j]? = some z ∧ eqV z y = true ∧
  (∀ (m : Nat) (z' : V), m < j → ys[m]? = some z' → eqV z' y = false) ∧ Q .non (upd H a (.lst (ys.eraseIdx j)))
theorem mt_remI : MtR X "list.remove" rRemI := by
  intro pins s σ H x xs v us Q I rx rxs h
  obtain ⟨a, ys, y, j, z, rfl, rfl, hs, fy, fys, hz, hzj, hno, q⟩ := h
  cases rx
  cases rxs with
  | cons ry rt =>
    rename_i uy ut
    cases rt
    obtain ⟨zz, its, n, rv, hl, e0⟩ := I.lstM hs
    obtain ⟨u, hu, ru⟩ := rv.get hz
    obtain ⟨hjl, hje⟩ := List.getElem?_eq_some_iff.mp hu
    have hvl := rv.length
    have hj : j < its.toArray.size := by simpa using hjl
    have hsl := sizeLine_eq
    refine call_meets PySem.F.slot_list_remove ⟨_, e0, rfl⟩ PySem.F.entry_list_remove (PySem.F.args_list_remove_2 _ _)
      (MeetsSeq.list_remove a its.toArray n uy (eqU y) (fun u' hu' prog w A E s Q q => mem_eqAt (A := A) (s := s) ry fy rv fys u' (by simpa using hu') prog w E Q q) j hj ?_ ?_ (by rw [List.size_toArray]; omega)) ⟨e0, ?_⟩
    · have e1 : its.toArray[j] = u := by simpa using hje
      rw [e1, eqU_of ru (flat_at fys hz)]
      exact hzj
    · intro m hm hmj
      have hml : m < its.length := by simpa using hm
      have hmy : m < ys.length := by omega
      have hy' : ys[m]? = some ys[m] := List.getElem?_eq_getElem hmy
      obtain ⟨u2, hu2, ru2⟩ := rv.get hy'
      obtain ⟨_, hme⟩ := List.getElem?_eq_some_iff.mp hu2
      have e1 : its.toArray[m] = u2 := by simpa using hme
      rw [e1, eqU_of ru2 (flat_at fys hy')]
      exact hno m _ hmj hy'
    · refine ⟨.non, _, I.lset (its' := its.eraseIdx j) hs e0 ?_ (rv.eraseIdx j) ?_, rfl, q⟩
      · show its.toArray.eraseIdxIfInBounds j = (its.eraseIdx j).toArray
        rw [List.eraseIdxIfInBounds_toArray]
      · have := List.length_eraseIdx_le ys j
        omega
abbrev mmRemove : MM := fun d ds h Q => match d, ds with | .loc n, [y] => wrAt h n fun xs => flatD y = true ∧ xs.all flatD = true ∧ (match idxF y xs with | some j => Q .non (h.set n (.lst (xs.eraseIdx j))) | none => False) | _, _ => False
theorem RDs.eraseIdx {K : PySem.W.Frag} {φ : List Addr} {H : Hp} : ∀ {ds : List D} {vs : List V} (j : Nat), RDs K φ H ds vs → RDs K φ H (ds.eraseIdx j) (vs.eraseIdx j)
  | _, _, _, .nil => .nil
  | _, _, 0, .cons r t => t
  | _, _, j + 1, .cons r t => .cons r (RDs.eraseIdx j t)
theorem m_remove {K : PySem.W.Frag} : MMr K rRemI mmRemove := fun φ h H d ds v vs Qm Q rh rx rv m ok => by
  unfold mmRemove at m
  split at m
  · cases rx with
    | loc e0 =>
      rename_i n y _
      obtain ⟨u, rfl, ru⟩ := rv.one
      obtain ⟨xs, vs, h1, r, q⟩ := rh.wrL e0 m
      obtain ⟨q1, q2, q3⟩ := q
      split at q3
      · rename_i j ej
        obtain ⟨hl, h3, h2⟩ := List.findIdx?_eq_some_iff_getElem.mp ej
        obtain ⟨z, hz, rz⟩ := r.at_ (List.getElem?_eq_getElem hl)
        obtain ⟨rh2, x2⟩ := rh.chgL e0 (r.eraseIdx j)
        refine ⟨_, vs, u, j, z, rfl, rfl, h1, by rw [flat_rel ru]; exact q1, by rw [flats_rel r]; exact q2, hz, by rw [eqF_rel rz ru]; exact h3, fun m z' hm hz' => ?_, ok _ _ _ _ _ x2 rh2 .non q3⟩
        have hm2 : m < xs.length := Nat.lt_trans hm hl
        obtain ⟨z2, hz2, rz2⟩ := r.at_ (List.getElem?_eq_getElem hm2)
        rw [hz'] at hz2
        cases hz2
        rw [eqF_rel rz2 ru]
        have := h2 m hm
        simpa using this
      · exact q3.elim
  · exact m.elim
theorem ce_remove {apos cpos : Pos} {mo : ME} {ma : MA} (ho : CE X W o mo) (ha : CA X W (e :: es) ma)
    (hbase : attributeBase o "remove" X.env (eval o X.env) = eval o X.env := by rfl)
    (hfew : ((backTo cpos (starEach (e :: es) X.env)).all (fun x => !x.1) && (backToKw cpos (keywordEach [] X.env)).all (fun x => x.1.isSome)
      && decide ((e :: es).length + ([] : List Keyword).length + (if ([] : List Keyword).isEmpty then 0 else 1) < 30)) = true := by rfl)
    (hline : (apos.endLine == cpos.line) = true := by rfl) (hs : starEach (e :: es) X.env = (false, eval e X.env) :: starEach es X.env := by rfl) (hplain : (backTo cpos (starEach es X.env)).any (·.1) = false := by rfl) :
    CE X W (.Call (.Attribute o "remove" apos) (e :: es) [] cpos) (mBM mmRemove mo ma) := ce_bm PySem.F.slot_list_remove PySem.F.type_list_remove mt_remI m_remove ho ha hbase hfew hline hs hplain
end
end L3
namespace HT
open PySem PySem.Spec PyProof.Rows
section
variable {prog : Program} {w : World} {A : Around} {E : Value → Shared → Prop} {s : Shared}
theorem applied_tail {sl : Addr} {vl vu vs : Value} {n : Nat} {Q : Int × Int × Nat → Shared → Prop} (hn : n = 3 ∨ n = 4) (hs : s.heap.IsSliceOf sl vl vu vs) (pl : IsPart vl none) (pu : IsPart vu (some 0)) (ps : IsPart vs (some (-1)))
    (h : Q (((n - 1 : Nat) : Int), -1, n - 1) s) : wpAny (model prog w) A (Builtin.Slice.sliceApplied (.ref sl) (pure (n : Int))) Q E s := by
  obtain ⟨os, hos, hcs, hds⟩ := id hs
  unfold Builtin.Slice.sliceApplied Builtin.Slice.sliceFields
  refine wpAny_bind (wpAny_bind (wpAny_field hos hds (x := vl) rfl (wpAny_bind (wpAny_field hos hds (x := vu) rfl (wpAny_bind (wpAny_field hos hds (x := vs) rfl (wpAny_pure ?_)))))))
  refine wpAny_bind (slicePart_ ps ?_)
  show wpAny _ _ (if ((-1 : Int) == 0) = true then _ else _) _ _ s
  rw [if_neg (by decide)]
  refine wpAny_bind (slicePart_ pl (wpAny_bind (slicePart_ pu (wpAny_bind (wpAny_pure ?_)))))
  rcases hn with rfl | rfl
  · exact wpAny_pure h
  · exact wpAny_pure h
theorem getItem_tail {t sl : Addr} {items : List Value} {vl vu vs : Value} {Q : Value → Shared → Prop} (hl : items.length = 3 ∨ items.length = 4) (ht : IsTup s.heap t items.toArray) (hs : s.heap.IsSliceOf sl vl vu vs) (pl : IsPart vl none) (pu : IsPart vu (some 0)) (ps : IsPart vs (some (-1)))
    (h : Q (.ref s.heap.objs.size) { s with heap := s.heap.push { cls := .type "tuple", data := .seq (items.drop 1).reverse.toArray } }) : wpAny (model prog w) A (getItem (.ref t) (.ref sl)) Q E s := by
  obtain ⟨os, hos, hcs, hds⟩ := id hs
  have hTs : s.TypeIs (.ref sl) "slice" := ⟨os, hos, hcs⟩
  unfold getItem
  try with_reducible refine wpAny_holding ?_
  first | refine wpAny_bind (wpAny_pure ?_) | skip
  refine wpAny_bind (wpAny_sequenceKey ht.typeIs (by decide) ?_)
  refine wpAny_bind (wpAny_callSpecial?_slot (name := Str.ofString "__getitem__") ht.typeIs PyProof.Rows.slot_tuple_getitem
    (wpAny_call_entry PyProof.Rows.slot_tuple_getitem ht.typeIs entry_tuple_getitem ?_ (args_tuple_getitem _ _)))
  show wpAny _ _ (Builtin.Tuple.tupleItemsOf (.ref t) >>= _) _ _ s
  refine wpAny_bind (tupleItemsOf_ ht ?_)
  refine wpAny_bind (wpAny_typeOf hTs ?_)
  rw [if_pos (by decide)]
  refine wpAny_bind (applied_tail (n := items.length) hl hs pl pu ps ?_)
  rcases hl with hl | hl
  · obtain ⟨x, y, z, rfl⟩ : ∃ x y z, items = [x, y, z] := by
      match items, hl with
      | [x, y, z], _ => exact ⟨x, y, z, rfl⟩
    have htake : sizeOk (.seq #[z, y]) := by
      show 2 ≤ sizeLine
      decide
    show wpAny _ _ (if ((2 : Int) == 0 && (-1 : Int) == 1 && (2 : Nat) == 3) = true then _ else _) _ _ s
    rw [if_neg (by decide)]
    first
      | exact wpAny_bind (m := Builtin.Tuple.tupleExact _) (wpAny_newObj_type (wpAny_pure ⟨_, rfl, wpAny_pure h⟩) htake)
      | exact wpAny_bind (m := Builtin.Tuple.tupleExact _) (wpAny_newObj_type (wpAny_bind (wpAny_pure (wpAny_pure ⟨_, rfl, wpAny_pure h⟩))) htake)
      | exact wpAny_bind (wpAny_bind (m := Builtin.Tuple.tupleExact _) (wpAny_newObj_type (wpAny_pure (wpAny_pure ⟨_, rfl, wpAny_pure h⟩)) htake))
      | exact wpAny_bind (wpAny_bind (m := Builtin.Tuple.tupleExact _) (wpAny_newObj_type (wpAny_pure ⟨_, rfl, wpAny_pure h⟩) htake))
  · obtain ⟨x, y, z, v, rfl⟩ : ∃ x y z v, items = [x, y, z, v] := by
      match items, hl with
      | [x, y, z, v], _ => exact ⟨x, y, z, v, rfl⟩
    have htake : sizeOk (.seq #[v, z, y]) := by
      show 3 ≤ sizeLine
      decide
    show wpAny _ _ (if ((3 : Int) == 0 && (-1 : Int) == 1 && (3 : Nat) == 4) = true then _ else _) _ _ s
    rw [if_neg (by decide)]
    first
      | exact wpAny_bind (m := Builtin.Tuple.tupleExact _) (wpAny_newObj_type (wpAny_pure ⟨_, rfl, wpAny_pure h⟩) htake)
      | exact wpAny_bind (m := Builtin.Tuple.tupleExact _) (wpAny_newObj_type (wpAny_bind (wpAny_pure (wpAny_pure ⟨_, rfl, wpAny_pure h⟩))) htake)
      | exact wpAny_bind (wpAny_bind (m := Builtin.Tuple.tupleExact _) (wpAny_newObj_type (wpAny_pure (wpAny_pure ⟨_, rfl, wpAny_pure h⟩)) htake))
      | exact wpAny_bind (wpAny_bind (m := Builtin.Tuple.tupleExact _) (wpAny_newObj_type (wpAny_pure ⟨_, rfl, wpAny_pure h⟩) htake))
end
end HT
namespace L3
open PySem PySem.Spec PyProof.Rows L2
section
variable {X : Cx} {W : Wz} {pos : Pos} {a : Expr}
theorem vals_rev : ∀ {xs : List V} {us : List Value}, Vals xs us → Vals xs.reverse us.reverse
  | _, _, .nil => .nil
  | _, _, .cons r t => by
    rw [List.reverse_cons, List.reverse_cons]
    exact (vals_rev t).append (.cons r .nil)
def tTail (K : PySem.W.Frag) (te : TE) : TE := fun τ J R => te τ J fun x J1 => ∃ a xs, x = .ref a ∧ SqT K J1 a xs ∧ (xs.length = 3 ∨ xs.length = 4) ∧ NewG J1 (xs.drop 1).reverse R
theorem pe_tail {e : Expr} {te : TE} {k k0 : Nat} {p0 p1 p2 p3 pos : Pos} (he : PE X e te) : PE X (.Subscript e (.Slice none (some (.Constant (.int 0) k0 p0)) (some (.UnaryOp .USub (.Constant (.int 1) k p1) p2)) p3) pos) (tTail X.K te) := by
  refine ⟨fun pn s σ H Q I h => ?_⟩
  refine Subscript_ (thn (he.run pn s σ H _ I h) fun v s1 ⟨x, H1, I1, r1, a, xs, ex, hx, hl, q⟩ => ?_)
  subst ex
  cases r1
  have hst : PO X (some (.UnaryOp .USub (.Constant (.int 1) k p1) p2)) (tPart (tUn (rU fun i => .int (-i)) (tC (.int 1)))) := po_some (pe_un un_neg pe_int)
  have h0t : PO X (some (.Constant (.int 0) k0 p0)) (tPart (tC (.int 0))) := po_some pe_int
  refine wpAny_Slice (thn (po_none.run pn s1 σ H1 (fun o H2 => o = none ∧ H2 = H1) I1 ⟨rfl, rfl⟩) fun vl s2 ⟨l, H2, I2, pl, el, e2⟩ => ?_)
  subst el e2
  refine thn (h0t.run pn s2 σ H2 (fun o H3 => o = some 0 ∧ H3 = H2) I2 ⟨0, rfl, rfl, rfl⟩) fun vu s3 ⟨u, H3, I3, pu, eu, e3⟩ => ?_
  subst eu e3
  refine thn (hst.run pn s3 σ H3 (fun o H4 => o = some (-1) ∧ H4 = H3) I3 ⟨1, rfl, -1, rfl, rfl, rfl⟩) fun vs s4 ⟨o, H4, I4, ps, eo, e4⟩ => ?_
  subst eo e4
  have I5 : Inv X pn σ H4 { s4 with heap := s4.heap.push { cls := .type "slice", data := .fields #[vl, vu, vs] } } := I4.kept (t' := s4.toks) fun b ob q => Heap.get?_push_of_some _ q
  obtain ⟨its, r, ht, hz⟩ := I5.tuple hx
  show wpAny (model X.prog X.w) X.A (subscriptTail e (.Slice none (some (.Constant (.int 0) k0 p0)) (some (.UnaryOp .USub (.Constant (.int 1) k p1) p2)) p3) (.ref a) (.ref s4.heap.objs.size)) (EP X pn σ Q) X.xe { s4 with heap := s4.heap.push { cls := .type "slice", data := .fields #[vl, vu, vs] } }
  refine tail_any (ops := [.ref a, .ref s4.heap.objs.size]) ht.typeIs (PyProof.Rows.slot_tuple_getitem.lookup) ?_ (by with_unfolding_all rfl)
  refine HT.getItem_tail (by rw [← r.length]; exact hl) ht (Heap.IsSliceOf.new _ vl vu vs) pl pu ps ?_
  have rr : Vals (xs.drop 1).reverse (its.drop 1).reverse := vals_rev (r.drop 1)
  have lz : (xs.drop 1).reverse.length ≤ sizeLine := by
    rw [List.length_reverse, List.length_drop]
    rcases hl with hl | hl <;> rw [hl] <;> decide
  exact made_tup I5 rr lz q
abbrev mTail (m : ME) : ME := fun ρ h Q E => m ρ h (fun d h1 => match d with
  | .tup xs => (xs.length = 3 ∨ xs.length = 4) ∧ Q (.tup (xs.drop 1).reverse) h1
  | _ => False) E
theorem ce_tail {m : ME} {k k0 : Nat} {p0 p1 p2 p3 : Pos} (ha : CE X W a m) : CE X W (.Subscript a (.Slice none (some (.Constant (.int 0) k0 p0)) (some (.UnaryOp .USub (.Constant (.int 1) k p1) p2)) p3) pos) (mTail m) :=
  .of (pe_tail cE.pe) fun φ ρ σ h H Qm Q Xm rh rs m ok ox => ha.sim φ ρ σ h H _ _ _ rh rs m (fun φ1 h1 H1 d v e1 rh1 r1 q1 => by
    split at q1
    · cases r1 with
      | tup t r =>
        exact ⟨_, _, rfl, t.sq, by rw [← r.len]; exact q1.1, newG_of rh1 ((r.drop 1).rev) (ok.to e1) q1.2⟩
    · exact q1.elim) ox
end
end L3

/-! texts: letters, names -/
namespace My
open PySem PySem.Spec PyProof.Rows L2 SX
theorem small400 {n : Int} (h : n.natAbs < 2 ^ 100) : n.natAbs < 2 ^ 400 := Nat.lt_of_lt_of_le h (Nat.pow_le_pow_right (by decide) (by decide))
theorem join_letters (ls : List Nat) : Txt.join ("" : Str) (ls.map fun c => S [c]) = S ls := by
  have e : ls.map (fun c => S [c]) = (ls.map fun c => [c]).map S := by rw [List.map_map]; rfl
  rw [show ("" : Str) = S [] from by decide +kernel, e, join_S, join0]
  congr 1
  induction ls with
  | nil => rfl
  | cons c r ih =>
    rw [List.map_cons, List.flatten_cons, ih (by rw [List.map_map]; rfl)]
    rfl
theorem lens_letters (ls : List Nat) : ((ls.map fun c => S [c]).map (·.length)).sum = ls.length := by
  induction ls with
  | nil => rfl
  | cons c r ih =>
    rw [List.map_cons, List.map_cons, List.sum_cons, ih, len_S]
    show 1 + r.length = r.length + 1
    omega
def lastC (s : Str) : Nat := s.cps.toList.getLastD 0
theorem last_S (l : List Nat) (c : Nat) : lastC (S (l ++ [c])) = c := by
  show (l ++ [c]).getLastD 0 = c
  rw [List.getLastD_concat]
theorem sub_len : ∀ {l m : List Nat}, l.Nodup → (∀ x ∈ l, x ∈ m) → l.length ≤ m.length
  | [], _, _, _ => Nat.zero_le _
  | x :: r, m, nd, h => by
    obtain ⟨n1, n2⟩ := List.nodup_cons.mp nd
    have hx := h x (List.mem_cons_self ..)
    have i := sub_len (m := m.erase x) n2 fun y hy => by
      have ne : y ≠ x := fun e => n1 (by rw [← e]; exact hy)
      rw [List.mem_erase_of_ne ne]
      exact h y (List.mem_cons_of_mem _ hy)
    rw [List.length_erase_of_mem hx] at i
    have p : 0 < m.length := List.length_pos_of_mem hx
    rw [List.length_cons]
    omega
theorem eight {ss : List Str} (h : ∀ j, j < 8 → ∃ t ∈ ss, lastC t = 97 + j) : 8 ≤ ss.length := by
  have e := sub_len (l := (List.range 8).map (97 + ·)) (m := ss.map lastC) (by decide) fun x hx => by
    obtain ⟨j, hj, rfl⟩ := List.mem_map.mp hx
    obtain ⟨t, ht, e⟩ := h j (List.mem_range.mp hj)
    exact List.mem_map.mpr ⟨t, ht, e⟩
  rw [List.length_map, List.length_map, List.length_range] at e
  exact e
theorem nine_eq : ("abcdefghi" : Str).cps = ((List.range 9).map (97 + ·)).toArray := by decide +kernel
/-- the name as it is behind i letters of the walk -/
def Tried (ss : List Str) (i : Nat) (s : Str) : Prop := IsName s ∧ (s ∈ ss → (1 ≤ i → lastC s = 96 + i) ∧ ∀ j, j + 1 < i → ∃ t ∈ ss, lastC t = 97 + j)
theorem tried0 {ss : List Str} {s : Str} (h : IsName s) : Tried ss 0 s := ⟨h, fun _ => ⟨fun z => absurd z (by decide), fun j z => absurd z (by omega)⟩⟩
theorem tried9 {ss : List Str} {s : Str} (h : Tried ss 9 s) (hl : ss.length ≤ 7) : s ∉ ss := fun hm => by
  obtain ⟨h1, h2⟩ := h.2 hm
  have := eight (ss := ss) fun j hj => h2 j (by omega)
  omega
theorem tried_stays {ss : List Str} {i : Nat} {s : Str} (h : Tried ss i s) (hn : s ∉ ss) : Tried ss (i + 1) s := ⟨h.1, fun z => absurd z hn⟩
theorem tried_next {ss : List Str} {i : Nat} {w : List Nat} (h : Tried ss i (S w)) (hm : S w ∈ ss) (hi : i < 9) : Tried ss (i + 1) (S (w.take 7 ++ [97 + i])) := by
  obtain ⟨hn, h2⟩ := h
  obtain ⟨w', e, h1, h8, lw⟩ := hn
  have e := S_inj e
  subst e
  refine ⟨⟨_, rfl, by rw [List.length_append, List.length_singleton]; omega, by rw [List.length_append, List.length_singleton, List.length_take]; omega, fun c hc => ?_⟩, fun _ => ⟨fun _ => by rw [last_S]; omega, fun j hj => ?_⟩⟩
  · rcases List.mem_append.mp hc with hc | hc
    · exact lw c (List.mem_of_mem_take hc)
    · rw [List.mem_singleton.mp hc]
      unfold Low
      omega
  · obtain ⟨a1, a2⟩ := h2 hm
    by_cases q : j + 1 < i
    · exact a2 j q
    · exact ⟨S w, hm, by rw [a1 (by omega)]; omega⟩
end My

/-! small things for every law: rows of texts, ranges, indices -/
namespace My
open PySem PySem.Spec PyProof.Rows L2 SX L3
theorem smallI {z : Int} (h : z.natAbs < 1000000000) : z.natAbs < 2 ^ 400 := Nat.lt_of_lt_of_le (show z.natAbs < 2 ^ 30 by omega) (Nat.pow_le_pow_right (by decide) (by decide))
theorem small400' {n : Nat} (h : n < 1000000000) : (n : Int).natAbs < 2 ^ 400 := Nat.lt_of_lt_of_le (show (n : Int).natAbs < 2 ^ 30 by omega) (Nat.pow_le_pow_right (by decide) (by decide))
theorem at_in {xs : List D} {r : Int} (r0 : 0 ≤ r) (r1 : r < xs.length) : ∃ d, atI xs r = some d ∧ d ∈ xs := by
  refine ⟨xs[r.toNat]'(by omega), ?_, List.getElem_mem _⟩
  unfold atI ixN
  rw [if_pos r0, if_pos (by omega)]
  simp
theorem atI_get {xs : List D} {i : Nat} {d : D} (e : xs[i]? = some d) : atI xs (i : Int) = some d := atI_nat e
theorem at_get {xs : List D} {i : Nat} {d : D} (e : xs[i]? = some d) : atI xs (0 + (i : Nat)) = some d := by
  rw [Int.zero_add]
  exact atI_nat e
theorem rng_at {lo : Int} {n i : Nat} {d : D} (e : (rngD lo n)[i]? = some d) : i < n ∧ d = .int (lo + (i : Nat)) := by
  obtain ⟨z1, z2⟩ := List.getElem?_eq_some_iff.mp e
  rw [rngD_len] at z1
  refine ⟨z1, ?_⟩
  rw [← z2]
  simp [rngD]
theorem all_id (n : Nat) : (List.replicate n true).all id = true := by
  induction n with
  | zero => rfl
  | succ n ih => rw [List.replicate_succ, List.all_cons, ih]; rfl
theorem all_id_map {α : Type} (f : α → Bool) : ∀ l : List α, (l.map f).all id = l.all f
  | [] => rfl
  | x :: r => by rw [List.map_cons, List.all_cons, List.all_cons, all_id_map f r]; rfl
theorem toL (u : List Nat) : (S u).cps.toList = u := by simp [S]
/-- a number of a cell is that of a list -/
def Cmp (h : MH) (d : D) : Prop := flatD d = true ∨ ∃ e, d.pyH h = some e ∧ SeqAt.shaped e = true
theorem eqF_str (s t : Str) : eqF (.str s) (.str t) = decide (s = t) := by
  show (s == t) = decide (s = t)
  rw [Bool.eq_iff_iff, decide_eq_true_iff]
  exact beq_iff_eq
theorem flat_strsD : ∀ ss : List Str, (ss.map D.str).all flatD = true
  | [] => rfl
  | x :: xs => by rw [List.map_cons, List.all_cons, flat_strsD xs]; rfl
theorem inF_strs (s : Str) : ∀ ss : List Str, inF (.str s) (ss.map D.str) = decide (s ∈ ss)
  | [] => by simp [inF]
  | x :: xs => by
    have i := inF_strs s xs
    unfold inF at i ⊢
    rw [List.map_cons, List.any_cons, i, eqF_str]
    by_cases e : x = s
    · simp [e]
    · have : ¬ s = x := fun z => e z.symm
      simp [e, this]
theorem inK_strs {h : MH} {s : Str} {ss : List Str} {k : Bool → Prop} (q : k (decide (s ∈ ss))) : inK h (.str s) (ss.map D.str) k := .inl ⟨rfl, flat_strsD ss, by rw [inF_strs]; exact q⟩
def isS (d : D) (ss : List Str) : Bool := match d with | .str s => decide (s ∈ ss) | _ => false
theorem pys_strs : ∀ ss : List Str, D.pys (ss.map D.str) = some (ss.map PyData.str)
  | [] => rfl
  | s :: r => by
    rw [List.map_cons]
    unfold D.pys
    rw [pys_strs r]
    rfl
theorem any_strs {e : PyData} (he : ∀ s, e ≠ .str s) : ∀ ss : List Str, ((ss.map PyData.str).any fun z => PyData.eqv z e) = false
  | [] => rfl
  | s :: r => by
    rw [List.map_cons, List.any_cons, any_strs he r]
    cases e <;> first | rfl | exact absurd rfl (he _)
def StrOk (ss : List Str) : Prop := ∀ s ∈ ss, PyData.strOk s = true
theorem name_ok {s : Str} (h : IsName s) : PyData.strOk s = true := by
  obtain ⟨l, rfl, _, _, hl⟩ := h
  unfold PyData.strOk
  show (l.toArray).all _ = true
  rw [List.all_toArray, List.all_eq_true]
  intro c hc
  have := hl c hc
  unfold Low at this
  exact decide_eq_true (by omega)
theorem canLay_strs : ∀ {ss : List Str}, StrOk ss → PyData.canLayAll0 (ss.map PyData.str) = true
  | [], _ => by simp [PyData.canLayAll0]
  | s :: r, h => by simp [PyData.canLayAll0, PyData.canLay0, canLay_strs (ss := r) (fun s hs => h s (List.mem_cons_of_mem _ hs)), h s (List.mem_cons_self ..)]
theorem depth_strs : ∀ ss : List Str, PyData.depthAll (ss.map PyData.str) ≤ 1
  | [] => by simp [PyData.depthAll]
  | s :: r => by
    have := depth_strs r
    simp [PyData.depthAll, PyData.depth]
    omega
theorem shaped_strs {ss : List Str} (h : StrOk ss) : SeqAt.shaped (.list (ss.map PyData.str)) = true ∧ SeqAt.shaped (.tuple (ss.map PyData.str)) = true := by
  have := depth_strs ss
  constructor <;> (unfold SeqAt.shaped; rw [Bool.and_eq_true]; refine ⟨by simp [PyData.canLay0, canLay_strs h], decide_eq_true ?_⟩; simp [PyData.depth]; omega)
theorem inF_no {d : D} (hd : ∀ s, eqF (.str s) d = false) : ∀ ss : List Str, inF d (ss.map D.str) = false
  | [] => rfl
  | x :: r => by
    have i := inF_no hd r
    unfold inF at i ⊢
    rw [List.map_cons, List.any_cons, i, hd x]
    rfl
theorem py_str {h : MH} {d : D} {s : Str} (e : d.pyH h = some (.str s)) : d = .str s := by
  cases d with
  | str t => cases e; rfl
  | non => cases e
  | bl b => cases e
  | int b => cases e
  | tup ds =>
    have e : (match D.pys ds with | some es => some (PyData.tuple es) | none => none) = some (.str s) := e
    split at e <;> cases e
  | kls ds =>
    have e : (match D.pys ds with | some es => some (PyData.list es) | none => none) = some (.str s) := e
    split at e <;> cases e
  | pr ds => cases e
  | loc n =>
    have e : (match h[n]? with | some (.lst ds) => (D.pys ds).map .list | _ => none) = some (PyData.str s) := e
    split at e
    · rename_i ds _
      cases z : D.pys ds <;> rw [z] at e <;> cases e
    · cases e
theorem inK_any {h : MH} {d : D} {ss : List Str} {k : Bool → Prop} (c : Cmp h d) (ok : StrOk ss) (q : k (isS d ss)) : inK h d (ss.map D.str) k := by
  by_cases f : flatD d = true
  · refine .inl ⟨f, flat_strsD ss, ?_⟩
    have e : inF d (ss.map D.str) = isS d ss := by
      cases d with
      | str s => exact inF_strs s ss
      | non => exact inF_no (fun _ => rfl) ss
      | bl b => exact inF_no (fun _ => rfl) ss
      | int b => exact inF_no (fun _ => rfl) ss
      | tup ds => cases f
      | loc n => cases f
      | kls ds => cases f
      | pr ds => cases f
    rw [e]; exact q
  · rcases c with c | ⟨e, c1, c2⟩
    · exact absurd c f
    refine .inr ⟨e, _, c1, pys_strs ss, c2, (shaped_strs ok).1, (shaped_strs ok).2, ?_⟩
    rw [any_strs (fun s he => f (by rw [py_str (c1.trans (congrArg some he))]; rfl)) ss]
    have : isS d ss = false := by cases d <;> first | rfl | exact absurd rfl f
    rw [this] at q
    exact q

theorem lcGo_kp {g : MG} {te : ME} {gd : MH → Prop} {xs : List D} {Q : D → MH → Prop} {ρ : Ev} {h : MH} (f : D → D) (hg : ∀ h', Kp [] h h' → gd h')
    (step : ∀ (d : D) (h2 : MH) (R : D → MH → Prop), d ∈ xs → Kp [] h h2 → (∀ h3, Kp [] h2 h3 → R (f d) h3) → g d ρ h2 (fun ρ1 h1 => mYes ρ1 h1 (fun k h2 => ifB k (te ρ1 h2 (fun y h3 => R y h3) (fun _ _ => False)) False) (fun _ _ => False)) (fun _ _ => False))
    (fin : ∀ h', Kp [] h h' → Q (.loc h'.length) (h' ++ [.lst (xs.map f)])) : lcGo g mYes te gd Q xs [] ρ h := by
  refine lcGo_ind (fun i acc h' => Kp [] h h' ∧ acc = (xs.take i).map f) ⟨Kp.refl, rfl⟩ (fun i acc h' _ e => hg _ e.1) ?_ ?_
  · rintro i d acc h2 R hd ⟨k2, rfl⟩ k
    refine step d h2 (fun y h3 => R ((xs.take i).map f ++ [y]) h3) (List.mem_of_getElem? hd) k2 fun h3 k3 => k _ _ ⟨k2.trans k3, ?_⟩
    rw [List.take_add_one, hd]
    simp only [Option.toList, List.map_append, List.map_cons, List.map_nil]
  · rintro acc h' ⟨k, rfl⟩
    rw [List.take_length]
    exact fin _ k
/-! ### loops over written rows, turn by turn -/
section
variable {g g1 : MG} {b : MS} {gd gd1 : MH → Prop} {M : MD} {tt tt1 : MT} {te : ME} {mi1 : MI} {vs1 : List Nat} {Q : D → MH → Prop} {K : List D → MH → Prop} {ρ : Ev} {h : MH} {d : D} {ds acc : List D} {c : MT} {n : Nat}
theorem un_for0 (g0 : gd h) (q : M.nx ρ h) : forGo g b gd M [] ρ h := ⟨g0, q⟩
theorem un_for1 (g0 : gd h) (q : g d ρ h (fun ρ1 h1 => b { M with nx := forGo g b gd M ds, ct := forGo g b gd M ds, bk := M.nx } ρ1 h1) (fun x h1 => M.ex x ρ h1)) : forGo g b gd M (d :: ds) ρ h := ⟨g0, q⟩
theorem un_lc0 (g0 : gd h) (q : Q (.loc h.length) (h ++ [.lst acc])) : lcGo g tt te gd Q [] acc ρ h := ⟨g0, q⟩
theorem un_lc1 (g0 : gd h) (q : g d ρ h (fun ρ1 h1 => tt ρ1 h1 (fun b h2 => ifB b (te ρ1 h2 (fun y h3 => lcGo g tt te gd Q ds (acc ++ [y]) ρ h3) (fun _ _ => False)) (lcGo g tt te gd Q ds acc ρ h2)) (fun _ _ => False)) (fun _ _ => False)) : lcGo g tt te gd Q (d :: ds) acc ρ h := ⟨g0, q⟩
theorem un_lcA (g0 : gd h) (q : Q (.loc h.length) (h ++ [.lst acc])) : lc2Go g tt mi1 g1 tt1 te vs1 gd Q [] acc ρ h := ⟨g0, q⟩
theorem un_lcB (g0 : gd h) (q : g d ρ h (fun ρ1 h1 => tt ρ1 h1 (fun b h2 => ifB b
      (mi1 ρ1 h2 (fun ys gd1 h3 => ys.length ≤ 1000 ∧ lc2In g1 tt1 te vs1 gd1 (fun acc' h' => lc2Go g tt mi1 g1 tt1 te vs1 gd Q ds acc' ρ h') ys acc ρ1 h3) (fun _ _ => False))
      (lc2Go g tt mi1 g1 tt1 te vs1 gd Q ds acc ρ h2)) (fun _ _ => False)) (fun _ _ => False)) : lc2Go g tt mi1 g1 tt1 te vs1 gd Q (d :: ds) acc ρ h := ⟨g0, q⟩
theorem un_lcC (g0 : gd1 h) (q : K acc h) : lc2In g1 tt1 te vs1 gd1 K [] acc ρ h := ⟨g0, q⟩
theorem un_lcD (g0 : gd1 h) (q : g1 d (wipeE ρ vs1) h (fun ρ1 h1 => tt1 ρ1 h1 (fun b h2 => ifB b (te ρ1 h2 (fun y h3 => lc2In g1 tt1 te vs1 gd1 K ds (acc ++ [y]) ρ h3) (fun _ _ => False)) (lc2In g1 tt1 te vs1 gd1 K ds acc ρ h2)) (fun _ _ => False)) (fun _ _ => False)) : lc2In g1 tt1 te vs1 gd1 K (d :: ds) acc ρ h := ⟨g0, q⟩
theorem go_aug {i : Nat} {o : MO} {m : ME} {x : D} (e : ρ[i]? = some (some x)) (q : m ρ h (fun y h1 => o x y h1 fun z h2 => M.nx (ρ.set i (some z)) h2) (fun x h1 => M.ex x ρ h1)) : mAug i o m M ρ h := by
  unfold mAug
  rw [e]
  exact q
theorem un_wh (q : c ρ h (fun k h1 => ifB k (b { M with nx := whGo c b M n, ct := whGo c b M n, bk := M.nx } ρ h1) (M.nx ρ h1)) (fun x h1 => M.ex x ρ h1)) : whGo c b M (n + 1) ρ h := q
end
end My
namespace L3
open PySem PySem.Spec PyProof.Rows L2
section
variable {P : Program} {w : World} {K : PySem.W.Frag} {mg : Str → Option Value} {base : Heap}
/-- a def, called by place and by keywords alone -/
theorem mk_fn2 {x : Str} {st : Stmt} {N ps ks : List Str} {ix : List Nat} {k : Nat} {sp : SpM} {m : MS} (T : My.Have K mg x st) (S : C8.scC N ps (defScope st) = true) (b : Bnd x x st ps)
    (b2 : ∀ (kV doc pm : Value) (an : Option Addr) (cdv ct : Value) (ws : List Value), ws.length = ks.length → bindArgs (PySem.W.fnOf x x (defArgs st) (defBody st) (defScope st) .none kV doc pm an cdv ct) ⟨[], ks.zip ws⟩ = pure (ps.zip (pick ix ws)))
    (len : ∀ ds h Q E, sp ds h Q E → ds.length = ps.length)
    (hbody : ∀ (f : Addr) (cdv : Value) (A : Around) (outer : List Env) (s : Shared) (H : Hp) (E : XK), Rm k (A.deeper (envOfC x (defScope st) s.heap.objs.size f cdv)) →
      L2N.Takes (cxOf (L2N.CX P w) P w K mg base N x (defScope st) f cdv A outer s H E) (fun cls d _ H => E cls d H) →
      CSs (cxOf (L2N.CX P w) P w K mg base N x (defScope st) f cdv A outer s H E) ⟨fun cls d _ H => E cls d H, none⟩ (defBody st) m)
    (main : ∀ ds h Q E, sp ds h Q E → m (endM Q E) (startE N ds) h) : Fn P w K mg base (k + 1) x sp ∧ FnK P w K mg base (k + 1) x ks ix sp := by
  obtain ⟨f, fd, F, g⟩ := T.ex
  have F0 : FnG P w K mg base (L2N.CX P w) (k + 1) f fd ps (up K sp) := fnok F S len (hbody f) main
  refine ⟨⟨f, fd, ps, F0, g, F.kp, F.bindsN b⟩, ⟨f, fd, ps, F0, g, F.kp, fun s ws hl => ?_⟩⟩
  obtain ⟨oc, od, dV, kV, doc, pm, an, cdv, ct, osl, rfl, lk, hcd, hD, hK⟩ := F.ex
  rcases hD with ⟨_, rfl⟩ | ⟨e, _⟩
  · exact .of_eq (b2 kV doc pm an cdv ct ws hl)
  · exact absurd rfl e
end
end L3

namespace My
open PySem PySem.Spec PyProof.Rows L2
/-- built-in names that the module leaves as they are -/
structure Bx (mg : Str → Option Value) : Prop where
  int : mg "int" = none
  len : mg "len" = none
  list : mg "list" = none
  abs : mg "abs" = none
  max : mg "max" = none
  min : mg "min" = none
  range : mg "range" = none
  isinstance : mg "isinstance" = none
  all : mg "all" = none
  any : mg "any" = none
  tuple : mg "tuple" = none
  str : mg "str" = none
  bool : mg "bool" = none
  set : mg "set" = none
  dict : mg "dict" = none
  enumerate : mg "enumerate" = none
  zip : mg "zip" = none
  sum : mg "sum" = none
  sorted : mg "sorted" = none
  repr : mg "repr" = none
  reversed : mg "reversed" = none
def ERRS : List Str := ["BadValue", "BadSide"]
/-- what the written part says -/
structure TX (K : PySem.W.Frag) (mg : Str → Option Value) : Prop where
  B : Bx mg
  h_is_sequence : Have K mg "is_sequence" s_is_sequence
  h_is_pair : Have K mg "is_pair" s_is_pair
  h_is_word : Have K mg "is_word" s_is_word
  h_is_name : Have K mg "is_name" s_is_name
  h_are_names : Have K mg "are_names" s_are_names
  h_is_fixtures : Have K mg "is_fixtures" s_is_fixtures
  h_drawn_up : Have K mg "drawn_up" s_drawn_up
  h__check_sides : Have K mg "_check_sides" s__check_sides
  h__is_full_round : Have K mg "_is_full_round" s__is_full_round
  h__drawn_round : Have K mg "_drawn_round" s__drawn_round
  h__law_mixed : Have K mg "_law_mixed" s__law_mixed
  h__law_start : Have K mg "_law_start" s__law_start
  h__law_take : Have K mg "_law_take" s__law_take
  h__law_same : Have K mg "_law_same" s__law_same
  h__law_names : Have K mg "_law_names" s__law_names
  h__law_wrong_sides : Have K mg "_law_wrong_sides" s__law_wrong_sides
  h__law_drawn : Have K mg "_law_drawn" s__law_drawn
  h__law_refused : Have K mg "_law_refused" s__law_refused
  h_law : Have K mg "law" s_law
  LETTERS : ∃ u, mg "LETTERS" = some u ∧ RelV (.str "abcdefghijklmnopqrstuvwxyz") u
  LONGEST_NAME : ∃ u, mg "LONGEST_NAME" = some u ∧ RelV (.int 8) u
  COUNTS : mg "COUNTS" = some (.ref (He.ga K "COUNTS"))
  tCOUNTS : ∀ H, SqT K H (He.ga K "COUNTS") (([2, 4, 6, 8] : List Int).map V.int)
  dCOUNTS : ∃ o, K.lookup (He.ga K "COUNTS") = some o ∧ o.dict = none
  e_BadValue : PySem.MyX.ErrC K (He.ga K "BadValue") (He.ma K (He.ga K "BadValue") "__init__") "at"
  g_BadValue : mg "BadValue" = some (.ref (He.ga K "BadValue"))
  e_BadSide : PySem.MyX.ErrC K (He.ga K "BadSide") (He.ma K (He.ga K "BadSide") "__init__") "name"
  g_BadSide : mg "BadSide" = some (.ref (He.ga K "BadSide"))
  g_LeagueError : mg "LeagueError" = some (.ref (He.ga K "LeagueError"))
  exc : ∀ a ∈ ERRS, ExcC K (He.ga K a)
  kit_BadValue : ∀ a ∈ ERRS, PySem.W.kitOne K (.ref (He.ga K a)) (.ref (He.ga K "BadValue")) = some (L3.subC a "BadValue")
  kit_BadSide : ∀ a ∈ ERRS, PySem.W.kitOne K (.ref (He.ga K a)) (.ref (He.ga K "BadSide")) = some (L3.subC a "BadSide")
  kit_LeagueError : ∀ a ∈ ERRS, PySem.W.kitOne K (.ref (He.ga K a)) (.ref (He.ga K "LeagueError")) = some (L3.subC a "LeagueError")
  x_BadValue : ∀ a ∈ ERRS, PySem.W.exmOne K (.ref (He.ga K a)) (.ref (He.ga K "BadValue")) = some (L3.subC a "BadValue")
  x_BadSide : ∀ a ∈ ERRS, PySem.W.exmOne K (.ref (He.ga K a)) (.ref (He.ga K "BadSide")) = some (L3.subC a "BadSide")
  x_LeagueError : ∀ a ∈ ERRS, PySem.W.exmOne K (.ref (He.ga K a)) (.ref (He.ga K "LeagueError")) = some (L3.subC a "LeagueError")
end My

namespace My
open PySem PySem.Spec PyProof.Rows L2
theorem ci_LETTERS {K : PySem.W.Frag} {h : Heap} {mg : Str → Option Value} (X : K.In h) (G : h.Ns mainGlobals mg) (c : He.SaysD fa fn K) : ∃ u, mg "LETTERS" = some u ∧ RelV (.str "abcdefghijklmnopqrstuvwxyz") u := by
  obtain ⟨t, e⟩ := He.str_ok X G (c.fact 43 (f := .str "LETTERS" "abcdefghijklmnopqrstuvwxyz") rfl)
  exact ⟨_, e, t, rfl⟩
theorem ci_LONGEST_NAME {K : PySem.W.Frag} {h : Heap} {mg : Str → Option Value} (X : K.In h) (G : h.Ns mainGlobals mg) (c : He.SaysD fa fn K) : ∃ u, mg "LONGEST_NAME" = some u ∧ RelV (.int 8) u := by
  obtain ⟨t, e⟩ := He.int_ok X G (c.fact 44 (f := .int "LONGEST_NAME" 8) rfl)
  exact ⟨_, e, t, rfl⟩
theorem te_BadValue {K : PySem.W.Frag} (x : ex K = true) (c : He.SaysD fa fn K) : PySem.MyX.ErrC K (He.ga K "BadValue") (He.ma K (He.ga K "BadValue") "__init__") "at" := by
  obtain ⟨f0, F0⟩ := c.def_ 19 (d := e_BadValue) rfl
  obtain ⟨oc, od, dV, kV, doc, pm, an, cdv, ct, osl, _, lk, hcd, hd, _⟩ := F0.ex
  refine errC_of (He.ba x).1 ⟨by decide, by decide⟩ ?_
  have ed : dV = .none := by
    rcases hd with ⟨_, e⟩ | ⟨e, _⟩
    · exact e
    · exact absurd rfl e
  subst ed
  subst_vars
  exact ⟨oc, od, kV, doc, pm, an, cdv, ct, osl, _, _, _, _, _, _, _, lk, hcd, fun _ _ => rfl⟩
theorem te_BadSide {K : PySem.W.Frag} (x : ex K = true) (c : He.SaysD fa fn K) : PySem.MyX.ErrC K (He.ga K "BadSide") (He.ma K (He.ga K "BadSide") "__init__") "name" := by
  obtain ⟨f0, F0⟩ := c.def_ 20 (d := e_BadSide) rfl
  obtain ⟨oc, od, dV, kV, doc, pm, an, cdv, ct, osl, _, lk, hcd, hd, _⟩ := F0.ex
  refine errC_of (He.ba (He.ba x).2).1 ⟨by decide, by decide⟩ ?_
  have ed : dV = .none := by
    rcases hd with ⟨_, e⟩ | ⟨e, _⟩
    · exact e
    · exact absurd rfl e
  subst ed
  subst_vars
  exact ⟨oc, od, kV, doc, pm, an, cdv, ct, osl, _, _, _, _, _, _, _, lk, hcd, fun _ _ => rfl⟩
theorem th_is_sequence {K : PySem.W.Frag} {h : Heap} {mg : Str → Option Value} (X : K.In h) (G : h.Ns mainGlobals mg) (c : He.SaysD fa fn K) : Have K mg "is_sequence" s_is_sequence := by
  obtain ⟨fd, F⟩ := c.def_ 0 (d := d_is_sequence) rfl
  exact ⟨_, fd, F, He.glo_ok X G (c.fact 0 (f := .glo "is_sequence") rfl)⟩
theorem th_is_pair {K : PySem.W.Frag} {h : Heap} {mg : Str → Option Value} (X : K.In h) (G : h.Ns mainGlobals mg) (c : He.SaysD fa fn K) : Have K mg "is_pair" s_is_pair := by
  obtain ⟨fd, F⟩ := c.def_ 1 (d := d_is_pair) rfl
  exact ⟨_, fd, F, He.glo_ok X G (c.fact 1 (f := .glo "is_pair") rfl)⟩
theorem th_is_word {K : PySem.W.Frag} {h : Heap} {mg : Str → Option Value} (X : K.In h) (G : h.Ns mainGlobals mg) (c : He.SaysD fa fn K) : Have K mg "is_word" s_is_word := by
  obtain ⟨fd, F⟩ := c.def_ 2 (d := d_is_word) rfl
  exact ⟨_, fd, F, He.glo_ok X G (c.fact 2 (f := .glo "is_word") rfl)⟩
theorem th_is_name {K : PySem.W.Frag} {h : Heap} {mg : Str → Option Value} (X : K.In h) (G : h.Ns mainGlobals mg) (c : He.SaysD fa fn K) : Have K mg "is_name" s_is_name := by
  obtain ⟨fd, F⟩ := c.def_ 3 (d := d_is_name) rfl
  exact ⟨_, fd, F, He.glo_ok X G (c.fact 3 (f := .glo "is_name") rfl)⟩
theorem th_are_names {K : PySem.W.Frag} {h : Heap} {mg : Str → Option Value} (X : K.In h) (G : h.Ns mainGlobals mg) (c : He.SaysD fa fn K) : Have K mg "are_names" s_are_names := by
  obtain ⟨fd, F⟩ := c.def_ 4 (d := d_are_names) rfl
  exact ⟨_, fd, F, He.glo_ok X G (c.fact 4 (f := .glo "are_names") rfl)⟩
theorem th_is_fixtures {K : PySem.W.Frag} {h : Heap} {mg : Str → Option Value} (X : K.In h) (G : h.Ns mainGlobals mg) (c : He.SaysD fa fn K) : Have K mg "is_fixtures" s_is_fixtures := by
  obtain ⟨fd, F⟩ := c.def_ 5 (d := d_is_fixtures) rfl
  exact ⟨_, fd, F, He.glo_ok X G (c.fact 5 (f := .glo "is_fixtures") rfl)⟩
theorem th_drawn_up {K : PySem.W.Frag} {h : Heap} {mg : Str → Option Value} (X : K.In h) (G : h.Ns mainGlobals mg) (c : He.SaysD fa fn K) : Have K mg "drawn_up" s_drawn_up := by
  obtain ⟨fd, F⟩ := c.def_ 6 (d := d_drawn_up) rfl
  exact ⟨_, fd, F, He.glo_ok X G (c.fact 6 (f := .glo "drawn_up") rfl)⟩
theorem th__check_sides {K : PySem.W.Frag} {h : Heap} {mg : Str → Option Value} (X : K.In h) (G : h.Ns mainGlobals mg) (c : He.SaysD fa fn K) : Have K mg "_check_sides" s__check_sides := by
  obtain ⟨fd, F⟩ := c.def_ 7 (d := d__check_sides) rfl
  exact ⟨_, fd, F, He.glo_ok X G (c.fact 7 (f := .glo "_check_sides") rfl)⟩
theorem th__is_full_round {K : PySem.W.Frag} {h : Heap} {mg : Str → Option Value} (X : K.In h) (G : h.Ns mainGlobals mg) (c : He.SaysD fa fn K) : Have K mg "_is_full_round" s__is_full_round := by
  obtain ⟨fd, F⟩ := c.def_ 8 (d := d__is_full_round) rfl
  exact ⟨_, fd, F, He.glo_ok X G (c.fact 8 (f := .glo "_is_full_round") rfl)⟩
theorem th__drawn_round {K : PySem.W.Frag} {h : Heap} {mg : Str → Option Value} (X : K.In h) (G : h.Ns mainGlobals mg) (c : He.SaysD fa fn K) : Have K mg "_drawn_round" s__drawn_round := by
  obtain ⟨fd, F⟩ := c.def_ 9 (d := d__drawn_round) rfl
  exact ⟨_, fd, F, He.glo_ok X G (c.fact 9 (f := .glo "_drawn_round") rfl)⟩
theorem th__law_mixed {K : PySem.W.Frag} {h : Heap} {mg : Str → Option Value} (X : K.In h) (G : h.Ns mainGlobals mg) (c : He.SaysD fa fn K) : Have K mg "_law_mixed" s__law_mixed := by
  obtain ⟨fd, F⟩ := c.def_ 10 (d := d__law_mixed) rfl
  exact ⟨_, fd, F, He.glo_ok X G (c.fact 10 (f := .glo "_law_mixed") rfl)⟩
theorem th__law_start {K : PySem.W.Frag} {h : Heap} {mg : Str → Option Value} (X : K.In h) (G : h.Ns mainGlobals mg) (c : He.SaysD fa fn K) : Have K mg "_law_start" s__law_start := by
  obtain ⟨fd, F⟩ := c.def_ 11 (d := d__law_start) rfl
  exact ⟨_, fd, F, He.glo_ok X G (c.fact 11 (f := .glo "_law_start") rfl)⟩
theorem th__law_take {K : PySem.W.Frag} {h : Heap} {mg : Str → Option Value} (X : K.In h) (G : h.Ns mainGlobals mg) (c : He.SaysD fa fn K) : Have K mg "_law_take" s__law_take := by
  obtain ⟨fd, F⟩ := c.def_ 12 (d := d__law_take) rfl
  exact ⟨_, fd, F, He.glo_ok X G (c.fact 12 (f := .glo "_law_take") rfl)⟩
theorem th__law_same {K : PySem.W.Frag} {h : Heap} {mg : Str → Option Value} (X : K.In h) (G : h.Ns mainGlobals mg) (c : He.SaysD fa fn K) : Have K mg "_law_same" s__law_same := by
  obtain ⟨fd, F⟩ := c.def_ 13 (d := d__law_same) rfl
  exact ⟨_, fd, F, He.glo_ok X G (c.fact 13 (f := .glo "_law_same") rfl)⟩
theorem th__law_names {K : PySem.W.Frag} {h : Heap} {mg : Str → Option Value} (X : K.In h) (G : h.Ns mainGlobals mg) (c : He.SaysD fa fn K) : Have K mg "_law_names" s__law_names := by
  obtain ⟨fd, F⟩ := c.def_ 14 (d := d__law_names) rfl
  exact ⟨_, fd, F, He.glo_ok X G (c.fact 14 (f := .glo "_law_names") rfl)⟩
theorem th__law_wrong_sides {K : PySem.W.Frag} {h : Heap} {mg : Str → Option Value} (X : K.In h) (G : h.Ns mainGlobals mg) (c : He.SaysD fa fn K) : Have K mg "_law_wrong_sides" s__law_wrong_sides := by
  obtain ⟨fd, F⟩ := c.def_ 15 (d := d__law_wrong_sides) rfl
  exact ⟨_, fd, F, He.glo_ok X G (c.fact 15 (f := .glo "_law_wrong_sides") rfl)⟩
theorem th__law_drawn {K : PySem.W.Frag} {h : Heap} {mg : Str → Option Value} (X : K.In h) (G : h.Ns mainGlobals mg) (c : He.SaysD fa fn K) : Have K mg "_law_drawn" s__law_drawn := by
  obtain ⟨fd, F⟩ := c.def_ 16 (d := d__law_drawn) rfl
  exact ⟨_, fd, F, He.glo_ok X G (c.fact 16 (f := .glo "_law_drawn") rfl)⟩
theorem th__law_refused {K : PySem.W.Frag} {h : Heap} {mg : Str → Option Value} (X : K.In h) (G : h.Ns mainGlobals mg) (c : He.SaysD fa fn K) : Have K mg "_law_refused" s__law_refused := by
  obtain ⟨fd, F⟩ := c.def_ 17 (d := d__law_refused) rfl
  exact ⟨_, fd, F, He.glo_ok X G (c.fact 17 (f := .glo "_law_refused") rfl)⟩
theorem th_law {K : PySem.W.Frag} {h : Heap} {mg : Str → Option Value} (X : K.In h) (G : h.Ns mainGlobals mg) (c : He.SaysD fa fn K) : Have K mg "law" s_law := by
  obtain ⟨fd, F⟩ := c.def_ 18 (d := d_law) rfl
  exact ⟨_, fd, F, He.glo_ok X G (c.fact 18 (f := .glo "law") rfl)⟩
theorem tx_BadValue {K : PySem.W.Frag} (c : He.SaysD fa fn K) : ∀ a ∈ ERRS, PySem.W.exmOne K (.ref (He.ga K a)) (.ref (He.ga K "BadValue")) = some (L3.subC a "BadValue") := by
  intro a ha
  simp only [ERRS, List.mem_cons, List.not_mem_nil, or_false] at ha
  rcases ha with rfl | rfl
  · exact (He.exm_ok (c.fact 46 (f := .exm "BadValue" "BadValue" true) rfl)).trans (by decide +kernel)
  · exact (He.exm_ok (c.fact 49 (f := .exm "BadSide" "BadValue" false) rfl)).trans (by decide +kernel)
theorem tx_BadSide {K : PySem.W.Frag} (c : He.SaysD fa fn K) : ∀ a ∈ ERRS, PySem.W.exmOne K (.ref (He.ga K a)) (.ref (He.ga K "BadSide")) = some (L3.subC a "BadSide") := by
  intro a ha
  simp only [ERRS, List.mem_cons, List.not_mem_nil, or_false] at ha
  rcases ha with rfl | rfl
  · exact (He.exm_ok (c.fact 47 (f := .exm "BadValue" "BadSide" false) rfl)).trans (by decide +kernel)
  · exact (He.exm_ok (c.fact 50 (f := .exm "BadSide" "BadSide" true) rfl)).trans (by decide +kernel)
theorem tx_LeagueError {K : PySem.W.Frag} (c : He.SaysD fa fn K) : ∀ a ∈ ERRS, PySem.W.exmOne K (.ref (He.ga K a)) (.ref (He.ga K "LeagueError")) = some (L3.subC a "LeagueError") := by
  intro a ha
  simp only [ERRS, List.mem_cons, List.not_mem_nil, or_false] at ha
  rcases ha with rfl | rfl
  · exact (He.exm_ok (c.fact 48 (f := .exm "BadValue" "LeagueError" true) rfl)).trans (by decide +kernel)
  · exact (He.exm_ok (c.fact 51 (f := .exm "BadSide" "LeagueError" true) rfl)).trans (by decide +kernel)
theorem texc {K : PySem.W.Frag} (x : ex K = true) (c : He.SaysD fa fn K) : ∀ a ∈ ERRS, ExcC K (He.ga K a) := by
  intro a ha
  simp only [ERRS, List.mem_cons, List.not_mem_nil, or_false] at ha
  rcases ha with rfl | rfl
  · exact excC_of (te_BadValue x c) (He.ba (He.ba (He.ba (He.ba (He.ba x).2).2).2).2).1
  · exact excC_of (te_BadSide x c) (He.ba (He.ba (He.ba (He.ba (He.ba (He.ba x).2).2).2).2).2).1
theorem tkit_BadValue {K : PySem.W.Frag} (x : ex K = true) : ∀ a ∈ ERRS, PySem.W.kitOne K (.ref (He.ga K a)) (.ref (He.ga K "BadValue")) = some (L3.subC a "BadValue") := by
  intro a ha
  simp only [ERRS, List.mem_cons, List.not_mem_nil, or_false] at ha
  rcases ha with rfl | rfl
  · exact (of_decide_eq_true (He.ba (He.ba (He.ba (He.ba (He.ba (He.ba (He.ba x).2).2).2).2).2).2).1).trans (by decide +kernel)
  · exact (of_decide_eq_true (He.ba (He.ba (He.ba (He.ba (He.ba (He.ba (He.ba (He.ba x).2).2).2).2).2).2).2).1).trans (by decide +kernel)
theorem tkit_BadSide {K : PySem.W.Frag} (x : ex K = true) : ∀ a ∈ ERRS, PySem.W.kitOne K (.ref (He.ga K a)) (.ref (He.ga K "BadSide")) = some (L3.subC a "BadSide") := by
  intro a ha
  simp only [ERRS, List.mem_cons, List.not_mem_nil, or_false] at ha
  rcases ha with rfl | rfl
  · exact (of_decide_eq_true (He.ba (He.ba (He.ba (He.ba (He.ba (He.ba (He.ba (He.ba (He.ba x).2).2).2).2).2).2).2).2).1).trans (by decide +kernel)
  · exact (of_decide_eq_true (He.ba (He.ba (He.ba (He.ba (He.ba (He.ba (He.ba (He.ba (He.ba (He.ba x).2).2).2).2).2).2).2).2).2).1).trans (by decide +kernel)
theorem tkit_LeagueError {K : PySem.W.Frag} (x : ex K = true) : ∀ a ∈ ERRS, PySem.W.kitOne K (.ref (He.ga K a)) (.ref (He.ga K "LeagueError")) = some (L3.subC a "LeagueError") := by
  intro a ha
  simp only [ERRS, List.mem_cons, List.not_mem_nil, or_false] at ha
  rcases ha with rfl | rfl
  · exact (of_decide_eq_true (He.ba (He.ba (He.ba (He.ba (He.ba (He.ba (He.ba (He.ba (He.ba (He.ba (He.ba x).2).2).2).2).2).2).2).2).2).2).1).trans (by decide +kernel)
  · exact (of_decide_eq_true (He.ba (He.ba (He.ba (He.ba (He.ba (He.ba (He.ba (He.ba (He.ba (He.ba (He.ba x).2).2).2).2).2).2).2).2).2).2).2).trans (by decide +kernel)
theorem tx {K : PySem.W.Frag} {h : Heap} {mg : Str → Option Value} (X : K.In h) (G : h.Ns mainGlobals mg) (x : ex K = true) (c : He.SaysD fa fn K) : TX K mg where
  B := { int := He.free_ok X G (c.fact 22 (f := .free "int") rfl), len := He.free_ok X G (c.fact 23 (f := .free "len") rfl), list := He.free_ok X G (c.fact 24 (f := .free "list") rfl), abs := He.free_ok X G (c.fact 25 (f := .free "abs") rfl), max := He.free_ok X G (c.fact 26 (f := .free "max") rfl), min := He.free_ok X G (c.fact 27 (f := .free "min") rfl), range := He.free_ok X G (c.fact 28 (f := .free "range") rfl), isinstance := He.free_ok X G (c.fact 29 (f := .free "isinstance") rfl), all := He.free_ok X G (c.fact 30 (f := .free "all") rfl), any := He.free_ok X G (c.fact 31 (f := .free "any") rfl), tuple := He.free_ok X G (c.fact 32 (f := .free "tuple") rfl), str := He.free_ok X G (c.fact 33 (f := .free "str") rfl), bool := He.free_ok X G (c.fact 34 (f := .free "bool") rfl), set := He.free_ok X G (c.fact 35 (f := .free "set") rfl), dict := He.free_ok X G (c.fact 36 (f := .free "dict") rfl), enumerate := He.free_ok X G (c.fact 37 (f := .free "enumerate") rfl), zip := He.free_ok X G (c.fact 38 (f := .free "zip") rfl), sum := He.free_ok X G (c.fact 39 (f := .free "sum") rfl), sorted := He.free_ok X G (c.fact 40 (f := .free "sorted") rfl), repr := He.free_ok X G (c.fact 41 (f := .free "repr") rfl), reversed := He.free_ok X G (c.fact 42 (f := .free "reversed") rfl) }
  h_is_sequence := th_is_sequence X G c
  h_is_pair := th_is_pair X G c
  h_is_word := th_is_word X G c
  h_is_name := th_is_name X G c
  h_are_names := th_are_names X G c
  h_is_fixtures := th_is_fixtures X G c
  h_drawn_up := th_drawn_up X G c
  h__check_sides := th__check_sides X G c
  h__is_full_round := th__is_full_round X G c
  h__drawn_round := th__drawn_round X G c
  h__law_mixed := th__law_mixed X G c
  h__law_start := th__law_start X G c
  h__law_take := th__law_take X G c
  h__law_same := th__law_same X G c
  h__law_names := th__law_names X G c
  h__law_wrong_sides := th__law_wrong_sides X G c
  h__law_drawn := th__law_drawn X G c
  h__law_refused := th__law_refused X G c
  h_law := th_law X G c
  LETTERS := ci_LETTERS X G c
  LONGEST_NAME := ci_LONGEST_NAME X G c
  COUNTS := He.glo_ok X G (c.fact 45 (f := .glo "COUNTS") rfl)
  tCOUNTS := fun H => He.tupB_ok (He.ba (He.ba (He.ba x).2).2).1 H
  dCOUNTS := ndB_ok (He.ba (He.ba (He.ba (He.ba x).2).2).2).1
  e_BadValue := te_BadValue x c
  g_BadValue := He.glo_ok X G (c.fact 19 (f := .glo "BadValue") rfl)
  e_BadSide := te_BadSide x c
  g_BadSide := He.glo_ok X G (c.fact 20 (f := .glo "BadSide") rfl)
  g_LeagueError := He.glo_ok X G (c.fact 21 (f := .glo "LeagueError") rfl)
  x_BadValue := tx_BadValue c
  x_BadSide := tx_BadSide c
  x_LeagueError := tx_LeagueError c
  exc := texc x c
  kit_BadValue := tkit_BadValue x
  kit_BadSide := tkit_BadSide x
  kit_LeagueError := tkit_LeagueError x
end My

/-! list.clear -/
namespace L3
open PySem PySem.Spec PyProof.Rows L2
abbrev mmClear : MM := fun d ds h Q => match d, ds with | .loc n, [] => wrAt h n fun _ => Q .non (h.set n (.lst [])) | _, _ => False
theorem m_clear {K : PySem.W.Frag} : MMr K rClear mmClear := fun φ h H d ds v vs Qm Q rh rx rv m ok => by
  unfold mmClear at m
  split at m
  · cases rx with
    | loc e0 =>
      cases rv
      obtain ⟨xs, vs, h1, r, q⟩ := rh.wrL e0 m
      obtain ⟨rh2, x2⟩ := rh.chgL e0 (.nil (K := K))
      exact ⟨_, vs, rfl, rfl, h1, ok _ _ _ _ _ x2 rh2 .non q⟩
  · exact m.elim
section
variable {X : Cx} {W : Wz} {o : Expr}
theorem ce_clear {apos cpos : Pos} {mo : ME} (ho : CE X W o mo) (hbase : attributeBase o "clear" X.env (eval o X.env) = eval o X.env := by rfl) (hline : (apos.endLine == cpos.line) = true := by rfl) :
    CE X W (.Call (.Attribute o "clear" apos) [] [] cpos) (mBM0 mmClear mo) := ce_bm0 PySem.F.slot_list_clear PySem.F.type_list_clear mt_clear m_clear ho hbase hline
end
end L3

/-! sets of tuples of texts: how many unlike ones there are -/
namespace RS
open PySem PySem.Spec PyProof.Rows L2

/-! ### unlike things in a row -/
section
variable {κ : Type} [DecidableEq κ]
def putK (acc : List κ) (x : κ) : List κ := if x ∈ acc then acc else acc ++ [x]
def uqK (xs : List κ) : List κ := xs.foldl putK []
theorem uqK_snoc (xs : List κ) (x : κ) : uqK (xs ++ [x]) = putK (uqK xs) x := by
  unfold uqK
  rw [List.foldl_append]; rfl
theorem mem_putK {acc : List κ} {x k : κ} : k ∈ putK acc x ↔ k ∈ acc ∨ k = x := by
  unfold putK
  split
  · constructor
    · exact .inl
    · rintro (h | rfl)
      · exact h
      · assumption
  · simp
theorem snocInd {p : List κ → Prop} (h0 : p []) (h1 : ∀ xs x, p xs → p (xs ++ [x])) : ∀ (n : Nat) (xs : List κ), xs.length = n → p xs
  | 0, xs, e => by rw [List.eq_nil_of_length_eq_zero e]; exact h0
  | n + 1, xs, e => by
    have ne : xs ≠ [] := by rintro rfl; cases e
    rw [← List.dropLast_concat_getLast ne]
    exact h1 _ _ (snocInd h0 h1 n _ (by rw [List.length_dropLast]; omega))
theorem mem_uqK (xs : List κ) : ∀ k, k ∈ uqK xs ↔ k ∈ xs := by
  refine snocInd (p := fun xs => ∀ k, k ∈ uqK xs ↔ k ∈ xs) (fun k => ?_) (fun xs x ih k => ?_) _ xs rfl
  · simp [uqK]
  · rw [uqK_snoc, mem_putK, ih]; simp
theorem uqK_nodup (xs : List κ) : (uqK xs).Nodup := by
  refine snocInd (p := fun xs => (uqK xs).Nodup) ?_ (fun xs x ih => ?_) _ xs rfl
  · simp [uqK]
  · rw [uqK_snoc]
    unfold putK
    split
    · exact ih
    · next h => exact List.nodup_append.mpr ⟨ih, by simp, fun a ha b hb e => by rw [List.mem_singleton] at hb; subst hb; subst e; exact h ha⟩
theorem len_putK (acc : List κ) (x : κ) : (putK acc x).length = if x ∈ acc then acc.length else acc.length + 1 := by
  unfold putK
  split <;> simp
theorem uqK_le (xs : List κ) : (uqK xs).length ≤ xs.length := by
  refine snocInd (p := fun xs => (uqK xs).length ≤ xs.length) (Nat.le_refl _) (fun xs x ih => ?_) _ xs rfl
  rw [uqK_snoc, len_putK, List.length_append, List.length_singleton]
  split <;> omega
theorem uqK_take_le (xs : List κ) (i : Nat) : (uqK (xs.take i)).length ≤ (uqK xs).length := by
  have h : ∀ (a b : List κ), (uqK a).length ≤ (uqK (a ++ b)).length := fun a b => by
    refine snocInd (p := fun b => (uqK a).length ≤ (uqK (a ++ b)).length) (by rw [List.append_nil]; exact Nat.le_refl _) (fun b x ih => ?_) _ b rfl
    rw [← List.append_assoc, uqK_snoc, len_putK]
    split <;> omega
  have := h (xs.take i) (xs.drop i)
  rwa [List.take_append_drop] at this
theorem uqK_full {xs : List κ} (h : (uqK xs).length = xs.length) : xs.Nodup := by
  have key : ∀ xs : List κ, (uqK xs).length = xs.length → uqK xs = xs := fun xs => by
    refine snocInd (p := fun xs => (uqK xs).length = xs.length → uqK xs = xs) (fun _ => rfl) (fun xs x ih e => ?_) _ xs rfl
    have l := uqK_le xs
    rw [uqK_snoc] at e ⊢
    unfold putK at e ⊢
    split at e
    · rw [List.length_append, List.length_singleton] at e; omega
    · next hx =>
      rw [List.length_append, List.length_append, List.length_singleton] at e
      rw [if_neg hx, ih (by omega)]
  rw [← key xs h]
  exact uqK_nodup xs
theorem uqK_self {xs : List κ} (h : xs.Nodup) : uqK xs = xs := by
  revert h
  refine snocInd (p := fun xs => xs.Nodup → uqK xs = xs) (fun _ => rfl) (fun xs x ih h => ?_) _ xs rfl
  obtain ⟨a, _, c⟩ := List.nodup_append.mp h
  rw [uqK_snoc, ih a]
  unfold putK
  rw [if_neg fun hx => c x hx x (by simp) rfl]
theorem perm_uq {xs : List κ} {i : Nat} {x : κ} {L : List κ} (h : xs[i]? = some x) (p : L.Perm (uqK (xs.take i))) : L.length = (uqK (xs.take i)).length := p.length_eq
theorem uqK_next {xs : List κ} {i : Nat} {x : κ} (h : xs[i]? = some x) : uqK (xs.take (i + 1)) = putK (uqK (xs.take i)) x := by
  rw [List.take_add_one, h, Option.toList_some, uqK_snoc]
end

section
variable {P : Program} {w : World} {A : Around} {E : Value → Shared → Prop} {s : Shared}
/-- the tuple at b holds just these texts -/
abbrev Pt (P : Program) (w : World) (h : Heap) (k : List Str) (b : Addr) : Prop := IsTupleKey (strKind P w) h k b
abbrev hs (P : Program) (w : World) (k : List Str) : Int := tupleKeyHash (strKind P w) k
theorem strs_of {k : List Str} {vs : List Value} (h : ItemsAre (strKind P w) k vs) : ∀ v ∈ vs, ∃ x t, v = Value.str x t := by
  induction h with
  | nil => exact fun v hv => (nomatch hv)
  | @cons x u ks us h1 _ ih =>
    rintro v (_ | ⟨_, hv⟩)
    · exact ⟨x, Value.isStrOf_shape h1⟩
    · exact ih v hv
theorem noStatement {k : List Str} {b : Addr} {Q : Bool → Shared → Prop} (hk : Pt P w s.heap k b) (z : Q false s) : wpAny (model P w) A (ofAClassStatement 8 (.ref b)) Q E s := by
  have ty := hk.typeIs
  obtain ⟨o, items, n, ho, _, hd, hi⟩ := hk
  unfold ofAClassStatement
  refine wpAny_bind (wpAny_typeOf ty ?_)
  have e : (("tuple" : String) == "tuple") = true := by decide
  simp only [e, if_true, Bool.not_true, Bool.false_eq_true, if_false]
  try refine wpAny_bind (wpAny_pure ?_)
  try simp only [Bool.not_true, Bool.false_eq_true, if_false]
  show wpAny _ _ (seqItems? (.ref b) >>= _) _ _ s
  refine wpAny_bind (wpAny_seqItems ho hd (wpAny_bind ?_))
  show wpAny _ _ (forIn items _ _) _ _ s
  rw [← Array.forIn_toList]
  refine wpAny_forIn_list _ (fun rest r s' => (r.1 = none ∧ s' = s) ∧ ∀ v ∈ rest, ∃ x t, v = Value.str x t) _ ?_ ?_ _ _ ⟨⟨rfl, rfl⟩, strs_of hi⟩
  · rintro v rest r s' ⟨⟨hr, rfl⟩, al⟩
    obtain ⟨x, t, rfl⟩ := al v List.mem_cons_self
    rw [show ofAClassStatement 7 (.str x t) = pure false from rfl]
    refine wpAny_bind (wpAny_pure ?_)
    simp only [Bool.false_eq_true, if_false]
    exact wpAny_pure ⟨⟨rfl, rfl⟩, fun u hu => al u (List.mem_cons_of_mem _ hu)⟩
  · rintro ⟨r1, r2⟩ s' ⟨⟨hr, rfl⟩, _⟩
    obtain rfl : r1 = none := hr
    exact wpAny_pure z
/-- whether a hash comes by value alone: some answer -/
theorem someAnswer {k : List Str} {b : Addr} {Q : Bool → Shared → Prop} (hk : Pt P w s.heap k b) (z : ∀ c, Q c s) : wpAny (model P w) A (hashByValue 8 (.ref b)) Q E s := by
  have ty := hk.typeIs
  obtain ⟨o, items, n, ho, _, hd, hi⟩ := hk
  unfold hashByValue
  refine wpAny_bind (wpAny_specialOf ty F.slot_tuple_hash.lookup ?_)
  show wpAny _ _ (seqItems? (.ref b) >>= _) _ _ s
  refine wpAny_bind (wpAny_seqItems ho hd (wpAny_bind ?_))
  show wpAny _ _ (forIn items _ _) _ _ s
  rw [← Array.forIn_toList]
  cases hc : items.toList with
  | nil => exact wpAny_pure (wpAny_pure (z true))
  | cons v rest =>
    obtain ⟨x, t, rfl⟩ := strs_of hi v (by rw [hc]; exact List.mem_cons_self)
    rw [List.forIn_cons, show hashByValue 7 (.str x t) = pure false from rfl]
    refine wpAny_bind (wpAny_bind (wpAny_pure ?_))
    simp only [Bool.not_false, if_true]
    exact wpAny_pure (wpAny_pure (wpAny_pure (z false)))
theorem unseen {k : List Str} {b : Addr} {Q : Bool → Shared → Prop} (hk : Pt P w s.heap k b) {ys : List Value} (hy : ∀ y ∈ ys, ∃ k' c, y = Value.ref c ∧ Pt P w s.heap k' c) (z : Q false s) :
    wpAny (model P w) A (searchCouldBeSeen (.ref b) ys) Q E s := by
  unfold searchCouldBeSeen
  refine wpAny_bind (wpAny_forIn_list _ (fun rest r s' => (r.1 = none ∧ s' = s) ∧ ∀ y ∈ rest, ∃ k' c, y = Value.ref c ∧ Pt P w s.heap k' c) _ ?_ ?_ _ _ ⟨⟨rfl, rfl⟩, hy⟩)
  · rintro v rest r s' ⟨⟨hr, rfl⟩, al⟩
    obtain ⟨k', c, rfl, hc⟩ := al v List.mem_cons_self
    have al' : ∀ y ∈ rest, ∃ k' c, y = Value.ref c ∧ Pt P w s'.heap k' c := fun u hu => al u (List.mem_cons_of_mem _ hu)
    dsimp only
    by_cases hv : (b == c || (carriedByValue (.ref b) && carriedByValue (.ref c))) = true
    · exact wp_if_pos hv (wpAny_pure ⟨⟨rfl, rfl⟩, al'⟩)
    · refine wp_if_neg hv (wpAny_bind (wpAny_eqIsQuiet_tuple hk ?_))
      simp only [Bool.not_true, Bool.false_eq_true, if_false]
      refine wpAny_bind (wpAny_eqIsQuiet_tuple hc ?_)
      simp only [Bool.not_true, Bool.false_eq_true, if_false]
      refine wpAny_bind (noStatement hk ?_)
      simp only [Bool.false_eq_true, if_false]
      refine wpAny_bind (noStatement hc ?_)
      simp only [Bool.false_eq_true, if_false]
      exact wpAny_pure ⟨⟨rfl, rfl⟩, al'⟩
  · rintro ⟨r1, r2⟩ s' ⟨⟨hr, rfl⟩, _⟩
    obtain rfl : r1 = none := hr
    exact wpAny_pure z
theorem Pt.grow {h h' : Heap} {k : List Str} {b : Addr} (x : Pt P w h k b) (g : ∀ c o, h.get? c = some o → h'.get? c = some o) : Pt P w h' k b :=
  match x with
  | ⟨o, items, n, ho, r⟩ => ⟨o, items, n, g b o ho, r⟩
theorem Pt.apart {h h' : Heap} {k : List Str} {a b : Addr} {o : Obj} {es : Array (Int × Value)} {ep : Nat} {t : SetTable} (x : Pt P w h k b) (ho : h.get? a = some o) (hd : o.data = .set es ep t) (sb : Heap.SameBut a h h') : Pt P w h' k b := by
  obtain ⟨o2, items, n, h2, hc, d2, hi⟩ := x
  refine ⟨o2, items, n, (sb.2 b fun z => ?_).trans h2, hc, d2, hi⟩
  subst z
  obtain rfl : o2 = o := Option.some.inj (h2.symm.trans ho)
  exact nomatch hd.symm.trans d2
end
end RS

/-! a set of tuples of texts: looking up, adding -/
namespace RS
open PySem PySem.Spec PyProof.Rows L2
/-- where a look for the hash g stands behind c steps -/
abbrev stand (t : SetTable) (g : Int) (c : Nat) : SetTable.Probe := nth t.mask (runAt t.mask (SetTable.bits g % (t.mask + 1)) (SetTable.bits g)) c
theorem stand_j (t : SetTable) (g : Int) (c : Nat) : (stand t g c).j = way t.mask g c := rfl
theorem stand_step (t : SetTable) (g : Int) (c q : Nat) : nth t.mask (stand t g c) q = stand t g (c + q) := (nth_add t.mask c _ q).symm
theorem stand_new (m : Nat) : ∀ (n : Nat) (p : SetTable.Probe), p.dummy = none → (nth m p n).dummy = none
  | 0, _, h => h
  | n + 1, p, h => stand_new m n (adv m p) (by unfold adv; split <;> exact h)
section
variable {P : Program} {w : World} {A : Around} {E : Value → Shared → Prop} {s : Shared}
abbrev PL := List (Addr × List Str)
def cellsOf (P : Program) (w : World) (L : PL) : List (Int × Value) := L.map fun p => (hs P w p.2, Value.ref p.1)
def hashesOf (P : Program) (w : World) (L : PL) : List Int := L.map fun p => hs P w p.2
/-- at a stands a set of the tuples L -/
structure SetP (P : Program) (w : World) (h : Heap) (a : Addr) (L : PL) (es : Array (Int × Value)) (ep : Nat) (t : SetTable) : Prop where
  ob : ∃ o, h.get? a = some o ∧ o.ExactSet ∧ o.data = .set es ep t
  cells : es.toList = cellsOf P w L
  tab : TabOk t (hashesOf P w L)
  nd : (L.map (·.2)).Nodup
  tup : ∀ p ∈ L, Pt P w h p.2 p.1
  room : L.length * 5 < t.mask * 3
  few : L.length < 64
theorem len_cells {es : Array (Int × Value)} {L : PL} (h : es.toList = cellsOf P w L) : es.size = L.length := by
  have := congrArg List.length h
  rwa [Array.length_toList, cellsOf, List.length_map] at this
theorem at_cells {es : Array (Int × Value)} {L : PL} (h : es.toList = cellsOf P w L) {i : Nat} {p : Addr × List Str} (hp : L[i]? = some p) : es[i]? = some (hs P w p.2, Value.ref p.1) := by
  rw [← Array.getElem?_toList, h, cellsOf, List.getElem?_map, hp]; rfl
theorem fits_of {t : SetTable} {n : Nat} (hd : t.dummies = #[]) (hz : t.place.size = n) (hm : n ≤ t.mask) : t.fits n = true := by
  unfold SetTable.fits SetTable.fill
  rw [hd, Bool.and_eq_true, beq_iff_eq, decide_eq_true_eq]
  refine ⟨hz, ?_⟩
  show t.place.size + 0 ≤ t.mask
  omega
variable {a : Addr} {L : PL} {es : Array (Int × Value)} {ep : Nat} {t : SetTable}
theorem SetP.size {h : Heap} (R : SetP P w h a L es ep t) : es.size = L.length := len_cells R.cells
theorem SetP.place {h : Heap} (R : SetP P w h a L es ep t) : t.place.size = L.length := by
  have := R.tab.sz
  rwa [hashesOf, List.length_map] at this
theorem SetP.fits {h : Heap} (R : SetP P w h a L es ep t) : t.fits es.size = true :=
  fits_of R.tab.dm (R.place.trans R.size.symm) (by have := R.room; have := R.size; omega)

/-- looking, from the c-th step on -/
theorem look (R : SetP P w s.heap a L es ep t) {x : Addr} {k : List Str} (hx : Pt P w s.heap k x) (hu : A.units < cLine) {g : Int} (hg : g = hs P w k) {N : Nat} (hN : N < 10 * SetTable.turns t.mask)
    (out : way t.mask g N ∉ t.place.toList) (ins : ∀ c, c < N → way t.mask g c ∈ t.place.toList) {Q : SetFound → Shared → Prop}
    (yes : k ∈ L.map (·.2) → Q (.there none) s) (no : k ∉ L.map (·.2) → Q (.free (way t.mask g N) false) s) :
    ∀ (f c : Nat) (b : Option SetTable.Probe), b.getD (t.probeStart g) = stand t g c → c ≤ N → N - c < f →
      (∀ (i : Nat) p, L[i]? = some p → p.2 = k → ∃ c', c ≤ c' ∧ c' < N ∧ t.place.toList[i]? = some (way t.mask g c')) →
      wpAny (model P w) A (setSearchFrom a (.ref x) g true f b) Q E s
  | 0, c, b, _, _, hf, _ => absurd hf (Nat.not_lt_zero _)
  | f + 1, c, b, hb, hc, hf, ahead => by
    obtain ⟨o, ho, hex, hd⟩ := R.ob
    have st : ∀ {γ : Type} {F : (Array (Int × Value) × Nat × SetTable) → Sem γ} {Q' : γ → Shared → Prop}, wpAny (model P w) A (F (es, ep, t)) Q' E s → wpAny (model P w) A (setState a >>= F) Q' E s := fun z => wpAny_bind (wpAny_setState_of ho hd R.fits z)
    rw [setSearchFrom_succ]
    refine st ?_
    dsimp only
    refine wp_if_neg (by unfold SetTable.gaveWay; rw [mask_odd R.tab.mok]; decide) ?_
    try refine wpAny_bind (wpAny_pure ?_)
    have jq : ∀ q, (nth t.mask (stand t g c) q).j = way t.mask g (c + q) := fun q => congrArg SetTable.Probe.j (stand_step t g c q)
    have hashIs : ∀ (i : Nat) p, L[i]? = some p → (es[i]?.map (·.1)).getD 0 = hs P w p.2 := fun i p hp => by rw [at_cells R.cells hp]; rfl
    rcases go_spec t R.tab.ris R.tab.dm (fun i => (es[i]?.map (·.1)).getD 0) g (10 * SetTable.turns t.mask) (N - c) (stand t g c) (stand_new _ c _ rfl) (by omega)
      (fun q hq => by rw [jq]; exact ins _ (by omega)) (by rw [jq, Nat.add_sub_cancel' hc]; exact out) with ⟨q, i, hq, hi, hh, hno, hpr⟩ | ⟨hno, hpr⟩
    · have pr : t.probe (fun i => (es[i]?.map (·.1)).getD 0) g (b.getD (t.probeStart g)) = some (.candidate (way t.mask g (c + q)) i (stand t g (c + (q + 1)))) := by
        rw [hb, ← jq, ← stand_step]; exact hpr
      rw [pr]
      dsimp only
      rw [jq] at hi
      have il : i < L.length := by
        have := (List.getElem?_eq_some_iff.mp hi).1
        rw [Array.length_toList, R.place] at this
        exact this
      obtain ⟨p, hp⟩ : ∃ p, L[i]? = some p := ⟨_, List.getElem?_eq_getElem il⟩
      have pm : p ∈ L := List.mem_of_getElem? hp
      have go : wpAny (model P w) A (searchRest a (.ref x) g true f es t (way t.mask g (c + q)) i (stand t g (c + (q + 1)))) Q E s := by
        unfold searchRest
        rw [at_cells R.cells hp]
        dsimp only
        refine wpAny_bind (wpAny_holding (wpAny_eqBool_tuple hu (R.tup p pm) hx (st ?_)))
        dsimp only
        by_cases e : p.2 = k
        · exact wp_if_pos (by simp [e]) (wpAny_pure (yes (List.mem_map.mpr ⟨p, pm, e⟩)))
        · refine wp_if_neg (by simp [e]) ?_
          try refine wpAny_bind (wpAny_pure ?_)
          rw [sameMem]
          dsimp only
          have sl : t.slot (way t.mask g (c + q)) = .live i := slot_live R.tab.ris hi
          simp only [if_true, sl, at_cells R.cells hp]
          refine wpAny_bind (wpAny_isSame_ref_self (wpAny_bind (wpAny_pure ?_)))
          simp only [if_true]
          refine wp_if_neg (by simp [e]) (look R hx hu hg hN out ins yes no f (c + (q + 1)) _ rfl (by omega) (by omega) fun i0 p0 h0 k0 => ?_)
          obtain ⟨c', a1, a2, a3⟩ := ahead i0 p0 h0 k0
          refine ⟨c', ?_, a2, a3⟩
          rcases Nat.lt_or_ge c' (c + (q + 1)) with z | z
          rotate_left
          · exact z
          exfalso
          rcases Nat.lt_or_ge c' (c + q) with y | y
          · exact hno (c' - c) i0 (by omega) (by rw [jq, Nat.add_sub_cancel' a1]; exact a3) ((hashIs i0 p0 h0).trans (by rw [k0, hg]))
          · obtain rfl : c' = c + q := by omega
            have := sl.symm.trans (slot_live R.tab.ris a3)
            injection this with this
            rw [← this, hp] at h0
            exact e ((congrArg Prod.snd (Option.some.inj h0)).trans k0)
      by_cases hl : t.led = true
      · refine wp_if_neg (by simp [hl]) ?_
        try refine wpAny_bind (wpAny_pure ?_)
        exact go
      · refine wp_if_pos (by simp [hl]) (wpAny_bind (unseen hx (fun y hy => ?_) (wp_if_neg (by decide) ?_)))
        · obtain ⟨e, he, rfl⟩ := List.mem_map.mp hy
          have he2 : e ∈ es.toList := by
            have : e ∈ es ∧ e.1 = g := by simpa using he
            simpa using this.1
          rw [R.cells] at he2
          obtain ⟨p2, hp2, rfl⟩ := List.mem_map.mp he2
          exact ⟨p2.2, p2.1, rfl, R.tup p2 hp2⟩
        · try refine wpAny_bind (wpAny_pure ?_)
          exact go
    · have pr : t.probe (fun i => (es[i]?.map (·.1)).getD 0) g (b.getD (t.probeStart g)) = some (.empty (way t.mask g N) none) := by
        have e2 : way t.mask g N = (nth t.mask (stand t g c) (N - c)).j := by rw [jq, Nat.add_sub_cancel' hc]
        rw [hb, e2]; exact hpr
      rw [pr]
      refine wpAny_pure (no fun hm => ?_)
      obtain ⟨p0, m0, k0⟩ := List.mem_map.mp hm
      obtain ⟨i0, h0⟩ := List.getElem?_of_mem m0
      obtain ⟨c', a1, a2, a3⟩ := ahead i0 p0 h0 k0
      exact hno (c' - c) i0 (by omega) (by rw [jq, Nat.add_sub_cancel' a1]; exact a3) ((hashIs i0 p0 h0).trans (by rw [k0, hg]))
theorem lookFor (R : SetP P w s.heap a L es ep t) {x : Addr} {k : List Str} (hx : Pt P w s.heap k x) (hu : A.units < cLine) {g : Int} (hg : g = hs P w k) {Q : SetFound → Shared → Prop} (yes : k ∈ L.map (·.2) → Q (.there none) s)
    (no : ∀ N, k ∉ L.map (·.2) → way t.mask g N ∉ t.place.toList → (∀ c, c < N → way t.mask g c ∈ t.place.toList) → Q (.free (way t.mask g N) false) s) :
    wpAny (model P w) A (setSearch a (.ref x) g true) Q E s := by
  have hr := R.room
  obtain ⟨N, n1, n2, n3⟩ := R.tab.first (by rw [hashesOf, List.length_map]; omega) g
  have : N < 99999 := by
    refine Nat.lt_of_lt_of_le n1 ?_
    unfold SetTable.turns
    rcases R.tab.mok with e | e | e <;> omega
  unfold setSearch
  refine look R hx hu hg n1 n2 n3 yes (fun z => no N z n2 n3) 100000 0 none rfl (Nat.zero_le _) (by omega) fun i p hp hk => ?_
  have hi : (hashesOf P w L)[i]? = some g := by rw [hashesOf, List.getElem?_map, hp, hg, ← hk]; rfl
  have il : i < t.place.toList.length := by
    rw [Array.length_toList, R.place]
    exact (List.getElem?_eq_some_iff.mp hp).1
  obtain ⟨c, c1, c2⟩ := R.tab.before n2 hi (List.getElem?_eq_getElem il)
  exact ⟨c, Nat.zero_le _, c1, by rw [List.getElem?_eq_getElem il, c2]⟩
end
end RS

/-! a set of tuples of texts: adding, set(..), len -/
namespace RS
open PySem PySem.Spec PyProof.Rows L2
section
variable {P : Program} {w : World} {A : Around} {E : Value → Shared → Prop} {s : Shared}
theorem picked (L : PL) (es : Array (Int × Value)) (order : Array Nat) (hr : es.toList = cellsOf P w L) (hp : order.toList.Perm (List.range L.length)) :
    ∃ L2 : PL, (order.filterMap (es[·]?)).toList = cellsOf P w L2 ∧ L2.Perm L ∧ hashesOf P w L2 = order.toList.map fun i => (es.map (·.1)).getD i 0 := by
  have all : ∀ l : List Nat, (∀ i ∈ l, i < L.length) → l.filterMap (fun i => es[i]?) = cellsOf P w (l.filterMap (fun i => L[i]?)) ∧ hashesOf P w (l.filterMap (fun i => L[i]?)) = l.map fun i => (es.map (·.1)).getD i 0 := by
    intro l
    induction l with
    | nil => exact fun _ => ⟨rfl, rfl⟩
    | cons i l ih =>
      intro hl
      obtain ⟨p, e⟩ : ∃ p, L[i]? = some p := ⟨_, List.getElem?_eq_getElem (hl i List.mem_cons_self)⟩
      obtain ⟨e1, e2⟩ := ih fun j hj => hl j (List.mem_cons_of_mem _ hj)
      have ee := at_cells (P := P) (w := w) hr e
      rw [List.filterMap_cons_some ee, List.filterMap_cons_some e, e1]
      refine ⟨rfl, ?_⟩
      have ew : (es.map (·.1)).getD i 0 = hs P w p.2 := by
        rw [Array.getD_eq_getD_getElem?, Array.getElem?_map, ee]; rfl
      rw [List.map_cons, ew, ← e2]; rfl
  obtain ⟨e1, e2⟩ := all order.toList fun i hi => List.mem_range.mp (hp.mem_iff.mp hi)
  refine ⟨_, by rw [Array.toList_filterMap]; exact e1, ?_, e2⟩
  have full : ∀ n, n ≤ L.length → (List.range n).filterMap (fun i => L[i]?) = L.take n := by
    intro n
    induction n with
    | zero => exact fun _ => rfl
    | succ n ih =>
      intro hn
      rw [List.range_succ, List.filterMap_append, ih (by omega), List.take_add_one]
      have : L[n]? = some (L[n]'hn) := List.getElem?_eq_getElem hn
      rw [List.filterMap_cons_some this, this]; rfl
  have q := hp.filterMap fun i => L[i]?
  rwa [full _ (Nat.le_refl _), List.take_length] at q
variable {a : Addr} {L : PL} {es : Array (Int × Value)} {ep : Nat} {t : SetTable}
/-- a larger table -/
theorem larger {o : Obj} (ho : s.heap.get? a = some o) (hex : o.ExactSet) (hd : o.data = .set es ep t) (hc : es.toList = cellsOf P w L) (hz : t.place.size = es.size) (hm : t.dummies = #[]) (hle : es.size ≤ t.mask)
    (nd : (L.map (·.2)).Nodup) (tup : ∀ p ∈ L, Pt P w s.heap p.2 p.1) (few : L.length < 64) {wanted M : Nat}
    (hw : SetTable.sizeAbove wanted = M + 1) (hM : MaskOk M) (hn : L.length * 5 < M * 3) {Q : Unit → Shared → Prop}
    (z : ∀ h' L' es' ep' t', Heap.SameBut a s.heap h' → SetP P w h' a L' es' ep' t' → L'.Perm L → Q () { s with heap := h' }) : wpAny (model P w) A (setRelay a wanted) Q E s := by
  have hl := len_cells hc
  have small : M ≤ 127 := by rcases hM with e | e | e <;> omega
  obtain ⟨t', order, e, hp, T, em, _, _, _⟩ := relaid_ok t (hs := es.map (·.1)) (wanted := wanted) (by rw [hw]; rfl) hM (by rw [Array.size_map, hl]; omega)
  rw [Array.size_map, hl] at hp
  obtain ⟨L2, r1, r2, r3⟩ := picked L es order hc hp
  have hl2 := len_cells r1
  rw [r2.length_eq, ← hl] at hl2
  rw [setRelay_eq]
  refine wpAny_bind (wpAny_setState_of ho hd (fits_of hm hz hle) (wp_if_neg (by rw [sizeLine_eq]; omega) ?_))
  try refine wpAny_bind (wpAny_pure ?_)
  dsimp only
  rw [e]
  dsimp only
  refine wpAny_bind (wp_if_neg (by rw [hl2]; simp) ?_)
  try refine wpAny_bind (wpAny_pure ?_)
  refine wpAny_pure (wpAny_storeSet_of ho hd ?_ (by dsimp only; rw [hl2, hl, sizeLine_eq]; omega))
  have sb : Heap.SameBut a s.heap (s.heap.update a (Obj.putSet (order.filterMap (es[·]?)) t')) := Heap.SameBut.update ..
  refine z _ L2 _ _ t' sb ⟨⟨_, store_at ho hd, ⟨hex.1, hex.2.1, hex.2.2⟩, rfl⟩, r1, by rw [r3]; exact T, (r2.map (·.2)).nodup_iff.mpr nd, fun p pm => (tup p (r2.mem_iff.mp pm)).apart ho hd sb, by rw [r2.length_eq, em]; exact hn, by rw [r2.length_eq]; exact few⟩ r2
theorem TabOk.plainly {t : SetTable} {l : List Int} (T : TabOk t l) (b : Bool) : TabOk { t with plain := b } l := ⟨T.ris, T.dm, T.sz, T.mok, T.bd, T.reach⟩
theorem put_in_row {α : Type} (L : List α) (p : Nat) (x : α) : (L.take p ++ x :: L.drop p).Perm (x :: L) := by
  have := (List.perm_middle (l₁ := L.take p) (l₂ := L.drop p) (a := x))
  rwa [List.take_append_drop] at this
/-- adding one -/
theorem addOne (R : SetP P w s.heap a L es ep t) {x : Addr} {k : List Str} (hx : Pt P w s.heap k x) (hu : A.units < cLine) (fits : k ∉ L.map (·.2) → L.length + 1 < 64) {Q : Bool → Shared → Prop}
    (z : ∀ b h' L' es' ep' t', Heap.SameBut a s.heap h' → SetP P w h' a L' es' ep' t' → (k ∈ L.map (·.2) → L' = L) → (k ∉ L.map (·.2) → L'.Perm ((x, k) :: L)) → Q b { s with heap := h' }) :
    wpAny (model P w) A (setAddHashed a (.ref x) (hs P w k)) Q E s := by
  obtain ⟨o, ho, hex, hd⟩ := R.ob
  obtain ⟨g, hg⟩ : ∃ g, g = hs P w k := ⟨_, rfl⟩
  have hr := R.room
  rw [← hg]
  unfold setAddHashed
  refine wpAny_holding ?_
  rw [show (100000 : Nat) = 99999 + 1 from rfl, setAddHashedIn_succ]
  refine wpAny_bind (wpAny_setState_of ho hd R.fits (wp_if_neg (by simp [byScan, Value.scannable]) ?_))
  try refine wpAny_bind (wpAny_pure ?_)
  refine wpAny_bind (lookFor R hx hu hg (fun hm => wpAny_pure (z false s.heap L es ep t (Heap.SameBut.refl a s.heap) R (fun _ => rfl) fun y => absurd hm y)) fun N hm n1 n2 => ?_)
  have few := fits hm
  dsimp only
  refine wpAny_bind (wpAny_setState_of ho hd R.fits ?_)
  dsimp only
  obtain ⟨q1, q2, q3, q4, _, _, _, _, q9⟩ := R.tab.put n1 n2
  generalize hpt : t.put (way t.mask g N) = pt at q1 q3 q4 q9 ⊢
  obtain ⟨t1, p⟩ := pt
  dsimp only at q1 q3 q4 q9 ⊢
  obtain rfl := q1
  have behind : ∀ c : Bool, ∀ t2 : SetTable, t2 = (if c then t1 else { t1 with plain := false }) → wpAny (model P w) A (do
      storeSet a (SetTable.insertAt es (SetTable.below t.place (way t.mask g N)) (g, Value.ref x)) t2
      if !false && t2.tooFull then setRelay a (SetTable.grown (es.size + 1))
      return true) Q E s := by
    intro c t2 e2
    have T2 : TabOk t2 ((hashesOf P w L).take (SetTable.below t.place (way t.mask g N)) ++ g :: (hashesOf P w L).drop (SetTable.below t.place (way t.mask g N))) := by
      rw [e2]
      cases c with
      | true => exact q3
      | false => exact TabOk.plainly q3 false
    have m2 : t2.mask = t.mask := by rw [e2, ← q4]; cases c <;> rfl
    have f2 : t2.fill = L.length + 1 := by
      have : t2.fill = t1.fill := by rw [e2]; cases c <;> rfl
      rw [this, q9, hashesOf, List.length_map]
    generalize SetTable.below t.place (way t.mask g N) = p at q2 q3 T2 ⊢
    have ci : (SetTable.insertAt es p (g, Value.ref x)).toList = cellsOf P w (L.take p ++ (x, k) :: L.drop p) := by
      rw [SetTable.toList_insertAt, R.cells, cellsOf, cellsOf, List.map_append, List.map_cons, List.map_take, List.map_drop, hg]
    have pm := put_in_row L p (x, k)
    have hh : hashesOf P w (L.take p ++ (x, k) :: L.drop p) = (hashesOf P w L).take p ++ g :: (hashesOf P w L).drop p := by
      rw [hashesOf, hashesOf, List.map_append, List.map_cons, List.map_take, List.map_drop, hg]
    rw [← hh] at T2
    have nd1 : ((L.take p ++ (x, k) :: L.drop p).map (·.2)).Nodup := (pm.map (·.2)).nodup_iff.mpr (List.nodup_cons.mpr ⟨hm, R.nd⟩)
    generalize SetTable.insertAt es p (g, Value.ref x) = es1 at ci ⊢
    generalize L.take p ++ (x, k) :: L.drop p = L1 at pm T2 nd1 ci
    have n1 : L1.length = L.length + 1 := pm.length_eq
    have hes := len_cells ci
    refine wpAny_bind (wpAny_storeSet_of ho hd ?_ (by rw [hes, n1, sizeLine_eq]; omega))
    have sb : Heap.SameBut a s.heap (s.heap.update a (Obj.putSet es1 t2)) := Heap.SameBut.update ..
    have ho1 := store_at (es' := es1) (t' := t2) ho hd
    generalize s.heap.update a (Obj.putSet es1 t2) = h1 at sb ho1 ⊢
    have tup1 : ∀ p ∈ L1, Pt P w h1 p.2 p.1 := fun p hp => by
      rcases List.mem_cons.mp (pm.mem_iff.mp hp) with e | hp
      · rw [e]; exact hx.apart ho hd sb
      · exact (R.tup p hp).apart ho hd sb
    have sz1 : t2.place.size = es1.size := by
      have := T2.sz
      rw [hashesOf, List.length_map] at this
      rw [this, hes]
    by_cases hf : t2.tooFull = true
    · have full : (L.length + 1) * 5 ≥ t.mask * 3 := by
        have y := hf
        unfold SetTable.tooFull at y
        rw [decide_eq_true_eq, f2, m2] at y
        exact y
      have grow : ∀ M, SetTable.sizeAbove (SetTable.grown (L.length + 1)) = M + 1 → MaskOk M → (L.length + 1) * 5 < M * 3 →
          wpAny (model P w) A (setRelay a (SetTable.grown (es.size + 1))) (fun _ s' => wpAny (model P w) A (pure true) Q E s') E { s with heap := h1 } := fun M a1 a2 a3 => by
        rw [R.size]
        refine larger (s := { s with heap := h1 }) ho1 ⟨hex.1, hex.2.1, hex.2.2⟩ rfl ci sz1 T2.dm (by rw [hes, m2]; omega) nd1 tup1 (by omega) a1 a2 (by rw [n1]; exact a3) ?_
        exact fun h2 L2 es2 ep2 t3 sb2 R2 pm2 => wpAny_pure (z true h2 L2 es2 ep2 t3 (sb.trans sb2) R2 (fun y => absurd y hm) fun _ => pm2.trans pm)
      refine wp_if_pos (by simp [hf]) (wpAny_bind ?_)
      rcases R.tab.mok with e | e | e
      · have : L.length = 4 := by omega
        exact grow 31 (by rw [this, size_20]) (.inr (.inl rfl)) (by omega)
      · have : L.length = 18 := by omega
        exact grow 127 (by rw [this, size_76]) (.inr (.inr rfl)) (by omega)
      · exact absurd full (by omega)
    · refine wp_if_neg (by simp [hf]) (wpAny_pure ?_)
      refine z true h1 L1 es1 (ep + 1) t2 sb ⟨⟨_, ho1, ⟨hex.1, hex.2.1, hex.2.2⟩, rfl⟩, ci, T2, nd1, tup1, ?_, by omega⟩ (fun y => absurd y hm) fun _ => pm
      have y := hf
      unfold SetTable.tooFull at y
      rw [decide_eq_true_eq, f2] at y
      rw [n1]; omega
  by_cases pl : t1.plain = true
  · exact wp_if_pos pl (wpAny_bind (someAnswer hx fun c => behind c _ rfl))
  · exact wp_if_neg pl (wpAny_bind (wpAny_pure (behind true _ rfl)))
end
end RS

/-! set(a list of tuples of texts), its len -/
namespace RS
open PySem PySem.Spec PyProof.Rows L2
/-- the set has just the first i keys -/
def Has (ks : List (List Str)) (i : Nat) (L : PL) : Prop := (L.map (·.2)).Perm (uqK (ks.take i))
theorem Has.next {ks : List (List Str)} {i : Nat} {L L' : PL} {x : Addr} {k : List Str} (H : Has ks i L) (e : ks[i]? = some k) (same : k ∈ L.map (·.2) → L' = L) (more : k ∉ L.map (·.2) → L'.Perm ((x, k) :: L)) : Has ks (i + 1) L' := by
  unfold Has at H ⊢
  rw [uqK_next e]
  unfold putK
  split
  · next h => rw [same (H.mem_iff.mpr h)]; exact H
  · next h =>
    refine ((more fun z => h (H.mem_iff.mp z)).map (·.2)).trans ?_
    rw [List.map_cons]
    exact (H.cons k).trans (List.perm_append_singleton k _).symm
theorem Has.len {ks : List (List Str)} {i : Nat} {L : PL} (H : Has ks i L) : L.length = (uqK (ks.take i)).length := by
  have := H.length_eq
  rwa [List.length_map] at this
section
variable {prog : Program} {w : World} {A : Around} {R : Result → Shared → Prop} {I : Addr} {fp wr : List Addr} {G : Array GenState → Array GenState → Prop} {n : Nat} {Pv : Nat → Value → Prop} {St : Nat → Shared → Prop}
theorem SetP.grow {h h' : Heap} {a : Addr} {L : PL} {es : Array (Int × Value)} {ep : Nat} {t : SetTable} (R : SetP prog w h a L es ep t) (k : ∀ o, h.get? a = some o → h'.get? a = some o) (g : ∀ p ∈ L, Pt prog w h' p.2 p.1) : SetP prog w h' a L es ep t := by
  obtain ⟨o, e, r⟩ := R.ob
  exact ⟨⟨o, k o e, r⟩, R.cells, R.tab, R.nd, g, R.room, R.few⟩
theorem update_rows (W : WalksS prog w A.in1 I fp wr G n Pv St) {a : Addr} (haf : a ∉ fp) {ks : List (Addr × List Str)} (hx : ks.length = n) (hb : (uqK (ks.map (·.2))).length < 64) (hv : ∀ i v, Pv i v → ∃ p, ks[i]? = some p ∧ v = .ref p.1)
    {h0 : Heap} (h0a : h0.get? a = none) (h0w : ∀ b ∈ wr, h0.get? b = none) (ht : ∀ p ∈ ks, Pt prog w h0 p.2 p.1) (hu : A.in1.units < cLine) :
    ∀ (m i : Nat) (s : Shared), i + m = n → St i s → (∀ b o, h0.get? b = some o → s.heap.get? b = some o) → (∃ L es ep t, SetP prog w s.heap a L es ep t ∧ (∀ p ∈ L, p ∈ ks) ∧ Has (ks.map (·.2)) i L) →
      (∀ s2 L es ep t, Moved (a :: wr) G s s2 → SetP prog w s2.heap a L es ep t → Has (ks.map (·.2)) n L → (∀ b o, h0.get? b = some o → s2.heap.get? b = some o) → R (.ok (.ret .none)) s2) →
      codeAny (model prog w) A (.builtin "set.update.loop" ⟨[.ref a, .ref I], []⟩) R s := by
  have haw : a ∉ wr := fun q => haf (W.sub _ q)
  have up : ∀ b ∈ wr, b ∈ a :: wr := fun b q => List.mem_cons_of_mem _ q
  have old : ∀ {s s2 : Shared}, Moved wr G s s2 → (∀ b o, h0.get? b = some o → s.heap.get? b = some o) → ∀ b o, h0.get? b = some o → s2.heap.get? b = some o := fun mv kp b o e =>
    mv.heap b o (fun z => by rw [h0w b z] at e; cases e) (kp b o e)
  intro m
  induction m with
  | zero =>
    rintro i s e st kp ⟨L, es, ep, t, hS, sub, hL⟩ hR
    obtain rfl : i = n := e
    refine codeAny_builtin PyProof.Rows.F.entry_set_update_loop ?_
    rw [Around.under_plainId PyProof.Rows.F.plain_set_update_loop _]
    show wpAny _ A.in1 (pyNext (.ref I) >>= _) _ _ s
    refine wpAny_bind (W.done s _ _ st fun s2 mv => ?_)
    have kp2 := old mv kp
    exact wpAny_pure (hR s2 L es ep t (mv.mono up) (hS.grow (fun o q => mv.heap a o haw q) fun p hp => (ht p (sub p hp)).grow kp2) hL kp2)
  | succ m ih =>
    rintro i s e st kp ⟨L, es, ep, t, hS, sub, hL⟩ hR
    have lt : i < n := by omega
    refine codeAny_builtin PyProof.Rows.F.entry_set_update_loop ?_
    rw [Around.under_plainId PyProof.Rows.F.plain_set_update_loop _]
    show wpAny _ A.in1 (pyNext (.ref I) >>= _) _ _ s
    refine wpAny_bind (W.item i s _ _ lt st fun v s2 pv st2 mv => ?_)
    obtain ⟨p, ep0, rfl⟩ := hv i v pv
    have kp2 := old mv kp
    have hS2 := hS.grow (fun o q => mv.heap a o haw q) fun p hp => (ht p (sub p hp)).grow kp2
    have hp := (ht p (List.mem_of_getElem? ep0)).grow kp2
    show wpAny _ A.in1 (holding [Value.ref p.1] (setAdd a (.ref p.1)) >>= _) _ _ s2
    refine wpAny_bind (wpAny_holding ?_)
    unfold setAdd
    have ek : (ks.map (·.2))[i]? = some p.2 := by rw [List.getElem?_map, ep0]; rfl
    refine wpAny_holding (wpAny_bind (wpAny_pyHash_tuple hu hp (addOne (s := { s2 with toks := s2.toks + (p.2.length + 1) }) hS2 hp hu (fun hm => ?_) fun b h3 L3 es3 ep3 t3 sb hS3 c1 c2 => ?_)))
    · have q1 := uqK_take_le (ks.map (·.2)) (i + 1)
      rw [uqK_next ek, len_putK, if_neg fun z => hm (hL.mem_iff.mpr z)] at q1
      rw [hL.len]; omega
    have kp3 : ∀ b o, h0.get? b = some o → h3.get? b = some o := fun b o q => (sb.2 b fun z => by rw [z, h0a] at q; cases q).trans (kp2 b o q)
    have sub3 : ∀ p ∈ L3, p ∈ ks := fun q hq => by
      by_cases z : p.2 ∈ L.map (·.2)
      · rw [c1 z] at hq; exact sub q hq
      · rcases List.mem_cons.mp ((c2 z).mem_iff.mp hq) with y | y
        · rw [y]; exact List.mem_of_getElem? ep0
        · exact sub q y
    refine wpAny_pure ⟨plainId_quiet PyProof.Rows.F.plain_set_update_loop _, ih (i + 1) _ (by omega) (W.frame _ s2 _ _ st2 (Nat.le_add_right _ _) fun b hbf o q => ?_) kp3 ⟨L3, es3, ep3, t3, hS3, sub3, hL.next ek c1 c2⟩ fun s5 L5 es5 ep5 t5 mv5 hS5 hL5 kp5 => ?_⟩
    · rw [sb.2 b fun z => haf (z ▸ hbf)]
      exact q
    · refine hR s5 L5 es5 ep5 t5 (Moved.trans W.gtrans ((mv.mono up).then_heap (Nat.le_add_right _ _) fun b o nb q => ?_) mv5) hS5 hL5 kp5
      rw [sb.2 b fun z => nb (z ▸ List.mem_cons_self)]
      exact q
end
section
variable {prog : Program} {w : World} {A : Around} {E : Value → Shared → Prop} {s : Shared}
theorem newSet {h : Heap} {a : Addr} (led : Bool) (e : h.get? a = some (MyS.setO led)) : SetP prog w h a [] #[] 0 (.fresh 0 0 led) where
  ob := ⟨_, e, ⟨rfl, rfl, rfl⟩, rfl⟩
  cells := rfl
  tab := ⟨List.Pairwise.nil, rfl, rfl, .inl rfl, fun _ z => (nomatch z), fun _ _ _ z => (by simp [hashesOf] at z)⟩
  nd := List.nodup_nil
  tup := fun _ z => (nomatch z)
  room := by show 0 * 5 < 7 * 3; decide
  few := by show 0 < 64; decide
def EndP (prog : Program) (w : World) (ks : List (List Str)) (s s2 : Shared) : Prop := ∃ h2 t2 L es ep t, s2 = { s with heap := h2, toks := t2 } ∧ SetP prog w h2 s.heap.objs.size L es ep t ∧ Has ks ks.length L ∧ ∀ b o, b < s.heap.objs.size → s.heap.get? b = some o → h2.get? b = some o
theorem set_rows {itO oq : Obj} {T : String} {q : Addr} {ks : List (Addr × List Str)} {Pv : Nat → Value → Prop} {Q : Value → Shared → Prop} (S : MyS.Src prog w T itO q ks.length Pv oq) (hh : A.handled = none) (hu : A.units + 9 < cLine) (hb : (uqK (ks.map (·.2))).length < 64)
    (hv : ∀ i v, Pv i v → ∃ p, ks[i]? = some p ∧ v = .ref p.1) (ht : ∀ p ∈ ks, Pt prog w s.heap p.2 p.1) (hq : s.heap.get? q = some oq)
    (k : ∀ s2, EndP prog w (ks.map (·.2)) s s2 → Q (.ref s.heap.objs.size) s2) : wpAny (model prog w) A (call (.type "set") [.ref q]) Q E s := by
  obtain ⟨_, _, mro⟩ := PySem.F.called_set.mro
  obtain ⟨made, sub, m1, m2, m3⟩ := And.intro PySem.F.called_set.made (And.intro PySem.F.called_set.sub (And.intro PySem.F.called_set.notType (And.intro PySem.F.called_set.canCreate (PySem.F.typeCall_set_1 (.ref q)))))
  refine wpAny_call (codeAny_of_tree (show wpAny _ _ (callAny (.type "set") _) _ _ _ from wpAny_pure ⟨Code.quiet_builtin _ (by decide +kernel), codeAny_builtin PySem.F.entry_type_call ?_⟩))
  rw [Around.under_plain (weight_type_call_type "set" [.ref q] []) rfl]
  repeat any_goals (first | assumption | wp_step)
  refine codeAny_mono (code_set_new_1 (.ref q) (E := E) (Q₁ := fun u s1 => ∃ led : Bool, u = .ref s.heap.objs.size ∧ s1 = { s with heap := s.heap.push (MyS.setO led) }) fun led => ⟨led, rfl, rfl⟩) fun r1 s1 h1 => ?_
  cases r1 with
  | error e => exact h1
  | ok f1 =>
    cases f1 with
    | next => exact h1.elim
    | brk => exact h1.elim
    | cont => exact h1.elim
    | ret u =>
      obtain ⟨led, rfl, rfl⟩ := h1
      have g1 : (s.heap.push (MyS.setO led)).get? s.heap.objs.size = some (MyS.setO led) := Heap.get?_push_size _ rfl
      have ty : Shared.TypeIs { s with heap := s.heap.push (MyS.setO led) } (.ref s.heap.objs.size) "set" := ⟨_, g1, rfl⟩
      obtain ⟨li, bi⟩ := And.intro PySem.F.called_set.init.lookup (PySem.F.called_set.init.bind (.ref s.heap.objs.size))
      repeat any_goals (first | assumption | wp_step)
      refine codeAny_mono (codeAny_call_builtin (R := wants (fun r s2 => r = .none ∧ EndP prog w (ks.map (·.2)) s s2) E) PySem.F.called_set.init.plain PySem.F.entry_set_init (check_set_init_1 ty ?_)) fun r2 s2 h2 => ?_
      · have gq : (s.heap.push (MyS.setO led)).get? q = some oq := Heap.get?_push_of_some _ hq
        obtain ⟨cq, dq, xq, sq⟩ := oq
        obtain rfl : cq = .type T := S.cls
        obtain ⟨a1, a2, a3⟩ := And.intro S.noSet (And.intro S.noFrz S.noDict)
        unfold Builtin.«set.__init__» Builtin.Frozenset.updateFrom noKeywords
        generalize eIter : pyIter = PI
        wp_walk
        subst eIter
        refine S.opens _ _ _ _ gq ?_
        refine wpAny_bind (wpAny_runValue ?_)
        have lt : q < s.heap.objs.size := Heap.lt_size hq
        have ne : q ≠ (s.heap.push (MyS.setO led)).objs.size := by
          rw [Heap.size_push]
          exact Nat.ne_of_lt (Nat.lt_succ_of_lt lt)
        obtain ⟨St, W, st⟩ := S.walk A.in1.in1.in1 _ (by simp [hh]) ne
        have nin : s.heap.objs.size ∉ [(s.heap.push (MyS.setO led)).objs.size, q] := by
          rw [Heap.size_push]
          intro z
          rcases List.mem_cons.mp z with z | z
          · exact absurd z (Nat.ne_of_lt (Nat.lt_succ_self _))
          · exact absurd (List.mem_singleton.mp z) (Nat.ne_of_gt lt)
        have g2 : ((s.heap.push (MyS.setO led)).push itO).get? s.heap.objs.size = some (MyS.setO led) := Heap.get?_push_of_some _ g1
        have gone : ∀ b, s.heap.objs.size ≤ b → s.heap.get? b = none := fun b hb => by
          cases z : s.heap.get? b with
          | none => rfl
          | some o => exact absurd (Nat.lt_of_lt_of_le (Heap.lt_size z) hb) (Nat.lt_irrefl _)
        refine update_rows W.toS nin rfl hb hv (h0 := s.heap) (gone _ (Nat.le_refl _)) (fun b hb => gone b ?_) ht ?_ ks.length 0 _ (Nat.zero_add _) (st _ (Heap.get?_push_size _ S.alive) (Heap.get?_push_of_some _ gq))
          (fun b o e => Heap.get?_push_of_some _ (Heap.get?_push_of_some _ e)) ⟨[], _, _, _, newSet led g2, fun _ z => (nomatch z), .nil⟩ fun s5 L es ep t mv hS hL kp => ?_
        · rw [List.mem_singleton.mp hb, Heap.size_push]; exact Nat.le_succ _
        · show A.units + 1 + 1 + 1 < cLine
          omega
        obtain ⟨h5, g5, d5, t5, o5⟩ := s5
        obtain ⟨eg, ed, eo⟩ : g5 = s.gens ∧ d5 = s.drawn ∧ o5 = s.os := ⟨mv.gens, mv.drawn, mv.os⟩
        subst eg ed eo
        show wpAny _ _ _ _ _ _
        refine wpAny_pure (show wpAny _ _ (ret Value.none) _ _ _ from wpAny_pure ⟨rfl, h5, t5, L, es, ep, t, rfl, hS, by rw [List.length_map]; exact hL, fun b o _ e => kp b o e⟩)
      · cases r2 with
        | error e => exact h2
        | ok f2 =>
          cases f2 with
          | ret r =>
            obtain ⟨rfl, en⟩ := h2
            repeat any_goals (first | assumption | wp_step)
            exact k _ en
          | _ => exact h2.elim
end
end RS

/-! len(set(a list of tuples of texts)) as an expression -/
namespace L2
open PySem PySem.Spec PyProof.Rows
def tLenP (K : PySem.W.Frag) (ta : TE) : TE := fun σ H Q => ta σ H fun x H1 => ∃ (l : Addr) (ks : List (Addr × List Str)), x = .ref l ∧ SqL K H1 l (ks.map fun p => V.ref p.1) ∧ (∀ p ∈ ks, SqT K H1 p.1 (p.2.map V.str)) ∧ (RS.uqK (ks.map (·.2))).length < 64 ∧ Q (.int (RS.uqK (ks.map (·.2))).length) H1
theorem keys_of {P : Program} {w : World} : ∀ {xs : List Str} {us : List Value}, Vals (xs.map V.str) us → ItemsAre (strKind P w) xs us
  | [], _, .nil => .nil
  | x :: xs, _, .cons r t => by
    obtain ⟨k, rfl⟩ := r
    exact .cons (strKind_is _ _ _ _) (keys_of t)
theorem addrs_of : ∀ {ks : List (Addr × List Str)} {us : List Value}, Vals (ks.map fun p => V.ref p.1) us → us = ks.map fun p => Value.ref p.1
  | [], _, .nil => rfl
  | p :: ks, _, .cons r t => by cases r; rw [addrs_of t]; rfl
section
variable {X : Cx}
theorem Inv.row {pins : List (Addr × Obj)} {σ : St} {H : Hp} {s : Shared} {b : Addr} {k : List Str} (I : Inv X pins σ H s) (h : SqT X.K H b (k.map V.str)) : RS.Pt X.prog X.w s.heap k b := by
  obtain ⟨its, r, ⟨o, ho, hc, n, hd⟩, _⟩ := I.tuple h
  exact ⟨o, its.toArray, n, ho, hc, hd, by simpa using keys_of r⟩
theorem pe_lenP {a : Expr} {ta : TE} {p p2 q pos : Pos} (hc : X.calm = true) (hu : X.A.units + 9 < cLine) (hg : Gl X "len") (hm : X.mg "len" = none) (hg2 : Gl X "set") (hm2 : X.mg "set" = none) (ha : PE X a ta)
    (na : starEach [a] X.env = (false, eval a X.env) :: starEach [] X.env := by rfl) : PE X (.Call (.Name "len" p) [.Call (.Name "set" p2) [a] [] q] [] pos) (tLenP X.K ta) := by
  refine ⟨fun pins s σ H Q I h => Call_ (ld_blt I hg hm boot_len (PyProof.Rows.callWith_builtin1 (PyProof.Rows.args_cons (Call_ (ld_blt I hg2 hm2 boot_set ?_)) rfl) rfl rfl))⟩
  refine PyProof.Rows.callWith_type1 (PyProof.Rows.args_cons (thn (ha.run pins s σ H _ I h) fun v s1 ⟨x, H1, I1, r1, q1⟩ => PyProof.Rows.args_nil ?_) na) na rfl
  obtain ⟨l, ks, rfl, sq, hk, few, q1⟩ := q1
  cases r1
  have fin : ∀ s2, RS.EndP X.prog X.w (ks.map (·.2)) s1 s2 → wpAny (model X.prog X.w) X.A (spliced (backTo pos (starEach [] X.env))) (fun vs s3 => wpAny (model X.prog X.w) X.A (call (.builtin "len") (Value.ref s1.heap.objs.size :: vs)) (EP X pins σ Q) X.xe s3) X.xe s2 := by
    rintro s2 ⟨h2, t2, L, es, ep, t, rfl, hS, hL, kp⟩
    refine PyProof.Rows.args_nil ?_
    obtain ⟨o, ho, ex, hd⟩ := hS.ob
    have I2 : Inv X pins σ H1 { s1 with heap := h2, toks := t2 } := I1.kept fun b o e => kp b o (Heap.lt_size e) e
    have hl := hL.len
    rw [List.take_length] at hl
    have hz := hS.size
    exact call_len_set ho ex hd hS.fits (by rw [hz] <;> omega) ⟨.int (RS.uqK (ks.map (·.2))).length, H1, I2.tok _, ⟨_, by rw [hz, hl]⟩, q1⟩
  obtain ⟨its, r, pl, hz⟩ := I1.list sq
  have ea := addrs_of r
  obtain ⟨oq, hq, S⟩ := MyS.src_list (prog := X.prog) (w := X.w) pl.isList
  rw [List.size_toArray, ea, List.length_map] at S
  refine RS.set_rows S (I1.ok.hd hc) hu few (fun i v z => ?_) (fun p hp => I1.row (hk p hp)) hq fin
  have z2 : (ks.map fun p => Value.ref p.1)[i]? = some v := by rw [← List.getElem?_toArray]; exact z
  rw [List.getElem?_map] at z2
  obtain ⟨p, e, rfl⟩ := Option.map_eq_some_iff.mp z2
  exact ⟨p, e, rfl⟩
end
end L2
namespace L3
open PySem PySem.Spec PyProof.Rows L2
/-- a tuple of texts as data -/
def rowT (k : List Str) : D := .tup (k.map D.str)
theorem rds_rows {K : PySem.W.Frag} {φ : List Addr} {H : Hp} : ∀ {ks : List (List Str)} {vs : List V}, RDs K φ H (ks.map rowT) vs → ∃ ps : List (Addr × List Str), vs = ps.map (fun p => V.ref p.1) ∧ ps.map (·.2) = ks ∧ ∀ p ∈ ps, SqT K H p.1 (p.2.map V.str)
  | [], _, .nil => ⟨[], rfl, rfl, fun _ z => (nomatch z)⟩
  | k :: ks, _, .cons r t => by
    obtain ⟨ps, rfl, e, al⟩ := rds_rows t
    cases r with
    | @tup _ a xs ti rv =>
      have sq := ti.sq
      rw [rds_str rv] at sq
      exact ⟨(a, k) :: ps, rfl, by rw [List.map_cons, e], fun p hp => by
        rcases List.mem_cons.mp hp with rfl | hp
        · exact sq
        · exact al p hp⟩
abbrev mLenP (m : ME) : ME := fun ρ h Q E => m ρ h (fun d h1 => match d with
  | .loc n => lstAt h1 n fun xs => ∃ ks : List (List Str), xs = ks.map rowT ∧ (RS.uqK ks).length < 64 ∧ Q (.int (RS.uqK ks).length) h1
  | _ => False) E
section
variable {X : Cx} {W : Wz} {p pos : Pos}
theorem ce_lenP {j : Nat} {a : Expr} {m : ME} {p2 q : Pos} (hr : L2H.RoomH j X.A) (hc : X.calm = true) (hg : Gl X "len") (hm : X.mg "len" = none) (hg2 : Gl X "set") (hm2 : X.mg "set" = none) (ha : CE X W a m)
    (na : starEach [a] X.env = (false, eval a X.env) :: starEach [] X.env := by rfl) : CE X W (.Call (.Name "len" p) [.Call (.Name "set" p2) [a] [] q] [] pos) (mLenP m) := .of (pe_lenP hc (by have := hr.un; omega) hg hm hg2 hm2 cE.pe na) fun φ ρ σ h H Qm Q Xm rh rs q ok ox =>
  ha.sim φ ρ σ h H _ _ _ rh rs q (fun φ1 h1 H1 d v e1 rh1 rx q1 => by
    split at q1
    · cases rx with
      | loc e0 =>
        obtain ⟨xs, vs, sq, rv, ks, rfl, few, q3⟩ := rh1.rdL e0 q1
        obtain ⟨ps, rfl, rfl, al⟩ := rds_rows rv
        exact ⟨_, ps, rfl, sq, al, few, ok _ _ _ _ _ e1 rh1 (.int _) q3⟩
    · exact q1.elim) ox
end
end L3

/-! in, of data with lists in lists -/
namespace L3
open PySem PySem.Spec PyProof.Rows L2
abbrev oInN (f : Bool → Bool) : MO := fun x y h Q => match y with
  | .loc n => lstAt h n fun ds => ∃ d es, PyOf h x d ∧ PysOf h ds es ∧ SeqAt.shaped d = true ∧ SeqAt.shaped (.list es) = true ∧ SeqAt.shaped (.tuple es) = true ∧ Q (.bl (f (es.any fun z => PyData.eqv z d))) h
  | .tup ds => ∃ d es, PyOf h x d ∧ PysOf h ds es ∧ SeqAt.shaped d = true ∧ SeqAt.shaped (.list es) = true ∧ SeqAt.shaped (.tuple es) = true ∧ Q (.bl (f (es.any fun z => PyData.eqv z d))) h
  | _ => False
theorem om_inN {K : PySem.W.Frag} {f : Bool → Bool} : OpM K (rInG K f) (oInN f) := fun φ h H dx dy x y Qm Q rh rx ry m ok => by
  unfold oInN at m
  split at m
  · cases ry with
    | loc e1 =>
      obtain ⟨ds, vs, t, r, d, es, m1, m2, s1, s2, s3, m3⟩ := rh.rdL e1 m
      exact .inr (.inl ⟨d, es, m1.dp rh rx, .inr (.lst t (PysOf.dp rh m2 r)), s1, s3, s2, ok _ _ _ _ _ .refl rh (.bl _) m3⟩)
  · cases ry with
    | tup t r =>
      obtain ⟨d, es, m1, m2, s1, s2, s3, m3⟩ := m
      exact .inr (.inl ⟨d, es, m1.dp rh rx, .inl (.tup t.sq (PysOf.dp rh m2 r)), s1, s3, s2, ok _ _ _ _ _ .refl rh (.bl _) m3⟩)
  · exact m.elim
section
variable {X : Cx}
theorem o_inN {k : Nat} (hr : Rm k X.A) : OpC X (compareOp .In) (oInN fun b => b) := ⟨_, op_inG hr.toRoom, om_inN⟩
theorem o_notinN {k : Nat} (hr : Rm k X.A) : OpC X (compareOp .NotIn) (oInN fun b => !b) := ⟨_, op_notInG hr.toRoom, om_inN⟩
end
end L3

/-! list(a text) -/
namespace L2
open PySem PySem.Spec PyProof.Rows
def sgV (z : Str) : List V := z.cps.toList.map fun c => V.str ⟨#[c]⟩
theorem vals_by {xs : List V} : ∀ {us : List Value}, us.length = xs.length → (∀ (i : Nat) x u, xs[i]? = some x → us[i]? = some u → RelV x u) → Vals xs us := by
  induction xs with
  | nil =>
    intro us l _
    have : us = [] := List.eq_nil_of_length_eq_zero l
    subst this
    exact .nil
  | cons x r ih =>
    intro us l a
    cases us with
    | nil => cases l
    | cons u us => exact .cons (a 0 x u rfl rfl) (ih (by simpa using l) fun i y v h1 h2 => a (i + 1) y v h1 h2)
section
variable {X : Cx}
theorem cr_listStr (hc : X.calm = true) : CallR X (.type "list") (fun xs H Q => ∃ z : Str, xs = [.str z] ∧ z.length ≤ 100000 ∧ ∀ l, H l = none → Q (.ref l) (upd H l (.lst (sgV z)))) := by
  intro pins s σ H xs us Q I r h
  obtain ⟨z, rfl, hz, q⟩ := h
  obtain ⟨u, rfl, t, rfl⟩ := vals1 r
  have hz2 : z.cps.size ≤ 100000 := hz
  refine call_list_str (I.ok.hd hc) z t (fun h' tk acc' c' kp e it => ?_) (by rw [sizeLine_eq]; omega)
  have iv : Vals (sgV z) acc'.toList := by
    obtain ⟨n, a⟩ := it
    refine vals_by (by rw [Array.length_toList, n, sgV, List.length_map, Array.length_toList]) fun i x v hx hv => ?_
    rw [sgV, List.getElem?_map, Array.getElem?_toList] at hx
    obtain ⟨c, ec, rfl⟩ := Option.map_eq_some_iff.mp hx
    rw [Array.getElem?_toList] at hv
    obtain ⟨c2, u2, ec2, rfl⟩ := a i v hv
    rw [ec] at ec2
    cases ec2
    exact ⟨u2, rfl⟩
  exact ⟨.ref s.heap.objs.size, _, I.laid (t' := tk) kp (Nat.le_refl _) (show ObjOk X.prog X.w _ h' _ (.lst (sgV z)) from ⟨by rw [sgV, List.length_map, Array.length_toList, sizeLine_eq]; omega, acc'.toList, c', iv, e⟩), rfl, q _ (I.hok.fresh (Nat.le_refl _))⟩
end
end L2
namespace L3
open PySem PySem.Spec PyProof.Rows L2
def sgD (z : Str) : List D := z.cps.toList.map fun c => D.str ⟨#[c]⟩
section
variable {X : Cx}
abbrev bListS : MB := fun ds h Q => match ds with
  | [.str z] => z.length ≤ 100000 ∧ Q (.loc h.length) (h ++ [.lst (sgD z)])
  | _ => False
theorem rds_sg {K : PySem.W.Frag} {φ : List Addr} {H : Hp} : ∀ (l : List Nat), RDs K φ H (l.map fun c => D.str ⟨#[c]⟩) (l.map fun c => V.str ⟨#[c]⟩)
  | [] => .nil
  | c :: r => .cons (.str _) (rds_sg r)
theorem b_listS (hc : X.calm = true) : BC X (.type "list") bListS := ⟨_, cr_listStr hc, fun φ h H ds vs Qm Q rh r m ok => by
  unfold bListS at m
  split at m
  · obtain ⟨v, rfl, r1⟩ := r.one
    cases r1
    refine ⟨_, rfl, m.1, fun l hl => ?_⟩
    obtain ⟨r3, x3, rd⟩ := push_lst rh hl (rds_sg _)
    exact ok _ _ _ _ _ x3 r3 rd m.2
  · exact m.elim⟩
end
end L3

namespace My
open PySem PySem.Spec PyProof.Rows L2 SX L3
local macro_rules | `(tactic| walk_at "w") => `(tactic| with_reducible conv => whnf)
local macro_rules | `(tactic| walk_at "ne") => `(tactic| first | assumption | (apply Ne.symm; assumption) | omega)
local macro_rules | `(tactic| walk_at "lk") => `(tactic| first | assumption | exact get_new | (apply get_set; walk_at "lk") | (refine get_push ?_; walk_at "lk") | (refine get_setne ?_ ?_; walk_at "ne"; walk_at "lk"))
local macro_rules | `(tactic| walk_at "kp") => `(tactic| first | assumption | exact Kp.refl | (refine Kp.push ?_; walk_at "kp") | (refine Kp.set ?_ (Or.inl (by simp)); walk_at "kp") | (refine Kp.set ?_ (Or.inr (by omega)); walk_at "kp"))
local macro_rules | `(tactic| walk_at "c") => `(tactic| ((with_reducible refine And.intro ?we ?_); case we => first | decide | exact Nat.le_of_ble_eq_true rfl | exact List.contains_iff_mem.mp rfl | exact (rfl : List.length _ = _) | exact (rfl : (_ : Str) = _) | exact (show (0 : Int) < _ from by decide) | exact Or.inr ⟨by decide, by decide⟩ | exact Or.inl ⟨by decide, by decide⟩ | exact (show _ ∧ _ from ⟨show (0 : Int) < _ from by decide, by decide⟩) | exact ⟨by decide, by decide, by decide⟩ | exact Or.inl ⟨by omega, by omega⟩ | exact (show (_ : Nat) < _ from by omega) | exact (show (_ : Nat) ≤ _ from by omega) | exact (show (_ : Int) < _ from by omega) | exact (show (_ : Int) ≤ _ from by omega)))
local macro_rules | `(tactic| walk_at "wd") => `(tactic| ((conv => lhs; whnf); try exact rfl))
local macro_rules | `(tactic| walk_at "s") => `(tactic| (walk_at "w"; first | ((with_reducible apply go_var); exact rfl) | ((with_reducible apply go_aug); exact rfl) | ((with_reducible apply lstAt_of); walk_at "lk") | ((with_reducible apply wrAt_of); walk_at "lk") | ((with_reducible apply isL_of); walk_at "lk") | ((with_reducible apply atK_of); exact rfl) | (with_reducible refine isT_non ?_) | (with_reducible refine isT_bl ?_) | (with_reducible refine isT_int ?_) | (with_reducible refine isT_str ?_) | (with_reducible refine isT_tup ?_) | (with_reducible refine isT_kls ?_) | ((with_reducible apply isT_lst); walk_at "lk") | (with_reducible refine tru_bl ?_) | (with_reducible refine tru_non ?_) | (with_reducible refine tru_int ?_) | (with_reducible refine tru_tup ?_) | ((with_reducible apply tru_lst); walk_at "lk") | ((with_reducible apply clsAt_of); walk_at "lk"; rfl) | ((with_reducible apply fldAt_of); walk_at "lk"; rfl) | ((with_reducible apply setF_of); walk_at "lk"; first | decide | exact Nat.le_of_ble_eq_true rfl) | ((with_reducible apply setK_of); walk_at "lk"; rfl) | ((with_reducible refine hd_hit ?we ?wf ?wg ?_); (case we => exact rfl); (case wf => exact rfl); (case wg => exact rfl)) | ((with_reducible refine hd_miss ?we ?wf ?wg ?_); (case we => exact rfl); (case wf => exact rfl); (case wg => exact rfl)) | ((with_reducible refine hd_hit0 ?we ?wf ?_); (case we => exact rfl); (case wf => exact rfl)) | ((with_reducible refine hd_miss0 ?we ?wf ?_); (case we => exact rfl); (case wf => exact rfl)) | (with_reducible refine byErr_of ?_) | ((with_reducible refine ifB_T ?we ?_); case we => exact rfl) | ((with_reducible refine ifB_F ?we ?_); case we => exact rfl) | ((with_reducible apply oDGet_of); walk_at "lk"; exact rfl; exact rfl; walk_at "wd") | ((with_reducible apply oDIn_of); walk_at "lk"; exact rfl) | ((with_reducible apply oDPut_of); walk_at "lk"; exact rfl; first | decide | exact Nat.le_of_ble_eq_true rfl) | ((with_reducible apply dispK_of); exact rfl; exact rfl; first | decide | exact Nat.le_of_ble_eq_true rfl) | walk_at "c" | (delta L3.isNon)))
local macro_rules | `(tactic| walk_at "go") => `(tactic| ((repeat walk_at "s"); (try walk_at "w")))
local macro_rules | `(tactic| walk_at "gd") => `(tactic| first | exact True.intro | ((with_reducible apply lstAt_of); walk_at "lk"; exact rfl) | assumption)
local macro_rules | `(tactic| walk_at "u") => `(tactic| first | walk_at "s" | ((with_reducible refine un_for1 ?g0 ?_); (case g0 => walk_at "gd")) | ((with_reducible refine un_for0 ?g0 ?_); (case g0 => walk_at "gd")) | ((with_reducible refine un_lc1 ?g0 ?_); (case g0 => walk_at "gd")) | ((with_reducible refine un_lc0 ?g0 ?_); (case g0 => walk_at "gd")) | ((with_reducible refine un_lcB ?g0 ?_); (case g0 => walk_at "gd")) | ((with_reducible refine un_lcA ?g0 ?_); (case g0 => walk_at "gd")) | ((with_reducible refine un_lcD ?g0 ?_); (case g0 => walk_at "gd")) | ((with_reducible refine un_lcC ?g0 ?_); (case g0 => walk_at "gd")) | (with_reducible refine un_wh ?_))
local macro_rules | `(tactic| walk_at "gu") => `(tactic| ((repeat walk_at "u"); (try walk_at "w")))
/-! ### draws (k34 .. k37) -/
variable {P : Program} {w : World} {K : PySem.W.Frag} {mg : Str → Option Value} {base : Heap}
theorem sc__law_mixed : C8.scC ["number", "k", "first", "second"] ["number", "k"] (defScope s__law_mixed) = true := by decide +kernel
theorem sc__law_start : C8.scC ["script", "seed", "cell"] ["script"] (defScope s__law_start) = true := by decide +kernel
theorem sc__law_take : C8.scC ["state", "limit", "cells", "cell", "value"] ["state", "limit"] (defScope s__law_take) = true := by decide +kernel
/-- the state of draws at a, its cells at l -/
structure Pl (h : MH) (a l : Nat) : Prop where
  ex : ∃ (ns : List Int) (r i c sd d : Int), h[a]? = some (.lst [.int r, .int i, .int c, .int sd, .loc l, .int d]) ∧ h[l]? = some (.lst (ns.map D.int)) ∧ 0 ≤ i ∧ ns.length ≤ 63
theorem Pl.kp {h h' : MH} {a l : Nat} {A : List Nat} (f : Pl h a l) (k : Kp A h h') (na : a ∉ A) (nl : l ∉ A) : Pl h' a l := by
  obtain ⟨ns, r, i, c, sd, d, h1, h2, h3⟩ := f.ex
  exact ⟨ns, r, i, c, sd, d, k.get _ _ na h1, k.get _ _ nl h2, h3⟩
theorem Pl.nil {h h' : MH} {a l : Nat} (f : Pl h a l) (k : Kp [] h h') : Pl h' a l := f.kp k (by simp) (by simp)
theorem Pl.ne {h : MH} {a l : Nat} (f : Pl h a l) : a ≠ l := by
  obtain ⟨ns, r, i, c, sd, d, h1, h2, _⟩ := f.ex
  intro e
  rw [e, h2] at h1
  have e4 : (ns.map D.int)[4]? = some (.loc l) := by
    have := congrArg (fun z : Option Nd => match z with | some (.lst x) => x[4]? | _ => none) h1
    exact this
  rw [List.getElem?_map] at e4
  cases z : ns[4]? <;> rw [z] at e4 <;> cases e4
theorem Pl.lt {h : MH} {a l : Nat} (f : Pl h a l) : a < h.length ∧ l < h.length := by
  obtain ⟨ns, r, i, c, sd, d, h1, h2, _⟩ := f.ex
  exact ⟨lt_of h1, lt_of h2⟩
theorem c__law_mixed (T : TX K mg) : Fn P w K mg base 1 "_law_mixed" (fun ds h Q _ => ∃ a b : Int, ds = [.int a, .int b] ∧ ∀ r : Int, Q (.int r) h) := by
  refine mk_fn T.h__law_mixed sc__law_mixed (fun _ _ _ _ _ _ us hl => match us, hl with | [_, _], _ => rfl) (fun ds h Q E q => ?_) (fun f cdv A outer s H E hr tk =>
    (css_cons (cs_set (i := 2) rfl (C8.fnScope_by sc__law_mixed).nd rfl (by first | exact Or.inl rfl | exact Or.inr rfl) (ce_op o_mod (ce_callTy b_int (by rfl) T.B.int (by decide +kernel) (ca_cons (ce_op o_add (ce_op o_add (ce_op o_mulA (cv 0) ce_int) (ce_op o_mulA (cv 1) ce_int)) ce_int) ca_nil)) ce_int))
    (css_cons (cs_set (i := 3) rfl (C8.fnScope_by sc__law_mixed).nd rfl (by first | exact Or.inl rfl | exact Or.inr rfl) (ce_op o_mod (ce_callTy b_int (by rfl) T.B.int (by decide +kernel) (ca_cons (ce_op o_add (ce_op o_add (ce_op o_mulA (cv 2) (ce_op o_add (ce_op o_add (cv 2) (ce_op o_mulA ce_int (cv 1))) ce_int)) (ce_op o_mulA (cv 1) ce_int)) ce_int) ca_nil)) ce_int))
    (css_one (cs_ret (ce_op o_mod (ce_callTy b_int (by rfl) T.B.int (by decide +kernel) (ca_cons (ce_op o_add (ce_op o_mulA (cv 3) ce_int) (cv 2)) ca_nil)) ce_int)))))) (fun ds h Q E q => ?_)
  · obtain ⟨a, b, rfl, _⟩ := q; rfl
  · obtain ⟨a, b, rfl, q⟩ := q
    walk_at "go"
    exact q _
def sp_start : SpM := fun ds h Q _ => ∃ ns : List Int, ds = [.kls (ns.map D.int)] ∧ ns.length ≤ 63 ∧ ∀ h' a l, Kp [] h h' → h.length ≤ a → h.length ≤ l → Pl h' a l → Q (.loc a) h'
theorem c__law_start (T : TX K mg) : Fn P w K mg base 2 "_law_start" sp_start := by
  refine mk_fn T.h__law_start sc__law_start (fun _ _ _ _ _ _ us hl => match us, hl with | [_], _ => rfl) (fun ds h Q E q => ?_) (fun f cdv A outer s H E hr tk =>
    (css_cons (cs_set (i := 1) rfl (C8.fnScope_by sc__law_start).nd rfl (by first | exact Or.inl rfl | exact Or.inr rfl) (ce_callB b_len (by rfl) T.B.len (by decide +kernel) (ca_cons (cv 0) ca_nil)))
    (css_cut (cs_for (L2.passes_of rfl) rfl (ci_seq (cv 0)) (cg_name [2] (i := 2) (by decide) rfl (C8.fnScope_by sc__law_start).nd rfl (by first | exact Or.inl rfl | exact Or.inr rfl) (by first | exact Or.inl rfl | exact Or.inr rfl))
    (css_one (cs_set (i := 1) rfl (C8.fnScope_by sc__law_start).nd rfl (by first | exact Or.inl rfl | exact Or.inr rfl) (ce_call (c__law_mixed T) hr (by decide) tk (by rfl) (ca_cons (ce_op o_add (cv 1) (cv 2)) (ca_cons ce_int ca_nil))))))
    (css_one (cs_ret (ce_lst (ca_cons ce_int (ca_cons ce_int (ca_cons ce_int (ca_cons (cv 1) (ca_cons (ce_callTy b_list (by rfl) T.B.list (by decide +kernel) (ca_cons (cv 0) ca_nil)) (ca_cons ce_int ca_nil)))))))))))) (fun ds h Q E q => ?_)
  · obtain ⟨ns, rfl, _⟩ := q; rfl
  · obtain ⟨ns, rfl, hl, q⟩ := q
    walk_at "go"
    let I : Ev → MH → Prop := fun ρ' h' => ∃ (c1 : Int) (c2 : Option D), ρ' = [some (.kls (ns.map D.int)), some (.int c1), c2] ∧ h' = h
    refine ⟨I, ?_, ?_⟩
    · walk_at "go"
      refine forGo_ind (fun _ => I) ⟨_, _, rfl, rfl⟩ (fun _ _ _ _ _ => trivial) ?_ (fun ρ h z => z)
      rintro i d ρ' h' R hd ⟨c1, c2, rfl, rfl⟩ k
      obtain ⟨x, _, rfl⟩ : ∃ x, x ∈ ns ∧ D.int x = d := by
        have := List.mem_of_getElem? hd
        simpa using this
      walk_at "go"
      refine ⟨_, _, rfl, fun r => ?_⟩
      walk_at "go"
      exact k _ _ ⟨_, _, rfl, rfl⟩
    rintro ρ' h' ⟨c1, c2, rfl, rfl⟩
    walk_at "go"
    have e : (h' ++ [Nd.lst (List.map D.int ns)]).length = h'.length + 1 := by simp
    refine q _ _ h'.length Kp.refl.push.push (by omega) (Nat.le_refl _) ⟨ns, 0, 0, 0, c1, 0, get_new, get_push get_new, by omega, hl⟩
def sp_take : SpM := fun ds h Q _ => ∃ a l n, ds = [.loc a, .int n] ∧ Pl h a l ∧ 0 < n ∧ n.natAbs < 2 ^ 400 ∧ ∀ h' r, Pl h' a l → Kp [a] h h' → h'.length = h.length → 0 ≤ r → r < n → Q (.int r) h'
theorem c__law_take (T : TX K mg) : Fn P w K mg base 2 "_law_take" sp_take := by
  refine mk_fn T.h__law_take sc__law_take (fun _ _ _ _ _ _ us hl => match us, hl with | [_, _], _ => rfl) (fun ds h Q E q => ?_) (fun f cdv A outer s H E hr tk =>
    (css_cons (cs_set (i := 2) rfl (C8.fnScope_by sc__law_take).nd rfl (by first | exact Or.inl rfl | exact Or.inr rfl) (ce_ix (cv 0) ce_int (fun _ _ => rfl)))
    (css_cons (cs_augS io_add (cv 0) ce_int ce_int)
    (css_cut (cs_if (CW.ct (cw_and (ct_cmp (o_eq hr) (ce_ix (cv 0) ce_int (fun _ _ => rfl)) ce_int (by rfl)) (cw_and1 (ct_cmp o_lt (ce_ix (cv 0) ce_int (fun _ _ => rfl)) (ce_callB b_len (by rfl) T.B.len (by decide +kernel) (ca_cons (cv 2) ca_nil)) (by rfl))))) (css_cons (cs_set (i := 3) rfl (C8.fnScope_by sc__law_take).nd rfl (by first | exact Or.inl rfl | exact Or.inr rfl) (ce_ix (cv 2) (ce_ix (cv 0) ce_int (fun _ _ => rfl)) (fun _ _ => rfl)))
    (css_cons (cs_augS io_add (cv 0) ce_int ce_int)
    (css_cut (cs_if (CW.ct (cw_or (ct_cmp (o_eq hr) (ce_op o_mod (ce_callB b_len (by rfl) T.B.len (by decide +kernel) (ca_cons (cv 2) ca_nil)) ce_int) ce_int (by rfl)) (cw_or1 (ct_cmp o_lt (ce_callB b_abs (by rfl) T.B.abs (by decide +kernel) (ca_cons (cv 3) ca_nil)) (ce_op o_pow ce_int ce_int) (by rfl))))) (css_one (cs_ret (ce_op o_mod (ce_callTy b_int (by rfl) T.B.int (by decide +kernel) (ca_cons (ce_call (c__law_mixed T) hr (by decide) tk (by rfl) (ca_cons (cv 3) (ca_cons (ce_ix (cv 0) ce_int (fun _ _ => rfl)) ca_nil))) ca_nil)) (cv 1)))) css_nil)
    (css_cons (cs_asg (ce_callB b_abs (by rfl) T.B.abs (by decide +kernel) (ca_cons (cv 3) ca_nil)) (cg_sub [] (cv 0) ce_int))
    (css_one (cs_asg ce_int (cg_sub [] (cv 0) ce_int))))))) css_nil)
    (css_cons (cs_if (ct_cmp (o_eq hr) (ce_ix (cv 0) ce_int (fun _ _ => rfl)) ce_int (by rfl)) (css_one (cs_ret (ce_op o_mod (ce_callTy b_int (by rfl) T.B.int (by decide +kernel) (ca_cons (ce_call (c__law_mixed T) hr (by decide) tk (by rfl) (ca_cons (ce_ix (cv 0) ce_int (fun _ _ => rfl)) (ca_cons (ce_ix (cv 0) ce_int (fun _ _ => rfl)) ca_nil))) ca_nil)) (cv 1)))) css_nil)
    (css_cons (cs_set (i := 4) rfl (C8.fnScope_by sc__law_take).nd rfl (by first | exact Or.inl rfl | exact Or.inr rfl) (ce_op o_mod (ce_callTy b_int (by rfl) T.B.int (by decide +kernel) (ca_cons (ce_ix (cv 0) ce_int (fun _ _ => rfl)) ca_nil)) (cv 1)))
    (css_cons (cs_augS io_sub (cv 0) ce_int ce_int)
    (css_cons (cs_asg (ce_op o_mulA (ce_op o_fdiv (ce_ix (cv 0) ce_int (fun _ _ => rfl)) (cv 1)) (ce_callTy b_int (by rfl) T.B.int (by decide +kernel) (ca_cons (ce_cmp o_gt (ce_ix (cv 0) ce_int (fun _ _ => rfl)) ce_int (by rfl)) ca_nil))) (cg_sub [] (cv 0) ce_int))
    (css_one (cs_ret (cv 4))))))))))) (fun ds h Q E q => ?_)
  · obtain ⟨a, l, n, rfl, _⟩ := q; rfl
  · obtain ⟨a, l, n, rfl, f, n0, hn, q⟩ := q
    have ne := f.ne
    obtain ⟨ns, r, i, c, sd, d, h1, h2, i0, h63⟩ := f.ex
    walk_at "go"
    have small : (n.natAbs : Nat) < 2 ^ 400 := hn
    let N : Ev → MH → Prop := fun ρ' h' => ∃ c3 c4, ρ' = [some (.loc a), some (.int n), some (.loc l), c3, c4] ∧ Pl h' a l ∧ Kp [a] h h' ∧ h'.length = h.length
    have fin : ∀ {v : Int} {h' : MH}, Pl h' a l → Kp [a] h h' → h'.length = h.length → Q (.int (v % n)) h' := fun {v h'} f k l => q h' _ f k l (Int.emod_nonneg _ (by omega)) (Int.emod_lt_of_pos _ n0)
    refine ⟨N, ?_, ?_⟩
    · walk_at "go"
      have g1 : ∀ h', h' = (h.set a (Nd.lst [.int r, .int i, .int (c + 1), .int sd, .loc l, .int d])) → Pl h' a l ∧ Kp [a] h h' ∧ h'.length = h.length := by
        rintro h' rfl
        exact ⟨⟨ns, r, i, _, sd, d, by walk_at "lk", by walk_at "lk", i0, h63⟩, by walk_at "kp", by simp⟩
      refine ifB_dec (fun cr => ?_) (fun cr => ?_)
      · walk_at "go"
        rw [List.length_map]
        refine ifB_dec (fun cn => ?_) (fun cn => ?_)
        · have hi : i.toNat < ns.length := by omega
          have hx : atI (ns.map D.int) i = some (D.int (ns[i.toNat])) := by
            unfold atI ixN
            rw [if_pos i0, if_pos (by simp; omega)]
            simp [hi]
          walk_at "go"
          refine atK_of hx ?_
          walk_at "go"
          obtain ⟨h3, e3⟩ : ∃ h3, h3 = h.set a (Nd.lst [.int r, .int (i + 1), .int (c + 1), .int sd, .loc l, .int d]) := ⟨_, rfl⟩
          have g3 : h3[a]? = some (.lst [.int r, .int (i + 1), .int (c + 1), .int sd, .loc l, .int d]) ∧ h3[l]? = some (.lst (ns.map D.int)) ∧ Kp [a] h h3 ∧ h3.length = h.length := by
            subst e3
            exact ⟨by walk_at "lk", by walk_at "lk", by walk_at "kp", by simp⟩
          have e4 : (h.set a (Nd.lst ([D.int r, D.int i, D.int c, D.int sd, D.loc l, D.int d].set (Int.toNat 2) ((fun i j => D.int (i + j)) c 1)))).set a (Nd.lst (([D.int r, D.int i, D.int c, D.int sd, D.loc l, D.int d].set (Int.toNat 2) ((fun i j => D.int (i + j)) c 1)).set (Int.toNat 1) ((fun i j => D.int (i + j)) i 1))) = h3 := by
            rw [e3, List.set_set]; rfl
          rw [e4]
          clear e4 e3
          obtain ⟨g3, g4, k3, l3⟩ := g3
          refine ⟨fun ρ' h' => ρ' = [some (.loc a), some (.int n), some (.loc l), some (.int (ns[i.toNat])), none] ∧ h' = h3, ?_, ?_⟩
          · walk_at "go"
            rw [List.length_map]
            refine ifB_dec (fun c1 => ?_) (fun c1 => ?_)
            · walk_at "go"
              refine ⟨_, _, rfl, fun r1 => ?_⟩
              walk_at "go"
              exact fin ⟨ns, r, _, _, sd, d, g3, g4, by omega, h63⟩ k3 l3
            · walk_at "go"
              refine ifB_dec (fun c2 => ?_) (fun c2 => ?_)
              · walk_at "go"
                refine ⟨_, _, rfl, fun r1 => ?_⟩
                walk_at "go"
                exact fin ⟨ns, r, _, _, sd, d, g3, g4, by omega, h63⟩ k3 l3
              · walk_at "go"
                exact ⟨rfl, rfl⟩
          · rintro ρ' h' ⟨rfl, rfl⟩
            walk_at "go"
            exact ⟨_, _, rfl, ⟨ns, _, _, _, sd, _, by walk_at "lk", by walk_at "lk", by omega, h63⟩, by walk_at "kp", by simp [l3]⟩
        · walk_at "go"
          obtain ⟨a1, a2, a3⟩ := g1 _ rfl
          exact ⟨_, _, rfl, a1, a2, a3⟩
      · walk_at "go"
        obtain ⟨a1, a2, a3⟩ := g1 _ rfl
        exact ⟨_, _, rfl, a1, a2, a3⟩
    · rintro ρ' h' ⟨c3, c4, rfl, f', k', hl'⟩
      have ne := f'.ne
      obtain ⟨ns, r, i, c, sd, d, h1, h2, i0, h63⟩ := f'.ex
      walk_at "go"
      refine ifB_dec (fun cr => ?_) (fun cr => ?_)
      · walk_at "go"
        refine ⟨_, _, rfl, fun r1 => ?_⟩
        walk_at "go"
        exact fin ⟨ns, r, i, c, sd, d, h1, h2, i0, h63⟩ k' hl'
      · walk_at "go"
        refine ⟨⟨n0, Nat.lt_trans (PySem.Flt.log2_lt_of (by decide) hn) (by decide)⟩, ?_⟩
        walk_at "go"
        have fb : ∀ b : Bool, CMul (r / n) (match b with | true => 1 | false => 0) := fun b => by cases b <;> exact Or.inr ⟨by decide, by decide⟩
        cases decide (0 < d - 1) with
        | true =>
          walk_at "go"
          exact fin ⟨ns, _, i, c, sd, _, by walk_at "lk", by walk_at "lk", i0, h63⟩ (by walk_at "kp") (by simp [hl'])
        | false =>
          walk_at "go"
          exact fin ⟨ns, _, i, c, sd, _, by walk_at "lk", by walk_at "lk", i0, h63⟩ (by walk_at "kp") (by simp [hl'])

end My

namespace My
open PySem PySem.Spec PyProof.Rows L2 SX L3
local macro_rules | `(tactic| walk_at "w") => `(tactic| with_reducible conv => whnf)
local macro_rules | `(tactic| walk_at "ne") => `(tactic| first | assumption | (apply Ne.symm; assumption) | omega)
local macro_rules | `(tactic| walk_at "lk") => `(tactic| first | assumption | exact get_new | (apply get_set; walk_at "lk") | (refine get_push ?_; walk_at "lk") | (refine get_setne ?_ ?_; walk_at "ne"; walk_at "lk"))
local macro_rules | `(tactic| walk_at "kp") => `(tactic| first | assumption | exact Kp.refl | (refine Kp.push ?_; walk_at "kp") | (refine Kp.set ?_ (Or.inl (by simp)); walk_at "kp") | (refine Kp.set ?_ (Or.inr (by omega)); walk_at "kp"))
local macro_rules | `(tactic| walk_at "c") => `(tactic| ((with_reducible refine And.intro ?we ?_); case we => first | decide | exact Nat.le_of_ble_eq_true rfl | exact List.contains_iff_mem.mp rfl | exact (rfl : List.length _ = _) | exact (rfl : (_ : Str) = _) | exact (show (0 : Int) < _ from by decide) | exact Or.inr ⟨by decide, by decide⟩ | exact Or.inl ⟨by decide, by decide⟩ | exact (show _ ∧ _ from ⟨show (0 : Int) < _ from by decide, by decide⟩) | exact ⟨by decide, by decide, by decide⟩ | exact Or.inl ⟨by omega, by omega⟩ | exact (show (_ : Nat) < _ from by omega) | exact (show (_ : Nat) ≤ _ from by omega) | exact (show (_ : Int) < _ from by omega) | exact (show (_ : Int) ≤ _ from by omega)))
local macro_rules | `(tactic| walk_at "wd") => `(tactic| ((conv => lhs; whnf); try exact rfl))
local macro_rules | `(tactic| walk_at "s") => `(tactic| (walk_at "w"; first | ((with_reducible apply go_var); exact rfl) | ((with_reducible apply go_aug); exact rfl) | ((with_reducible apply lstAt_of); walk_at "lk") | ((with_reducible apply wrAt_of); walk_at "lk") | ((with_reducible apply isL_of); walk_at "lk") | ((with_reducible apply atK_of); exact rfl) | (with_reducible refine isT_non ?_) | (with_reducible refine isT_bl ?_) | (with_reducible refine isT_int ?_) | (with_reducible refine isT_str ?_) | (with_reducible refine isT_tup ?_) | (with_reducible refine isT_kls ?_) | ((with_reducible apply isT_lst); walk_at "lk") | (with_reducible refine tru_bl ?_) | (with_reducible refine tru_non ?_) | (with_reducible refine tru_int ?_) | (with_reducible refine tru_tup ?_) | ((with_reducible apply tru_lst); walk_at "lk") | ((with_reducible apply clsAt_of); walk_at "lk"; rfl) | ((with_reducible apply fldAt_of); walk_at "lk"; rfl) | ((with_reducible apply setF_of); walk_at "lk"; first | decide | exact Nat.le_of_ble_eq_true rfl) | ((with_reducible apply setK_of); walk_at "lk"; rfl) | ((with_reducible refine hd_hit ?we ?wf ?wg ?_); (case we => exact rfl); (case wf => exact rfl); (case wg => exact rfl)) | ((with_reducible refine hd_miss ?we ?wf ?wg ?_); (case we => exact rfl); (case wf => exact rfl); (case wg => exact rfl)) | ((with_reducible refine hd_hit0 ?we ?wf ?_); (case we => exact rfl); (case wf => exact rfl)) | ((with_reducible refine hd_miss0 ?we ?wf ?_); (case we => exact rfl); (case wf => exact rfl)) | (with_reducible refine byErr_of ?_) | ((with_reducible refine ifB_T ?we ?_); case we => exact rfl) | ((with_reducible refine ifB_F ?we ?_); case we => exact rfl) | ((with_reducible apply oDGet_of); walk_at "lk"; exact rfl; exact rfl; walk_at "wd") | ((with_reducible apply oDIn_of); walk_at "lk"; exact rfl) | ((with_reducible apply oDPut_of); walk_at "lk"; exact rfl; first | decide | exact Nat.le_of_ble_eq_true rfl) | ((with_reducible apply dispK_of); exact rfl; exact rfl; first | decide | exact Nat.le_of_ble_eq_true rfl) | walk_at "c" | (delta L3.isNon)))
local macro_rules | `(tactic| walk_at "go") => `(tactic| ((repeat walk_at "s"); (try walk_at "w")))
local macro_rules | `(tactic| walk_at "gd") => `(tactic| first | exact True.intro | ((with_reducible apply lstAt_of); walk_at "lk"; exact rfl) | assumption)
local macro_rules | `(tactic| walk_at "u") => `(tactic| first | walk_at "s" | ((with_reducible refine un_for1 ?g0 ?_); (case g0 => walk_at "gd")) | ((with_reducible refine un_for0 ?g0 ?_); (case g0 => walk_at "gd")) | ((with_reducible refine un_lc1 ?g0 ?_); (case g0 => walk_at "gd")) | ((with_reducible refine un_lc0 ?g0 ?_); (case g0 => walk_at "gd")) | ((with_reducible refine un_lcB ?g0 ?_); (case g0 => walk_at "gd")) | ((with_reducible refine un_lcA ?g0 ?_); (case g0 => walk_at "gd")) | ((with_reducible refine un_lcD ?g0 ?_); (case g0 => walk_at "gd")) | ((with_reducible refine un_lcC ?g0 ?_); (case g0 => walk_at "gd")) | (with_reducible refine un_wh ?_))
local macro_rules | `(tactic| walk_at "gu") => `(tactic| ((repeat walk_at "u"); (try walk_at "w")))
/-! ### the same data (k34 .. k37) -/
variable {P : Program} {w : World} {K : PySem.W.Frag} {mg : Str → Option Value} {base : Heap}
theorem sc__law_same : C8.scC ["actual", "due", "k"] ["actual", "due"] (defScope s__law_same) = true := by decide +kernel
theorem fn_no {x : Str} {st : Stmt} {ps : List Str} {k : Nat} (T : My.Have K mg x st) (b : Bnd x x st ps) : Fn P w K mg base k x (fun _ _ _ _ => False) := by
  obtain ⟨f, fd, F, g⟩ := T.ex
  exact ⟨f, fd, ps, ⟨fun vs H Q E ⟨_, _, _, _, _, _, _, z, _⟩ => z.elim, fun _ _ _ _ _ _ _ _ _ _ _ _ _ ⟨_, _, _, _, _, _, _, z, _⟩ => z.elim⟩, g, F.kp, F.bindsN b⟩
theorem rng_get {n i : Nat} {d : D} (h : (rngD 0 n)[i]? = some d) : i < n ∧ d = .int (i : Nat) := by
  have l := (List.getElem?_eq_some_iff.mp h).1
  rw [rngD_len] at l
  unfold rngD at h
  rw [List.getElem?_map, List.getElem?_range l] at h
  refine ⟨l, ?_⟩
  have h := Option.some.inj h
  rw [← h]
  show D.int (0 + (i : Nat)) = _
  rw [Int.zero_add]
/-- alike, of a depth; lists by what they hold -/
def Sq (h : MH) : Nat → D → D → Prop
  | 0, x, y => x = y ∧ flatD y = true
  | n + 1, x, y => (x = y ∧ flatD y = true) ∨ ∃ xs ys : List D, xs.length = ys.length ∧ ys.length ≤ 1000 ∧ (∀ (i : Nat) a b, xs[i]? = some a → ys[i]? = some b → Sq h n a b) ∧
      ((x = .tup xs ∧ y = .tup ys) ∨ ∃ i j, x = .loc i ∧ y = .loc j ∧ h[i]? = some (.lst xs) ∧ h[j]? = some (.lst ys))
theorem Sq.flat {h : MH} {n : Nat} {d : D} (q : flatD d = true) : Sq h n d d := by
  cases n with
  | zero => exact ⟨rfl, q⟩
  | succ n => exact .inl ⟨rfl, q⟩
theorem Sq.tup {h : MH} {n : Nat} {xs : List D} (l : xs.length ≤ 1000) (q : ∀ x ∈ xs, Sq h n x x) : Sq h (n + 1) (.tup xs) (.tup xs) :=
  .inr ⟨xs, xs, rfl, l, fun i a b ha hb => by rw [ha] at hb; cases hb; exact q _ (List.mem_of_getElem? ha), .inl ⟨rfl, rfl⟩⟩
theorem Sq.lst {h : MH} {n i j : Nat} {xs : List D} (l : xs.length ≤ 1000) (q : ∀ x ∈ xs, flatD x = true) (e1 : h[i]? = some (.lst xs)) (e2 : h[j]? = some (.lst xs)) : Sq h (n + 1) (.loc i) (.loc j) :=
  .inr ⟨xs, xs, rfl, l, fun i a b ha hb => by rw [ha] at hb; cases hb; exact Sq.flat (q _ (List.mem_of_getElem? ha)), .inr ⟨i, j, rfl, rfl, e1, e2⟩⟩
def sp_same (n : Nat) : SpM := fun ds h Q _ => ∃ x y, ds = [x, y] ∧ Sq h n x y ∧ Q (.bl true) h
def spS : Nat → SpM
  | 0 => fun _ _ _ _ => False
  | n + 1 => sp_same n
theorem c__law_sameN (T : TX K mg) : ∀ n, Fn P w K mg base (n + 1) "_law_same" (spS n)
  | 0 => fn_no T.h__law_same (ps := ["actual", "due"]) (fun _ _ _ _ _ _ us hl => match us, hl with | [_, _], _ => rfl)
  | n + 1 => by
    have ih := c__law_sameN T n
    refine mk_fn T.h__law_same sc__law_same (fun _ _ _ _ _ _ us hl => match us, hl with | [_, _], _ => rfl) (fun ds h Q E q => ?_) (fun f cdv A outer s H E hr tk =>
    (css_cons (cs_if (ct_cmp o_is (cv 1) ce_non (by rfl)) (css_one (cs_ret (ce_cmp o_is (cv 0) ce_non (by rfl)))) css_nil)
    (css_cons (cs_if (ct_tru (ce_isT (.inr (.inl rfl)) (cv 1) (by rfl) T.B.isinstance (pe_bltn (v := .ty "bool") (by rfl) T.B.bool (by decide +kernel) rfl))) (css_one (cs_ret (ce_and (ce_isT (.inr (.inl rfl)) (cv 0) (by rfl) T.B.isinstance (pe_bltn (v := .ty "bool") (by rfl) T.B.bool (by decide +kernel) rfl)) (ce_one (ce_cmp (o_eq hr) (cv 0) (cv 1) (by rfl)))))) css_nil)
    (css_cons (cs_if (ct_tru (ce_isT (.inl rfl) (cv 1) (by rfl) T.B.isinstance (pe_bltn (v := .ty "int") (by rfl) T.B.int (by decide +kernel) rfl))) (css_one (cs_ret (ce_and (ce_isT (.inl rfl) (cv 0) (by rfl) T.B.isinstance (pe_bltn (v := .ty "int") (by rfl) T.B.int (by decide +kernel) rfl)) (ce_and (ce_not (ce_isT (.inr (.inl rfl)) (cv 0) (by rfl) T.B.isinstance (pe_bltn (v := .ty "bool") (by rfl) T.B.bool (by decide +kernel) rfl))) (ce_one (ce_cmp (o_eq hr) (cv 0) (cv 1) (by rfl))))))) css_nil)
    (css_cons (cs_if (ct_tru (ce_isT (.inr (.inr (.inl rfl))) (cv 1) (by rfl) T.B.isinstance (pe_bltn (v := .ty "str") (by rfl) T.B.str (by decide +kernel) rfl))) (css_one (cs_ret (ce_and (ce_isT (.inr (.inr (.inl rfl))) (cv 0) (by rfl) T.B.isinstance (pe_bltn (v := .ty "str") (by rfl) T.B.str (by decide +kernel) rfl)) (ce_one (ce_cmp (o_eq hr) (cv 0) (cv 1) (by rfl)))))) css_nil)
    (css_cut (cs_if (CW.ct (cw_or (ct_cmp (o_ne hr) (ce_isT (.inr (.inr (.inr (.inl rfl)))) (cv 1) (by rfl) T.B.isinstance (pe_bltn (v := .ty "list") (by rfl) T.B.list (by decide +kernel) rfl)) (ce_isT (.inr (.inr (.inr (.inl rfl)))) (cv 0) (by rfl) T.B.isinstance (pe_bltn (v := .ty "list") (by rfl) T.B.list (by decide +kernel) rfl)) (by rfl)) (cw_or1 (ct_cmp (o_ne hr) (ce_isT (.inr (.inr (.inr (.inr (.inl rfl))))) (cv 1) (by rfl) T.B.isinstance (pe_bltn (v := .ty "tuple") (by rfl) T.B.tuple (by decide +kernel) rfl)) (ce_isT (.inr (.inr (.inr (.inr (.inl rfl))))) (cv 0) (by rfl) T.B.isinstance (pe_bltn (v := .ty "tuple") (by rfl) T.B.tuple (by decide +kernel) rfl)) (by rfl))))) (css_one (cs_ret ce_bl)) css_nil)
    (css_cons (cs_if (ct_cmp (o_ne hr) (ce_callB b_len (by rfl) T.B.len (by decide +kernel) (ca_cons (cv 0) ca_nil)) (ce_callB b_len (by rfl) T.B.len (by decide +kernel) (ca_cons (cv 1) ca_nil)) (by rfl)) (css_one (cs_ret ce_bl)) css_nil)
    (css_cut (cs_for (L2.passes_of rfl) rfl (ci_rng1 (by rfl) T.B.range (ca_cons (ce_callB b_len (by rfl) T.B.len (by decide +kernel) (ca_cons (cv 1) ca_nil)) ca_nil)) (cg_name [2] (i := 2) (by decide) rfl (C8.fnScope_by sc__law_same).nd rfl (by first | exact Or.inl rfl | exact Or.inr rfl) (by first | exact Or.inl rfl | exact Or.inr rfl))
    (css_one (cs_if (ct_not (ct_tru (ce_call (ih) hr (Nat.le_refl _) tk (by rfl) (ca_cons (ce_ix (cv 0) (cv 2) (fun _ _ => rfl)) (ca_cons (ce_ix (cv 1) (cv 2) (fun _ _ => rfl)) ca_nil))))) (css_one (cs_ret ce_bl)) css_nil)))
    (css_one (cs_ret ce_bl)))))))))) (fun ds h Q E q => ?_)
    · obtain ⟨x, y, rfl, _⟩ := q; rfl
    · obtain ⟨x, d, rfl, hd, q⟩ := q
      by_cases f : flatD d = true
      · obtain rfl : x = d := by
          cases n with
          | zero => exact hd.1
          | succ n =>
            rcases hd with hd | ⟨xs, ys, _, _, _, ⟨_, rfl⟩ | ⟨i, j, _, rfl, _⟩⟩
            · exact hd.1
            · cases f
            · cases f
        clear hd
        cases x with
        | non => walk_at "go"; exact q
        | int b => walk_at "go"; rw [decide_eq_true (rfl : b = b)]; exact q
        | bl b => walk_at "go"; rw [decide_eq_true (rfl : b = b)]; exact q
        | str b => walk_at "go"; rw [decide_eq_true (rfl : b = b)]; exact q
        | _ => cases f
      · obtain ⟨m, rfl⟩ : ∃ m, n = m + 1 := by
          cases n with
          | zero => exact absurd hd.2 f
          | succ m => exact ⟨m, rfl⟩
        rcases hd.resolve_left (fun z => f z.2) with ⟨xs, ys, hl, hb, hx, ⟨rfl, rfl⟩ | ⟨i, j, rfl, rfl, e1, e2⟩⟩
        · walk_at "go"
          refine ⟨fun ρ' h' => ρ' = [some (.tup xs), some (.tup ys), none] ∧ h' = h, ?_, ?_⟩
          · walk_at "go"
            exact ⟨rfl, rfl⟩
          rintro ρ' h' ⟨rfl, rfl⟩
          walk_at "go"
          refine ifB_F (by simp [hl]) ?_
          walk_at "go"
          let I : Nat → Ev → MH → Prop := fun _ ρ' h2 => (∃ c, ρ' = [some (.tup xs), some (.tup ys), c]) ∧ h2 = h'
          refine ⟨I ys.length, ?_, ?_⟩
          · walk_at "go"
            refine ⟨⟨by omega, by omega⟩, ?_⟩
            refine forGo_ind I ⟨⟨_, rfl⟩, rfl⟩ (fun _ _ _ _ _ => trivial) ?_ (fun ρ h z => by rw [rngD_len, Int.toNat_natCast] at z; exact z)
            rintro o dd ρ' h2 R hd2 ⟨⟨c, rfl⟩, rfl⟩ k
            rw [Int.toNat_natCast] at hd2
            obtain ⟨hi, rfl⟩ := rng_get hd2
            have gy : ys[o]? = some ys[o] := List.getElem?_eq_getElem hi
            have gx : xs[o]? = some (xs[o]'(by omega)) := List.getElem?_eq_getElem (by omega)
            walk_at "go"
            refine atK_of (atI_nat gx) ?_
            walk_at "go"
            refine atK_of (atI_nat gy) ?_
            walk_at "go"
            refine ⟨_, _, rfl, hx _ _ _ gx gy, ?_⟩
            walk_at "go"
            exact k _ _ ⟨⟨_, rfl⟩, rfl⟩
          rintro ρ' h2 ⟨⟨c, rfl⟩, rfl⟩
          walk_at "go"
          exact q
        · walk_at "go"
          refine ⟨fun ρ' h' => ρ' = [some (.loc i), some (.loc j), none] ∧ h' = h, ?_, ?_⟩
          · walk_at "go"
            exact ⟨rfl, rfl⟩
          rintro ρ' h' ⟨rfl, rfl⟩
          walk_at "go"
          refine ifB_F (by simp [hl]) ?_
          walk_at "go"
          let I : Nat → Ev → MH → Prop := fun _ ρ' h2 => (∃ c, ρ' = [some (.loc i), some (.loc j), c]) ∧ h2 = h'
          refine ⟨I ys.length, ?_, ?_⟩
          · walk_at "go"
            refine ⟨⟨by omega, by omega⟩, ?_⟩
            refine forGo_ind I ⟨⟨_, rfl⟩, rfl⟩ (fun _ _ _ _ _ => trivial) ?_ (fun ρ h z => by rw [rngD_len, Int.toNat_natCast] at z; exact z)
            rintro o dd ρ' h2 R hd2 ⟨⟨c, rfl⟩, rfl⟩ k
            rw [Int.toNat_natCast] at hd2
            obtain ⟨hi, rfl⟩ := rng_get hd2
            have gy : ys[o]? = some ys[o] := List.getElem?_eq_getElem hi
            have gx : xs[o]? = some (xs[o]'(by omega)) := List.getElem?_eq_getElem (by omega)
            walk_at "go"
            refine atK_of (atI_nat gx) ?_
            walk_at "go"
            refine atK_of (atI_nat gy) ?_
            walk_at "go"
            refine ⟨_, _, rfl, hx _ _ _ gx gy, ?_⟩
            walk_at "go"
            exact k _ _ ⟨⟨_, rfl⟩, rfl⟩
          rintro ρ' h2 ⟨⟨c, rfl⟩, rfl⟩
          walk_at "go"
          exact q

end My

namespace My
open PySem PySem.Spec PyProof.Rows L2 SX L3
local macro_rules | `(tactic| walk_at "w") => `(tactic| with_reducible conv => whnf)
local macro_rules | `(tactic| walk_at "ne") => `(tactic| first | assumption | (apply Ne.symm; assumption) | omega)
local macro_rules | `(tactic| walk_at "lk") => `(tactic| first | assumption | exact get_new | (apply get_set; walk_at "lk") | (refine get_push ?_; walk_at "lk") | (refine get_setne ?_ ?_; walk_at "ne"; walk_at "lk"))
local macro_rules | `(tactic| walk_at "kp") => `(tactic| first | assumption | exact Kp.refl | (refine Kp.push ?_; walk_at "kp") | (refine Kp.set ?_ (Or.inl (by simp)); walk_at "kp") | (refine Kp.set ?_ (Or.inr (by omega)); walk_at "kp"))
local macro_rules | `(tactic| walk_at "c") => `(tactic| ((with_reducible refine And.intro ?we ?_); case we => first | decide | exact Nat.le_of_ble_eq_true rfl | exact List.contains_iff_mem.mp rfl | exact (rfl : List.length _ = _) | exact (rfl : (_ : Str) = _) | exact (show (0 : Int) < _ from by decide) | exact Or.inr ⟨by decide, by decide⟩ | exact Or.inl ⟨by decide, by decide⟩ | exact (show _ ∧ _ from ⟨show (0 : Int) < _ from by decide, by decide⟩) | exact ⟨by decide, by decide, by decide⟩ | exact Or.inl ⟨by omega, by omega⟩ | exact (show (_ : Nat) < _ from by omega) | exact (show (_ : Nat) ≤ _ from by omega) | exact (show (_ : Int) < _ from by omega) | exact (show (_ : Int) ≤ _ from by omega)))
local macro_rules | `(tactic| walk_at "wd") => `(tactic| ((conv => lhs; whnf); try exact rfl))
local macro_rules | `(tactic| walk_at "s") => `(tactic| (walk_at "w"; first | ((with_reducible apply go_var); exact rfl) | ((with_reducible apply go_aug); exact rfl) | ((with_reducible apply lstAt_of); walk_at "lk") | ((with_reducible apply wrAt_of); walk_at "lk") | ((with_reducible apply isL_of); walk_at "lk") | ((with_reducible apply atK_of); exact rfl) | (with_reducible refine isT_non ?_) | (with_reducible refine isT_bl ?_) | (with_reducible refine isT_int ?_) | (with_reducible refine isT_str ?_) | (with_reducible refine isT_tup ?_) | (with_reducible refine isT_kls ?_) | ((with_reducible apply isT_lst); walk_at "lk") | (with_reducible refine tru_bl ?_) | (with_reducible refine tru_non ?_) | (with_reducible refine tru_int ?_) | (with_reducible refine tru_tup ?_) | ((with_reducible apply tru_lst); walk_at "lk") | ((with_reducible apply clsAt_of); walk_at "lk"; rfl) | ((with_reducible apply fldAt_of); walk_at "lk"; rfl) | ((with_reducible apply setF_of); walk_at "lk"; first | decide | exact Nat.le_of_ble_eq_true rfl) | ((with_reducible apply setK_of); walk_at "lk"; rfl) | ((with_reducible refine hd_hit ?we ?wf ?wg ?_); (case we => exact rfl); (case wf => exact rfl); (case wg => exact rfl)) | ((with_reducible refine hd_miss ?we ?wf ?wg ?_); (case we => exact rfl); (case wf => exact rfl); (case wg => exact rfl)) | ((with_reducible refine hd_hit0 ?we ?wf ?_); (case we => exact rfl); (case wf => exact rfl)) | ((with_reducible refine hd_miss0 ?we ?wf ?_); (case we => exact rfl); (case wf => exact rfl)) | (with_reducible refine byErr_of ?_) | ((with_reducible refine ifB_T ?we ?_); case we => exact rfl) | ((with_reducible refine ifB_F ?we ?_); case we => exact rfl) | ((with_reducible apply oDGet_of); walk_at "lk"; exact rfl; exact rfl; walk_at "wd") | ((with_reducible apply oDIn_of); walk_at "lk"; exact rfl) | ((with_reducible apply oDPut_of); walk_at "lk"; exact rfl; first | decide | exact Nat.le_of_ble_eq_true rfl) | ((with_reducible apply dispK_of); exact rfl; exact rfl; first | decide | exact Nat.le_of_ble_eq_true rfl) | walk_at "c" | (delta L3.isNon)))
local macro_rules | `(tactic| walk_at "go") => `(tactic| ((repeat walk_at "s"); (try walk_at "w")))
local macro_rules | `(tactic| walk_at "gd") => `(tactic| first | exact True.intro | ((with_reducible apply lstAt_of); walk_at "lk"; exact rfl) | assumption)
local macro_rules | `(tactic| walk_at "u") => `(tactic| first | walk_at "s" | ((with_reducible refine un_for1 ?g0 ?_); (case g0 => walk_at "gd")) | ((with_reducible refine un_for0 ?g0 ?_); (case g0 => walk_at "gd")) | ((with_reducible refine un_lc1 ?g0 ?_); (case g0 => walk_at "gd")) | ((with_reducible refine un_lc0 ?g0 ?_); (case g0 => walk_at "gd")) | ((with_reducible refine un_lcB ?g0 ?_); (case g0 => walk_at "gd")) | ((with_reducible refine un_lcA ?g0 ?_); (case g0 => walk_at "gd")) | ((with_reducible refine un_lcD ?g0 ?_); (case g0 => walk_at "gd")) | ((with_reducible refine un_lcC ?g0 ?_); (case g0 => walk_at "gd")) | (with_reducible refine un_wh ?_))
local macro_rules | `(tactic| walk_at "gu") => `(tactic| ((repeat walk_at "u"); (try walk_at "w")))
/-! ### the basics, of any data -/
variable {P : Program} {w : World} {K : PySem.W.Frag} {mg : Str → Option Value} {base : Heap}
theorem sc_is_sequence : C8.scC ["value"] ["value"] (defScope s_is_sequence) = true := by decide +kernel
theorem sc_is_word : C8.scC ["text", "sign"] ["text"] (defScope s_is_word) = true := by decide +kernel
theorem sc_is_name : C8.scC ["value"] ["value"] (defScope s_is_name) = true := by decide +kernel
theorem sc_are_names : C8.scC ["values", "value"] ["values"] (defScope s_are_names) = true := by decide +kernel
/-- what may be handed in -/
def Hv (h : MH) : D → Prop
  | .loc n => ∃ xs, h[n]? = some (.lst xs)
  | .pr _ => False
  | .kls _ => False
  | .str s => s.length ≤ 1000
  | _ => True
def itemsD (h : MH) : D → Option (List D)
  | .tup xs => some xs
  | .loc n => match h[n]? with | some (.lst xs) => some xs | _ => none
  | _ => none
structure Hnd (h : MH) (d : D) : Prop where
  v : Hv h d
  i : ∀ xs, itemsD h d = some xs → xs.length ≤ 1000 ∧ ∀ x ∈ xs, Hv h x
theorem Hv.nil {h h' : MH} : ∀ {d : D}, Hv h d → Kp [] h h' → Hv h' d
  | .loc _, ⟨xs, z⟩, k => ⟨xs, k.get _ _ (by simp) z⟩
  | .pr _, z, _ => z
  | .kls _, z, _ => z
  | .str _, z, _ => z
  | .non, _, _ => trivial
  | .bl _, _, _ => trivial
  | .int _, _, _ => trivial
  | .tup _, _, _ => trivial
def isSeqD : D → Bool
  | .tup _ => true
  | .loc _ => true
  | _ => false
theorem c_is_sequence (T : TX K mg) : Fn P w K mg base 1 "is_sequence" (fun ds h Q _ => ∃ d, ds = [d] ∧ Hv h d ∧ Q (.bl (isSeqD d)) h) := by
  refine mk_fn T.h_is_sequence sc_is_sequence (fun _ _ _ _ _ _ us hl => match us, hl with | [_], _ => rfl) (fun ds h Q E q => ?_) (fun f cdv A outer s H E hr tk =>
    (css_one (cs_ret (ce_isT2 (.inr (.inr (.inr (.inl rfl)))) (.inr (.inr (.inr (.inr (.inl rfl))))) (cv 0) (by rfl) T.B.isinstance (pe_bltn (v := .ty "list") (by rfl) T.B.list (by decide +kernel) rfl) (pe_bltn (v := .ty "tuple") (by rfl) T.B.tuple (by decide +kernel) rfl))))) (fun ds h Q E q => ?_)
  · obtain ⟨d, rfl, _⟩ := q; rfl
  · obtain ⟨d, rfl, hl, q⟩ := q
    cases d with
    | loc n =>
      obtain ⟨xs, e⟩ := hl
      walk_at "go"
      exact q
    | pr _ => exact hl.elim
    | kls _ => exact hl.elim
    | _ => walk_at "go"; exact q
def lowB (c : Nat) : Bool := decide (c ∈ ("abcdefghijklmnopqrstuvwxyz" : Str).cps.toList)
def isWordS (s : Str) : Bool := !decide (s = "") && s.cps.toList.all lowB
def isNameD : D → Bool
  | .str s => decide (s.length ≤ 8) && isWordS s
  | _ => false
theorem c_is_word (T : TX K mg) : Fn P w K mg base 1 "is_word" (fun ds h Q _ => ∃ s, ds = [.str s] ∧ s.length ≤ 1000 ∧ ∀ h', Kp [] h h' → Q (.bl (isWordS s)) h') := by
  refine mk_fn T.h_is_word sc_is_word (fun _ _ _ _ _ _ us hl => match us, hl with | [_], _ => rfl) (fun ds h Q E q => ?_) (fun f cdv A outer s H E hr tk =>
    (css_one (cs_ret (ce_and (ce_cmp (o_ne hr) (cv 0) ce_str (by rfl)) (ce_one (ce_callB (b_all rfl) (by rfl) T.B.all (by decide +kernel) (ca_cons (ce_lc [("sign", 1)] rfl (C8.fnScope_by sc_is_word).nd (ci_seq (cv 0)) (blkOk_by (own := [("sign", 1)]) (N := ["text", "sign"]) (sc := (defScope s_is_word)) (by decide +kernel)) (fun _ _ _ _ _ => (cg_name [1] (i := 1) (by decide) rfl (C8.fnScope_by sc_is_word).nd rfl (by first | exact Or.inl rfl | exact Or.inr rfl) (by first | exact Or.inl rfl | exact Or.inr rfl))) (fun _ _ _ _ _ => cts_nil) (fun _ _ _ _ _ => (ce_cmp (o_in hr) (cv 1) (ce_gs T.LETTERS) (by rfl)))) ca_nil))))))) (fun ds h Q E q => ?_)
  · obtain ⟨s, rfl, _⟩ := q; rfl
  · obtain ⟨s, rfl, ls, q⟩ := q
    unfold isWordS at q
    walk_at "go"
    cases c : decide (s = "") with
    | true =>
      rw [c] at q
      walk_at "go"
      exact q _ Kp.refl
    | false =>
      rw [c] at q
      have q : ∀ h2, Kp [] h h2 → Q (.bl (s.cps.toList.all lowB)) h2 := q
      have lc : s.cps.toList.length = s.length := rfl
      walk_at "go"
      refine ⟨by rw [List.length_map, lc]; omega, ?_⟩
      refine lcGo_ind (fun i acc h2 => h2 = h ∧ acc = ((s.cps.toList.take i).map lowB).map D.bl) ⟨rfl, rfl⟩ (fun _ _ _ _ _ => trivial) ?_ ?_
      · rintro i d acc h2 R hd ⟨rfl, rfl⟩ k
        rw [List.getElem?_map] at hd
        obtain ⟨c, hc, rfl⟩ := Option.map_eq_some_iff.mp hd
        walk_at "go"
        refine ⟨c, rfl, k _ _ ⟨rfl, ?_⟩⟩
        rw [List.take_add_one, hc]
        simp only [Option.toList, List.map_append, List.map_cons, List.map_nil]
        rfl
      · rintro acc h2 ⟨rfl, rfl⟩
        rw [List.length_map, List.take_length]
        walk_at "go"
        refine allBl_of _ rfl ?_
        rw [all_id_map]
        exact q _ Kp.refl.push
theorem c_is_name (T : TX K mg) : Fn P w K mg base 2 "is_name" (fun ds h Q _ => ∃ d, ds = [d] ∧ Hv h d ∧ ∀ h', Kp [] h h' → Q (.bl (isNameD d)) h') := by
  refine mk_fn T.h_is_name sc_is_name (fun _ _ _ _ _ _ us hl => match us, hl with | [_], _ => rfl) (fun ds h Q E q => ?_) (fun f cdv A outer s H E hr tk =>
    (css_one (cs_ret (ce_and (ce_isT (.inr (.inr (.inl rfl))) (cv 0) (by rfl) T.B.isinstance (pe_bltn (v := .ty "str") (by rfl) T.B.str (by decide +kernel) rfl)) (ce_and (ce_cmp o_le (ce_callB b_len (by rfl) T.B.len (by decide +kernel) (ca_cons (cv 0) ca_nil)) (ce_gi T.LONGEST_NAME) (by rfl)) (ce_one (ce_call (c_is_word T) hr (by decide) tk (by rfl) (ca_cons (cv 0) ca_nil)))))))) (fun ds h Q E q => ?_)
  · obtain ⟨d, rfl, _⟩ := q; rfl
  · obtain ⟨d, rfl, hl, q⟩ := q
    cases d with
    | str s =>
      have ls : s.length ≤ 1000 := hl
      have q : ∀ h', Kp [] h h' → Q (.bl (decide (s.length ≤ 8) && isWordS s)) h' := q
      walk_at "go"
      refine ifB_dec (fun c => ?_) (fun c => ?_)
      · rw [decide_eq_true (show s.length ≤ 8 by omega), Bool.true_and] at q
        walk_at "go"
        exact ⟨s, rfl, ls, q⟩
      · rw [decide_eq_false (show ¬ s.length ≤ 8 by omega), Bool.false_and] at q
        exact q _ Kp.refl
    | loc n =>
      obtain ⟨xs, e⟩ := hl
      walk_at "go"
      exact q _ Kp.refl
    | pr _ => exact hl.elim
    | kls _ => exact hl.elim
    | _ => walk_at "go"; exact q _ Kp.refl
def strsOf (xs : List D) : List Str := xs.filterMap fun d => match d with | .str s => some s | _ => none
theorem strsOf_map : ∀ ss : List Str, strsOf (ss.map D.str) = ss
  | [] => rfl
  | s :: r => by
    have i := strsOf_map r
    unfold strsOf at i ⊢
    rw [List.map_cons, List.filterMap_cons]
    dsimp only
    rw [i]
theorem of_names : ∀ {xs : List D}, xs.all isNameD = true → xs = (strsOf xs).map D.str
  | [], _ => rfl
  | d :: r, h => by
    rw [List.all_cons, Bool.and_eq_true] at h
    cases d with
    | str s =>
      have i := of_names h.2
      show _ = D.str s :: (strsOf r).map D.str
      rw [← i]
    | _ => cases h.1
def areL (xs : List D) : Bool := xs.all isNameD && decide (strsOf xs).Nodup
def areN (h : MH) (d : D) : Bool := match itemsD h d with | some xs => areL xs | none => false
theorem seq_items {h : MH} {d : D} (hd : Hv h d) : isSeqD d = (itemsD h d).isSome := by
  cases d with
  | loc n =>
    obtain ⟨xs, e⟩ := hd
    unfold itemsD
    dsimp only
    rw [e]
    rfl
  | _ => rfl
theorem items_loc {h : MH} {n : Nat} {xs : List D} (e : itemsD h (.loc n) = some xs) : h[n]? = some (.lst xs) := by
  unfold itemsD at e
  dsimp only at e
  split at e
  · rename_i ys z
    rw [z]
    cases e
    rfl
  · cases e
theorem items_at {h : MH} {n : Nat} {xs : List D} (e : h[n]? = some (.lst xs)) : itemsD h (.loc n) = some xs := by
  unfold itemsD
  dsimp only
  rw [e]
theorem itemsD_or {h : MH} {d : D} {xs : List D} (e : itemsD h d = some xs) : d = .tup xs ∨ ∃ n, d = .loc n ∧ h[n]? = some (.lst xs) := by
  cases d with
  | tup ys => cases e; exact .inl rfl
  | loc n => exact .inr ⟨n, rfl, items_loc e⟩
  | _ => cases e
theorem items_nil {h h' : MH} {d : D} {xs : List D} (k : Kp [] h h') (e : itemsD h d = some xs) : itemsD h' d = some xs := by
  rcases itemsD_or e with rfl | ⟨n, rfl, z⟩
  · rfl
  · exact items_at (k.get _ _ (by simp) z)
theorem c_are_names (T : TX K mg) : Fn P w K mg base 3 "are_names" (fun ds h Q _ => ∃ d, ds = [d] ∧ Hnd h d ∧ ∀ h', Kp [] h h' → Q (.bl (areN h d)) h') := by
  refine mk_fn T.h_are_names sc_are_names (fun _ _ _ _ _ _ us hl => match us, hl with | [_], _ => rfl) (fun ds h Q E q => ?_) (fun f cdv A outer s H E hr tk =>
    (css_cut (cs_if (CW.ct (cw_or (ct_not (ct_tru (ce_call (c_is_sequence T) hr (by decide) tk (by rfl) (ca_cons (cv 0) ca_nil)))) (cw_or1 (ct_not (ct_tru (ce_callB (b_all rfl) (by rfl) T.B.all (by decide +kernel) (ca_cons (ce_lc [("value", 1)] rfl (C8.fnScope_by sc_are_names).nd (ci_seq (cv 0)) (blkOk_by (own := [("value", 1)]) (N := ["values", "value"]) (sc := (defScope s_are_names)) (by decide +kernel)) (fun _ _ _ _ _ => (cg_name [1] (i := 1) (by decide) rfl (C8.fnScope_by sc_are_names).nd rfl (by first | exact Or.inl rfl | exact Or.inr rfl) (by first | exact Or.inl rfl | exact Or.inr rfl))) (fun _ _ _ _ _ => cts_nil) (fun _ _ _ _ _ => (ce_call (c_is_name T) hr (by decide) takesF (by rfl) (ca_cons (cv 1) ca_nil)))) ca_nil))))))) (css_one (cs_ret ce_bl)) css_nil)
    (css_one (cs_ret (ce_cmp (o_eq hr) (ce_lenTx rfl (by rfl) T.B.len (by rfl) T.B.set (cv 0)) (ce_callB b_len (by rfl) T.B.len (by decide +kernel) (ca_cons (cv 0) ca_nil)) (by rfl)))))) (fun ds h Q E q => ?_)
  · obtain ⟨d, rfl, _⟩ := q; rfl
  · obtain ⟨d, rfl, hd, q⟩ := q
    refine ⟨fun ρ' h' => ∃ xs, itemsD h d = some xs ∧ xs.all isNameD = true ∧ ρ' = [some d, none] ∧ Kp [] h h', ?_, ?_⟩
    · walk_at "go"
      refine ⟨d, rfl, hd.v, ?_⟩
      rw [seq_items hd.v]
      unfold areN at q
      cases ei : itemsD h d with
      | none =>
        rw [ei] at q
        walk_at "go"
        exact q _ Kp.refl
      | some xs =>
        rw [ei] at q
        obtain ⟨hl, hx⟩ := hd.i xs ei
        have fin : ∀ h2, Kp [] h h2 → xs.all isNameD = false → Q (.bl false) h2 := fun h2 k2 c => by
          have e : areL xs = false := by unfold areL; rw [c]; rfl
          have q : ∀ h', Kp [] h h' → Q (.bl (areL xs)) h' := q
          rw [e] at q
          exact q _ k2
        rcases itemsD_or ei with rfl | ⟨n, rfl, e⟩
        · walk_at "go"
          refine lcGo_kp (fun d => .bl (isNameD d)) (fun _ _ => trivial) ?_ ?_
          · rintro x h2 R hxm k2 k
            walk_at "go"
            exact ⟨x, rfl, (hx x hxm).nil k2, k⟩
          · intro h2 k2
            walk_at "go"
            refine allBl_of (xs.map isNameD) (by rw [List.map_map]; rfl) ?_
            rw [all_id_map]
            cases c : xs.all isNameD with
            | true => walk_at "go"; exact ⟨xs, rfl, c, rfl, k2.push⟩
            | false => walk_at "go"; exact fin _ k2.push c
        · walk_at "go"
          refine lcGo_kp (fun d => .bl (isNameD d)) (fun h2 k2 => lstAt_of (k2.get _ _ (by simp) e) rfl) ?_ ?_
          · rintro x h2 R hxm k2 k
            walk_at "go"
            exact ⟨x, rfl, (hx x hxm).nil k2, k⟩
          · intro h2 k2
            walk_at "go"
            refine allBl_of (xs.map isNameD) (by rw [List.map_map]; rfl) ?_
            rw [all_id_map]
            cases c : xs.all isNameD with
            | true => walk_at "go"; exact ⟨xs, rfl, c, rfl, k2.push⟩
            | false => walk_at "go"; exact fin _ k2.push c
    · rintro ρ' h' ⟨xs, ei, ha, rfl, k1⟩
      unfold areN at q
      rw [ei] at q
      have q2 : ∀ h2, Kp [] h h2 → Q (.bl (xs.all isNameD && decide (strsOf xs).Nodup)) h2 := q
      rw [ha, Bool.true_and] at q2
      have e := of_names ha
      clear q
      generalize strsOf xs = ss at e q2
      subst e
      have hl := (hd.i _ ei).1
      rw [List.length_map] at hl
      have e2 : decide (((MyS.uq ss).length : Int) = (ss.length : Int)) = decide ss.Nodup := by rw [← MyS.uq_same]; exact decide_eq_decide.mpr (by omega)
      rcases itemsD_or ei with rfl | ⟨n, rfl, e⟩
      · walk_at "go"
        refine allStr_of _ ⟨by omega, ?_⟩
        walk_at "go"
        rw [List.length_map]
        show Q (.bl (decide _)) _
        rw [e2]
        exact q2 _ k1
      · have e := k1.get _ _ (by simp) e
        walk_at "go"
        refine allStr_of _ ⟨by omega, ?_⟩
        walk_at "go"
        rw [List.length_map]
        show Q (.bl (decide _)) _
        rw [e2]
        exact q2 _ k1
theorem name_yes {s : Str} (h : IsName s) : isNameD (.str s) = true := by
  have l := h.len
  obtain ⟨w, rfl, w1, w8, lw⟩ := h
  have ne : ¬ S w = "" := fun e => by rw [e] at l; exact absurd l.1 (by decide +kernel)
  show (decide ((S w).length ≤ 8) && (!decide (S w = "") && (S w).cps.toList.all lowB)) = true
  rw [decide_eq_true l.2, decide_eq_false ne, Bool.true_and, show (S w).cps.toList = w by simp [S]]
  show w.all lowB = true
  rw [List.all_eq_true]
  exact fun c hc => low_abc.mpr (lw c hc)
theorem names_yes {ss : List Str} (h : ∀ s ∈ ss, IsName s) (nd : ss.Nodup) : areL (ss.map D.str) = true := by
  unfold areL
  rw [strsOf_map, decide_eq_true nd, Bool.and_true, List.all_eq_true]
  intro d hd
  obtain ⟨s, hs, rfl⟩ := List.mem_map.mp hd
  exact name_yes (h s hs)

end My

namespace My
open PySem PySem.Spec PyProof.Rows L2 SX L3
local macro_rules | `(tactic| walk_at "w") => `(tactic| with_reducible conv => whnf)
local macro_rules | `(tactic| walk_at "ne") => `(tactic| first | assumption | (apply Ne.symm; assumption) | omega)
local macro_rules | `(tactic| walk_at "lk") => `(tactic| first | assumption | exact get_new | (apply get_set; walk_at "lk") | (refine get_push ?_; walk_at "lk") | (refine get_setne ?_ ?_; walk_at "ne"; walk_at "lk"))
local macro_rules | `(tactic| walk_at "kp") => `(tactic| first | assumption | exact Kp.refl | (refine Kp.push ?_; walk_at "kp") | (refine Kp.set ?_ (Or.inl (by simp)); walk_at "kp") | (refine Kp.set ?_ (Or.inr (by omega)); walk_at "kp"))
local macro_rules | `(tactic| walk_at "c") => `(tactic| ((with_reducible refine And.intro ?we ?_); case we => first | decide | exact Nat.le_of_ble_eq_true rfl | exact List.contains_iff_mem.mp rfl | exact (rfl : List.length _ = _) | exact (rfl : (_ : Str) = _) | exact (show (0 : Int) < _ from by decide) | exact Or.inr ⟨by decide, by decide⟩ | exact Or.inl ⟨by decide, by decide⟩ | exact (show _ ∧ _ from ⟨show (0 : Int) < _ from by decide, by decide⟩) | exact ⟨by decide, by decide, by decide⟩ | exact Or.inl ⟨by omega, by omega⟩ | exact (show (_ : Nat) < _ from by omega) | exact (show (_ : Nat) ≤ _ from by omega) | exact (show (_ : Int) < _ from by omega) | exact (show (_ : Int) ≤ _ from by omega)))
local macro_rules | `(tactic| walk_at "wd") => `(tactic| ((conv => lhs; whnf); try exact rfl))
local macro_rules | `(tactic| walk_at "s") => `(tactic| (walk_at "w"; first | ((with_reducible apply go_var); exact rfl) | ((with_reducible apply go_aug); exact rfl) | ((with_reducible apply lstAt_of); walk_at "lk") | ((with_reducible apply wrAt_of); walk_at "lk") | ((with_reducible apply isL_of); walk_at "lk") | ((with_reducible apply atK_of); exact rfl) | (with_reducible refine isT_non ?_) | (with_reducible refine isT_bl ?_) | (with_reducible refine isT_int ?_) | (with_reducible refine isT_str ?_) | (with_reducible refine isT_tup ?_) | (with_reducible refine isT_kls ?_) | ((with_reducible apply isT_lst); walk_at "lk") | (with_reducible refine tru_bl ?_) | (with_reducible refine tru_non ?_) | (with_reducible refine tru_int ?_) | (with_reducible refine tru_tup ?_) | ((with_reducible apply tru_lst); walk_at "lk") | ((with_reducible apply clsAt_of); walk_at "lk"; rfl) | ((with_reducible apply fldAt_of); walk_at "lk"; rfl) | ((with_reducible apply setF_of); walk_at "lk"; first | decide | exact Nat.le_of_ble_eq_true rfl) | ((with_reducible apply setK_of); walk_at "lk"; rfl) | ((with_reducible refine hd_hit ?we ?wf ?wg ?_); (case we => exact rfl); (case wf => exact rfl); (case wg => exact rfl)) | ((with_reducible refine hd_miss ?we ?wf ?wg ?_); (case we => exact rfl); (case wf => exact rfl); (case wg => exact rfl)) | ((with_reducible refine hd_hit0 ?we ?wf ?_); (case we => exact rfl); (case wf => exact rfl)) | ((with_reducible refine hd_miss0 ?we ?wf ?_); (case we => exact rfl); (case wf => exact rfl)) | (with_reducible refine byErr_of ?_) | ((with_reducible refine ifB_T ?we ?_); case we => exact rfl) | ((with_reducible refine ifB_F ?we ?_); case we => exact rfl) | ((with_reducible apply oDGet_of); walk_at "lk"; exact rfl; exact rfl; walk_at "wd") | ((with_reducible apply oDIn_of); walk_at "lk"; exact rfl) | ((with_reducible apply oDPut_of); walk_at "lk"; exact rfl; first | decide | exact Nat.le_of_ble_eq_true rfl) | ((with_reducible apply dispK_of); exact rfl; exact rfl; first | decide | exact Nat.le_of_ble_eq_true rfl) | walk_at "c" | (delta L3.isNon)))
local macro_rules | `(tactic| walk_at "go") => `(tactic| ((repeat walk_at "s"); (try walk_at "w")))
local macro_rules | `(tactic| walk_at "gd") => `(tactic| first | exact True.intro | ((with_reducible apply lstAt_of); walk_at "lk"; exact rfl) | assumption)
local macro_rules | `(tactic| walk_at "u") => `(tactic| first | walk_at "s" | ((with_reducible refine un_for1 ?g0 ?_); (case g0 => walk_at "gd")) | ((with_reducible refine un_for0 ?g0 ?_); (case g0 => walk_at "gd")) | ((with_reducible refine un_lc1 ?g0 ?_); (case g0 => walk_at "gd")) | ((with_reducible refine un_lc0 ?g0 ?_); (case g0 => walk_at "gd")) | ((with_reducible refine un_lcB ?g0 ?_); (case g0 => walk_at "gd")) | ((with_reducible refine un_lcA ?g0 ?_); (case g0 => walk_at "gd")) | ((with_reducible refine un_lcD ?g0 ?_); (case g0 => walk_at "gd")) | ((with_reducible refine un_lcC ?g0 ?_); (case g0 => walk_at "gd")) | (with_reducible refine un_wh ?_))
local macro_rules | `(tactic| walk_at "gu") => `(tactic| ((repeat walk_at "u"); (try walk_at "w")))
/-! ### trees of data; the checks (k34 .. k37) -/
variable {P : Program} {w : World} {K : PySem.W.Frag} {mg : Str → Option Value} {base : Heap}
theorem sc_is_pair : C8.scC ["value"] ["value"] (defScope s_is_pair) = true := by decide +kernel
theorem sc__check_sides : C8.scC ["sides"] ["sides"] (defScope s__check_sides) = true := by decide +kernel
def seqP : PyData → Option (List PyData)
  | .list xs => some xs
  | .tuple xs => some xs
  | _ => none
def pairP (e : PyData) : Bool := match seqP e with | some xs => decide (xs.length = 2) | none => false
def flatP : PyData → Prop
  | .none => True
  | .bool _ => True
  | .int _ => True
  | .str s => PyData.strOk s = true ∧ s.length ≤ 1000
  | _ => False
/-- a tree of that depth -/
def Tp : Nat → PyData → Prop
  | 0, e => flatP e
  | n + 1, e => flatP e ∨ ∃ es, (e = .list es ∨ e = .tuple es) ∧ es.length ≤ 200 ∧ ∀ x ∈ es, Tp n x
theorem flatP.lay {e : PyData} (f : flatP e) : e.canLay0 = true ∧ e.depth = 0 := by
  cases e with
  | none => exact ⟨by simp [PyData.canLay0], by simp [PyData.depth]⟩
  | bool b => exact ⟨by simp [PyData.canLay0], by simp [PyData.depth]⟩
  | int i => exact ⟨by simp [PyData.canLay0], by simp [PyData.depth]⟩
  | str s => exact ⟨by simp [PyData.canLay0, f.1], by simp [PyData.depth]⟩
  | _ => exact f.elim
theorem lay_all {n : Nat} : ∀ {es : List PyData}, (∀ x ∈ es, x.canLay0 = true ∧ x.depth ≤ n) → PyData.canLayAll0 es = true ∧ PyData.depthAll es ≤ n
  | [], _ => ⟨by simp [PyData.canLayAll0], by simp [PyData.depthAll]⟩
  | x :: r, a => by
    obtain ⟨b1, b2⟩ := lay_all fun y hy => a y (List.mem_cons_of_mem _ hy)
    obtain ⟨c1, c2⟩ := a x (List.mem_cons_self ..)
    exact ⟨by simp [PyData.canLayAll0, b1, c1], by simp [PyData.depthAll]; omega⟩
theorem Tp.lay : ∀ {n : Nat} {e : PyData}, Tp n e → e.canLay0 = true ∧ e.depth ≤ n
  | 0, _, f => ⟨(flatP.lay f).1, by rw [(flatP.lay f).2]; exact Nat.le_refl _⟩
  | _ + 1, _, .inl f => ⟨(flatP.lay f).1, by rw [(flatP.lay f).2]; exact Nat.zero_le _⟩
  | n + 1, _, .inr ⟨es, .inl e, _, a⟩ => by
    obtain ⟨b1, b2⟩ := lay_all fun x hx => Tp.lay (a x hx)
    rw [e]
    exact ⟨by simp [PyData.canLay0, b1], by simp [PyData.depth]; omega⟩
  | n + 1, _, .inr ⟨es, .inr e, _, a⟩ => by
    obtain ⟨b1, b2⟩ := lay_all fun x hx => Tp.lay (a x hx)
    rw [e]
    exact ⟨by simp [PyData.canLay0, b1], by simp [PyData.depth]; omega⟩
theorem Tp.shaped {n : Nat} {e : PyData} (t : Tp n e) (h : n ≤ 60) : SeqAt.shaped e = true := by
  obtain ⟨a, b⟩ := t.lay
  unfold SeqAt.shaped
  rw [a, Bool.true_and, decide_eq_true_iff]
  omega
theorem Tp.row {n : Nat} {es : List PyData} (t : ∀ x ∈ es, Tp n x) (h : n ≤ 50) : SeqAt.shaped (.list es) = true ∧ SeqAt.shaped (.tuple es) = true := by
  obtain ⟨b1, b2⟩ := lay_all fun x hx => (t x hx).lay
  unfold SeqAt.shaped
  constructor
  · rw [show (PyData.list es).canLay0 = true by simp [PyData.canLay0, b1], Bool.true_and, decide_eq_true_iff]
    simp [PyData.depth]; omega
  · rw [show (PyData.tuple es).canLay0 = true by simp [PyData.canLay0, b1], Bool.true_and, decide_eq_true_iff]
    simp [PyData.depth]; omega
theorem Tp.wide : ∀ {n m : Nat} {e : PyData}, Tp n e → n ≤ m → Tp m e
  | 0, 0, _, f, _ => f
  | 0, _ + 1, _, f, _ => .inl f
  | _ + 1, 0, _, _, h => absurd h (by omega)
  | _ + 1, _ + 1, _, .inl f, _ => .inl f
  | n + 1, m + 1, _, .inr ⟨es, e, l, a⟩, h => .inr ⟨es, e, l, fun x hx => (a x hx).wide (by omega)⟩
theorem Tp.seq {n : Nat} {e : PyData} {es : List PyData} (t : Tp (n + 1) e) (h : seqP e = some es) : es.length ≤ 200 ∧ ∀ x ∈ es, Tp n x := by
  rcases t with f | ⟨xs, rfl | rfl, l, a⟩
  · cases e <;> first | exact f.elim | cases h
  · cases h; exact ⟨l, a⟩
  · cases h; exact ⟨l, a⟩
/-- what is read where there is a row -/
theorem pys_len {h : MH} : ∀ {ds : List D} {es : List PyData}, PysOf h ds es → ds.length = es.length
  | _, _, .nil => rfl
  | _, _, .cons _ q => by rw [List.length_cons, List.length_cons, pys_len q]
theorem pys_at {h : MH} : ∀ {ds : List D} {es : List PyData}, PysOf h ds es → ∀ {i : Nat} {d : D}, ds[i]? = some d → ∃ e, es[i]? = some e ∧ PyOf h d e
  | _, _, .cons p q, 0, d, e => by cases e; exact ⟨_, rfl, p⟩
  | _, _, .cons p q, i + 1, d, e => pys_at q e
/-- what may be looked at: not the script itself -/
def noK : D → Bool
  | .kls _ => false
  | _ => true
/-- the rows that a thing stands for -/
def Rd (h : MH) : Nat → D → PyData → Prop
  | 0, d, e => PyOf h d e ∧ flatP e
  | n + 1, d, e => (PyOf h d e ∧ flatP e) ∨ ∃ ds es, (∀ (i : Nat) a b, ds[i]? = some a → es[i]? = some b → Rd h n a b) ∧ ds.length = es.length ∧ es.length ≤ 200 ∧ ((d = .tup ds ∧ e = .tuple es) ∨ ∃ p, d = .loc p ∧ h[p]? = some (.lst ds) ∧ e = .list es)
theorem pys_of {h : MH} : ∀ {ds : List D} {es : List PyData}, ds.length = es.length → (∀ (i : Nat) a b, ds[i]? = some a → es[i]? = some b → PyOf h a b) → PysOf h ds es
  | [], [], _, _ => .nil
  | d :: ds, e :: es, l, a => .cons (a 0 d e rfl rfl) (pys_of (by simpa using l) fun i x y hx hy => a (i + 1) x y hx hy)
  | [], _ :: _, l, _ => by cases l
  | _ :: _, [], l, _ => by cases l
theorem Rd.py {h : MH} : ∀ {n : Nat} {d : D} {e : PyData}, Rd h n d e → PyOf h d e
  | 0, _, _, r => r.1
  | _ + 1, _, _, .inl r => r.1
  | n + 1, _, _, .inr ⟨ds, es, a, l, _, .inl ⟨e1, e2⟩⟩ => by rw [e1, e2]; exact .tup (pys_of l fun i x y hx hy => Rd.py (a i x y hx hy))
  | n + 1, _, _, .inr ⟨ds, es, a, l, _, .inr ⟨p, e1, g, e2⟩⟩ => by rw [e1, e2]; exact .loc g (pys_of l fun i x y hx hy => Rd.py (a i x y hx hy))
theorem at_both {α β : Type} {xs : List α} {ys : List β} (l : xs.length = ys.length) {y : β} (h : y ∈ ys) : ∃ (i : Nat) (x : α), xs[i]? = some x ∧ ys[i]? = some y := by
  obtain ⟨i, hi, e⟩ := List.getElem_of_mem h
  exact ⟨i, xs[i]'(by omega), List.getElem?_eq_getElem _, by rw [List.getElem?_eq_getElem hi, e]⟩
theorem Rd.tp {h : MH} : ∀ {n : Nat} {d : D} {e : PyData}, Rd h n d e → Tp n e
  | 0, _, _, r => r.2
  | _ + 1, _, _, .inl r => .inl r.2
  | n + 1, _, _, .inr ⟨ds, es, a, l, m, .inl ⟨_, e2⟩⟩ => .inr ⟨es, .inr e2, m, fun x hx => by
    obtain ⟨i, y, h1, h2⟩ := at_both l hx
    exact Rd.tp (a i y x h1 h2)⟩
  | n + 1, _, _, .inr ⟨ds, es, a, l, m, .inr ⟨_, _, _, e2⟩⟩ => .inr ⟨es, .inl e2, m, fun x hx => by
    obtain ⟨i, y, h1, h2⟩ := at_both l hx
    exact Rd.tp (a i y x h1 h2)⟩
theorem Rd.kp {h h' : MH} (k : Kp [] h h') : ∀ {n : Nat} {d : D} {e : PyData}, Rd h n d e → Rd h' n d e
  | 0, _, _, r => ⟨PyOf.kp k r.1, r.2⟩
  | _ + 1, _, _, .inl r => .inl ⟨PyOf.kp k r.1, r.2⟩
  | n + 1, _, _, .inr ⟨ds, es, a, l, m, .inl z⟩ => .inr ⟨ds, es, fun i x y hx hy => Rd.kp k (a i x y hx hy), l, m, .inl z⟩
  | n + 1, _, _, .inr ⟨ds, es, a, l, m, .inr ⟨p, e1, g, e2⟩⟩ => .inr ⟨ds, es, fun i x y hx hy => Rd.kp k (a i x y hx hy), l, m, .inr ⟨p, e1, k.get _ _ (by simp) g, e2⟩⟩
theorem flat_py {h : MH} {d : D} {e : PyData} (p : PyOf h d e) (f : flatP e) : flatD d = true := by
  cases p <;> first | rfl | exact f.elim
theorem flat_no {e : PyData} (f : flatP e) : seqP e = none := by
  cases e <;> first | rfl | exact f.elim
theorem Rd.hv {h : MH} {n : Nat} {d : D} {e : PyData} (r : Rd h n d e) : Hv h d := by
  have fl : ∀ {d e}, PyOf h d e → flatP e → Hv h d := fun p f => by
    cases p <;> first | trivial | exact f.2 | exact f.elim
  cases n with
  | zero => exact fl r.1 r.2
  | succ n =>
    rcases r with r | ⟨ds, es, _, _, _, ⟨rfl, _⟩ | ⟨p, rfl, g, _⟩⟩
    · exact fl r.1 r.2
    · trivial
    · exact ⟨ds, g⟩
theorem Rd.isSeq {h : MH} {n : Nat} {d : D} {e : PyData} (r : Rd h n d e) : isSeqD d = (seqP e).isSome := by
  have fl : ∀ {d e}, PyOf h d e → flatP e → isSeqD d = (seqP e).isSome := fun p f => by
    cases p <;> first | rfl | exact f.elim
  cases n with
  | zero => exact fl r.1 r.2
  | succ n =>
    rcases r with r | ⟨ds, es, _, _, _, ⟨rfl, rfl⟩ | ⟨p, rfl, g, rfl⟩⟩
    · exact fl r.1 r.2
    · rfl
    · rfl
/-- a row, by its things -/
theorem Rd.rows {h : MH} {n : Nat} {d : D} {e : PyData} (r : Rd h (n + 1) d e) {es : List PyData} (s : seqP e = some es) : ∃ ds, (∀ (i : Nat) a b, ds[i]? = some a → es[i]? = some b → Rd h n a b) ∧ ds.length = es.length ∧ es.length ≤ 200 ∧ (d = .tup ds ∨ ∃ p, d = .loc p ∧ h[p]? = some (.lst ds)) := by
  rcases r with r | ⟨ds, es', a, l, m, ⟨rfl, rfl⟩ | ⟨p, rfl, g, rfl⟩⟩
  · rw [flat_no r.2] at s; cases s
  · cases s; exact ⟨ds, a, l, m, .inl rfl⟩
  · cases s; exact ⟨ds, a, l, m, .inr ⟨p, rfl, g⟩⟩
theorem Rd.down {h : MH} {n : Nat} {ds : List D} {es : List PyData} (a : ∀ (i : Nat) x b, ds[i]? = some x → es[i]? = some b → Rd h n x b) (l : ds.length = es.length) {i : Nat} {d : D} (e : ds[i]? = some d) : ∃ b, es[i]? = some b ∧ Rd h n d b := by
  have hi := (List.getElem?_eq_some_iff.mp e).1
  exact ⟨es[i]'(by omega), List.getElem?_eq_getElem _, a i d _ e (List.getElem?_eq_getElem _)⟩
theorem c_is_pair (T : TX K mg) : Fn P w K mg base 2 "is_pair" (fun ds h Q _ => ∃ n d e, ds = [d] ∧ Rd h n d e ∧ Q (.bl (pairP e)) h) := by
  refine mk_fn T.h_is_pair sc_is_pair (fun _ _ _ _ _ _ us hl => match us, hl with | [_], _ => rfl) (fun ds h Q E q => ?_) (fun f cdv A outer s H E hr tk =>
    (css_one (cs_ret (ce_and (ce_call (c_is_sequence T) hr (by decide) tk (by rfl) (ca_cons (cv 0) ca_nil)) (ce_one (ce_cmp (o_eq hr) (ce_callB b_len (by rfl) T.B.len (by decide +kernel) (ca_cons (cv 0) ca_nil)) ce_int (by rfl))))))) (fun ds h Q E q => ?_)
  · obtain ⟨n, d, e, rfl, _⟩ := q; rfl
  · obtain ⟨n, d, e, rfl, r, q⟩ := q
    have hs := r.isSeq
    unfold pairP at q
    walk_at "go"
    refine ⟨d, rfl, r.hv, ?_⟩
    rw [hs]
    cases s : seqP e with
    | none =>
      rw [s] at q
      walk_at "go"
      exact q
    | some es =>
      rw [s] at q
      obtain ⟨m, rfl⟩ : ∃ m, n = m + 1 := by
        cases n with
        | zero => rw [flat_no r.2] at s; cases s
        | succ m => exact ⟨m, rfl⟩
      obtain ⟨ds, _, l, m200, rfl | ⟨p, rfl, g⟩⟩ := r.rows s
      · walk_at "go"
        rw [l, show decide (((es.length : Nat) : Int) = 2) = decide (es.length = 2) by rw [decide_eq_decide]; omega]
        exact q
      · walk_at "go"
        rw [l, show decide (((es.length : Nat) : Int) = 2) = decide (es.length = 2) by rw [decide_eq_decide]; omega]
        exact q
def cnt4 (n : Nat) : Bool := decide (n = 2 ∨ n = 4 ∨ n = 6 ∨ n = 8)
def sdOk (h : MH) (d : D) : Bool := areN h d && (match itemsD h d with | some xs => cnt4 xs.length | none => false)
def sp_cs : SpM := fun ds h Q E => ∃ d, ds = [d] ∧ Hnd h d ∧ (sdOk h d = false → ∀ h', Kp [] h h' → E ⟨"BadValue", [("at", .int 0)]⟩ h') ∧ (sdOk h d = true → ∀ h', Kp [] h h' → Q .non h')
theorem c__check_sides (T : TX K mg) : Fn P w K mg base 4 "_check_sides" sp_cs := by
  refine mk_fn T.h__check_sides sc__check_sides (fun _ _ _ _ _ _ us hl => match us, hl with | [_], _ => rfl) (fun ds h Q E q => ?_) (fun f cdv A outer s H E hr tk =>
    (css_one (cs_if (CW.ct (cw_or (ct_not (ct_tru (ce_call (c_are_names T) hr (by decide) tk (by rfl) (ca_cons (cv 0) ca_nil)))) (cw_or1 (ct_cmp (o_notin hr) (ce_callB b_len (by rfl) T.B.len (by decide +kernel) (ca_cons (cv 0) ca_nil)) (ce_gTi T.COUNTS T.tCOUNTS T.dCOUNTS) (by rfl))))) (css_one (cs_raise (cn := "BadValue") rfl T.e_BadValue T.g_BadValue hr tk (ca_cons ce_int ca_nil))) css_nil))) (fun ds h Q E q => ?_)
  · obtain ⟨d, rfl, _⟩ := q; rfl
  · obtain ⟨d, rfl, hd, q1, q2⟩ := q
    unfold sdOk at q1 q2
    walk_at "go"
    refine ⟨d, rfl, hd, fun h1 k1 => ?_⟩
    cases ea : areN h d with
    | false =>
      rw [ea] at q1
      walk_at "go"
      exact q1 rfl _ k1
    | true =>
      rw [ea] at q1 q2
      unfold areN at ea
      cases z : itemsD h d with
      | none => rw [z] at ea; cases ea
      | some xs =>
        rw [z] at q1 q2
        have hl := (hd.i _ z).1
        have f : inF (.int (xs.length : Nat)) [.int 2, .int 4, .int 6, .int 8] = cnt4 xs.length := by
          unfold cnt4
          show ((2 : Int) == (xs.length : Nat) || ((4 : Int) == (xs.length : Nat) || ((6 : Int) == (xs.length : Nat) || ((8 : Int) == (xs.length : Nat) || false)))) = _
          rw [Bool.eq_iff_iff]
          simp only [Bool.or_eq_true, beq_iff_eq, decide_eq_true_iff, Bool.false_eq_true, or_false]
          omega
        have f2 : inF (.int (xs.length : Nat)) (List.map D.int [2, 4, 6, 8]) = cnt4 xs.length := f
        rcases itemsD_or z with rfl | ⟨n, rfl, e⟩
        · walk_at "go"
          refine .inl ⟨rfl, rfl, ?_⟩
          rw [f2]
          cases c : cnt4 xs.length with
          | false =>
            walk_at "go"
            exact q1 (by show (true && cnt4 xs.length) = _; rw [c]; rfl) _ k1
          | true =>
            walk_at "go"
            exact q2 (by show (true && cnt4 xs.length) = _; rw [c]; rfl) _ k1
        · have e := k1.get _ _ (by simp) e
          walk_at "go"
          refine .inl ⟨rfl, rfl, ?_⟩
          rw [f2]
          cases c : cnt4 xs.length with
          | false =>
            walk_at "go"
            exact q1 (by show (true && cnt4 xs.length) = _; rw [c]; rfl) _ k1
          | true =>
            walk_at "go"
            exact q2 (by show (true && cnt4 xs.length) = _; rw [c]; rfl) _ k1

end My

namespace My
open PySem PySem.Spec PyProof.Rows L2 SX L3
local macro_rules | `(tactic| walk_at "w") => `(tactic| with_reducible conv => whnf)
local macro_rules | `(tactic| walk_at "ne") => `(tactic| first | assumption | (apply Ne.symm; assumption) | omega)
local macro_rules | `(tactic| walk_at "lk") => `(tactic| first | assumption | exact get_new | (apply get_set; walk_at "lk") | (refine get_push ?_; walk_at "lk") | (refine get_setne ?_ ?_; walk_at "ne"; walk_at "lk"))
local macro_rules | `(tactic| walk_at "kp") => `(tactic| first | assumption | exact Kp.refl | (refine Kp.push ?_; walk_at "kp") | (refine Kp.set ?_ (Or.inl (by simp)); walk_at "kp") | (refine Kp.set ?_ (Or.inr (by omega)); walk_at "kp"))
local macro_rules | `(tactic| walk_at "c") => `(tactic| ((with_reducible refine And.intro ?we ?_); case we => first | decide | exact Nat.le_of_ble_eq_true rfl | exact List.contains_iff_mem.mp rfl | exact (rfl : List.length _ = _) | exact (rfl : (_ : Str) = _) | exact (show (0 : Int) < _ from by decide) | exact Or.inr ⟨by decide, by decide⟩ | exact Or.inl ⟨by decide, by decide⟩ | exact (show _ ∧ _ from ⟨show (0 : Int) < _ from by decide, by decide⟩) | exact ⟨by decide, by decide, by decide⟩ | exact Or.inl ⟨by omega, by omega⟩ | exact (show (_ : Nat) < _ from by omega) | exact (show (_ : Nat) ≤ _ from by omega) | exact (show (_ : Int) < _ from by omega) | exact (show (_ : Int) ≤ _ from by omega)))
local macro_rules | `(tactic| walk_at "wd") => `(tactic| ((conv => lhs; whnf); try exact rfl))
local macro_rules | `(tactic| walk_at "s") => `(tactic| (walk_at "w"; first | ((with_reducible apply go_var); exact rfl) | ((with_reducible apply go_aug); exact rfl) | ((with_reducible apply lstAt_of); walk_at "lk") | ((with_reducible apply wrAt_of); walk_at "lk") | ((with_reducible apply isL_of); walk_at "lk") | ((with_reducible apply atK_of); exact rfl) | (with_reducible refine isT_non ?_) | (with_reducible refine isT_bl ?_) | (with_reducible refine isT_int ?_) | (with_reducible refine isT_str ?_) | (with_reducible refine isT_tup ?_) | (with_reducible refine isT_kls ?_) | ((with_reducible apply isT_lst); walk_at "lk") | (with_reducible refine tru_bl ?_) | (with_reducible refine tru_non ?_) | (with_reducible refine tru_int ?_) | (with_reducible refine tru_tup ?_) | ((with_reducible apply tru_lst); walk_at "lk") | ((with_reducible apply clsAt_of); walk_at "lk"; rfl) | ((with_reducible apply fldAt_of); walk_at "lk"; rfl) | ((with_reducible apply setF_of); walk_at "lk"; first | decide | exact Nat.le_of_ble_eq_true rfl) | ((with_reducible apply setK_of); walk_at "lk"; rfl) | ((with_reducible refine hd_hit ?we ?wf ?wg ?_); (case we => exact rfl); (case wf => exact rfl); (case wg => exact rfl)) | ((with_reducible refine hd_miss ?we ?wf ?wg ?_); (case we => exact rfl); (case wf => exact rfl); (case wg => exact rfl)) | ((with_reducible refine hd_hit0 ?we ?wf ?_); (case we => exact rfl); (case wf => exact rfl)) | ((with_reducible refine hd_miss0 ?we ?wf ?_); (case we => exact rfl); (case wf => exact rfl)) | (with_reducible refine byErr_of ?_) | ((with_reducible refine ifB_T ?we ?_); case we => exact rfl) | ((with_reducible refine ifB_F ?we ?_); case we => exact rfl) | ((with_reducible apply oDGet_of); walk_at "lk"; exact rfl; exact rfl; walk_at "wd") | ((with_reducible apply oDIn_of); walk_at "lk"; exact rfl) | ((with_reducible apply oDPut_of); walk_at "lk"; exact rfl; first | decide | exact Nat.le_of_ble_eq_true rfl) | ((with_reducible apply dispK_of); exact rfl; exact rfl; first | decide | exact Nat.le_of_ble_eq_true rfl) | walk_at "c" | (delta L3.isNon)))
local macro_rules | `(tactic| walk_at "go") => `(tactic| ((repeat walk_at "s"); (try walk_at "w")))
local macro_rules | `(tactic| walk_at "gd") => `(tactic| first | exact True.intro | ((with_reducible apply lstAt_of); walk_at "lk"; exact rfl) | assumption)
local macro_rules | `(tactic| walk_at "u") => `(tactic| first | walk_at "s" | ((with_reducible refine un_for1 ?g0 ?_); (case g0 => walk_at "gd")) | ((with_reducible refine un_for0 ?g0 ?_); (case g0 => walk_at "gd")) | ((with_reducible refine un_lc1 ?g0 ?_); (case g0 => walk_at "gd")) | ((with_reducible refine un_lc0 ?g0 ?_); (case g0 => walk_at "gd")) | ((with_reducible refine un_lcB ?g0 ?_); (case g0 => walk_at "gd")) | ((with_reducible refine un_lcA ?g0 ?_); (case g0 => walk_at "gd")) | ((with_reducible refine un_lcD ?g0 ?_); (case g0 => walk_at "gd")) | ((with_reducible refine un_lcC ?g0 ?_); (case g0 => walk_at "gd")) | (with_reducible refine un_wh ?_))
local macro_rules | `(tactic| walk_at "gu") => `(tactic| ((repeat walk_at "u"); (try walk_at "w")))
/-! ### a full round, fixtures (k34 .. k37) -/
variable {P : Program} {w : World} {K : PySem.W.Frag} {mg : Str → Option Value} {base : Heap}
theorem sc__is_full_round : C8.scC ["sides", "pairs", "pair", "side", "playing"] ["sides", "pairs"] (defScope s__is_full_round) = true := by decide +kernel
theorem sc_is_fixtures : C8.scC ["sides", "rounds", "pairs", "pair", "met", "home", "away", "both"] ["sides", "rounds"] (defScope s_is_fixtures) = true := by decide +kernel
def partsP (e : PyData) : List PyData := (seqP e).getD []
def fullP (ss : List Str) (e : PyData) : Bool := match seqP e with
  | some ps => ps.all pairP && decide ((ps.flatMap partsP).length = ss.length) && ss.all fun s => (ps.flatMap partsP).any fun z => PyData.eqv z (.str s)
  | none => false
/-- rows side by side -/
structure RdA (h : MH) (n : Nat) (ds : List D) (es : List PyData) : Prop where
  len : ds.length = es.length
  at_ : ∀ (i : Nat) a b, ds[i]? = some a → es[i]? = some b → Rd h n a b
theorem RdA.nil {h : MH} {n : Nat} : RdA h n [] [] := ⟨rfl, fun _ _ _ e => by cases e⟩
theorem RdA.kp {h h' : MH} {n : Nat} {ds : List D} {es : List PyData} (r : RdA h n ds es) (k : Kp [] h h') : RdA h' n ds es := ⟨r.len, fun i a b x y => (r.at_ i a b x y).kp k⟩
theorem RdA.snoc {h : MH} {n : Nat} {ds : List D} {es : List PyData} {d : D} {e : PyData} (r : RdA h n ds es) (q : Rd h n d e) : RdA h n (ds ++ [d]) (es ++ [e]) := ⟨by rw [List.length_append, List.length_append, r.len]; rfl, fun i a b x y => by
  by_cases c : i < ds.length
  · rw [List.getElem?_append_left c] at x
    rw [List.getElem?_append_left (by rw [← r.len]; exact c)] at y
    exact r.at_ i a b x y
  · rw [List.getElem?_append_right (by omega)] at x
    rw [List.getElem?_append_right (by rw [← r.len]; omega), ← r.len] at y
    cases z : i - ds.length with
    | zero => rw [z] at x y; cases x; cases y; exact q
    | succ j => rw [z] at x; cases x⟩
theorem RdA.py {h : MH} {n : Nat} {ds : List D} {es : List PyData} (r : RdA h n ds es) : PysOf h ds es := pys_of r.len fun i a b x y => (r.at_ i a b x y).py
theorem RdA.tp {h : MH} {n : Nat} {ds : List D} {es : List PyData} (r : RdA h n ds es) : ∀ x ∈ es, Tp n x := fun x hx => by
  obtain ⟨i, y, h1, h2⟩ := at_both r.len hx
  exact (r.at_ i y x h1 h2).tp
theorem RdA.get {h : MH} {n : Nat} {ds : List D} {es : List PyData} (r : RdA h n ds es) {i : Nat} {d : D} (e : ds[i]? = some d) : ∃ b, es[i]? = some b ∧ Rd h n d b := Rd.down r.at_ r.len e
theorem Rd.rowA {h : MH} {n : Nat} {d : D} {e : PyData} (r : Rd h (n + 1) d e) {es : List PyData} (s : seqP e = some es) : ∃ ds, RdA h n ds es ∧ es.length ≤ 200 ∧ (d = .tup ds ∨ ∃ p, d = .loc p ∧ h[p]? = some (.lst ds)) := by
  obtain ⟨ds, a, l, m, z⟩ := r.rows s
  exact ⟨ds, ⟨l, a⟩, m, z⟩
theorem flat_take {α β : Type} {f : α → List β} {xs : List α} {i : Nat} {x : α} (h : xs[i]? = some x) : (xs.take (i + 1)).flatMap f = (xs.take i).flatMap f ++ f x := by
  rw [List.take_add_one, h, List.flatMap_append]
  simp
theorem map_take1 {α β : Type} {f : α → β} {xs : List α} {i : Nat} {x : α} (h : xs[i]? = some x) : (xs.take (i + 1)).map f = (xs.take i).map f ++ [f x] := by
  rw [List.take_add_one, h, List.map_append]
  rfl
theorem pair_some {e : PyData} (h : pairP e = true) : ∃ xs, seqP e = some xs ∧ xs.length = 2 := by
  unfold pairP at h
  split at h
  · next xs s => exact ⟨xs, s, of_decide_eq_true h⟩
  · cases h
def sp_full : SpM := fun ds h Q _ => ∃ n d x e ss, ds = [d, x] ∧ itemsD h d = some (ss.map D.str) ∧ ss.length ≤ 100 ∧ (∀ s ∈ ss, flatP (.str s)) ∧ Rd h (n + 2) x e ∧ n ≤ 20 ∧ ∀ h', Kp [] h h' → Q (.bl (fullP ss e)) h'
theorem c__is_full_round (T : TX K mg) : Fn P w K mg base 4 "_is_full_round" sp_full := by
  refine mk_fn T.h__is_full_round sc__is_full_round (fun _ _ _ _ _ _ us hl => match us, hl with | [_, _], _ => rfl) (fun ds h Q E q => ?_) (fun f cdv A outer s H E hr tk =>
    (css_cut (cs_if (CW.ct (cw_or (ct_not (ct_tru (ce_call (c_is_sequence T) hr (by decide) tk (by rfl) (ca_cons (cv 1) ca_nil)))) (cw_or1 (ct_not (ct_tru (ce_callB (b_all rfl) (by rfl) T.B.all (by decide +kernel) (ca_cons (ce_lc [("pair", 2)] rfl (C8.fnScope_by sc__is_full_round).nd (ci_seq (cv 1)) (blkOk_by (own := [("pair", 2)]) (N := ["sides", "pairs", "pair", "side", "playing"]) (sc := (defScope s__is_full_round)) (by decide +kernel)) (fun _ _ _ _ _ => (cg_name [2] (i := 2) (by decide) rfl (C8.fnScope_by sc__is_full_round).nd rfl (by first | exact Or.inl rfl | exact Or.inr rfl) (by first | exact Or.inl rfl | exact Or.inr rfl))) (fun _ _ _ _ _ => cts_nil) (fun _ _ _ _ _ => (ce_call (c_is_pair T) hr (by decide) takesF (by rfl) (ca_cons (cv 2) ca_nil)))) ca_nil))))))) (css_one (cs_ret ce_bl)) css_nil)
    (css_cons (cs_set (i := 4) rfl (C8.fnScope_by sc__is_full_round).nd rfl (by first | exact Or.inl rfl | exact Or.inr rfl) (ce_lc2 [("pair", 2), ("side", 3)] [3] (by decide) rfl (C8.fnScope_by sc__is_full_round).nd (ci_seq (cv 1)) (blkOk_by (own := [("pair", 2), ("side", 3)]) (N := ["sides", "pairs", "pair", "side", "playing"]) (sc := (defScope s__is_full_round)) (by decide +kernel)) (fun _ _ _ _ _ => (cg_name [2, 3] (i := 2) (by decide) rfl (C8.fnScope_by sc__is_full_round).nd rfl (by first | exact Or.inl rfl | exact Or.inr rfl) (by first | exact Or.inl rfl | exact Or.inr rfl))) (fun _ _ _ _ _ => cts_nil) (fun _ _ _ _ _ => (ci_seq (cv 2))) (fun _ _ _ _ _ => (cg_name [3] (i := 3) (by decide) rfl (C8.fnScope_by sc__is_full_round).nd rfl (by first | exact Or.inl rfl | exact Or.inr rfl) (by first | exact Or.inl rfl | exact Or.inr rfl))) (fun _ _ _ _ _ => cts_nil) (fun _ _ _ _ _ => (cv 3))))
    (css_one (cs_ret (ce_and (ce_cmp (o_eq hr) (ce_callB b_len (by rfl) T.B.len (by decide +kernel) (ca_cons (cv 4) ca_nil)) (ce_callB b_len (by rfl) T.B.len (by decide +kernel) (ca_cons (cv 0) ca_nil)) (by rfl)) (ce_one (ce_callB (b_all rfl) (by rfl) T.B.all (by decide +kernel) (ca_cons (ce_lc [("side", 3)] rfl (C8.fnScope_by sc__is_full_round).nd (ci_seq (cv 0)) (blkOk_by (own := [("side", 3)]) (N := ["sides", "pairs", "pair", "side", "playing"]) (sc := (defScope s__is_full_round)) (by decide +kernel)) (fun _ _ _ _ _ => (cg_name [3] (i := 3) (by decide) rfl (C8.fnScope_by sc__is_full_round).nd rfl (by first | exact Or.inl rfl | exact Or.inr rfl) (by first | exact Or.inl rfl | exact Or.inr rfl))) (fun _ _ _ _ _ => cts_nil) (fun _ _ _ _ _ => (ce_cmp (o_inN hr) (cv 3) (cv 4) (by rfl)))) ca_nil))))))))) (fun ds h Q E q => ?_)
  · obtain ⟨n, d, x, e, ss, rfl, _⟩ := q; rfl
  · obtain ⟨n, d, x, e, ss, rfl, hd, s100, sf, r, n20, q⟩ := q
    unfold fullP at q
    have hs := r.isSeq
    walk_at "go"
    refine ⟨fun ρ' h' => ∃ es, seqP e = some es ∧ es.all pairP = true ∧ ρ' = [some d, some x, none, none, none] ∧ Kp [] h h', ?_, ?_⟩
    · walk_at "go"
      refine ⟨x, rfl, r.hv, ?_⟩
      rw [hs]
      cases s : seqP e with
      | none =>
        rw [s] at q
        walk_at "go"
        exact q _ Kp.refl
      | some es =>
        rw [s] at q
        have qq : es.all pairP = false → ∀ h', Kp [] h h' → Q (.bl false) h' := fun ap h' k => by
          have := q h' k
          rw [show (match some es with | some ps => ps.all pairP && decide ((ps.flatMap partsP).length = ss.length) && ss.all (fun s => (ps.flatMap partsP).any fun z => PyData.eqv z (.str s)) | none => false) = (es.all pairP && decide ((es.flatMap partsP).length = ss.length) && ss.all fun s => (es.flatMap partsP).any fun z => PyData.eqv z (.str s)) from rfl, ap] at this
          exact this
        obtain ⟨ds, al, m200, sh⟩ := r.rowA s
        have l := al.len
        rcases sh with rfl | ⟨p, rfl, g⟩ <;> (
          walk_at "go"
          refine lcGo_ind (fun i acc h' => Kp [] h h' ∧ acc = ((es.take i).map pairP).map D.bl) ⟨Kp.refl, by simp⟩ (by first | exact fun _ _ _ _ _ => trivial | exact fun i acc h' _ hI => lstAt_of (hI.1.get _ _ (by simp) g) rfl) ?_ ?_
          · rintro i d' acc h1 R hd1 ⟨k1, rfl⟩ k
            obtain ⟨b, eb, rb⟩ := al.get hd1
            walk_at "go"
            refine ⟨_, _, b, rfl, rb.kp k1, ?_⟩
            exact k _ _ ⟨k1, by rw [map_take1 eb, List.map_append]; rfl⟩
          rintro acc h1 ⟨k1, rfl⟩
          rw [l, List.take_length]
          walk_at "go"
          refine ⟨_, rfl, ?_⟩
          walk_at "go"
          have ei : (es.map pairP).all id = es.all pairP := by rw [List.all_map]; rfl
          rw [ei]
          cases ap : es.all pairP with
          | false =>
            walk_at "go"
            exact qq ap _ (k1.trans Kp.refl.push)
          | true =>
            walk_at "go"
            exact ⟨_, rfl, ap, rfl, k1.trans Kp.refl.push⟩)
    rintro ρ' h1 ⟨es, s, ap, rfl, k1⟩
    rw [s] at q
    replace q : ∀ h', Kp [] h h' → Q (.bl (decide ((es.flatMap partsP).length = ss.length) && ss.all fun s => (es.flatMap partsP).any fun z => PyData.eqv z (.str s))) h' := fun h' k => by
      have := q h' k
      rw [show (match some es with | some ps => ps.all pairP && decide ((ps.flatMap partsP).length = ss.length) && ss.all (fun s => (ps.flatMap partsP).any fun z => PyData.eqv z (.str s)) | none => false) = (es.all pairP && decide ((es.flatMap partsP).length = ss.length) && ss.all fun s => (es.flatMap partsP).any fun z => PyData.eqv z (.str s)) from rfl, ap, Bool.true_and] at this
      exact this
    obtain ⟨ds, al, m200, sh⟩ := (r.kp k1).rowA s
    have l := al.len
    have hd1 := items_nil k1 hd
    rcases sh with rfl | ⟨p, rfl, g⟩ <;> (
      walk_at "go"
      refine lc2Go_ind (fun i acc h' => Kp [] h1 h' ∧ RdA h' n acc ((es.take i).flatMap partsP)) ⟨Kp.refl, RdA.nil⟩ (by first | exact fun _ _ _ _ _ => trivial | exact fun i acc h' _ hI => lstAt_of (hI.1.get _ _ (by simp) g) rfl) ?_ ?_
      · rintro i d' acc h2 R hd2 ⟨k2, ra⟩ k
        obtain ⟨b, eb, rb⟩ := al.get hd2
        obtain ⟨xs, sx, x2⟩ := pair_some (List.all_eq_true.mp ap b (List.mem_of_getElem? eb))
        obtain ⟨ds2, al2, _, sh2⟩ := (rb.kp k2).rowA sx
        have l2 := al2.len
        rcases sh2 with rfl | ⟨p2, rfl, g2⟩ <;> (
          walk_at "go"
          refine lc2In_ind (fun j acc2 h' => Kp [] h2 h' ∧ RdA h' n acc2 ((es.take i).flatMap partsP ++ xs.take j)) ⟨Kp.refl, by rw [List.take_zero, List.append_nil]; exact ra⟩ (by first | exact fun _ _ _ _ _ => trivial | exact fun i acc h' _ hI => lstAt_of (hI.1.get _ _ (by simp) g2) rfl) ?_ ?_
          · rintro j d3 acc3 h3 R3 hd3 ⟨k3, r3⟩ kk
            obtain ⟨b3, eb3, rb3⟩ := al2.get hd3
            walk_at "go"
            refine kk _ _ ⟨k3, ?_⟩
            rw [List.take_add_one, eb3, ← List.append_assoc]
            exact r3.snoc (rb3.kp k3)
          rintro acc3 h3 ⟨k3, r3⟩
          rw [l2, List.take_length] at r3
          refine k _ _ ⟨k2.trans k3, ?_⟩
          rw [flat_take eb, show partsP b = xs by unfold partsP; rw [sx]; rfl]
          exact r3)
      rintro acc h2 ⟨k2, ra⟩
      rw [l, List.take_length] at ra
      have kp : Kp [] h2 (h2 ++ [.lst acc]) := Kp.refl.push
      have ra3 := ra.kp kp
      have hd2 := items_nil (k2.trans kp) hd1
      have lacc := ra.len
      have tpa := ra.tp
      generalize es.flatMap partsP = fl at *
      rcases itemsD_or hd2 with rfl | ⟨n0, rfl, e0⟩ <;> (
        walk_at "go"
        refine ifB_dec (fun c => ?_) (fun c => ?_)
        · have lf : fl.length = ss.length := by rw [List.length_map] at c; omega
          rw [show decide (fl.length = ss.length) = true from decide_eq_true lf, Bool.true_and] at q
          walk_at "go"
          refine lcGo_ind (fun i acc' h' => Kp [] (h2 ++ [.lst acc]) h' ∧ acc' = ((ss.take i).map fun s => fl.any fun z => PyData.eqv z (.str s)).map D.bl) ⟨Kp.refl, by simp⟩ (by first | exact fun _ _ _ _ _ => trivial | exact fun i acc h' _ hI => lstAt_of (hI.1.get _ _ (by simp) e0) rfl) ?_ ?_
          · rintro i d' acc' h3 R hd3 ⟨k3, rfl⟩ k
            obtain ⟨s', es', rfl⟩ : ∃ s', ss[i]? = some s' ∧ D.str s' = d' := by
              rw [List.getElem?_map] at hd3
              exact Option.map_eq_some_iff.mp hd3
            have ea : h3[h2.length]? = some (.lst acc) := k3.get _ _ (by simp) get_new
            walk_at "go"
            have sw := Tp.row (n := n) tpa (by omega)
            have fs := sf s' (List.mem_of_getElem? es')
            refine ⟨.str s', fl, .str s', (ra3.kp k3).py, (show Tp 0 (.str s') from fs).shaped (by decide), sw.1, sw.2, ?_⟩
            walk_at "go"
            exact k _ _ ⟨k3, by rw [map_take1 es', List.map_append]; rfl⟩
          rintro acc' h3 ⟨k3, rfl⟩
          rw [List.length_map, List.take_length]
          walk_at "go"
          refine ⟨_, rfl, ?_⟩
          walk_at "go"
          rw [show (ss.map fun s => fl.any fun z => PyData.eqv z (.str s)).all id = ss.all fun s => fl.any fun z => PyData.eqv z (.str s) by rw [List.all_map]; rfl]
          exact q _ (((k1.trans k2).trans kp).trans (k3.trans Kp.refl.push))
        · have lf : ¬ fl.length = ss.length := by rw [List.length_map] at c; omega
          rw [show decide (fl.length = ss.length) = false from decide_eq_false lf, Bool.false_and] at q
          walk_at "go"
          exact q _ ((k1.trans k2).trans kp)))

end My

namespace My
open PySem PySem.Spec PyProof.Rows L2 SX L3
local macro_rules | `(tactic| walk_at "w") => `(tactic| with_reducible conv => whnf)
local macro_rules | `(tactic| walk_at "ne") => `(tactic| first | assumption | (apply Ne.symm; assumption) | omega)
local macro_rules | `(tactic| walk_at "lk") => `(tactic| first | assumption | exact get_new | (apply get_set; walk_at "lk") | (refine get_push ?_; walk_at "lk") | (refine get_setne ?_ ?_; walk_at "ne"; walk_at "lk"))
local macro_rules | `(tactic| walk_at "kp") => `(tactic| first | assumption | exact Kp.refl | (refine Kp.push ?_; walk_at "kp") | (refine Kp.set ?_ (Or.inl (by simp)); walk_at "kp") | (refine Kp.set ?_ (Or.inr (by omega)); walk_at "kp"))
local macro_rules | `(tactic| walk_at "c") => `(tactic| ((with_reducible refine And.intro ?we ?_); case we => first | decide | exact Nat.le_of_ble_eq_true rfl | exact List.contains_iff_mem.mp rfl | exact (rfl : List.length _ = _) | exact (rfl : (_ : Str) = _) | exact (show (0 : Int) < _ from by decide) | exact Or.inr ⟨by decide, by decide⟩ | exact Or.inl ⟨by decide, by decide⟩ | exact (show _ ∧ _ from ⟨show (0 : Int) < _ from by decide, by decide⟩) | exact ⟨by decide, by decide, by decide⟩ | exact Or.inl ⟨by omega, by omega⟩ | exact (show (_ : Nat) < _ from by omega) | exact (show (_ : Nat) ≤ _ from by omega) | exact (show (_ : Int) < _ from by omega) | exact (show (_ : Int) ≤ _ from by omega)))
local macro_rules | `(tactic| walk_at "wd") => `(tactic| ((conv => lhs; whnf); try exact rfl))
local macro_rules | `(tactic| walk_at "s") => `(tactic| (walk_at "w"; first | ((with_reducible apply go_var); exact rfl) | ((with_reducible apply go_aug); exact rfl) | ((with_reducible apply lstAt_of); walk_at "lk") | ((with_reducible apply wrAt_of); walk_at "lk") | ((with_reducible apply isL_of); walk_at "lk") | ((with_reducible apply atK_of); exact rfl) | (with_reducible refine isT_non ?_) | (with_reducible refine isT_bl ?_) | (with_reducible refine isT_int ?_) | (with_reducible refine isT_str ?_) | (with_reducible refine isT_tup ?_) | (with_reducible refine isT_kls ?_) | ((with_reducible apply isT_lst); walk_at "lk") | (with_reducible refine tru_bl ?_) | (with_reducible refine tru_non ?_) | (with_reducible refine tru_int ?_) | (with_reducible refine tru_tup ?_) | ((with_reducible apply tru_lst); walk_at "lk") | ((with_reducible apply clsAt_of); walk_at "lk"; rfl) | ((with_reducible apply fldAt_of); walk_at "lk"; rfl) | ((with_reducible apply setF_of); walk_at "lk"; first | decide | exact Nat.le_of_ble_eq_true rfl) | ((with_reducible apply setK_of); walk_at "lk"; rfl) | ((with_reducible refine hd_hit ?we ?wf ?wg ?_); (case we => exact rfl); (case wf => exact rfl); (case wg => exact rfl)) | ((with_reducible refine hd_miss ?we ?wf ?wg ?_); (case we => exact rfl); (case wf => exact rfl); (case wg => exact rfl)) | ((with_reducible refine hd_hit0 ?we ?wf ?_); (case we => exact rfl); (case wf => exact rfl)) | ((with_reducible refine hd_miss0 ?we ?wf ?_); (case we => exact rfl); (case wf => exact rfl)) | (with_reducible refine byErr_of ?_) | ((with_reducible refine ifB_T ?we ?_); case we => exact rfl) | ((with_reducible refine ifB_F ?we ?_); case we => exact rfl) | ((with_reducible apply oDGet_of); walk_at "lk"; exact rfl; exact rfl; walk_at "wd") | ((with_reducible apply oDIn_of); walk_at "lk"; exact rfl) | ((with_reducible apply oDPut_of); walk_at "lk"; exact rfl; first | decide | exact Nat.le_of_ble_eq_true rfl) | ((with_reducible apply dispK_of); exact rfl; exact rfl; first | decide | exact Nat.le_of_ble_eq_true rfl) | walk_at "c" | (delta L3.isNon)))
local macro_rules | `(tactic| walk_at "go") => `(tactic| ((repeat walk_at "s"); (try walk_at "w")))
local macro_rules | `(tactic| walk_at "gd") => `(tactic| first | exact True.intro | ((with_reducible apply lstAt_of); walk_at "lk"; exact rfl) | assumption)
local macro_rules | `(tactic| walk_at "u") => `(tactic| first | walk_at "s" | ((with_reducible refine un_for1 ?g0 ?_); (case g0 => walk_at "gd")) | ((with_reducible refine un_for0 ?g0 ?_); (case g0 => walk_at "gd")) | ((with_reducible refine un_lc1 ?g0 ?_); (case g0 => walk_at "gd")) | ((with_reducible refine un_lc0 ?g0 ?_); (case g0 => walk_at "gd")) | ((with_reducible refine un_lcB ?g0 ?_); (case g0 => walk_at "gd")) | ((with_reducible refine un_lcA ?g0 ?_); (case g0 => walk_at "gd")) | ((with_reducible refine un_lcD ?g0 ?_); (case g0 => walk_at "gd")) | ((with_reducible refine un_lcC ?g0 ?_); (case g0 => walk_at "gd")) | (with_reducible refine un_wh ?_))
local macro_rules | `(tactic| walk_at "gu") => `(tactic| ((repeat walk_at "u"); (try walk_at "w")))
/-! ### full rounds, by what they hold (k34 .. k37) -/
theorem subL_len {α : Type} [DecidableEq α] : ∀ {l m : List α}, l.Nodup → (∀ x ∈ l, x ∈ m) → l.length ≤ m.length
  | [], _, _, _ => Nat.zero_le _
  | x :: r, m, nd, sub => by
    obtain ⟨n1, n2⟩ := List.nodup_cons.mp nd
    have hx := sub x (List.mem_cons_self ..)
    have := subL_len (m := m.erase x) n2 fun y hy => (List.mem_erase_of_ne (fun e => n1 (by rw [← e]; exact hy))).mpr (sub y (List.mem_cons_of_mem _ hy))
    rw [List.length_erase_of_mem hx] at this
    have : 0 < m.length := List.length_pos_of_mem hx
    rw [List.length_cons]
    omega
theorem cover {α : Type} [DecidableEq α] {l m : List α} (nd : l.Nodup) (sub : ∀ x ∈ l, x ∈ m) (len : m.length ≤ l.length) : m.Nodup ∧ (∀ x ∈ m, x ∈ l) ∧ m.length = l.length := by
  have h1 := subL_len nd fun x hx => (RS.mem_uqK m x).mpr (sub x hx)
  have h2 := RS.uqK_le m
  refine ⟨RS.uqK_full (by omega), fun x hx => ?_, by omega⟩
  by_cases c : x ∈ l
  · exact c
  · have := subL_len (l := x :: l) (m := m) (List.nodup_cons.mpr ⟨c, nd⟩) fun y hy => by
      rcases List.mem_cons.mp hy with rfl | hy
      · exact hx
      · exact sub y hy
    rw [List.length_cons] at this
    omega
def strP : PyData → Option Str
  | .str s => some s
  | _ => none
def duoP (p : PyData) : List Str := (partsP p).filterMap strP
theorem strP_some {e : PyData} {s : Str} (h : strP e = some s) : e = .str s := by
  cases e <;> first | cases h; rfl | cases h
theorem eqv_str {z : PyData} {s : Str} (h : PyData.eqv z (.str s) = true) : z = .str s := by
  cases z <;> simp [PyData.eqv] at h
  rw [h]
theorem eqv_str' (s : Str) : PyData.eqv (.str s) (.str s) = true := by simp [PyData.eqv]
theorem fm_len {α β : Type} {f : α → Option β} : ∀ {l : List α}, (l.filterMap f).length = l.length → ∀ x ∈ l, ∃ y, f x = some y
  | [], _, _, hx => nomatch hx
  | a :: r, h, x, hx => by
    have le := List.length_filterMap_le f r
    cases e : f a with
    | none => rw [List.filterMap_cons_none e, List.length_cons] at h; omega
    | some y =>
      rw [List.filterMap_cons_some e, List.length_cons, List.length_cons] at h
      rcases List.mem_cons.mp hx with rfl | hx
      · exact ⟨y, e⟩
      · exact fm_len (by omega) x hx
theorem flat_filter {ps : List PyData} : (ps.flatMap partsP).filterMap strP = ps.flatMap duoP := by
  induction ps with
  | nil => rfl
  | cons p r ih => rw [List.flatMap_cons, List.filterMap_append, ih, List.flatMap_cons]; rfl
theorem nd_part {α β : Type} {f : α → List β} {ps : List α} (nd : (ps.flatMap f).Nodup) {p : α} (hp : p ∈ ps) : (f p).Nodup := by
  induction ps with
  | nil => cases hp
  | cons a r ih =>
    rw [List.flatMap_cons] at nd
    obtain ⟨n1, n2, _⟩ := List.nodup_append.mp nd
    rcases List.mem_cons.mp hp with rfl | hp
    · exact n1
    · exact ih n2 hp
/-- what a full round is -/
structure Full (ss : List Str) (ps : List PyData) : Prop where
  duo : ∀ p ∈ ps, ∃ s t, seqP p = some [.str s, .str t] ∧ s ∈ ss ∧ t ∈ ss ∧ s ≠ t
  all : ∀ s ∈ ss, s ∈ ps.flatMap duoP
  nd : (ps.flatMap duoP).Nodup
  len : ps.length * 2 = ss.length
theorem duo_is {p : PyData} {s t : Str} (h : seqP p = some [.str s, .str t]) : duoP p = [s, t] ∧ partsP p = [.str s, .str t] := by
  unfold duoP partsP
  rw [h]
  exact ⟨rfl, rfl⟩
theorem full_is {ss : List Str} {e : PyData} (nd : ss.Nodup) (h : fullP ss e = true) : ∃ ps, seqP e = some ps ∧ Full ss ps := by
  unfold fullP at h
  split at h
  · next ps s =>
    rw [Bool.and_eq_true, Bool.and_eq_true, decide_eq_true_iff] at h
    obtain ⟨⟨h1, h2⟩, h3⟩ := h
    refine ⟨ps, s, ?_⟩
    have sub : ∀ s ∈ ss, s ∈ ps.flatMap duoP := fun s hs => by
      obtain ⟨z, hz, e⟩ := List.any_eq_true.mp (List.all_eq_true.mp h3 s hs)
      rw [← flat_filter]
      exact List.mem_filterMap.mpr ⟨z, hz, by rw [eqv_str e]; rfl⟩
    have le : (ps.flatMap duoP).length ≤ ss.length := by rw [← flat_filter, ← h2]; exact List.length_filterMap_le _ _
    obtain ⟨c1, c2, c3⟩ := cover nd sub le
    have al := fm_len (f := strP) (l := ps.flatMap partsP) (by rw [flat_filter, c3, h2])
    have duo : ∀ p ∈ ps, ∃ s t, seqP p = some [.str s, .str t] ∧ s ∈ ss ∧ t ∈ ss ∧ s ≠ t := fun p hp => by
      obtain ⟨xs, sx, x2⟩ := pair_some (List.all_eq_true.mp h1 p hp)
      match xs, x2 with
      | [a, b], _ =>
        have inn : ∀ x ∈ [a, b], x ∈ ps.flatMap partsP := fun x hx => List.mem_flatMap.mpr ⟨p, hp, by unfold partsP; rw [sx]; exact hx⟩
        obtain ⟨s, e1⟩ := al a (inn a (by simp))
        obtain ⟨t, e2⟩ := al b (inn b (by simp))
        have e1 := strP_some e1
        have e2 := strP_some e2
        subst e1 e2
        have dd := (duo_is sx).1
        have n2 := nd_part c1 hp
        rw [dd] at n2
        have mem : ∀ x ∈ [s, t], x ∈ ss := fun x hx => c2 x (List.mem_flatMap.mpr ⟨p, hp, by rw [dd]; exact hx⟩)
        exact ⟨s, t, sx, mem s (by simp), mem t (by simp), fun e => (List.nodup_cons.mp n2).1 (by rw [e]; simp)⟩
    refine ⟨duo, sub, c1, ?_⟩
    rw [← c3]
    clear al c1 c2 c3 sub le h1 h2 h3 s
    induction ps with
    | nil => rfl
    | cons p r ih =>
      obtain ⟨s, t, e, _⟩ := duo p (List.mem_cons_self ..)
      rw [List.flatMap_cons, List.length_append, (duo_is e).1, List.length_cons, Nat.add_mul, ih fun q hq => duo q (List.mem_cons_of_mem _ hq)]
      simp only [List.length_cons, List.length_nil]
      omega
  · cases h
theorem full_yes {ss : List Str} {e : PyData} {ps : List PyData} (s : seqP e = some ps) (f : Full ss ps) : fullP ss e = true := by
  unfold fullP
  rw [s]
  show (ps.all pairP && decide ((ps.flatMap partsP).length = ss.length) && ss.all fun s => (ps.flatMap partsP).any fun z => PyData.eqv z (.str s)) = true
  rw [Bool.and_eq_true, Bool.and_eq_true, decide_eq_true_iff]
  refine ⟨⟨List.all_eq_true.mpr fun p hp => ?_, ?_⟩, List.all_eq_true.mpr fun s hs => ?_⟩
  · obtain ⟨a, b, e, _⟩ := f.duo p hp
    unfold pairP
    rw [e]; rfl
  · rw [← f.len]
    have duo := f.duo
    clear f s
    induction ps with
    | nil => rfl
    | cons p r ih =>
      obtain ⟨s, t, e, _⟩ := duo p (List.mem_cons_self ..)
      rw [List.flatMap_cons, List.length_append, (duo_is e).2, ih fun q hq => duo q (List.mem_cons_of_mem _ hq)]
      simp only [List.length_cons, List.length_nil]
      omega
  · have := f.all s hs
    rw [← flat_filter] at this
    obtain ⟨z, hz, e⟩ := List.mem_filterMap.mp this
    exact List.any_eq_true.mpr ⟨z, hz, by rw [strP_some e]; exact eqv_str' s⟩
/-- all pairs of unlike ones, in either sequence -/
def ordP (ss : List Str) : List (List Str) := ss.flatMap fun s => (ss.filter fun t => !decide (t = s)).map fun t => [s, t]
theorem filt_lt {l : List Str} {b : Str} (hb : b ∈ l) : (l.filter fun k => !decide (k = b)).length + 1 ≤ l.length := by
  induction l with
  | nil => cases hb
  | cons a r ih =>
    by_cases e : a = b
    · rw [List.filter_cons, decide_eq_true e]
      have := List.length_filter_le (fun k => !decide (k = b)) r
      simp only [Bool.not_true, Bool.false_eq_true, if_false, List.length_cons]
      omega
    · have := ih (by rcases List.mem_cons.mp hb with rfl | h; exact absurd rfl e; exact h)
      rw [List.filter_cons, decide_eq_false e]
      simp only [Bool.not_false, if_true, List.length_cons]
      omega
theorem flat_le {α β : Type} {f : α → List β} {k : Nat} : ∀ {l : List α}, (∀ x ∈ l, (f x).length ≤ k) → (l.flatMap f).length ≤ l.length * k
  | [], _ => by simp
  | a :: r, h => by
    rw [List.flatMap_cons, List.length_append, List.length_cons, Nat.add_mul, Nat.one_mul]
    have := flat_le (l := r) fun x hx => h x (List.mem_cons_of_mem _ hx)
    have := h a (List.mem_cons_self ..)
    omega
theorem ord_len (ss : List Str) : (ordP ss).length ≤ ss.length * (ss.length - 1) := flat_le fun s hs => by
  rw [List.length_map]
  have := filt_lt hs
  omega
theorem ord_mem {ss : List Str} {s t : Str} (h1 : s ∈ ss) (h2 : t ∈ ss) (h3 : s ≠ t) : [s, t] ∈ ordP ss :=
  List.mem_flatMap.mpr ⟨s, h1, List.mem_map.mpr ⟨t, List.mem_filter.mpr ⟨h2, by simp [Ne.symm h3]⟩, rfl⟩⟩
def bothP (ps : List PyData) : List (List Str) := ps.map duoP ++ (ps.map duoP).map List.reverse
theorem both_few {ss : List Str} {ps : List PyData} (l8 : ss.length ≤ 8) (duo : ∀ p ∈ ps, ∃ s t, seqP p = some [.str s, .str t] ∧ s ∈ ss ∧ t ∈ ss ∧ s ≠ t) : (RS.uqK (bothP ps)).length < 64 := by
  have h := subL_len (l := RS.uqK (bothP ps)) (m := ordP ss) (RS.uqK_nodup _) fun x hx => by
    rw [RS.mem_uqK] at hx
    rcases List.mem_append.mp hx with hx | hx
    · obtain ⟨p, hp, rfl⟩ := List.mem_map.mp hx
      obtain ⟨s, t, e, a, b, c⟩ := duo p hp
      rw [(duo_is e).1]
      exact ord_mem a b c
    · obtain ⟨y, hy, rfl⟩ := List.mem_map.mp hx
      obtain ⟨p, hp, rfl⟩ := List.mem_map.mp hy
      obtain ⟨s, t, e, a, b, c⟩ := duo p hp
      rw [(duo_is e).1]
      exact ord_mem b a (Ne.symm c)
  have l := ord_len ss
  have : ss.length * (ss.length - 1) ≤ 8 * 7 := Nat.mul_le_mul l8 (by omega)
  omega
def fixP (ss : List Str) (e : PyData) : Bool := match seqP e with
  | some rs => rs.all (fullP ss) && decide ((bothP (rs.flatMap partsP)).length = (RS.uqK (bothP (rs.flatMap partsP))).length) && decide ((RS.uqK (bothP (rs.flatMap partsP))).length = ss.length * (ss.length - 1))
  | none => false

end My

namespace My
open PySem PySem.Spec PyProof.Rows L2 SX L3
local macro_rules | `(tactic| walk_at "w") => `(tactic| with_reducible conv => whnf)
local macro_rules | `(tactic| walk_at "ne") => `(tactic| first | assumption | (apply Ne.symm; assumption) | omega)
local macro_rules | `(tactic| walk_at "lk") => `(tactic| first | assumption | exact get_new | (apply get_set; walk_at "lk") | (refine get_push ?_; walk_at "lk") | (refine get_setne ?_ ?_; walk_at "ne"; walk_at "lk"))
local macro_rules | `(tactic| walk_at "kp") => `(tactic| first | assumption | exact Kp.refl | (refine Kp.push ?_; walk_at "kp") | (refine Kp.set ?_ (Or.inl (by simp)); walk_at "kp") | (refine Kp.set ?_ (Or.inr (by omega)); walk_at "kp"))
local macro_rules | `(tactic| walk_at "c") => `(tactic| ((with_reducible refine And.intro ?we ?_); case we => first | decide | exact Nat.le_of_ble_eq_true rfl | exact List.contains_iff_mem.mp rfl | exact (rfl : List.length _ = _) | exact (rfl : (_ : Str) = _) | exact (show (0 : Int) < _ from by decide) | exact Or.inr ⟨by decide, by decide⟩ | exact Or.inl ⟨by decide, by decide⟩ | exact (show _ ∧ _ from ⟨show (0 : Int) < _ from by decide, by decide⟩) | exact ⟨by decide, by decide, by decide⟩ | exact Or.inl ⟨by omega, by omega⟩ | exact (show (_ : Nat) < _ from by omega) | exact (show (_ : Nat) ≤ _ from by omega) | exact (show (_ : Int) < _ from by omega) | exact (show (_ : Int) ≤ _ from by omega)))
local macro_rules | `(tactic| walk_at "wd") => `(tactic| ((conv => lhs; whnf); try exact rfl))
local macro_rules | `(tactic| walk_at "s") => `(tactic| (walk_at "w"; first | ((with_reducible apply go_var); exact rfl) | ((with_reducible apply go_aug); exact rfl) | ((with_reducible apply lstAt_of); walk_at "lk") | ((with_reducible apply wrAt_of); walk_at "lk") | ((with_reducible apply isL_of); walk_at "lk") | ((with_reducible apply atK_of); exact rfl) | (with_reducible refine isT_non ?_) | (with_reducible refine isT_bl ?_) | (with_reducible refine isT_int ?_) | (with_reducible refine isT_str ?_) | (with_reducible refine isT_tup ?_) | (with_reducible refine isT_kls ?_) | ((with_reducible apply isT_lst); walk_at "lk") | (with_reducible refine tru_bl ?_) | (with_reducible refine tru_non ?_) | (with_reducible refine tru_int ?_) | (with_reducible refine tru_tup ?_) | ((with_reducible apply tru_lst); walk_at "lk") | ((with_reducible apply clsAt_of); walk_at "lk"; rfl) | ((with_reducible apply fldAt_of); walk_at "lk"; rfl) | ((with_reducible apply setF_of); walk_at "lk"; first | decide | exact Nat.le_of_ble_eq_true rfl) | ((with_reducible apply setK_of); walk_at "lk"; rfl) | ((with_reducible refine hd_hit ?we ?wf ?wg ?_); (case we => exact rfl); (case wf => exact rfl); (case wg => exact rfl)) | ((with_reducible refine hd_miss ?we ?wf ?wg ?_); (case we => exact rfl); (case wf => exact rfl); (case wg => exact rfl)) | ((with_reducible refine hd_hit0 ?we ?wf ?_); (case we => exact rfl); (case wf => exact rfl)) | ((with_reducible refine hd_miss0 ?we ?wf ?_); (case we => exact rfl); (case wf => exact rfl)) | (with_reducible refine byErr_of ?_) | ((with_reducible refine ifB_T ?we ?_); case we => exact rfl) | ((with_reducible refine ifB_F ?we ?_); case we => exact rfl) | ((with_reducible apply oDGet_of); walk_at "lk"; exact rfl; exact rfl; walk_at "wd") | ((with_reducible apply oDIn_of); walk_at "lk"; exact rfl) | ((with_reducible apply oDPut_of); walk_at "lk"; exact rfl; first | decide | exact Nat.le_of_ble_eq_true rfl) | ((with_reducible apply dispK_of); exact rfl; exact rfl; first | decide | exact Nat.le_of_ble_eq_true rfl) | walk_at "c" | (delta L3.isNon)))
local macro_rules | `(tactic| walk_at "go") => `(tactic| ((repeat walk_at "s"); (try walk_at "w")))
local macro_rules | `(tactic| walk_at "gd") => `(tactic| first | exact True.intro | ((with_reducible apply lstAt_of); walk_at "lk"; exact rfl) | assumption)
local macro_rules | `(tactic| walk_at "u") => `(tactic| first | walk_at "s" | ((with_reducible refine un_for1 ?g0 ?_); (case g0 => walk_at "gd")) | ((with_reducible refine un_for0 ?g0 ?_); (case g0 => walk_at "gd")) | ((with_reducible refine un_lc1 ?g0 ?_); (case g0 => walk_at "gd")) | ((with_reducible refine un_lc0 ?g0 ?_); (case g0 => walk_at "gd")) | ((with_reducible refine un_lcB ?g0 ?_); (case g0 => walk_at "gd")) | ((with_reducible refine un_lcA ?g0 ?_); (case g0 => walk_at "gd")) | ((with_reducible refine un_lcD ?g0 ?_); (case g0 => walk_at "gd")) | ((with_reducible refine un_lcC ?g0 ?_); (case g0 => walk_at "gd")) | (with_reducible refine un_wh ?_))
local macro_rules | `(tactic| walk_at "gu") => `(tactic| ((repeat walk_at "u"); (try walk_at "w")))
/-! ### is_fixtures (k34 .. k37) -/
variable {P : Program} {w : World} {K : PySem.W.Frag} {mg : Str → Option Value} {base : Heap}
def sp_isf : SpM := fun ds h Q E => ∃ n d x e, ds = [d, x] ∧ Hnd h d ∧ Rd h (n + 3) x e ∧ n ≤ 20 ∧ (sdOk h d = false → ∀ h', Kp [] h h' → E ⟨"BadValue", [("at", .int 0)]⟩ h') ∧
  (∀ ss : List Str, sdOk h d = true → itemsD h d = some (ss.map D.str) → ss.length ≤ 8 → ss.Nodup → (∀ s ∈ ss, flatP (.str s)) → ∀ h', Kp [] h h' → Q (.bl (fixP ss e)) h')
theorem name_strOk {s : Str} (h : isNameD (.str s) = true) : PyData.strOk s = true := by
  have h : (decide (s.length ≤ 8) && (!decide (s = "") && s.cps.toList.all lowB)) = true := h
  rw [Bool.and_eq_true, Bool.and_eq_true] at h
  have a := List.all_eq_true.mp h.2.2
  unfold PyData.strOk
  rw [← Array.all_toList, List.all_eq_true]
  intro c hc
  have l := low_abc.mp (a c hc)
  unfold Low at l
  exact decide_eq_true (by omega)
theorem name_flat {s : Str} (h : isNameD (.str s) = true) : flatP (.str s) := by
  refine ⟨name_strOk h, ?_⟩
  have h : (decide (s.length ≤ 8) && (!decide (s = "") && s.cps.toList.all lowB)) = true := h
  rw [Bool.and_eq_true, decide_eq_true_iff] at h
  omega
theorem sd_ss {h : MH} {d : D} (e : sdOk h d = true) : ∃ ss : List Str, itemsD h d = some (ss.map D.str) ∧ ss.length ≤ 8 ∧ ss.Nodup ∧ ∀ s ∈ ss, flatP (.str s) := by
  unfold sdOk at e
  rw [Bool.and_eq_true] at e
  obtain ⟨e1, e2⟩ := e
  unfold areN at e1
  cases z : itemsD h d with
  | none => rw [z] at e1; cases e1
  | some xs =>
    rw [z] at e1 e2
    have e1 : areL xs = true := e1
    have e2 : cnt4 xs.length = true := e2
    unfold areL at e1
    rw [Bool.and_eq_true] at e1
    have q := of_names e1.1
    have l := of_decide_eq_true e2
    refine ⟨strsOf xs, by rw [← q], ?_, of_decide_eq_true e1.2, fun s hs => name_flat ?_⟩
    · rw [q, List.length_map] at l; omega
    · exact List.all_eq_true.mp e1.1 _ (by rw [q]; exact List.mem_map.mpr ⟨s, hs, rfl⟩)
theorem rd_str {h : MH} {n : Nat} {d : D} {s : Str} (r : Rd h n d (.str s)) : d = .str s := by
  have := r.py
  cases this
  rfl
theorem two_strs {h : MH} {n : Nat} {ds : List D} {s t : Str} (r : RdA h n ds [.str s, .str t]) : ds = [.str s, .str t] := by
  have l := r.len
  match ds, l with
  | [a, b], _ => rw [rd_str (r.at_ 0 a _ rfl rfl), rd_str (r.at_ 1 b _ rfl rfl)]
theorem nn1 (n u : Nat) : decide (((u : Nat) : Int) = (n : Int) * ((n : Int) - 1)) = decide (u = n * (n - 1)) := by
  cases n with
  | zero => rw [decide_eq_decide]; simp
  | succ m =>
    rw [show (((m + 1 : Nat) : Int) - 1) = (m : Int) by omega, show m + 1 - 1 = m from rfl, ← Int.natCast_mul, decide_eq_decide]
    omega
theorem c_is_fixtures (T : TX K mg) : Fn P w K mg base 5 "is_fixtures" sp_isf := by
  refine mk_fn T.h_is_fixtures sc_is_fixtures (fun _ _ _ _ _ _ us hl => match us, hl with | [_, _], _ => rfl) (fun ds h Q E q => ?_) (fun f cdv A outer s H E hr tk =>
    (css_cons (cs_expr (ce_call (c__check_sides T) hr (by decide) tk (by rfl) (ca_cons (cv 0) ca_nil)))
    (css_cut (cs_if (CW.ct (cw_or (ct_not (ct_tru (ce_call (c_is_sequence T) hr (by decide) tk (by rfl) (ca_cons (cv 1) ca_nil)))) (cw_or1 (ct_not (ct_tru (ce_callB (b_all rfl) (by rfl) T.B.all (by decide +kernel) (ca_cons (ce_lc [("pairs", 2)] rfl (C8.fnScope_by sc_is_fixtures).nd (ci_seq (cv 1)) (blkOk_by (own := [("pairs", 2)]) (N := ["sides", "rounds", "pairs", "pair", "met", "home", "away", "both"]) (sc := (defScope s_is_fixtures)) (by decide +kernel)) (fun _ _ _ _ _ => (cg_name [2] (i := 2) (by decide) rfl (C8.fnScope_by sc_is_fixtures).nd rfl (by first | exact Or.inl rfl | exact Or.inr rfl) (by first | exact Or.inl rfl | exact Or.inr rfl))) (fun _ _ _ _ _ => cts_nil) (fun _ _ _ _ _ => (ce_call (c__is_full_round T) hr (by decide) takesF (by rfl) (ca_cons (cv 0) (ca_cons (cv 2) ca_nil))))) ca_nil))))))) (css_one (cs_ret ce_bl)) css_nil)
    (css_cons (cs_setLc2 (i := 4) [("pairs", 2), ("pair", 3)] [3] (by decide) rfl rfl (C8.fnScope_by sc_is_fixtures).nd rfl rfl (sw_true rfl rfl rfl (by decide +kernel)) (ci_seq (cv 1)) (blkOk_by (own := [("pairs", 2), ("pair", 3)]) (N := ["sides", "rounds", "pairs", "pair", "met", "home", "away", "both"]) (sc := (defScope s_is_fixtures)) (by decide +kernel)) (fun _ _ _ _ _ => (cg_name [2, 3] (i := 2) (by decide) rfl (C8.fnScope_by sc_is_fixtures).nd rfl (by first | exact Or.inl rfl | exact Or.inr rfl) (by first | exact Or.inl rfl | exact Or.inr rfl))) (fun _ _ _ _ _ => cts_nil) (fun _ _ _ _ _ => (ci_seq (cv 2))) (fun _ _ _ _ _ => (cg_name [3] (i := 3) (by decide) rfl (C8.fnScope_by sc_is_fixtures).nd rfl (by first | exact Or.inl rfl | exact Or.inr rfl) (by first | exact Or.inl rfl | exact Or.inr rfl))) (fun _ _ _ _ _ => cts_nil) (fun _ _ _ _ _ => (cv 3)))
    (css_cons (cs_set (i := 7) rfl (C8.fnScope_by sc_is_fixtures).nd rfl (by first | exact Or.inl rfl | exact Or.inr rfl) (ce_op o_add (ce_lc [("home", 5), ("away", 6)] rfl (C8.fnScope_by sc_is_fixtures).nd (ci_seq (cv 4)) (blkOk_by (own := [("home", 5), ("away", 6)]) (N := ["sides", "rounds", "pairs", "pair", "met", "home", "away", "both"]) (sc := (defScope s_is_fixtures)) (by decide +kernel)) (fun _ _ _ _ _ => (cg_tup (n := 2) (fun _ _ _ _ o _ _ => o) rfl (cgs_cons (cg_name [5, 6] (i := 5) (by decide) rfl (C8.fnScope_by sc_is_fixtures).nd rfl (by first | exact Or.inl rfl | exact Or.inr rfl) (by first | exact Or.inl rfl | exact Or.inr rfl)) (cgs_cons (cg_name [5, 6] (i := 6) (by decide) rfl (C8.fnScope_by sc_is_fixtures).nd rfl (by first | exact Or.inl rfl | exact Or.inr rfl) (by first | exact Or.inl rfl | exact Or.inr rfl)) (cgs_nil [5, 6]))))) (fun _ _ _ _ _ => cts_nil) (fun _ _ _ _ _ => (ce_tup (ca_cons (cv 5) (ca_cons (cv 6) ca_nil))))) (ce_lc [("home", 5), ("away", 6)] rfl (C8.fnScope_by sc_is_fixtures).nd (ci_seq (cv 4)) (blkOk_by (own := [("home", 5), ("away", 6)]) (N := ["sides", "rounds", "pairs", "pair", "met", "home", "away", "both"]) (sc := (defScope s_is_fixtures)) (by decide +kernel)) (fun _ _ _ _ _ => (cg_tup (n := 2) (fun _ _ _ _ o _ _ => o) rfl (cgs_cons (cg_name [5, 6] (i := 5) (by decide) rfl (C8.fnScope_by sc_is_fixtures).nd rfl (by first | exact Or.inl rfl | exact Or.inr rfl) (by first | exact Or.inl rfl | exact Or.inr rfl)) (cgs_cons (cg_name [5, 6] (i := 6) (by decide) rfl (C8.fnScope_by sc_is_fixtures).nd rfl (by first | exact Or.inl rfl | exact Or.inr rfl) (by first | exact Or.inl rfl | exact Or.inr rfl)) (cgs_nil [5, 6]))))) (fun _ _ _ _ _ => cts_nil) (fun _ _ _ _ _ => (ce_tup (ca_cons (cv 6) (ca_cons (cv 5) ca_nil)))))))
    (css_one (cs_ret (ce_chain (o_eq hr) (o_eq hr) (ce_callB b_len (by rfl) T.B.len (by decide +kernel) (ca_cons (cv 7) ca_nil)) (ce_lenP (roomH hr) rfl (by rfl) T.B.len (by rfl) T.B.set (cv 7)) (ce_op o_mulA (ce_callB b_len (by rfl) T.B.len (by decide +kernel) (ca_cons (cv 0) ca_nil)) (ce_op o_sub (ce_callB b_len (by rfl) T.B.len (by decide +kernel) (ca_cons (cv 0) ca_nil)) ce_int)))))))))) (fun ds h Q E q => ?_)
  · obtain ⟨n, d, x, e, rfl, _⟩ := q; rfl
  · obtain ⟨n, d, x, e, rfl, hd, r, n20, qb, qo⟩ := q
    walk_at "go"
    refine ⟨d, rfl, hd, fun so h1 k1 => qb so h1 k1, fun so h1 k1 => ?_⟩
    obtain ⟨ss, it, s8, nd, sf⟩ := sd_ss so
    have q := qo ss so it s8 nd sf
    clear qb qo
    walk_at "go"
    have qn : seqP e = none → ∀ h', Kp [] h h' → Q (.bl false) h' := fun s h' k => by
      have := q h' k
      unfold fixP at this
      rw [s] at this
      exact this
    have qs : ∀ rs, seqP e = some rs → ∀ h', Kp [] h h' → Q (.bl (rs.all (fullP ss) && decide ((bothP (rs.flatMap partsP)).length = (RS.uqK (bothP (rs.flatMap partsP))).length) && decide ((RS.uqK (bothP (rs.flatMap partsP))).length = ss.length * (ss.length - 1)))) h' := fun rs s h' k => by
      have := q h' k
      unfold fixP at this
      rw [s] at this
      exact this
    clear q
    refine ⟨fun ρ' h' => ∃ rs, seqP e = some rs ∧ rs.all (fullP ss) = true ∧ ρ' = [some d, some x, none, none, none, none, none, none] ∧ Kp [] h h', ?_, ?_⟩
    · walk_at "go"
      refine ⟨x, rfl, (r.kp k1).hv, ?_⟩
      rw [r.isSeq]
      cases s : seqP e with
      | none =>
        walk_at "go"
        exact qn s _ k1
      | some es =>
        obtain ⟨ds, al, m200, sh⟩ := (r.kp k1).rowA s
        have l := al.len
        have it1 := items_nil k1 it
        rcases sh with rfl | ⟨p, rfl, g⟩ <;> (
          walk_at "go"
          refine lcGo_ind (fun i acc h' => Kp [] h1 h' ∧ acc = ((es.take i).map (fullP ss)).map D.bl) ⟨Kp.refl, by simp⟩ (by first | exact fun _ _ _ _ _ => trivial | exact fun i acc h' _ hI => lstAt_of (hI.1.get _ _ (by simp) g) rfl) ?_ ?_
          · rintro i d' acc h2 R hd2 ⟨k2, rfl⟩ k
            obtain ⟨b, eb, rb⟩ := al.get hd2
            walk_at "go"
            refine ⟨n, _, _, b, ss, rfl, items_nil k2 it1, by omega, sf, rb.kp k2, n20, fun h3 k3 => ?_⟩
            exact k _ _ ⟨k2.trans k3, by rw [map_take1 eb, List.map_append]; rfl⟩
          rintro acc h2 ⟨k2, rfl⟩
          rw [l, List.take_length]
          walk_at "go"
          refine ⟨_, rfl, ?_⟩
          walk_at "go"
          rw [show (es.map (fullP ss)).all id = es.all (fullP ss) by rw [List.all_map]; rfl]
          cases ap : es.all (fullP ss) with
          | false =>
            walk_at "go"
            have := qs es s _ ((k1.trans k2).trans (Kp.refl.push (y := Nd.lst ((es.map (fullP ss)).map D.bl))))
            rw [ap] at this
            exact this
          | true =>
            walk_at "go"
            exact ⟨_, rfl, ap, rfl, (k1.trans k2).trans Kp.refl.push⟩)
    clear k1 h1
    rintro ρ' h1 ⟨es, s, ap, rfl, k1⟩
    replace qs := qs es s
    rw [ap, Bool.true_and] at qs
    obtain ⟨ds, al, m200, sh⟩ := (r.kp k1).rowA s
    have l := al.len
    have it1 := items_nil k1 it
    have fu : ∀ b ∈ es, ∃ ps, seqP b = some ps ∧ Full ss ps := fun b hb => full_is nd (List.all_eq_true.mp ap b hb)
    have duo : ∀ p ∈ es.flatMap partsP, ∃ s t, seqP p = some [.str s, .str t] ∧ s ∈ ss ∧ t ∈ ss ∧ s ≠ t := fun p hp => by
      obtain ⟨b, hb, hp⟩ := List.mem_flatMap.mp hp
      obtain ⟨ps, sp, F⟩ := fu b hb
      unfold partsP at hp
      rw [sp] at hp
      exact F.duo p hp
    have many : (es.flatMap partsP).length ≤ 200 * 4 := by
      refine Nat.le_trans (flat_le (k := 4) fun b hb => ?_) (Nat.mul_le_mul_right _ m200)
      obtain ⟨ps, sp, F⟩ := fu b hb
      unfold partsP
      rw [sp]
      have := F.len
      show ps.length ≤ 4
      omega
    rcases sh with rfl | ⟨p, rfl, g⟩ <;> (
      walk_at "go"
      refine lc2Go_ind (fun i acc h' => Kp [] h1 h' ∧ RdA h' (n + 1) acc ((es.take i).flatMap partsP)) ⟨Kp.refl, RdA.nil⟩ (by first | exact fun _ _ _ _ _ => trivial | exact fun i acc h' _ hI => lstAt_of (hI.1.get _ _ (by simp) g) rfl) ?_ ?_
      · rintro i d' acc h2 R hd2 ⟨k2, ra⟩ k
        obtain ⟨b, eb, rb⟩ := al.get hd2
        obtain ⟨xs, sx, F⟩ := fu b (List.mem_of_getElem? eb)
        have x2 := F.len
        obtain ⟨ds2, al2, _, sh2⟩ := (rb.kp k2).rowA sx
        have l2 := al2.len
        rcases sh2 with rfl | ⟨p2, rfl, g2⟩ <;> (
          walk_at "go"
          refine lc2In_ind (fun j acc2 h' => Kp [] h2 h' ∧ RdA h' (n + 1) acc2 ((es.take i).flatMap partsP ++ xs.take j)) ⟨Kp.refl, by rw [List.take_zero, List.append_nil]; exact ra⟩ (by first | exact fun _ _ _ _ _ => trivial | exact fun i acc h' _ hI => lstAt_of (hI.1.get _ _ (by simp) g2) rfl) ?_ ?_
          · rintro j d3 acc3 h3 R3 hd3 ⟨k3, r3⟩ kk
            obtain ⟨b3, eb3, rb3⟩ := al2.get hd3
            walk_at "go"
            refine kk _ _ ⟨k3, ?_⟩
            rw [List.take_add_one, eb3, ← List.append_assoc]
            exact r3.snoc (rb3.kp k3)
          rintro acc3 h3 ⟨k3, r3⟩
          rw [l2, List.take_length] at r3
          refine k _ _ ⟨k2.trans k3, ?_⟩
          rw [flat_take eb, show partsP b = xs by unfold partsP; rw [sx]; rfl]
          exact r3)
      rintro acc h2 ⟨k2, ra⟩
      rw [l, List.take_length] at ra
      have kp : Kp [] h2 (h2 ++ [.lst acc]) := Kp.refl.push
      have k23 := k2.trans kp
      have k12 := (k1.trans k2).trans kp
      replace ra := ra.kp kp
      have it2 := items_nil (k2.trans kp) it1
      have eacc : (h2 ++ [.lst acc])[h2.length]? = some (.lst acc) := get_new
      have lacc := ra.len
      generalize h2 ++ [.lst acc] = h3 at *
      generalize h2.length = pm at *
      generalize es.flatMap partsP = prs at *
      clear al fu k2 kp
      rcases itemsD_or it2 with rfl | ⟨n0, rfl, e0⟩ <;> (
        walk_at "go"
        refine lcGo_ind (fun i acc' h' => Kp [] h3 h' ∧ acc' = ((prs.take i).map duoP).map rowT) ⟨Kp.refl, by simp⟩ (fun i acc h' _ hI => lstAt_of (hI.1.get _ _ (by simp) eacc) rfl) ?_ ?_
        · rintro i d' acc' h4 R hd4 ⟨k4, rfl⟩ k
          obtain ⟨b, eb, rb⟩ := ra.get hd4
          obtain ⟨s, t, sx, _⟩ := duo b (List.mem_of_getElem? eb)
          obtain ⟨ds2, al2, _, sh2⟩ := (rb.kp k4).rowA sx
          have := two_strs al2
          subst this
          rcases sh2 with rfl | ⟨p2, rfl, g2⟩ <;> (
            walk_at "go"
            refine k _ _ ⟨k4, ?_⟩
            rw [map_take1 eb, List.map_append, (duo_is sx).1]; rfl)
        rintro acc' h4 ⟨k4, rfl⟩
        rw [lacc, List.take_length]
        have eacc4 : (h4 ++ [Nd.lst ((prs.map duoP).map rowT)])[pm]? = some (.lst acc) := get_push (k4.get _ _ (by simp) eacc)
        walk_at "go"
        obtain ⟨h5, e5, k5, g5⟩ : ∃ h5, h5 = h4 ++ [Nd.lst ((prs.map duoP).map rowT)] ∧ Kp [] h3 h5 ∧ h5[h4.length]? = some (.lst ((prs.map duoP).map rowT)) := ⟨_, rfl, k4.trans Kp.refl.push, get_new⟩
        rw [← e5] at eacc4 ⊢
        clear e5
        refine lcGo_ind (fun i acc' h' => Kp [] h5 h' ∧ acc' = (((prs.take i).map duoP).map List.reverse).map rowT) ⟨Kp.refl, by simp⟩ (fun i acc h' _ hI => lstAt_of (hI.1.get _ _ (by simp) eacc4) rfl) ?_ ?_
        · rintro i d' acc' h6 R hd6 ⟨k6, rfl⟩ k
          obtain ⟨b, eb, rb⟩ := ra.get hd6
          obtain ⟨s, t, sx, _⟩ := duo b (List.mem_of_getElem? eb)
          obtain ⟨ds2, al2, _, sh2⟩ := (rb.kp (k5.trans k6)).rowA sx
          have := two_strs al2
          subst this
          rcases sh2 with rfl | ⟨p2, rfl, g2⟩ <;> (
            walk_at "go"
            refine k _ _ ⟨k6, ?_⟩
            rw [map_take1 eb, List.map_append, List.map_append]
            show _ = _ ++ [rowT (duoP b).reverse]
            rw [(duo_is sx).1]; rfl)
        rintro acc' h6 ⟨k6, rfl⟩
        rw [lacc, List.take_length]
        have g6 : (h6 ++ [Nd.lst (((prs.map duoP).map List.reverse).map rowT)])[h4.length]? = some (.lst ((prs.map duoP).map rowT)) := get_push (k6.get _ _ (by simp) g5)
        have kf : Kp [] h3 (h6 ++ [Nd.lst (((prs.map duoP).map List.reverse).map rowT)]) := k5.trans (k6.trans Kp.refl.push)
        walk_at "go"
        refine ⟨by simp only [List.length_map]; omega, ?_⟩
        rw [← List.map_append, show prs.map duoP ++ (prs.map duoP).map List.reverse = bothP prs from rfl]
        generalize h6 ++ [Nd.lst (((prs.map duoP).map List.reverse).map rowT)] = h7 at *
        have k8 := kf.trans (Kp.refl.push (y := Nd.lst ((bothP prs).map rowT)))
        have it8 := items_nil k8 it2
        have fin := qs _ (k12.trans k8)
        have g8 : (h7 ++ [Nd.lst ((bothP prs).map rowT)])[h7.length]? = some (.lst ((bothP prs).map rowT)) := get_new
        generalize h7 ++ [Nd.lst ((bothP prs).map rowT)] = h8 at *
        first
          | have e08 := items_loc it8
          | skip
        walk_at "go"
        refine ⟨bothP prs, rfl, both_few s8 duo, ?_⟩
        walk_at "go"
        refine ifB_dec (fun c => ?_) (fun c => ?_)
        · rw [List.length_map] at c
          rw [decide_eq_true (show (bothP prs).length = (RS.uqK (bothP prs)).length by omega), Bool.true_and] at fin
          walk_at "go"
          refine ⟨.inl (by rw [List.length_map]; exact ⟨by omega, by omega⟩), ?_⟩
          walk_at "go"
          rw [List.length_map, nn1]
          exact fin
        · rw [List.length_map] at c
          rw [decide_eq_false (show ¬ (bothP prs).length = (RS.uqK (bothP prs)).length by omega)] at fin
          walk_at "go"
          exact fin))

end My

namespace My
open PySem PySem.Spec PyProof.Rows L2 SX L3
local macro_rules | `(tactic| walk_at "w") => `(tactic| with_reducible conv => whnf)
local macro_rules | `(tactic| walk_at "ne") => `(tactic| first | assumption | (apply Ne.symm; assumption) | omega)
local macro_rules | `(tactic| walk_at "lk") => `(tactic| first | assumption | exact get_new | (apply get_set; walk_at "lk") | (refine get_push ?_; walk_at "lk") | (refine get_setne ?_ ?_; walk_at "ne"; walk_at "lk"))
local macro_rules | `(tactic| walk_at "kp") => `(tactic| first | assumption | exact Kp.refl | (refine Kp.push ?_; walk_at "kp") | (refine Kp.set ?_ (Or.inl (by simp)); walk_at "kp") | (refine Kp.set ?_ (Or.inr (by omega)); walk_at "kp"))
local macro_rules | `(tactic| walk_at "c") => `(tactic| ((with_reducible refine And.intro ?we ?_); case we => first | decide | exact Nat.le_of_ble_eq_true rfl | exact List.contains_iff_mem.mp rfl | exact (rfl : List.length _ = _) | exact (rfl : (_ : Str) = _) | exact (show (0 : Int) < _ from by decide) | exact Or.inr ⟨by decide, by decide⟩ | exact Or.inl ⟨by decide, by decide⟩ | exact (show _ ∧ _ from ⟨show (0 : Int) < _ from by decide, by decide⟩) | exact ⟨by decide, by decide, by decide⟩ | exact Or.inl ⟨by omega, by omega⟩ | exact (show (_ : Nat) < _ from by omega) | exact (show (_ : Nat) ≤ _ from by omega) | exact (show (_ : Int) < _ from by omega) | exact (show (_ : Int) ≤ _ from by omega)))
local macro_rules | `(tactic| walk_at "wd") => `(tactic| ((conv => lhs; whnf); try exact rfl))
local macro_rules | `(tactic| walk_at "s") => `(tactic| (walk_at "w"; first | ((with_reducible apply go_var); exact rfl) | ((with_reducible apply go_aug); exact rfl) | ((with_reducible apply lstAt_of); walk_at "lk") | ((with_reducible apply wrAt_of); walk_at "lk") | ((with_reducible apply isL_of); walk_at "lk") | ((with_reducible apply atK_of); exact rfl) | (with_reducible refine isT_non ?_) | (with_reducible refine isT_bl ?_) | (with_reducible refine isT_int ?_) | (with_reducible refine isT_str ?_) | (with_reducible refine isT_tup ?_) | (with_reducible refine isT_kls ?_) | ((with_reducible apply isT_lst); walk_at "lk") | (with_reducible refine tru_bl ?_) | (with_reducible refine tru_non ?_) | (with_reducible refine tru_int ?_) | (with_reducible refine tru_tup ?_) | ((with_reducible apply tru_lst); walk_at "lk") | ((with_reducible apply clsAt_of); walk_at "lk"; rfl) | ((with_reducible apply fldAt_of); walk_at "lk"; rfl) | ((with_reducible apply setF_of); walk_at "lk"; first | decide | exact Nat.le_of_ble_eq_true rfl) | ((with_reducible apply setK_of); walk_at "lk"; rfl) | ((with_reducible refine hd_hit ?we ?wf ?wg ?_); (case we => exact rfl); (case wf => exact rfl); (case wg => exact rfl)) | ((with_reducible refine hd_miss ?we ?wf ?wg ?_); (case we => exact rfl); (case wf => exact rfl); (case wg => exact rfl)) | ((with_reducible refine hd_hit0 ?we ?wf ?_); (case we => exact rfl); (case wf => exact rfl)) | ((with_reducible refine hd_miss0 ?we ?wf ?_); (case we => exact rfl); (case wf => exact rfl)) | (with_reducible refine byErr_of ?_) | ((with_reducible refine ifB_T ?we ?_); case we => exact rfl) | ((with_reducible refine ifB_F ?we ?_); case we => exact rfl) | ((with_reducible apply oDGet_of); walk_at "lk"; exact rfl; exact rfl; walk_at "wd") | ((with_reducible apply oDIn_of); walk_at "lk"; exact rfl) | ((with_reducible apply oDPut_of); walk_at "lk"; exact rfl; first | decide | exact Nat.le_of_ble_eq_true rfl) | ((with_reducible apply dispK_of); exact rfl; exact rfl; first | decide | exact Nat.le_of_ble_eq_true rfl) | walk_at "c" | (delta L3.isNon)))
local macro_rules | `(tactic| walk_at "go") => `(tactic| ((repeat walk_at "s"); (try walk_at "w")))
local macro_rules | `(tactic| walk_at "gd") => `(tactic| first | exact True.intro | ((with_reducible apply lstAt_of); walk_at "lk"; exact rfl) | assumption)
local macro_rules | `(tactic| walk_at "u") => `(tactic| first | walk_at "s" | ((with_reducible refine un_for1 ?g0 ?_); (case g0 => walk_at "gd")) | ((with_reducible refine un_for0 ?g0 ?_); (case g0 => walk_at "gd")) | ((with_reducible refine un_lc1 ?g0 ?_); (case g0 => walk_at "gd")) | ((with_reducible refine un_lc0 ?g0 ?_); (case g0 => walk_at "gd")) | ((with_reducible refine un_lcB ?g0 ?_); (case g0 => walk_at "gd")) | ((with_reducible refine un_lcA ?g0 ?_); (case g0 => walk_at "gd")) | ((with_reducible refine un_lcD ?g0 ?_); (case g0 => walk_at "gd")) | ((with_reducible refine un_lcC ?g0 ?_); (case g0 => walk_at "gd")) | (with_reducible refine un_wh ?_))
local macro_rules | `(tactic| walk_at "gu") => `(tactic| ((repeat walk_at "u"); (try walk_at "w")))
/-! ### names (k34 .. k37) -/
variable {P : Program} {w : World} {K : PySem.W.Frag} {mg : Str → Option Value} {base : Heap}
theorem sc__law_names : C8.scC ["state", "many", "letters", "pool", "way", "names", "k", "j", "rest"] ["state", "many"] (defScope s__law_names) = true := by decide +kernel
def sp_names : SpM := fun ds h Q _ => ∃ a l m, ds = [.loc a, .int (m : Nat)] ∧ Pl h a l ∧ m ≤ 8 ∧ ∀ h' p (ss : List Str), Pl h' a l → Kp [a] h h' → h.length ≤ p → h'[p]? = some (.lst (ss.map D.str)) → ss.length = m → (∀ s ∈ ss, IsName s) → ss.Nodup → Q (.loc p) h'
theorem perm_outI {α : Type} : ∀ (l : List α) (k : Nat) (h : k < l.length), (l[k] :: l.eraseIdx k).Perm l
  | [], _, h => absurd h (Nat.not_lt_zero _)
  | x :: r, 0, _ => List.Perm.refl _
  | x :: r, k + 1, h => by
    have h2 : k < r.length := Nat.lt_of_succ_lt_succ h
    show (r[k] :: x :: r.eraseIdx k).Perm (x :: r)
    exact (List.Perm.swap _ _ _).trans ((perm_outI r k h2).cons x)
theorem map_erase {α β : Type} {f : α → β} : ∀ (l : List α) (i : Nat), (l.map f).eraseIdx i = (l.eraseIdx i).map f
  | [], _ => rfl
  | _ :: _, 0 => rfl
  | x :: r, i + 1 => by
    show f x :: (r.map f).eraseIdx i = f x :: (r.eraseIdx i).map f
    rw [map_erase r i]
def abcW : List Nat := (List.range 26).map (97 + ·)
theorem sg_abc : sgD "abcdefghijklmnopqrstuvwxyz" = abcW.map fun c => D.str (S [c]) := by
  have e : ("abcdefghijklmnopqrstuvwxyz" : Str).cps.toList = abcW := by decide +kernel
  unfold sgD
  rw [e]
  try rfl
theorem abc_low : ∀ c ∈ abcW, Low c := fun c hc => by
  obtain ⟨i, hi, rfl⟩ := List.mem_map.mp hc
  have := List.mem_range.mp hi
  unfold Low
  omega
theorem abc_nd : abcW.Nodup := by decide +kernel
theorem pre8 : ∀ i : Nat, i < 8 → Txt.slice ("abcdefgh" : Str) none (some ((i : Int) + 1)) = S ((abcW.take 8).take (i + 1)) := by decide +kernel
/-- names with unlike first letters -/
structure Fst (ss : List Str) (fs pl : List Nat) : Prop where
  at_ : ∀ (j : Nat) s, ss[j]? = some s → ∃ c tl, fs[j]? = some c ∧ s = S (c :: tl) ∧ tl.length ≤ 7 ∧ ∀ x ∈ c :: tl, Low x
  len : fs.length = ss.length
  nd : (fs ++ pl).Nodup
  low : ∀ c ∈ pl, Low c
theorem Fst.names {ss : List Str} {fs pl : List Nat} (f : Fst ss fs pl) : (∀ s ∈ ss, IsName s) ∧ ss.Nodup := by
  constructor
  · intro s hs
    obtain ⟨j, hj⟩ := List.getElem?_of_mem hs
    obtain ⟨c, tl, _, rfl, l, lo⟩ := f.at_ j s hj
    exact ⟨_, rfl, by simp, by rw [List.length_cons]; omega, lo⟩
  · refine List.pairwise_iff_getElem.mpr fun i j hi hj hij e => ?_
    obtain ⟨c, tl, e1, e2, _⟩ := f.at_ i _ (List.getElem?_eq_getElem hi)
    obtain ⟨c', tl', e1', e2', _⟩ := f.at_ j _ (List.getElem?_eq_getElem hj)
    rw [e, e2'] at e2
    have e3 : c' :: tl' = c :: tl := by
      have := congrArg (fun z : Str => z.cps.toList) e2
      simpa [S] using this
    cases e3
    have nd := (List.nodup_append.mp f.nd).1
    have := (List.getElem?_inj (by rw [f.len]; exact hi) nd).mp (e1.trans e1'.symm)
    omega
theorem Fst.step {ss : List Str} {fs pl : List Nat} (f : Fst ss fs pl) {i c : Nat} {tl : List Nat} (hi : pl[i]? = some c) (l : tl.length ≤ 7) (lo : ∀ x ∈ tl, Low x) : Fst (ss ++ [S (c :: tl)]) (fs ++ [c]) (pl.eraseIdx i) where
  len := by rw [List.length_append, List.length_append, f.len]; rfl
  low := fun x hx => f.low x (List.mem_of_mem_eraseIdx hx)
  nd := by
    have il := (List.getElem?_eq_some_iff.mp hi).1
    have ie := (List.getElem?_eq_some_iff.mp hi).2
    refine (List.Perm.nodup_iff ?_).mpr f.nd
    rw [List.append_assoc]
    refine List.Perm.append_left fs ?_
    have := perm_outI pl i il
    rw [ie] at this
    exact this
  at_ := fun j s hj => by
    have lc := f.low c (List.mem_of_getElem? hi)
    rcases Nat.lt_or_ge j ss.length with h | h
    · rw [List.getElem?_append_left h] at hj
      obtain ⟨c', tl', e, r⟩ := f.at_ j s hj
      exact ⟨c', tl', by rw [List.getElem?_append_left (by rw [f.len]; exact h)]; exact e, r⟩
    · have jl := (List.getElem?_eq_some_iff.mp hj).1
      rw [List.length_append, List.length_singleton] at jl
      obtain rfl : j = ss.length := by omega
      rw [List.getElem?_append_right (Nat.le_refl _), Nat.sub_self] at hj
      cases hj
      refine ⟨c, tl, by rw [List.getElem?_append_right (by rw [f.len]; exact Nat.le_refl _), f.len, Nat.sub_self]; rfl, rfl, l, fun x hx => ?_⟩
      rcases List.mem_cons.mp hx with rfl | hx
      · exact lc
      · exact lo x hx
theorem c__law_names (T : TX K mg) : Fn P w K mg base 3 "_law_names" sp_names := by
  refine mk_fn T.h__law_names sc__law_names (fun _ _ _ _ _ _ us hl => match us, hl with | [_, _], _ => rfl) (fun ds h Q E q => ?_) (fun f cdv A outer s H E hr tk =>
    (css_cons (cs_set (i := 2) rfl (C8.fnScope_by sc__law_names).nd rfl (by first | exact Or.inl rfl | exact Or.inr rfl) ce_str)
    (css_cons (cs_set (i := 3) rfl (C8.fnScope_by sc__law_names).nd rfl (by first | exact Or.inl rfl | exact Or.inr rfl) (ce_callTy (b_listS rfl) (by rfl) T.B.list (by decide +kernel) (ca_cons (cv 2) ca_nil)))
    (css_cons (cs_set (i := 4) rfl (C8.fnScope_by sc__law_names).nd rfl (by first | exact Or.inl rfl | exact Or.inr rfl) (ce_call (c__law_take T) hr (by decide) tk (by rfl) (ca_cons (cv 0) (ca_cons ce_int ca_nil))))
    (css_cons (cs_set (i := 5) rfl (C8.fnScope_by sc__law_names).nd rfl (by first | exact Or.inl rfl | exact Or.inr rfl) (ce_lst ca_nil))
    (css_cut (cs_for (L2.passes_of rfl) rfl (ci_rng1 (by rfl) T.B.range (ca_cons (cv 1) ca_nil)) (cg_name [6] (i := 6) (by decide) rfl (C8.fnScope_by sc__law_names).nd rfl (by first | exact Or.inl rfl | exact Or.inr rfl) (by first | exact Or.inl rfl | exact Or.inr rfl))
    (css_one (cs_if (ct_cmp (o_eq hr) (cv 4) ce_int (by rfl)) (css_one (cs_expr (ce_append (cv 5) (ca_cons (ce_slice ce_str cp_none (cp_some (ce_op o_add (cv 6) ce_int))) ca_nil)))) (css_cons (cs_setLc (i := 8) [("j", 7)] rfl rfl (C8.fnScope_by sc__law_names).nd rfl rfl (sw_true rfl rfl rfl (by decide +kernel)) (ci_rng1 (by rfl) T.B.range (ca_cons (ce_ix (ce_lst (ca_cons ce_int (ca_cons ce_int (ca_cons ce_int (ca_cons ce_int (ca_cons ce_int ca_nil)))))) (ce_call (c__law_take T) hr (by decide) tk (by rfl) (ca_cons (cv 0) (ca_cons ce_int ca_nil))) (fun _ _ => rfl)) ca_nil)) (blkOk_by (own := [("j", 7)]) (N := ["state", "many", "letters", "pool", "way", "names", "k", "j", "rest"]) (sc := (defScope s__law_names)) (by decide +kernel)) (fun _ _ _ _ _ => (cg_name [7] (i := 7) (by decide) rfl (C8.fnScope_by sc__law_names).nd rfl (by first | exact Or.inl rfl | exact Or.inr rfl) (by first | exact Or.inl rfl | exact Or.inr rfl))) (fun _ _ _ _ _ => cts_nil) (fun _ _ _ _ _ => (ce_ix (cv 2) (ce_call (c__law_take T) hr (by decide) takesF (by rfl) (ca_cons (cv 0) (ca_cons ce_int ca_nil))) (fun _ _ => rfl))))
    (css_one (cs_expr (ce_append (cv 5) (ca_cons (ce_op o_add (ce_popAt (cv 3) (ca_cons (ce_call (c__law_take T) hr (by decide) tk (by rfl) (ca_cons (cv 0) (ca_cons (ce_callB b_len (by rfl) T.B.len (by decide +kernel) (ca_cons (cv 3) ca_nil)) ca_nil))) ca_nil)) (ce_join ce_str (cv 8))) ca_nil))))))))
    (css_one (cs_ret (cv 5))))))))) (fun ds h Q E q => ?_)
  · obtain ⟨a, l, m, rfl, _⟩ := q; rfl
  · obtain ⟨a, l, m, rfl, f, m8, q⟩ := q
    have la := f.lt.1
    walk_at "go"
    rw [sg_abc]
    have k0 : Kp [] h (h ++ [Nd.lst (abcW.map fun c => D.str (S [c]))]) := Kp.refl.push
    refine ⟨a, l, 3, rfl, f.nil k0, by decide, smallI (by decide), fun h1 wy f1 k1 hl1 r0 r1 => ?_⟩
    rw [List.length_append, List.length_singleton] at hl1
    have eP := k1.get h.length _ (by simp; omega) get_new
    have kk : Kp [a] h h1 := k0.nil.trans k1
    walk_at "go"
    obtain ⟨h2, e2, kk2, f2, eP2, eN2, l2⟩ : ∃ h2, h2 = h1 ++ [Nd.lst []] ∧ Kp [a] h h2 ∧ Pl h2 a l ∧ h2[h.length]? = some (.lst (abcW.map fun c => D.str (S [c]))) ∧ h2[h1.length]? = some (.lst []) ∧ h2.length = h.length + 2 := ⟨_, rfl, kk.push, f1.nil Kp.refl.push, get_push eP, get_new, by simp [hl1]⟩
    rw [hl1] at eN2 ⊢
    rw [← e2]
    clear e2 hl1 kk k1 k0 f1 eP
    by_cases w0 : wy = 0
    · subst w0
      let I : Nat → Ev → MH → Prop := fun i ρ' h' => ∃ (c6 c7 c8 : Option D), ρ' = [some (.loc a), some (.int (m : Nat)), some (.str "abcdefghijklmnopqrstuvwxyz"), some (.loc h.length), some (.int 0), some (.loc (h.length + 1)), c6, c7, c8] ∧ Pl h' a l ∧ Kp [a] h h' ∧ h'.length = h.length + 2 ∧ h'[h.length + 1]? = some (.lst (((List.range i).map fun k => S ((abcW.take 8).take (k + 1))).map D.str))
      refine ⟨I m, ?_, ?_⟩
      · walk_at "go"
        refine ⟨⟨by omega, by omega⟩, ?_⟩
        refine forGo_ind I ⟨_, _, _, rfl, f2, kk2, l2, eN2⟩ (fun _ _ _ _ _ => trivial) ?_ (fun ρ h z => by rw [rngD_len, Int.toNat_natCast] at z; exact z)
        rintro i d ρ' h3 R hd ⟨c6, c7, c8, rfl, f3, k3, l3, e3⟩ k
        rw [Int.toNat_natCast] at hd
        obtain ⟨hi, rfl⟩ := rng_get hd
        walk_at "go"
        rw [pre8 i (by omega)]
        refine ⟨by rw [List.length_map, List.length_map, List.length_range]; omega, ?_⟩
        refine k _ _ ⟨_, _, _, rfl, f3.kp (A := [h.length + 1]) (Kp.refl.set (.inl (by simp))) (by simp; omega) (by have := f.lt.2; simp; omega), k3.set (.inr (by omega)), by simp [l3], ?_⟩
        rw [List.range_succ, List.map_append, List.map_append]
        exact get_set e3
      · rintro ρ' h' ⟨c6, c7, c8, rfl, f3, k3, l3, e3⟩
        walk_at "go"
        have n8 : ∀ m, m ≤ 8 → (∀ s ∈ ((List.range m).map fun k => S ((abcW.take 8).take (k + 1))), IsName s) := fun m hm s hs => by
          obtain ⟨k, hk, rfl⟩ := List.mem_map.mp hs
          have := List.mem_range.mp hk
          refine ⟨_, rfl, ?_, ?_, fun c hc => abc_low c (List.mem_of_mem_take (List.mem_of_mem_take hc))⟩
          · rw [List.length_take, List.length_take, show abcW.length = 26 from by decide]
            omega
          · rw [List.length_take, List.length_take]; omega
        refine q _ _ _ f3 k3 (by omega) e3 (by simp) (n8 m m8) ?_
        refine List.pairwise_iff_getElem.mpr fun i j hi hj hij e => ?_
        rw [List.length_map, List.length_range] at hi hj
        rw [List.getElem_map, List.getElem_map, List.getElem_range, List.getElem_range] at e
        have := congrArg (fun z : Str => z.cps.toList.length) e
        simp [S, List.length_take, abcW] at this
        omega
    · let I : Nat → Ev → MH → Prop := fun i ρ' h' => ∃ (c6 c7 c8 : Option D) (ss : List Str) (fs pl : List Nat), ρ' = [some (.loc a), some (.int (m : Nat)), some (.str "abcdefghijklmnopqrstuvwxyz"), some (.loc h.length), some (.int wy), some (.loc (h.length + 1)), c6, c7, c8] ∧ Pl h' a l ∧ Kp [a] h h' ∧ h.length + 2 ≤ h'.length ∧ h'[h.length]? = some (.lst (pl.map fun c => D.str (S [c]))) ∧ h'[h.length + 1]? = some (.lst (ss.map D.str)) ∧ ss.length = i ∧ pl.length + i = 26 ∧ Fst ss fs pl
      refine ⟨I m, ?_, ?_⟩
      · walk_at "go"
        refine ⟨⟨by omega, by omega⟩, ?_⟩
        refine forGo_ind I ⟨_, _, _, [], [], abcW, rfl, f2, kk2, by omega, eP2, eN2, rfl, by decide, ⟨(fun _ _ e => by cases e), rfl, abc_nd, abc_low⟩⟩ (fun _ _ _ _ _ => trivial) ?_ (fun ρ h z => by rw [rngD_len, Int.toNat_natCast] at z; exact z)
        rintro i d ρ' h3 R hd ⟨c6, c7, c8, ss, fs, pl, rfl, f3, k3, l3, eP3, eN3, sl, pll, F⟩ k
        rw [Int.toNat_natCast] at hd
        obtain ⟨hi, rfl⟩ := rng_get hd
        walk_at "go"
        refine ifB_F (decide_eq_false w0) ?_
        walk_at "go"
        refine ⟨a, l, 5, rfl, f3.nil Kp.refl.push, by decide, smallI (by decide), fun h4 x f4 k4 hl4 x0 x1 => ?_⟩
        obtain ⟨z, ez, hz⟩ := at_in (xs := [.int 0, .int 0, .int 1, .int 2, .int 7]) (r := x) x0 x1
        obtain ⟨n, rfl, n7⟩ : ∃ n : Nat, z = .int (n : Nat) ∧ n ≤ 7 := by
          simp only [List.mem_cons, List.not_mem_nil, or_false] at hz
          rcases hz with rfl | rfl | rfl | rfl | rfl
          · exact ⟨0, rfl, by decide⟩
          · exact ⟨0, rfl, by decide⟩
          · exact ⟨1, rfl, by decide⟩
          · exact ⟨2, rfl, by decide⟩
          · exact ⟨7, rfl, by decide⟩
        have k34 : Kp [a] h3 h4 := (Kp.refl.push (y := .lst [.int 0, .int 0, .int 1, .int 2, .int 7])).nil.trans k4
        have eD := k4.get h3.length _ (by simp; omega) get_new
        refine lstAt_of eD (atK_of ez ?_)
        walk_at "go"
        refine ⟨⟨by omega, by omega⟩, by rw [rngD_len]; omega, ?_⟩
        refine lcGo_ind (fun j acc h' => Pl h' a l ∧ Kp [a] h3 h' ∧ h3.length < h'.length ∧ ∃ ls : List Nat, ls.length = j ∧ (∀ c ∈ ls, Low c) ∧ acc = (ls.map fun c => S [c]).map D.str) ⟨f4, k34, by rw [hl4]; simp, [], rfl, by simp, rfl⟩ (fun _ _ _ _ _ => trivial) ?_ ?_
        · rintro j d acc h5 R hd ⟨f5, k5, l5, ls, hl, hc, rfl⟩ kr
          walk_at "go"
          refine ⟨a, l, 26, rfl, f5, by decide, smallI (by decide), fun h6 y f6 k6 hl6 y0 y1 => ?_⟩
          obtain ⟨c, hc2, lc⟩ := abc_at y0 y1
          refine sgK_of (by decide +kernel) hc2 (kr _ _ ⟨f6, k5.trans k6, by omega, ls ++ [c], by simp [hl], fun d hd => ?_, by simp⟩)
          rcases List.mem_append.mp hd with hd | hd
          · exact hc d hd
          · rw [List.mem_singleton.mp hd]; exact lc
        rintro acc h5 ⟨f5, k5, l5, ls, hl, hc, rfl⟩
        rw [rngD_len] at hl
        have eN5 := (k5.get _ _ (by simp; omega) eN3)
        have eP5 := (k5.get _ _ (by simp; omega) eP3)
        obtain ⟨h6, e6, kk6, f6, eN6, eP6, eA6, l6⟩ : ∃ h6, h6 = h5 ++ [Nd.lst ((ls.map fun c => S [c]).map D.str)] ∧ Kp [a] h h6 ∧ Pl h6 a l ∧ h6[h.length + 1]? = some (.lst (ss.map D.str)) ∧ h6[h.length]? = some (.lst (pl.map fun c => D.str (S [c]))) ∧ h6[h5.length]? = some (.lst ((ls.map fun c => S [c]).map D.str)) ∧ h.length + 2 ≤ h6.length := ⟨_, rfl, (k3.trans k5).push, f5.nil Kp.refl.push, get_push eN5, get_push eP5, get_new, by rw [List.length_append]; omega⟩
        rw [← e6]
        have l5n : h.length + 2 ≤ h5.length := by omega
        clear e6
        walk_at "go"
        rw [List.length_map]
        refine ⟨a, l, _, rfl, f6, by omega, smallI (by omega), fun h7 y f7 k7 hl7 y0 y1 => ?_⟩
        have yl : y.toNat < pl.length := by omega
        have eN7 := k7.get _ _ (by simp; omega) eN6
        have eP7 := k7.get _ _ (by simp; omega) eP6
        have eA7 := k7.get _ _ (by simp; omega) eA6
        obtain ⟨c, ec⟩ : ∃ c, pl[y.toNat]? = some c := ⟨_, List.getElem?_eq_getElem yl⟩
        walk_at "go"
        rw [List.getElem?_map, ec, Option.map_some]
        walk_at "go"
        refine ⟨_, rfl, ?_, ?_⟩
        · rw [lens_letters, hl]
          show _ + _ * 0 ≤ _
          omega
        rw [join_letters]
        walk_at "go"
        refine ⟨by rw [len_S, len_S]; show 1 + _ ≤ _; omega, ?_⟩
        rw [S_cat]
        walk_at "go"
        refine ⟨by rw [List.length_map]; omega, ?_⟩
        have ee : (pl.map fun c => D.str (S [c])).eraseIdx y.toNat = (pl.eraseIdx y.toNat).map fun c => D.str (S [c]) := map_erase _ _
        have la2 := f.lt.2
        refine k _ _ ⟨_, _, _, ss ++ [S (c :: ls)], fs ++ [c], pl.eraseIdx y.toNat, rfl, f7.kp (A := [h.length, h.length + 1]) ((Kp.refl.set (.inl (by simp))).set (.inl (by simp))) (by simp; omega) (by simp; omega), ((kk6.trans k7).set (.inr (by omega))).set (.inr (by omega)), by simp; omega, ?_, ?_, by rw [List.length_append, sl]; rfl, by rw [List.length_eraseIdx_of_lt yl]; omega, F.step ec (by omega) hc⟩
        · rw [ee]
          exact get_setne (by omega) (get_set eP7)
        · rw [List.map_append]
          exact get_set (get_setne (by omega) eN7)
      · rintro ρ' h' ⟨c6, c7, c8, ss, fs, pl, rfl, f3, k3, l3, eP3, eN3, sl, pll, F⟩
        walk_at "go"
        exact q _ _ _ f3 k3 (by omega) eN3 sl F.names.1 F.names.2

end My

namespace My
open PySem PySem.Spec PyProof.Rows L2 SX L3
local macro_rules | `(tactic| walk_at "w") => `(tactic| with_reducible conv => whnf)
local macro_rules | `(tactic| walk_at "ne") => `(tactic| first | assumption | (apply Ne.symm; assumption) | omega)
local macro_rules | `(tactic| walk_at "lk") => `(tactic| first | assumption | exact get_new | (apply get_set; walk_at "lk") | (refine get_push ?_; walk_at "lk") | (refine get_setne ?_ ?_; walk_at "ne"; walk_at "lk"))
local macro_rules | `(tactic| walk_at "kp") => `(tactic| first | assumption | exact Kp.refl | (refine Kp.push ?_; walk_at "kp") | (refine Kp.set ?_ (Or.inl (by simp)); walk_at "kp") | (refine Kp.set ?_ (Or.inr (by omega)); walk_at "kp"))
local macro_rules | `(tactic| walk_at "c") => `(tactic| ((with_reducible refine And.intro ?we ?_); case we => first | decide | exact Nat.le_of_ble_eq_true rfl | exact List.contains_iff_mem.mp rfl | exact (rfl : List.length _ = _) | exact (rfl : (_ : Str) = _) | exact (show (0 : Int) < _ from by decide) | exact Or.inr ⟨by decide, by decide⟩ | exact Or.inl ⟨by decide, by decide⟩ | exact (show _ ∧ _ from ⟨show (0 : Int) < _ from by decide, by decide⟩) | exact ⟨by decide, by decide, by decide⟩ | exact Or.inl ⟨by omega, by omega⟩ | exact (show (_ : Nat) < _ from by omega) | exact (show (_ : Nat) ≤ _ from by omega) | exact (show (_ : Int) < _ from by omega) | exact (show (_ : Int) ≤ _ from by omega)))
local macro_rules | `(tactic| walk_at "wd") => `(tactic| ((conv => lhs; whnf); try exact rfl))
local macro_rules | `(tactic| walk_at "s") => `(tactic| (walk_at "w"; first | ((with_reducible apply go_var); exact rfl) | ((with_reducible apply go_aug); exact rfl) | ((with_reducible apply lstAt_of); walk_at "lk") | ((with_reducible apply wrAt_of); walk_at "lk") | ((with_reducible apply isL_of); walk_at "lk") | ((with_reducible apply atK_of); exact rfl) | (with_reducible refine isT_non ?_) | (with_reducible refine isT_bl ?_) | (with_reducible refine isT_int ?_) | (with_reducible refine isT_str ?_) | (with_reducible refine isT_tup ?_) | (with_reducible refine isT_kls ?_) | ((with_reducible apply isT_lst); walk_at "lk") | (with_reducible refine tru_bl ?_) | (with_reducible refine tru_non ?_) | (with_reducible refine tru_int ?_) | (with_reducible refine tru_tup ?_) | ((with_reducible apply tru_lst); walk_at "lk") | ((with_reducible apply clsAt_of); walk_at "lk"; rfl) | ((with_reducible apply fldAt_of); walk_at "lk"; rfl) | ((with_reducible apply setF_of); walk_at "lk"; first | decide | exact Nat.le_of_ble_eq_true rfl) | ((with_reducible apply setK_of); walk_at "lk"; rfl) | ((with_reducible refine hd_hit ?we ?wf ?wg ?_); (case we => exact rfl); (case wf => exact rfl); (case wg => exact rfl)) | ((with_reducible refine hd_miss ?we ?wf ?wg ?_); (case we => exact rfl); (case wf => exact rfl); (case wg => exact rfl)) | ((with_reducible refine hd_hit0 ?we ?wf ?_); (case we => exact rfl); (case wf => exact rfl)) | ((with_reducible refine hd_miss0 ?we ?wf ?_); (case we => exact rfl); (case wf => exact rfl)) | (with_reducible refine byErr_of ?_) | ((with_reducible refine ifB_T ?we ?_); case we => exact rfl) | ((with_reducible refine ifB_F ?we ?_); case we => exact rfl) | ((with_reducible apply oDGet_of); walk_at "lk"; exact rfl; exact rfl; walk_at "wd") | ((with_reducible apply oDIn_of); walk_at "lk"; exact rfl) | ((with_reducible apply oDPut_of); walk_at "lk"; exact rfl; first | decide | exact Nat.le_of_ble_eq_true rfl) | ((with_reducible apply dispK_of); exact rfl; exact rfl; first | decide | exact Nat.le_of_ble_eq_true rfl) | walk_at "c" | (delta L3.isNon)))
local macro_rules | `(tactic| walk_at "go") => `(tactic| ((repeat walk_at "s"); (try walk_at "w")))
local macro_rules | `(tactic| walk_at "gd") => `(tactic| first | exact True.intro | ((with_reducible apply lstAt_of); walk_at "lk"; exact rfl) | assumption)
local macro_rules | `(tactic| walk_at "u") => `(tactic| first | walk_at "s" | ((with_reducible refine un_for1 ?g0 ?_); (case g0 => walk_at "gd")) | ((with_reducible refine un_for0 ?g0 ?_); (case g0 => walk_at "gd")) | ((with_reducible refine un_lc1 ?g0 ?_); (case g0 => walk_at "gd")) | ((with_reducible refine un_lc0 ?g0 ?_); (case g0 => walk_at "gd")) | ((with_reducible refine un_lcB ?g0 ?_); (case g0 => walk_at "gd")) | ((with_reducible refine un_lcA ?g0 ?_); (case g0 => walk_at "gd")) | ((with_reducible refine un_lcD ?g0 ?_); (case g0 => walk_at "gd")) | ((with_reducible refine un_lcC ?g0 ?_); (case g0 => walk_at "gd")) | (with_reducible refine un_wh ?_))
local macro_rules | `(tactic| walk_at "gu") => `(tactic| ((repeat walk_at "u"); (try walk_at "w")))
/-! ### drawn up (k35, k37) -/
variable {P : Program} {w : World} {K : PySem.W.Frag} {mg : Str → Option Value} {base : Heap}
theorem sc__drawn_round : C8.scC ["sides", "number", "last", "seats", "step", "behind", "ahead", "home", "away"] ["sides", "number"] (defScope s__drawn_round) = true := by decide +kernel
theorem sc_drawn_up : C8.scC ["sides", "number"] ["sides"] (defScope s_drawn_up) = true := by decide +kernel
/-- the seats of a round -/
def seatP (n r : Nat) : List (Nat × Nat) := (if r % 2 = 0 then (n - 1, r) else (r, n - 1)) :: (List.range (n / 2 - 1)).map fun i =>
  if (i + 1) % 2 = 1 then ((((r : Int) + (i + 1 : Nat)) % (n - 1 : Nat)).toNat, (((r : Int) - (i + 1 : Nat)) % (n - 1 : Nat)).toNat) else ((((r : Int) - (i + 1 : Nat)) % (n - 1 : Nat)).toNat, (((r : Int) + (i + 1 : Nat)) % (n - 1 : Nat)).toNat)
def pI (p : Nat × Nat) : D := .tup [.int (p.1 : Nat), .int (p.2 : Nat)]
def gt (ss : List Str) (i : Nat) : Str := ss.getD i ""
def prS (ss : List Str) (p : Nat × Nat) : D := .tup [.str (gt ss p.1), .str (gt ss p.2)]
def rndS (ss : List Str) (r : Nat) : D := .tup ((seatP ss.length r).map (prS ss))
def duS (ss : List Str) : D := .tup ((List.range (ss.length - 1)).map (rndS ss))
theorem seat_lt {n r : Nat} (h2 : 2 ≤ n) (hr : r < n - 1) : ∀ p ∈ seatP n r, p.1 < n ∧ p.2 < n := fun p hp => by
  unfold seatP at hp
  rcases List.mem_cons.mp hp with rfl | hp
  · split <;> constructor <;> (dsimp only; omega)
  · obtain ⟨i, hi, rfl⟩ := List.mem_map.mp hp
    have m1 := Int.emod_lt_of_pos ((r : Int) + (i + 1 : Nat)) (show (0 : Int) < ((n - 1 : Nat) : Int) by omega)
    have m2 := Int.emod_lt_of_pos ((r : Int) - (i + 1 : Nat)) (show (0 : Int) < ((n - 1 : Nat) : Int) by omega)
    split <;> constructor <;> (dsimp only; omega)
theorem gt_at {ss : List Str} {i : Nat} (h : i < ss.length) : ss[i]? = some (gt ss i) := by
  unfold gt
  rw [List.getD_eq_getElem?_getD, List.getElem?_eq_getElem h]
  rfl
def sp_dr : SpM := fun ds h Q _ => ∃ d r ss, ds = [d, .int (r : Nat)] ∧ itemsD h d = some (ss.map D.str) ∧ 2 ≤ ss.length ∧ ss.length ≤ 8 ∧ r < ss.length - 1 ∧ ∀ h', Kp [] h h' → Q (rndS ss r) h'
theorem c__drawn_round (T : TX K mg) : Fn P w K mg base 2 "_drawn_round" sp_dr := by
  refine mk_fn T.h__drawn_round sc__drawn_round (fun _ _ _ _ _ _ us hl => match us, hl with | [_, _], _ => rfl) (fun ds h Q E q => ?_) (fun f cdv A outer s H E hr tk =>
    (css_cut (cs_set (i := 2) rfl (C8.fnScope_by sc__drawn_round).nd rfl (by first | exact Or.inl rfl | exact Or.inr rfl) (ce_op o_sub (ce_callB b_len (by rfl) T.B.len (by decide +kernel) (ca_cons (cv 0) ca_nil)) ce_int))
    (css_cut (cs_set (i := 3) rfl (C8.fnScope_by sc__drawn_round).nd rfl (by first | exact Or.inl rfl | exact Or.inr rfl) (ce_lst (ca_cons (ce_ifExp (ct_cmp (o_eq hr) (ce_op o_mod (cv 1) ce_int) ce_int (by rfl)) (ce_tup (ca_cons (cv 2) (ca_cons (cv 1) ca_nil))) (ce_tup (ca_cons (cv 1) (ca_cons (cv 2) ca_nil)))) ca_nil)))
    (css_cut (cs_for (L2.passes_of rfl) rfl (ci_rng2 (by rfl) T.B.range (ca_cons ce_int (ca_cons (ce_op o_fdiv (ce_callB b_len (by rfl) T.B.len (by decide +kernel) (ca_cons (cv 0) ca_nil)) ce_int) ca_nil))) (cg_name [4] (i := 4) (by decide) rfl (C8.fnScope_by sc__drawn_round).nd rfl (by first | exact Or.inl rfl | exact Or.inr rfl) (by first | exact Or.inl rfl | exact Or.inr rfl))
    (css_cut (cs_set (i := 5) rfl (C8.fnScope_by sc__drawn_round).nd rfl (by first | exact Or.inl rfl | exact Or.inr rfl) (ce_op o_mod (ce_op o_add (cv 1) (cv 4)) (cv 2)))
    (css_cut (cs_set (i := 6) rfl (C8.fnScope_by sc__drawn_round).nd rfl (by first | exact Or.inl rfl | exact Or.inr rfl) (ce_op o_mod (ce_op o_sub (cv 1) (cv 4)) (cv 2)))
    (css_one (cs_expr (ce_append (cv 3) (ca_cons (ce_ifExp (ct_cmp (o_eq hr) (ce_op o_mod (cv 4) ce_int) ce_int (by rfl)) (ce_tup (ca_cons (cv 5) (ca_cons (cv 6) ca_nil))) (ce_tup (ca_cons (cv 6) (ca_cons (cv 5) ca_nil)))) ca_nil)))))))
    (css_one (cs_ret (ce_callTy b_tuple (by rfl) T.B.tuple (by decide +kernel) (ca_cons (ce_lc [("home", 7), ("away", 8)] rfl (C8.fnScope_by sc__drawn_round).nd (ci_seq (cv 3)) (blkOk_by (own := [("home", 7), ("away", 8)]) (N := ["sides", "number", "last", "seats", "step", "behind", "ahead", "home", "away"]) (sc := (defScope s__drawn_round)) (by decide +kernel)) (fun _ _ _ _ _ => (cg_tup (n := 2) (fun _ _ _ _ o _ _ => o) rfl (cgs_cons (cg_name [7, 8] (i := 7) (by decide) rfl (C8.fnScope_by sc__drawn_round).nd rfl (by first | exact Or.inl rfl | exact Or.inr rfl) (by first | exact Or.inl rfl | exact Or.inr rfl)) (cgs_cons (cg_name [7, 8] (i := 8) (by decide) rfl (C8.fnScope_by sc__drawn_round).nd rfl (by first | exact Or.inl rfl | exact Or.inr rfl) (by first | exact Or.inl rfl | exact Or.inr rfl)) (cgs_nil [7, 8]))))) (fun _ _ _ _ _ => cts_nil) (fun _ _ _ _ _ => (ce_tup (ca_cons (ce_ix (cv 0) (cv 7) (fun _ _ => rfl)) (ca_cons (ce_ix (cv 0) (cv 8) (fun _ _ => rfl)) ca_nil))))) ca_nil)))))))) (fun ds h Q E q => ?_)
  · obtain ⟨d, r, ss, rfl, _⟩ := q; rfl
  · obtain ⟨d, r, ss, rfl, hd, n2, n8, hr, q⟩ := q
    have l1 : ((ss.length : Nat) : Int) - 1 = ((ss.length - 1 : Nat) : Int) := by omega
    let N1 : Ev → MH → Prop := fun ρ' h' => ρ' = [some d, some (.int (r : Nat)), some (.int ((ss.length - 1 : Nat) : Int)), none, none, none, none, none, none] ∧ h' = h
    let N2 : Ev → MH → Prop := fun ρ' h' => ∃ p3, ρ' = [some d, some (.int (r : Nat)), some (.int ((ss.length - 1 : Nat) : Int)), some (.loc p3), none, none, none, none, none] ∧ Kp [] h h' ∧ h.length ≤ p3 ∧ h'[p3]? = some (.lst [pI (if r % 2 = 0 then (ss.length - 1, r) else (r, ss.length - 1))])
    let I : Nat → Ev → MH → Prop := fun i ρ' h' => ∃ p3 c4 c5 c6, ρ' = [some d, some (.int (r : Nat)), some (.int ((ss.length - 1 : Nat) : Int)), some (.loc p3), c4, c5, c6, none, none] ∧ Kp [] h h' ∧ h.length ≤ p3 ∧ h'[p3]? = some (.lst (((seatP ss.length r).take (i + 1)).map pI))
    let N3 : Nat → Nat → Nat → Option D → MH → Ev → MH → Prop := fun i b p4 c6 h4 ρ' h' => ρ' = [some d, some (.int (r : Nat)), some (.int ((ss.length - 1 : Nat) : Int)), some (.loc p4), some (.int (i + 1 : Nat)), some (.int (b : Nat)), c6, none, none] ∧ h' = h4
    have sl : (seatP ss.length r).length = 1 + (ss.length / 2 - 1) := by
      unfold seatP
      rw [List.length_cons, List.length_map, List.length_range]; omega
    rcases itemsD_or hd with rfl | ⟨p0, rfl, e0⟩ <;> (
      refine ⟨N1, ?_, ?_⟩
      · walk_at "go"
        refine ⟨?_, rfl⟩
        rw [← l1]
        first
          | rfl
          | (rw [List.length_map]; rfl)
      rintro ρ' h1 ⟨rfl, rfl⟩
      refine ⟨N2, ?_, ?_⟩
      · walk_at "go"
        refine ifB_dec (fun c => ?_) (fun c => ?_)
        · walk_at "go"
          refine ⟨_, rfl, Kp.refl.push, Nat.le_refl _, ?_⟩
          rw [if_pos (by omega)]
          exact get_new
        · walk_at "go"
          refine ⟨_, rfl, Kp.refl.push, Nat.le_refl _, ?_⟩
          rw [if_neg (by omega)]
          exact get_new
      rintro ρ' h2 ⟨p3, rfl, k2, lp, e3⟩
      refine ⟨I (ss.length / 2 - 1), ?_, ?_⟩
      · have e02 := items_nil k2 hd
        first
          | have e02 := items_loc e02
          | skip
        walk_at "go"
        refine ⟨⟨by decide, by decide, by rw [List.length_map]; omega, by rw [List.length_map]; omega⟩, ?_⟩
        rw [show ((((ss.map D.str).length : Nat) : Int) / 2 - 1).toNat = ss.length / 2 - 1 by rw [List.length_map]; omega]
        refine forGo_ind I ⟨p3, _, _, _, rfl, k2, lp, by unfold seatP; exact e3⟩ (fun _ _ _ _ _ => trivial) ?_ (fun ρ h z => by rw [rngD_len] at z; exact z)
        rintro i dd ρ' h4 R hdd ⟨p4, c4, c5, c6, rfl, k4, lp4, e4⟩ k
        obtain ⟨hi, rfl⟩ := rng_at hdd
        have mp : (0 : Int) < ((ss.length - 1 : Nat) : Int) := by omega
        obtain ⟨b, eb, b1⟩ : ∃ b : Nat, ((r : Int) + (i + 1 : Nat)) % ((ss.length - 1 : Nat) : Int) = (b : Nat) ∧ b < ss.length - 1 := ⟨(((r : Int) + (i + 1 : Nat)) % ((ss.length - 1 : Nat) : Int)).toNat, (Int.toNat_of_nonneg (Int.emod_nonneg _ (by omega))).symm, by have := Int.emod_lt_of_pos ((r : Int) + (i + 1 : Nat)) mp; omega⟩
        obtain ⟨a, ea, a1⟩ : ∃ b : Nat, ((r : Int) - (i + 1 : Nat)) % ((ss.length - 1 : Nat) : Int) = (b : Nat) ∧ b < ss.length - 1 := ⟨(((r : Int) - (i + 1 : Nat)) % ((ss.length - 1 : Nat) : Int)).toNat, (Int.toNat_of_nonneg (Int.emod_nonneg _ (by omega))).symm, by have := Int.emod_lt_of_pos ((r : Int) - (i + 1 : Nat)) mp; omega⟩
        have es : (seatP ss.length r)[i + 1]? = some (if (i + 1) % 2 = 1 then (b, a) else (a, b)) := by
          unfold seatP
          rw [List.getElem?_cons_succ, List.getElem?_map, List.getElem?_range hi, Option.map_some, ea, eb]
          rfl
        have e1 : (1 : Int) + (i : Nat) = ((i + 1 : Nat) : Int) := by omega
        rw [e1]
        walk_at "go"
        refine ⟨N3 i b p4 c6 h4, ?_, ?_⟩
        · walk_at "go"
          rw [← eb]
          exact ⟨rfl, rfl⟩
        rintro ρ' h' ⟨rfl, rfl⟩
        refine ⟨N3 i b p4 (some (.int (a : Nat))) h', ?_, ?_⟩
        · walk_at "go"
          rw [← ea]
          exact ⟨rfl, rfl⟩
        rintro ρ' h'' ⟨rfl, rfl⟩
        have len4 : (((seatP ss.length r).take (i + 1)).map pI).length < 99999 := by
          rw [List.length_map, List.length_take]; omega
        have en : ((seatP ss.length r).take (i + 1 + 1)).map pI = ((seatP ss.length r).take (i + 1)).map pI ++ [pI (if (i + 1) % 2 = 1 then (b, a) else (a, b))] := by
          rw [List.take_add_one, es, List.map_append]; rfl
        walk_at "go"
        refine ifB_dec (fun c => ?_) (fun c => ?_)
        · walk_at "go"
          refine k _ _ ⟨p4, _, _, _, rfl, k4.set (.inr lp4), lp4, ?_⟩
          rw [en, if_pos (by omega)]
          exact get_set e4
        · walk_at "go"
          refine k _ _ ⟨p4, _, _, _, rfl, k4.set (.inr lp4), lp4, ?_⟩
          rw [en, if_neg (by omega)]
          exact get_set e4
      rintro ρ' h3 ⟨p3, c4, c5, c6, rfl, k3, lp3, e33⟩
      rw [List.take_of_length_le (by omega)] at e33
      have e02 := items_nil k3 hd
      first
        | have e02 := items_loc e02
        | skip
      walk_at "go"
      refine ⟨by rw [List.length_map]; omega, ?_⟩
      refine lcGo_ind (fun i acc h' => Kp [] h3 h' ∧ acc = ((seatP ss.length r).take i).map (prS ss)) ⟨Kp.refl, by simp⟩ (fun i acc h' _ hI => lstAt_of (hI.1.get _ _ (by simp) e33) rfl) ?_ ?_
      · rintro i dd acc h4 R hdd ⟨k4, rfl⟩ k
        rw [List.getElem?_map] at hdd
        obtain ⟨p, ep, rfl⟩ := Option.map_eq_some_iff.mp hdd
        obtain ⟨lt1, lt2⟩ := seat_lt n2 hr p (List.mem_of_getElem? ep)
        have g1 : atI (ss.map D.str) (p.1 : Nat) = some (.str (gt ss p.1)) := atI_nat (by rw [List.getElem?_map, gt_at lt1]; rfl)
        have g2 : atI (ss.map D.str) (p.2 : Nat) = some (.str (gt ss p.2)) := atI_nat (by rw [List.getElem?_map, gt_at lt2]; rfl)
        have e04 := items_nil (k3.trans k4) hd
        first
          | have e04 := items_loc e04
          | skip
        unfold pI
        walk_at "go"
        refine atK_of g1 ?_
        walk_at "go"
        refine atK_of g2 ?_
        walk_at "go"
        refine k _ _ ⟨k4, ?_⟩
        rw [map_take1 ep]
        rfl
      rintro acc h4 ⟨k4, rfl⟩
      rw [List.length_map, List.take_length]
      walk_at "go"
      exact q _ (k3.trans (k4.trans Kp.refl.push)))

def sp_du : SpM := fun ds h Q E => ∃ d, ds = [d] ∧ Hnd h d ∧ (sdOk h d = false → ∀ h', Kp [] h h' → E ⟨"BadValue", [("at", .int 0)]⟩ h') ∧ (∀ ss : List Str, sdOk h d = true → itemsD h d = some (ss.map D.str) → ∀ h', Kp [] h h' → Q (duS ss) h')
theorem sd_n {h : MH} {d : D} {ss : List Str} (e : sdOk h d = true) (i : itemsD h d = some (ss.map D.str)) : cnt4 ss.length = true := by
  unfold sdOk at e
  rw [i, Bool.and_eq_true] at e
  have := e.2
  dsimp only at this
  rwa [List.length_map] at this
theorem c2_drawn_up (T : TX K mg) : Fn P w K mg base 5 "drawn_up" sp_du ∧ FnK P w K mg base 5 "drawn_up" ["sides"] [0] sp_du := by
  refine mk_fn2 (ks := ["sides"]) (ix := [0]) T.h_drawn_up sc_drawn_up (fun _ _ _ _ _ _ us hl => match us, hl with | [_], _ => rfl) (fun _ _ _ _ _ _ ws hl => match ws, hl with | [_], _ => rfl) (fun ds h Q E q => ?_) (fun f cdv A outer s H E hr tk =>
    (css_cons (cs_expr (ce_call (c__check_sides T) hr (by decide) tk (by rfl) (ca_cons (cv 0) ca_nil)))
    (css_one (cs_ret (ce_callTy b_tuple (by rfl) T.B.tuple (by decide +kernel) (ca_cons (ce_lc [("number", 1)] rfl (C8.fnScope_by sc_drawn_up).nd (ci_rng1 (by rfl) T.B.range (ca_cons (ce_op o_sub (ce_callB b_len (by rfl) T.B.len (by decide +kernel) (ca_cons (cv 0) ca_nil)) ce_int) ca_nil)) (blkOk_by (own := [("number", 1)]) (N := ["sides", "number"]) (sc := (defScope s_drawn_up)) (by decide +kernel)) (fun _ _ _ _ _ => (cg_name [1] (i := 1) (by decide) rfl (C8.fnScope_by sc_drawn_up).nd rfl (by first | exact Or.inl rfl | exact Or.inr rfl) (by first | exact Or.inl rfl | exact Or.inr rfl))) (fun _ _ _ _ _ => cts_nil) (fun _ _ _ _ _ => (ce_call (c__drawn_round T) hr (by decide) takesF (by rfl) (ca_cons (cv 0) (ca_cons (cv 1) ca_nil))))) ca_nil)))))) (fun ds h Q E q => ?_)
  · obtain ⟨d, rfl, _⟩ := q; rfl
  · obtain ⟨d, rfl, hd, q1, q2⟩ := q
    walk_at "go"
    refine ⟨d, rfl, hd, fun so h1 k1 => q1 so h1 k1, fun so h1 k1 => ?_⟩
    obtain ⟨ss, it, s8, nd, sf⟩ := sd_ss so
    have q := q2 ss so it
    have n4 := of_decide_eq_true (sd_n so it)
    clear q1 q2
    have it1 := items_nil k1 it
    rcases itemsD_or it1 with rfl | ⟨p0, rfl, e0⟩ <;> (
      walk_at "go"
      rw [show ((((ss.map D.str).length : Nat) : Int) - 1).toNat = ss.length - 1 by rw [List.length_map]; omega]
      refine ⟨by rw [List.length_map]; exact ⟨by omega, by omega⟩, by rw [rngD_len]; omega, ?_⟩
      refine lcGo_ind (fun i acc h' => Kp [] h1 h' ∧ acc = (List.range i).map (rndS ss)) ⟨Kp.refl, rfl⟩ (fun _ _ _ _ _ => trivial) ?_ ?_
      · rintro i dd acc h4 R hdd ⟨k4, rfl⟩ k
        obtain ⟨hi, rfl⟩ := rng_get hdd
        walk_at "go"
        refine ⟨_, i, ss, rfl, items_nil k4 it1, by omega, by omega, hi, fun h5 k5 => ?_⟩
        refine k _ _ ⟨k4.trans k5, ?_⟩
        rw [List.range_succ, List.map_append]
        rfl
      rintro acc h4 ⟨k4, rfl⟩
      rw [rngD_len]
      walk_at "go"
      exact q _ (k1.trans (k4.trans Kp.refl.push)))
theorem c_drawn_up (T : TX K mg) : Fn P w K mg base 5 "drawn_up" sp_du := (c2_drawn_up T).1
theorem k_drawn_up_sides (T : TX K mg) : FnK P w K mg base 5 "drawn_up" ["sides"] [0] sp_du := (c2_drawn_up T).2

end My

namespace My
open PySem PySem.Spec PyProof.Rows L2 SX L3
local macro_rules | `(tactic| walk_at "w") => `(tactic| with_reducible conv => whnf)
local macro_rules | `(tactic| walk_at "ne") => `(tactic| first | assumption | (apply Ne.symm; assumption) | omega)
local macro_rules | `(tactic| walk_at "lk") => `(tactic| first | assumption | exact get_new | (apply get_set; walk_at "lk") | (refine get_push ?_; walk_at "lk") | (refine get_setne ?_ ?_; walk_at "ne"; walk_at "lk"))
local macro_rules | `(tactic| walk_at "kp") => `(tactic| first | assumption | exact Kp.refl | (refine Kp.push ?_; walk_at "kp") | (refine Kp.set ?_ (Or.inl (by simp)); walk_at "kp") | (refine Kp.set ?_ (Or.inr (by omega)); walk_at "kp"))
local macro_rules | `(tactic| walk_at "c") => `(tactic| ((with_reducible refine And.intro ?we ?_); case we => first | decide | exact Nat.le_of_ble_eq_true rfl | exact List.contains_iff_mem.mp rfl | exact (rfl : List.length _ = _) | exact (rfl : (_ : Str) = _) | exact (show (0 : Int) < _ from by decide) | exact Or.inr ⟨by decide, by decide⟩ | exact Or.inl ⟨by decide, by decide⟩ | exact (show _ ∧ _ from ⟨show (0 : Int) < _ from by decide, by decide⟩) | exact ⟨by decide, by decide, by decide⟩ | exact Or.inl ⟨by omega, by omega⟩ | exact (show (_ : Nat) < _ from by omega) | exact (show (_ : Nat) ≤ _ from by omega) | exact (show (_ : Int) < _ from by omega) | exact (show (_ : Int) ≤ _ from by omega)))
local macro_rules | `(tactic| walk_at "wd") => `(tactic| ((conv => lhs; whnf); try exact rfl))
local macro_rules | `(tactic| walk_at "s") => `(tactic| (walk_at "w"; first | ((with_reducible apply go_var); exact rfl) | ((with_reducible apply go_aug); exact rfl) | ((with_reducible apply lstAt_of); walk_at "lk") | ((with_reducible apply wrAt_of); walk_at "lk") | ((with_reducible apply isL_of); walk_at "lk") | ((with_reducible apply atK_of); exact rfl) | (with_reducible refine isT_non ?_) | (with_reducible refine isT_bl ?_) | (with_reducible refine isT_int ?_) | (with_reducible refine isT_str ?_) | (with_reducible refine isT_tup ?_) | (with_reducible refine isT_kls ?_) | ((with_reducible apply isT_lst); walk_at "lk") | (with_reducible refine tru_bl ?_) | (with_reducible refine tru_non ?_) | (with_reducible refine tru_int ?_) | (with_reducible refine tru_tup ?_) | ((with_reducible apply tru_lst); walk_at "lk") | ((with_reducible apply clsAt_of); walk_at "lk"; rfl) | ((with_reducible apply fldAt_of); walk_at "lk"; rfl) | ((with_reducible apply setF_of); walk_at "lk"; first | decide | exact Nat.le_of_ble_eq_true rfl) | ((with_reducible apply setK_of); walk_at "lk"; rfl) | ((with_reducible refine hd_hit ?we ?wf ?wg ?_); (case we => exact rfl); (case wf => exact rfl); (case wg => exact rfl)) | ((with_reducible refine hd_miss ?we ?wf ?wg ?_); (case we => exact rfl); (case wf => exact rfl); (case wg => exact rfl)) | ((with_reducible refine hd_hit0 ?we ?wf ?_); (case we => exact rfl); (case wf => exact rfl)) | ((with_reducible refine hd_miss0 ?we ?wf ?_); (case we => exact rfl); (case wf => exact rfl)) | (with_reducible refine byErr_of ?_) | ((with_reducible refine ifB_T ?we ?_); case we => exact rfl) | ((with_reducible refine ifB_F ?we ?_); case we => exact rfl) | ((with_reducible apply oDGet_of); walk_at "lk"; exact rfl; exact rfl; walk_at "wd") | ((with_reducible apply oDIn_of); walk_at "lk"; exact rfl) | ((with_reducible apply oDPut_of); walk_at "lk"; exact rfl; first | decide | exact Nat.le_of_ble_eq_true rfl) | ((with_reducible apply dispK_of); exact rfl; exact rfl; first | decide | exact Nat.le_of_ble_eq_true rfl) | walk_at "c" | (delta L3.isNon)))
local macro_rules | `(tactic| walk_at "go") => `(tactic| ((repeat walk_at "s"); (try walk_at "w")))
local macro_rules | `(tactic| walk_at "gd") => `(tactic| first | exact True.intro | ((with_reducible apply lstAt_of); walk_at "lk"; exact rfl) | assumption)
local macro_rules | `(tactic| walk_at "u") => `(tactic| first | walk_at "s" | ((with_reducible refine un_for1 ?g0 ?_); (case g0 => walk_at "gd")) | ((with_reducible refine un_for0 ?g0 ?_); (case g0 => walk_at "gd")) | ((with_reducible refine un_lc1 ?g0 ?_); (case g0 => walk_at "gd")) | ((with_reducible refine un_lc0 ?g0 ?_); (case g0 => walk_at "gd")) | ((with_reducible refine un_lcB ?g0 ?_); (case g0 => walk_at "gd")) | ((with_reducible refine un_lcA ?g0 ?_); (case g0 => walk_at "gd")) | ((with_reducible refine un_lcD ?g0 ?_); (case g0 => walk_at "gd")) | ((with_reducible refine un_lcC ?g0 ?_); (case g0 => walk_at "gd")) | (with_reducible refine un_wh ?_))
local macro_rules | `(tactic| walk_at "gu") => `(tactic| ((repeat walk_at "u"); (try walk_at "w")))
/-! ### the law's own table (k35) -/
variable {P : Program} {w : World} {K : PySem.W.Frag} {mg : Str → Option Value} {base : Heap}
theorem sc__law_drawn : C8.scC ["sides", "n", "r", "rounds", "j", "row", "i", "ahead", "k"] ["sides"] (defScope s__law_drawn) = true := by decide +kernel
abbrev Mx := List (List (Option (Nat × Nat)))
def rI (n j i : Nat) : Nat := ((i + j) * (n / 2)) % (n - 1)
def aI (n j i : Nat) : Nat := (((i : Int) - (rI n j i : Nat)) % (n - 1 : Nat)).toNat
def kI (n j i : Nat) : Nat := min (aI n j i) (n - 1 - aI n j i)
def putM (M : Mx) (r k : Nat) (p : Nat × Nat) : Mx := M.set r ((M.getD r []).set k (some p))
def stepA (n : Nat) (M : Mx) (j : Nat) : Mx := putM M j 0 (if j % 2 = 0 then (n - 1, j) else (j, n - 1))
def stepB (n j : Nat) (M : Mx) (i : Nat) : Mx := putM M (rI n j i) (kI n j i) (if aI n j i % 2 = 0 then (j, i) else (i, j))
def rowN (n : Nat) (M : Mx) (j : Nat) : Mx := (List.range j).foldl (stepB n j) (stepA n M j)
def startM (n : Nat) : Mx := List.replicate (n - 1) (List.replicate (n / 2) none)
def endMx (n : Nat) : Mx := (List.range (n - 1)).foldl (rowN n) (startM n)
theorem endM_is (n : Nat) (h : n = 2 ∨ n = 4 ∨ n = 6 ∨ n = 8) : endMx n = (List.range (n - 1)).map fun r => (seatP n r).map some := by
  rcases h with h | h | h | h <;> (subst h; decide +kernel)
def cD (ss : List Str) : Option (Nat × Nat) → D
  | none => .non
  | some p => prS ss p
/-- the table stands in rows of cells -/
structure Mt2 (ss : List Str) (h : MH) (ps : List Nat) (M : Mx) : Prop where
  len : ps.length = M.length
  nd : ps.Nodup
  at_ : ∀ (r : Nat) p row, ps[r]? = some p → M[r]? = some row → h[p]? = some (.lst (row.map (cD ss)))
theorem pick2 (x y : D) (j : Nat) : atI [x, y] ((j : Int) % 2) = some (if j % 2 = 0 then x else y) := by
  rcases (show j % 2 = 0 ∨ j % 2 = 1 by omega) with e | e
  · rw [show (j : Int) % 2 = ((0 : Nat) : Int) by omega, if_pos e]; exact atI_nat rfl
  · rw [show (j : Int) % 2 = ((1 : Nat) : Int) by omega, if_neg (by omega)]; exact atI_nat rfl
theorem setK_at {h : MH} {n i : Nat} {ds : List D} {v : D} {k : MH → Prop} (e : h[n]? = some (.lst ds)) (hi : i < ds.length) (q : k (h.set n (.lst (ds.set i v)))) : setK h n (.int (i : Nat)) v k :=
  setK_of (j := i) e (by unfold ixN; rw [if_pos (by omega), if_pos (by omega)]; rfl) q
structure Tb (ss : List Str) (h h' : MH) (R0 : Nat) (ps : List Nat) (M : Mx) : Prop where
  kp : Kp [] h h'
  rows : h'[R0]? = some (.lst (ps.map D.loc))
  m : Mt2 ss h' ps M
  b0 : h.length ≤ R0
  bs : ∀ q ∈ ps, h.length ≤ q ∧ q ≠ R0
  dim : M.length = ss.length - 1 ∧ ∀ row ∈ M, row.length = ss.length / 2
theorem Tb.next {ss : List Str} {h h' h'' : MH} {R0 : Nat} {ps : List Nat} {M : Mx} (t : Tb ss h h' R0 ps M) (k : Kp [] h' h'') : Tb ss h h'' R0 ps M :=
  ⟨t.kp.trans k, k.get _ _ (by simp) t.rows, ⟨t.m.len, t.m.nd, fun r p row e1 e2 => k.get _ _ (by simp) (t.m.at_ r p row e1 e2)⟩, t.b0, t.bs, t.dim⟩
theorem Tb.row {ss : List Str} {h h' : MH} {R0 : Nat} {ps : List Nat} {M : Mx} (t : Tb ss h h' R0 ps M) {r : Nat} (hr : r < ss.length - 1) : ∃ p row, ps[r]? = some p ∧ M[r]? = some row ∧ M.getD r [] = row ∧ row.length = ss.length / 2 ∧ h'[p]? = some (.lst (row.map (cD ss))) := by
  have l := t.m.len
  have d := t.dim.1
  have e1 : ps[r]? = some (ps[r]'(by omega)) := List.getElem?_eq_getElem _
  have e2 : M[r]? = some (M[r]'(by omega)) := List.getElem?_eq_getElem _
  exact ⟨_, _, e1, e2, by rw [List.getD_eq_getElem?_getD, e2]; rfl, t.dim.2 _ (List.getElem_mem _), t.m.at_ r _ _ e1 e2⟩
theorem Tb.put {ss : List Str} {h h' : MH} {R0 : Nat} {ps : List Nat} {M : Mx} (t : Tb ss h h' R0 ps M) {r k p : Nat} {row : List (Option (Nat × Nat))} (e1 : ps[r]? = some p) (e2 : M[r]? = some row) (x : Nat × Nat) : Tb ss h (h'.set p (.lst ((row.map (cD ss)).set k (prS ss x)))) R0 ps (putM M r k x) := by
  have hb := t.bs p (List.mem_of_getElem? e1)
  have rl : r < M.length := (List.getElem?_eq_some_iff.mp e2).1
  have gd : M.getD r [] = row := by rw [List.getD_eq_getElem?_getD, e2]; rfl
  refine ⟨t.kp.set (.inr hb.1), get_setne (fun z => hb.2 z) t.rows, ⟨by unfold putM; rw [List.length_set]; exact t.m.len, t.m.nd, fun r' p' row' e1' e2' => ?_⟩, t.b0, t.bs, ?_⟩
  · unfold putM at e2'
    rw [gd] at e2'
    by_cases c : r' = r
    · subst c
      rw [e1] at e1'
      cases e1'
      rw [List.getElem?_set_self rl] at e2'
      cases e2'
      rw [List.map_set]
      exact get_set (t.m.at_ _ _ _ e1 e2)
    · rw [List.getElem?_set_ne (Ne.symm c)] at e2'
      refine get_setne (fun z => c ?_) (t.m.at_ r' p' row' e1' e2')
      subst z
      exact (List.getElem?_inj (List.getElem?_eq_some_iff.mp e1').1 t.m.nd).mp (e1'.trans e1.symm)
  · unfold putM
    rw [gd, List.length_set]
    refine ⟨t.dim.1, fun row' hr' => ?_⟩
    rcases List.mem_or_eq_of_mem_set hr' with hm | rfl
    · exact t.dim.2 _ hm
    · rw [List.length_set]; exact t.dim.2 _ (List.mem_of_getElem? e2)
def sp_drawn : SpM := fun ds h Q _ => ∃ p ss, ds = [.loc p] ∧ h[p]? = some (.lst (ss.map D.str)) ∧ cnt4 ss.length = true ∧ ∀ h', Kp [] h h' → Q (duS ss) h'
theorem c__law_drawn (T : TX K mg) : Fn P w K mg base 2 "_law_drawn" sp_drawn := by
  refine mk_fn T.h__law_drawn sc__law_drawn (fun _ _ _ _ _ _ us hl => match us, hl with | [_], _ => rfl) (fun ds h Q E q => ?_) (fun f cdv A outer s H E hr tk =>
    (css_cut (cs_set (i := 1) rfl (C8.fnScope_by sc__law_drawn).nd rfl (by first | exact Or.inl rfl | exact Or.inr rfl) (ce_callB b_len (by rfl) T.B.len (by decide +kernel) (ca_cons (cv 0) ca_nil)))
    (css_cons (cs_setLc (i := 3) [("r", 2)] rfl rfl (C8.fnScope_by sc__law_drawn).nd rfl rfl (sw_true rfl rfl rfl (by decide +kernel)) (ci_rng1 (by rfl) T.B.range (ca_cons (ce_op o_sub (cv 1) ce_int) ca_nil)) (blkOk_by (own := [("r", 2)]) (N := ["sides", "n", "r", "rounds", "j", "row", "i", "ahead", "k"]) (sc := (defScope s__law_drawn)) (by decide +kernel)) (fun _ _ _ _ _ => (cg_name [2] (i := 2) (by decide) rfl (C8.fnScope_by sc__law_drawn).nd rfl (by first | exact Or.inl rfl | exact Or.inr rfl) (by first | exact Or.inl rfl | exact Or.inr rfl))) (fun _ _ _ _ _ => cts_nil) (fun _ _ _ _ _ => (ce_op o_mulA (ce_lst (ca_cons ce_non ca_nil)) (ce_op o_fdiv (cv 1) ce_int))))
    (css_cut (cs_for (L2.passes_of rfl) rfl (ci_rng1 (by rfl) T.B.range (ca_cons (ce_op o_sub (cv 1) ce_int) ca_nil)) (cg_name [4] (i := 4) (by decide) rfl (C8.fnScope_by sc__law_drawn).nd rfl (by first | exact Or.inl rfl | exact Or.inr rfl) (by first | exact Or.inl rfl | exact Or.inr rfl))
    (css_cons (cs_set (i := 5) rfl (C8.fnScope_by sc__law_drawn).nd rfl (by first | exact Or.inl rfl | exact Or.inr rfl) (ce_ix (cv 3) (cv 4) (fun _ _ => rfl)))
    (css_cons (cs_asg (ce_ix (ce_lst (ca_cons (ce_tup (ca_cons (ce_ix (cv 0) (ce_op o_sub (cv 1) ce_int) (fun _ _ => rfl)) (ca_cons (ce_ix (cv 0) (cv 4) (fun _ _ => rfl)) ca_nil))) (ca_cons (ce_tup (ca_cons (ce_ix (cv 0) (cv 4) (fun _ _ => rfl)) (ca_cons (ce_ix (cv 0) (ce_op o_sub (cv 1) ce_int) (fun _ _ => rfl)) ca_nil))) ca_nil))) (ce_op o_mod (ce_callTy b_int (by rfl) T.B.int (by decide +kernel) (ca_cons (cv 4) ca_nil)) ce_int) (fun _ _ => rfl)) (cg_sub [] (cv 5) ce_int))
    (css_one (cs_for (L2.passes_of rfl) rfl (ci_rng1 (by rfl) T.B.range (ca_cons (cv 4) ca_nil)) (cg_name [6] (i := 6) (by decide) rfl (C8.fnScope_by sc__law_drawn).nd rfl (by first | exact Or.inl rfl | exact Or.inr rfl) (by first | exact Or.inl rfl | exact Or.inr rfl))
    (css_cut (cs_set (i := 2) rfl (C8.fnScope_by sc__law_drawn).nd rfl (by first | exact Or.inl rfl | exact Or.inr rfl) (ce_op o_mod (ce_callTy b_int (by rfl) T.B.int (by decide +kernel) (ca_cons (ce_op o_mulA (ce_op o_add (cv 6) (cv 4)) (ce_op o_fdiv (cv 1) ce_int)) ca_nil)) (ce_op o_sub (cv 1) ce_int)))
    (css_cut (cs_set (i := 7) rfl (C8.fnScope_by sc__law_drawn).nd rfl (by first | exact Or.inl rfl | exact Or.inr rfl) (ce_op o_mod (ce_callTy b_int (by rfl) T.B.int (by decide +kernel) (ca_cons (ce_op o_sub (cv 6) (cv 2)) ca_nil)) (ce_op o_sub (cv 1) ce_int)))
    (css_cons (cs_set (i := 5) rfl (C8.fnScope_by sc__law_drawn).nd rfl (by first | exact Or.inl rfl | exact Or.inr rfl) (ce_ix (cv 3) (cv 2) (fun _ _ => rfl)))
    (css_cut (cs_set (i := 8) rfl (C8.fnScope_by sc__law_drawn).nd rfl (by first | exact Or.inl rfl | exact Or.inr rfl) (ce_callB (b_min2 rfl) (by rfl) T.B.min (by decide +kernel) (ca_cons (ce_callTy b_int (by rfl) T.B.int (by decide +kernel) (ca_cons (cv 7) ca_nil)) (ca_cons (ce_op o_sub (ce_op o_sub (cv 1) ce_int) (cv 7)) ca_nil))))
    (css_one (cs_asg (ce_ix (ce_lst (ca_cons (ce_tup (ca_cons (ce_ix (cv 0) (cv 4) (fun _ _ => rfl)) (ca_cons (ce_ix (cv 0) (cv 6) (fun _ _ => rfl)) ca_nil))) (ca_cons (ce_tup (ca_cons (ce_ix (cv 0) (cv 6) (fun _ _ => rfl)) (ca_cons (ce_ix (cv 0) (cv 4) (fun _ _ => rfl)) ca_nil))) ca_nil))) (ce_op o_mod (ce_callTy b_int (by rfl) T.B.int (by decide +kernel) (ca_cons (cv 7) ca_nil)) ce_int) (fun _ _ => rfl)) (cg_sub [] (cv 5) (cv 8)))))))))))))
    (css_one (cs_ret (ce_callTy b_tuple (by rfl) T.B.tuple (by decide +kernel) (ca_cons (ce_lc [("row", 5)] rfl (C8.fnScope_by sc__law_drawn).nd (ci_seq (cv 3)) (blkOk_by (own := [("row", 5)]) (N := ["sides", "n", "r", "rounds", "j", "row", "i", "ahead", "k"]) (sc := (defScope s__law_drawn)) (by decide +kernel)) (fun _ _ _ _ _ => (cg_name [5] (i := 5) (by decide) rfl (C8.fnScope_by sc__law_drawn).nd rfl (by first | exact Or.inl rfl | exact Or.inr rfl) (by first | exact Or.inl rfl | exact Or.inr rfl))) (fun _ _ _ _ _ => cts_nil) (fun _ _ _ _ _ => (ce_callTy b_tuple (by rfl) T.B.tuple (by decide +kernel) (ca_cons (cv 5) ca_nil)))) ca_nil)))))))) (fun ds h Q E q => ?_)
  · obtain ⟨p, ss, rfl, _⟩ := q; rfl
  · obtain ⟨p, ss, rfl, e, c4, q⟩ := q
    have c4 := of_decide_eq_true c4
    walk_at "go"
    refine ⟨fun ρ' h' => ρ' = [some (.loc p), some (.int (ss.length : Nat)), none, none, none, none, none, none, none] ∧ h' = h, ?_, ?_⟩
    · walk_at "go"
      rw [List.length_map]
      exact ⟨rfl, rfl⟩
    rintro ρ' h' ⟨rfl, rfl⟩
    walk_at "go"
    refine ⟨⟨by omega, by omega⟩, ?_⟩
    rw [show (((ss.length : Nat) : Int) - 1).toNat = ss.length - 1 by omega]
    refine ⟨by rw [rngD_len]; omega, ?_⟩
    refine lcGo_ind (fun i acc h2 => ∃ ps : List Nat, acc = ps.map D.loc ∧ ps.length = i ∧ ps.Nodup ∧ Kp [] h' h2 ∧ ∀ q ∈ ps, h'.length ≤ q ∧ q < h2.length ∧ h2[q]? = some (.lst (List.replicate (ss.length / 2) .non))) ⟨[], rfl, rfl, List.nodup_nil, Kp.refl, fun _ z => (nomatch z)⟩ (fun _ _ _ _ _ => trivial) ?_ ?_
    · rintro i dd acc h2 R hdd ⟨ps, rfl, pl, nd, k2, al⟩ k
      obtain ⟨hi, rfl⟩ := rng_get hdd
      walk_at "go"
      rw [List.flatten_replicate_singleton, show (((ss.length : Nat) : Int) / 2).toNat = ss.length / 2 by omega]
      have kk : Kp [] h2 (h2 ++ [Nd.lst [D.non]] ++ [Nd.lst (List.replicate (ss.length / 2) D.non)]) := Kp.refl.push.push
      have k2l := k2.le
      refine k _ _ ⟨ps ++ [(h2 ++ [Nd.lst [D.non]]).length], by rw [List.map_append]; rfl, by rw [List.length_append, pl]; rfl, ?_, k2.trans kk, fun q hq => ?_⟩
      · refine List.nodup_append.mpr ⟨nd, by simp, fun a ha b hb e => ?_⟩
        rw [List.mem_singleton] at hb
        subst hb e
        have := (al _ ha).2.1
        rw [List.length_append] at this
        omega
      · rcases List.mem_append.mp hq with hq | hq
        · obtain ⟨a1, a2, a3⟩ := al q hq
          exact ⟨a1, by rw [List.length_append, List.length_append]; omega, kk.get _ _ (by simp) a3⟩
        · rw [List.mem_singleton.mp hq]
          exact ⟨by rw [List.length_append]; omega, by rw [List.length_append (bs := [Nd.lst (List.replicate (ss.length / 2) D.non)])]; exact Nat.lt_succ_self _, get_new⟩
    rintro acc h2 ⟨ps, rfl, pl, nd, k2, al⟩
    rw [rngD_len] at pl
    have t0 : Tb ss h' (h2 ++ [.lst (ps.map D.loc)]) h2.length ps (startM ss.length) := by
      refine ⟨k2.trans Kp.refl.push, get_new, ⟨by rw [pl]; unfold startM; rw [List.length_replicate], nd, fun r q row e1 e2 => ?_⟩, k2.le, fun q hq => ⟨(al q hq).1, by have := (al q hq).2.1; omega⟩, by unfold startM; rw [List.length_replicate], fun row hr => ?_⟩
      · have := (List.getElem?_eq_some_iff.mp e2).2
        unfold startM at this
        rw [List.getElem_replicate] at this
        subst this
        rw [List.map_replicate]
        exact get_push (al q (List.mem_of_getElem? e1)).2.2
      · unfold startM at hr
        rw [(List.mem_replicate.mp hr).2, List.length_replicate]
    generalize h2 ++ [.lst (ps.map D.loc)] = h3 at *
    generalize h2.length = R0 at *
    let J : Nat → Ev → MH → Prop := fun j ρ' hx => ∃ c2 c4 c5 c6 c7 c8, ρ' = [some (.loc p), some (.int (ss.length : Nat)), c2, some (.loc R0), c4, c5, c6, c7, c8] ∧ Tb ss h' hx R0 ps ((List.range j).foldl (rowN ss.length) (startM ss.length))
    walk_at "go"
    refine ⟨J (ss.length - 1), ?_, ?_⟩
    · walk_at "go"
      refine ⟨⟨by omega, by omega⟩, ?_⟩
      rw [show (((ss.length : Nat) : Int) - 1).toNat = ss.length - 1 by omega]
      refine forGo_ind J ⟨_, _, _, _, _, _, rfl, t0⟩ (fun _ _ _ _ _ => trivial) ?_ (fun ρ h z => by rw [rngD_len] at z; exact z)
      rintro j dd ρ' h4 R hdd ⟨c2, c4', c5, c6, c7, c8, rfl, t4⟩ k
      obtain ⟨hj, rfl⟩ := rng_get hdd
      generalize eM : (List.range j).foldl (rowN ss.length) (startM ss.length) = M at t4
      obtain ⟨pj, row, e1, e2, e3, rl, e4⟩ := t4.row hj
      have es4 := t4.kp.get _ _ (by simp) e
      have rows4 := t4.rows
      have gj : atI (ss.map D.str) (j : Nat) = some (.str (gt ss j)) := atI_nat (by rw [List.getElem?_map, gt_at (by omega)]; rfl)
      have gn : atI (ss.map D.str) ((ss.length : Nat) - 1 : Int) = some (.str (gt ss (ss.length - 1))) := by
        rw [show ((ss.length : Nat) - 1 : Int) = ((ss.length - 1 : Nat) : Int) by omega]
        exact atI_nat (by rw [List.getElem?_map, gt_at (by omega)]; rfl)
      walk_at "go"
      refine atK_of (atI_nat (by rw [List.getElem?_map, e1]; rfl)) ?_
      walk_at "go"
      refine atK_of gn ?_
      walk_at "go"
      refine atK_of gj ?_
      walk_at "go"
      refine atK_of gj ?_
      walk_at "go"
      refine atK_of gn ?_
      walk_at "go"
      refine atK_of (pick2 _ _ j) ?_
      rw [show (if j % 2 = 0 then D.tup [D.str (gt ss (ss.length - 1)), D.str (gt ss j)] else D.tup [D.str (gt ss j), D.str (gt ss (ss.length - 1))]) = prS ss (if j % 2 = 0 then (ss.length - 1, j) else (j, ss.length - 1)) by split <;> rfl]
      have t5 := t4.next (Kp.refl.push (y := Nd.lst [D.tup [D.str (gt ss (ss.length - 1)), D.str (gt ss j)], D.tup [D.str (gt ss j), D.str (gt ss (ss.length - 1))]]))
      have e5 := get_push (y := Nd.lst [D.tup [D.str (gt ss (ss.length - 1)), D.str (gt ss j)], D.tup [D.str (gt ss j), D.str (gt ss (ss.length - 1))]]) e4
      generalize h4 ++ [Nd.lst [D.tup [D.str (gt ss (ss.length - 1)), D.str (gt ss j)], D.tup [D.str (gt ss j), D.str (gt ss (ss.length - 1))]]] = h5 at t5 e5 ⊢
      have t6 := t5.put (k := 0) e1 e2 (if j % 2 = 0 then (ss.length - 1, j) else (j, ss.length - 1))
      clear t4 es4 rows4 e4
      walk_at "go"
      refine setK_at (i := 0) e5 (by rw [List.length_map, rl]; omega) ?_
      rw [show putM M j 0 (if j % 2 = 0 then (ss.length - 1, j) else (j, ss.length - 1)) = stepA ss.length M j from rfl] at t6
      generalize h5.set pj (Nd.lst ((row.map (cD ss)).set 0 (prS ss (if j % 2 = 0 then (ss.length - 1, j) else (j, ss.length - 1))))) = h6 at t6 ⊢
      clear e5 t5 e1 e2 e3 rl
      let J2 : Nat → Ev → MH → Prop := fun i ρ' hx => ∃ c2 c5 c6 c7 c8, ρ' = [some (.loc p), some (.int (ss.length : Nat)), c2, some (.loc R0), some (.int (j : Nat)), c5, c6, c7, c8] ∧ Tb ss h' hx R0 ps ((List.range i).foldl (stepB ss.length j) (stepA ss.length M j))
      walk_at "go"
      refine ⟨⟨by omega, by omega⟩, ?_⟩
      refine forGo_ind J2 ⟨_, _, _, _, _, rfl, t6⟩ (fun _ _ _ _ _ => trivial) ?_ ?_
      · rintro i dd ρ' h7 R7 hdd ⟨c2, c5, c6, c7, c8, rfl, t7⟩ k7
        obtain ⟨hi, rfl⟩ := rng_get hdd
        rw [Int.toNat_natCast] at hi
        generalize eM7 : (List.range i).foldl (stepB ss.length j) (stepA ss.length M j) = M7 at t7
        have rlt : rI ss.length j i < ss.length - 1 := Nat.mod_lt _ (by omega)
        obtain ⟨pr, row, e1, e2, e3, rl, e4⟩ := t7.row rlt
        have em : ((ss.length : Nat) : Int) - 1 = ((ss.length - 1 : Nat) : Int) := by omega
        have eh : ((ss.length : Nat) : Int) / 2 = ((ss.length / 2 : Nat) : Int) := by omega
        have gi : atI (ss.map D.str) (i : Nat) = some (.str (gt ss i)) := atI_nat (by rw [List.getElem?_map, gt_at (by omega)]; rfl)
        walk_at "go"
        refine ⟨fun ρ' hx => ρ' = [some (.loc p), some (.int (ss.length : Nat)), some (.int (rI ss.length j i : Nat)), some (.loc R0), some (.int (j : Nat)), c5, some (.int (i : Nat)), c7, c8] ∧ hx = h7, ?_, ?_⟩
        · walk_at "go"
          refine ⟨?_, rfl⟩
          have er : (((i : Nat) : Int) + (j : Nat)) * (((ss.length : Nat) : Int) / 2) % (((ss.length : Nat) : Int) - 1) = ((rI ss.length j i : Nat) : Int) := by
            rw [em, eh]
            unfold rI
            rw [Int.natCast_emod, Int.natCast_mul, Int.natCast_add]
          rw [← er]; rfl
        rintro ρ' hx ⟨rfl, rfl⟩
        walk_at "go"
        have an : (((i : Nat) : Int) - (rI ss.length j i : Nat)) % (((ss.length : Nat) : Int) - 1) = ((aI ss.length j i : Nat) : Int) := by
          rw [em]
          unfold aI
          exact (Int.toNat_of_nonneg (Int.emod_nonneg _ (by omega))).symm
        have al : aI ss.length j i < ss.length - 1 := by
          have := Int.emod_lt_of_pos (((i : Nat) : Int) - (rI ss.length j i : Nat)) (show (0 : Int) < ((ss.length : Nat) : Int) - 1 by omega)
          omega
        refine ⟨fun ρ' hy => ρ' = [some (.loc p), some (.int (ss.length : Nat)), some (.int (rI ss.length j i : Nat)), some (.loc R0), some (.int (j : Nat)), c5, some (.int (i : Nat)), some (.int (aI ss.length j i : Nat)), c8] ∧ hy = hx, ?_, ?_⟩
        · walk_at "go"
          refine ⟨?_, rfl⟩
          rw [← an]; rfl
        rintro ρ' hy ⟨rfl, rfl⟩
        have rows7 := t7.rows
        have es7 := t7.kp.get _ _ (by simp) e
        walk_at "go"
        refine atK_of (atI_nat (by rw [List.getElem?_map, e1]; rfl)) ?_
        walk_at "go"
        refine ⟨fun ρ' hz => ρ' = [some (.loc p), some (.int (ss.length : Nat)), some (.int (rI ss.length j i : Nat)), some (.loc R0), some (.int (j : Nat)), some (.loc pr), some (.int (i : Nat)), some (.int (aI ss.length j i : Nat)), some (.int (kI ss.length j i : Nat))] ∧ hz = hy, ?_, ?_⟩
        · walk_at "go"
          refine ⟨?_, rfl⟩
          have ek : (if ((ss.length : Nat) : Int) - 1 - (aI ss.length j i : Nat) < ((aI ss.length j i : Nat) : Int) then ((ss.length : Nat) : Int) - 1 - (aI ss.length j i : Nat) else ((aI ss.length j i : Nat) : Int)) = ((kI ss.length j i : Nat) : Int) := by
            unfold kI
            split <;> omega
          rw [← ek]; rfl
        rintro ρ' hz ⟨rfl, rfl⟩
        walk_at "go"
        refine atK_of gj ?_
        walk_at "go"
        refine atK_of gi ?_
        walk_at "go"
        refine atK_of gi ?_
        walk_at "go"
        refine atK_of gj ?_
        walk_at "go"
        refine atK_of (pick2 _ _ _) ?_
        rw [show (if aI ss.length j i % 2 = 0 then D.tup [D.str (gt ss j), D.str (gt ss i)] else D.tup [D.str (gt ss i), D.str (gt ss j)]) = prS ss (if aI ss.length j i % 2 = 0 then (j, i) else (i, j)) by split <;> rfl]
        have t8 := t7.next (Kp.refl.push (y := Nd.lst [D.tup [D.str (gt ss j), D.str (gt ss i)], D.tup [D.str (gt ss i), D.str (gt ss j)]]))
        have e5 := get_push (y := Nd.lst [D.tup [D.str (gt ss j), D.str (gt ss i)], D.tup [D.str (gt ss i), D.str (gt ss j)]]) e4
        generalize hz ++ [Nd.lst [D.tup [D.str (gt ss j), D.str (gt ss i)], D.tup [D.str (gt ss i), D.str (gt ss j)]]] = h8 at t8 e5 ⊢
        have t9 := t8.put (k := kI ss.length j i) e1 e2 (if aI ss.length j i % 2 = 0 then (j, i) else (i, j))
        walk_at "go"
        refine setK_at e5 (by rw [List.length_map, rl]; unfold kI; omega) ?_
        refine k7 _ _ ⟨_, _, _, _, _, rfl, ?_⟩
        rw [List.range_succ, List.foldl_append, eM7]
        exact t9
      rintro ρ' h7 ⟨c2, c5, c6, c7, c8, rfl, t7⟩
      rw [rngD_len, Int.toNat_natCast] at t7
      refine k _ _ ⟨_, _, _, _, _, _, rfl, ?_⟩
      rw [List.range_succ, List.foldl_append, eM]
      exact t7
    rintro ρ' h4 ⟨c2, c4', c5, c6, c7, c8, rfl, t4⟩
    have ef : (List.range (ss.length - 1)).foldl (rowN ss.length) (startM ss.length) = endMx ss.length := rfl
    rw [ef, endM_is _ c4] at t4
    have rw4 := t4.rows
    have pl4 := t4.m.len
    rw [List.length_map, List.length_range] at pl4
    walk_at "go"
    refine ⟨by rw [List.length_map]; omega, ?_⟩
    refine lcGo_ind (fun i acc hx => Kp [] h4 hx ∧ acc = (List.range i).map (rndS ss)) ⟨Kp.refl, rfl⟩ (fun i acc h' _ hI => lstAt_of (hI.1.get _ _ (by simp) rw4) rfl) ?_ ?_
    · rintro i dd acc h5 R hdd ⟨k5, rfl⟩ k
      rw [List.getElem?_map] at hdd
      obtain ⟨pr, ep, rfl⟩ := Option.map_eq_some_iff.mp hdd
      have il := (List.getElem?_eq_some_iff.mp ep).1
      have e5 := k5.get _ _ (by simp) (t4.m.at_ i pr ((seatP ss.length i).map some) ep (by rw [List.getElem?_map, List.getElem?_range (by omega)]; rfl))
      walk_at "go"
      refine k _ _ ⟨k5, ?_⟩
      rw [List.range_succ, List.map_append]
      show _ ++ [D.tup (((seatP ss.length i).map some).map (cD ss))] = _
      rw [List.map_map]
      rfl
    rintro acc h5 ⟨k5, rfl⟩
    rw [List.length_map, pl4]
    walk_at "go"
    exact q _ (t4.kp.trans (k5.trans Kp.refl.push))

end My

namespace My
open PySem PySem.Spec PyProof.Rows L2 SX L3
local macro_rules | `(tactic| walk_at "w") => `(tactic| with_reducible conv => whnf)
local macro_rules | `(tactic| walk_at "ne") => `(tactic| first | assumption | (apply Ne.symm; assumption) | omega)
local macro_rules | `(tactic| walk_at "lk") => `(tactic| first | assumption | exact get_new | (apply get_set; walk_at "lk") | (refine get_push ?_; walk_at "lk") | (refine get_setne ?_ ?_; walk_at "ne"; walk_at "lk"))
local macro_rules | `(tactic| walk_at "kp") => `(tactic| first | assumption | exact Kp.refl | (refine Kp.push ?_; walk_at "kp") | (refine Kp.set ?_ (Or.inl (by simp)); walk_at "kp") | (refine Kp.set ?_ (Or.inr (by omega)); walk_at "kp"))
local macro_rules | `(tactic| walk_at "c") => `(tactic| ((with_reducible refine And.intro ?we ?_); case we => first | decide | exact Nat.le_of_ble_eq_true rfl | exact List.contains_iff_mem.mp rfl | exact (rfl : List.length _ = _) | exact (rfl : (_ : Str) = _) | exact (show (0 : Int) < _ from by decide) | exact Or.inr ⟨by decide, by decide⟩ | exact Or.inl ⟨by decide, by decide⟩ | exact (show _ ∧ _ from ⟨show (0 : Int) < _ from by decide, by decide⟩) | exact ⟨by decide, by decide, by decide⟩ | exact Or.inl ⟨by omega, by omega⟩ | exact (show (_ : Nat) < _ from by omega) | exact (show (_ : Nat) ≤ _ from by omega) | exact (show (_ : Int) < _ from by omega) | exact (show (_ : Int) ≤ _ from by omega)))
local macro_rules | `(tactic| walk_at "wd") => `(tactic| ((conv => lhs; whnf); try exact rfl))
local macro_rules | `(tactic| walk_at "s") => `(tactic| (walk_at "w"; first | ((with_reducible apply go_var); exact rfl) | ((with_reducible apply go_aug); exact rfl) | ((with_reducible apply lstAt_of); walk_at "lk") | ((with_reducible apply wrAt_of); walk_at "lk") | ((with_reducible apply isL_of); walk_at "lk") | ((with_reducible apply atK_of); exact rfl) | (with_reducible refine isT_non ?_) | (with_reducible refine isT_bl ?_) | (with_reducible refine isT_int ?_) | (with_reducible refine isT_str ?_) | (with_reducible refine isT_tup ?_) | (with_reducible refine isT_kls ?_) | ((with_reducible apply isT_lst); walk_at "lk") | (with_reducible refine tru_bl ?_) | (with_reducible refine tru_non ?_) | (with_reducible refine tru_int ?_) | (with_reducible refine tru_tup ?_) | ((with_reducible apply tru_lst); walk_at "lk") | ((with_reducible apply clsAt_of); walk_at "lk"; rfl) | ((with_reducible apply fldAt_of); walk_at "lk"; rfl) | ((with_reducible apply setF_of); walk_at "lk"; first | decide | exact Nat.le_of_ble_eq_true rfl) | ((with_reducible apply setK_of); walk_at "lk"; rfl) | ((with_reducible refine hd_hit ?we ?wf ?wg ?_); (case we => exact rfl); (case wf => exact rfl); (case wg => exact rfl)) | ((with_reducible refine hd_miss ?we ?wf ?wg ?_); (case we => exact rfl); (case wf => exact rfl); (case wg => exact rfl)) | ((with_reducible refine hd_hit0 ?we ?wf ?_); (case we => exact rfl); (case wf => exact rfl)) | ((with_reducible refine hd_miss0 ?we ?wf ?_); (case we => exact rfl); (case wf => exact rfl)) | (with_reducible refine byErr_of ?_) | ((with_reducible refine ifB_T ?we ?_); case we => exact rfl) | ((with_reducible refine ifB_F ?we ?_); case we => exact rfl) | ((with_reducible apply oDGet_of); walk_at "lk"; exact rfl; exact rfl; walk_at "wd") | ((with_reducible apply oDIn_of); walk_at "lk"; exact rfl) | ((with_reducible apply oDPut_of); walk_at "lk"; exact rfl; first | decide | exact Nat.le_of_ble_eq_true rfl) | ((with_reducible apply dispK_of); exact rfl; exact rfl; first | decide | exact Nat.le_of_ble_eq_true rfl) | walk_at "c" | (delta L3.isNon)))
local macro_rules | `(tactic| walk_at "go") => `(tactic| ((repeat walk_at "s"); (try walk_at "w")))
local macro_rules | `(tactic| walk_at "gd") => `(tactic| first | exact True.intro | ((with_reducible apply lstAt_of); walk_at "lk"; exact rfl) | assumption)
local macro_rules | `(tactic| walk_at "u") => `(tactic| first | walk_at "s" | ((with_reducible refine un_for1 ?g0 ?_); (case g0 => walk_at "gd")) | ((with_reducible refine un_for0 ?g0 ?_); (case g0 => walk_at "gd")) | ((with_reducible refine un_lc1 ?g0 ?_); (case g0 => walk_at "gd")) | ((with_reducible refine un_lc0 ?g0 ?_); (case g0 => walk_at "gd")) | ((with_reducible refine un_lcB ?g0 ?_); (case g0 => walk_at "gd")) | ((with_reducible refine un_lcA ?g0 ?_); (case g0 => walk_at "gd")) | ((with_reducible refine un_lcD ?g0 ?_); (case g0 => walk_at "gd")) | ((with_reducible refine un_lcC ?g0 ?_); (case g0 => walk_at "gd")) | (with_reducible refine un_wh ?_))
local macro_rules | `(tactic| walk_at "gu") => `(tactic| ((repeat walk_at "u"); (try walk_at "w")))
/-! ### rounds of names that are fixtures (k34 .. k37) -/
def twoS (p : Str × Str) : List Str := [p.1, p.2]
def twoR (p : Str × Str) : List Str := [p.2, p.1]
structure Fx (ss : List Str) (rds : List (List (Str × Str))) : Prop where
  len : rds.length = ss.length - 1
  full : ∀ r ∈ rds, (r.flatMap twoS).Perm ss
  nd : (rds.flatten.map twoS ++ rds.flatten.map twoR).Nodup
/-- data that tells these rounds, tuples or lists -/
structure IsR (e : PyData) (r : List (Str × Str)) : Prop where
  ex : ∃ ps, seqP e = some ps ∧ ps.length = r.length ∧ ∀ (j : Nat) p q, ps[j]? = some p → r[j]? = some q → seqP p = some [.str q.1, .str q.2]
structure Is3 (e : PyData) (rds : List (List (Str × Str))) : Prop where
  ex : ∃ es, seqP e = some es ∧ es.length = rds.length ∧ ∀ (i : Nat) b r, es[i]? = some b → rds[i]? = some r → IsR b r
theorem both_ext {α β γ : Type} {f : α → γ} {g : β → γ} : ∀ {xs : List α} {ys : List β}, xs.length = ys.length → (∀ (i : Nat) x y, xs[i]? = some x → ys[i]? = some y → f x = g y) → xs.map f = ys.map g
  | [], [], _, _ => rfl
  | x :: xs, y :: ys, l, a => by rw [List.map_cons, List.map_cons, a 0 x y rfl rfl, both_ext (by simpa using l) fun i u v h1 h2 => a (i + 1) u v h1 h2]
  | [], _ :: _, l, _ => by cases l
  | _ :: _, [], l, _ => by cases l
theorem IsR.duos {e : PyData} {r : List (Str × Str)} (h : IsR e r) : (partsP e).map duoP = r.map twoS := by
  obtain ⟨ps, s, l, a⟩ := h.ex
  have : partsP e = ps := by unfold partsP; rw [s]; rfl
  rw [this]
  exact both_ext l fun i x y hx hy => (duo_is (a i x y hx hy)).1
theorem flat_map2 {es : List PyData} : (es.flatMap partsP).map duoP = (es.map fun b => (partsP b).map duoP).flatten := by
  induction es with
  | nil => rfl
  | cons x r ih => rw [List.flatMap_cons, List.map_append, ih, List.map_cons, List.flatten_cons]
theorem flat_map3 {α β : Type} {f : α → β} {rds : List (List α)} : (rds.map fun r => r.map f).flatten = rds.flatten.map f := by
  induction rds with
  | nil => rfl
  | cons x r ih => rw [List.map_cons, List.flatten_cons, ih, List.flatten_cons, List.map_append]
theorem flat_len {rds : List (List (Str × Str))} {k : Nat} (h : ∀ r ∈ rds, r.length * 2 = k) : rds.flatten.length * 2 = rds.length * k := by
  induction rds with
  | nil => simp
  | cons x r ih =>
    have := ih fun y hy => h y (List.mem_cons_of_mem _ hy)
    have := h x (List.mem_cons_self ..)
    rw [List.flatten_cons, List.length_append, List.length_cons, Nat.add_mul, Nat.add_mul]
    omega
theorem two_len {r : List (Str × Str)} : (r.flatMap twoS).length = r.length * 2 := by
  induction r with
  | nil => rfl
  | cons x r ih => rw [List.flatMap_cons, List.length_append, ih, List.length_cons, Nat.add_mul]; show 2 + _ = _; omega
theorem IsR.full {e : PyData} {r : List (Str × Str)} {ss : List Str} (h : IsR e r) (nd : ss.Nodup) (pm : (r.flatMap twoS).Perm ss) : fullP ss e = true := by
  obtain ⟨ps, s, l, a⟩ := h.ex
  have ef : ps.flatMap duoP = r.flatMap twoS := by
    have := h.duos
    have e2 : partsP e = ps := by unfold partsP; rw [s]; rfl
    rw [e2] at this
    rw [List.flatMap_def, List.flatMap_def, this]
  have rnd : (r.flatMap twoS).Nodup := pm.nodup_iff.mpr nd
  refine full_yes s ⟨fun p hp => ?_, fun x hx => ?_, ?_, ?_⟩
  · obtain ⟨j, hj⟩ := List.getElem?_of_mem hp
    have jl := (List.getElem?_eq_some_iff.mp hj).1
    have rj : r[j]? = some (r[j]'(by omega)) := List.getElem?_eq_getElem _
    have sp := a j p _ hj rj
    have mem := List.mem_of_getElem? rj
    have inn : ∀ x ∈ twoS (r[j]'(by omega)), x ∈ ss := fun x hx => pm.mem_iff.mp (List.mem_flatMap.mpr ⟨_, mem, hx⟩)
    have n2 := nd_part rnd mem
    exact ⟨_, _, sp, inn _ (by simp [twoS]), inn _ (by simp [twoS]), fun e => (List.nodup_cons.mp n2).1 (by rw [e]; simp)⟩
  · rw [ef]; exact pm.mem_iff.mpr hx
  · rw [ef]; exact rnd
  · rw [l, ← two_len, pm.length_eq]
theorem Is3.fix {e : PyData} {rds : List (List (Str × Str))} {ss : List Str} (h : Is3 e rds) (nd : ss.Nodup) (F : Fx ss rds) : fixP ss e = true := by
  obtain ⟨es, s, l, a⟩ := h.ex
  unfold fixP
  rw [s]
  show (es.all (fullP ss) && decide ((bothP (es.flatMap partsP)).length = (RS.uqK (bothP (es.flatMap partsP))).length) && decide ((RS.uqK (bothP (es.flatMap partsP))).length = ss.length * (ss.length - 1))) = true
  have em : (es.flatMap partsP).map duoP = rds.flatten.map twoS := by
    rw [flat_map2, ← flat_map3]
    exact congrArg List.flatten (both_ext l fun i x y hx hy => (a i x y hx hy).duos)
  have eb : bothP (es.flatMap partsP) = rds.flatten.map twoS ++ rds.flatten.map twoR := by
    unfold bothP
    rw [em, List.map_map]
    rfl
  have ul : RS.uqK (bothP (es.flatMap partsP)) = bothP (es.flatMap partsP) := RS.uqK_self (by rw [eb]; exact F.nd)
  have fl := flat_len (k := ss.length) fun r hr => by rw [← two_len, (F.full r hr).length_eq]
  rw [F.len] at fl
  rw [ul, eb, Bool.and_eq_true, Bool.and_eq_true, decide_eq_true_iff, decide_eq_true_iff]
  refine ⟨⟨List.all_eq_true.mpr fun b hb => ?_, rfl⟩, ?_⟩
  · obtain ⟨i, hi⟩ := List.getElem?_of_mem hb
    have il := (List.getElem?_eq_some_iff.mp hi).1
    have ri : rds[i]? = some (rds[i]'(by omega)) := List.getElem?_eq_getElem _
    exact (a i b _ hi ri).full nd (F.full _ (List.mem_of_getElem? ri))
  · rw [List.length_append, List.length_map, List.length_map, Nat.mul_comm ss.length]
    omega
theorem perm_of {α : Type} [DecidableEq α] : ∀ {l m : List α}, l.Nodup → m.Nodup → (∀ x, x ∈ l ↔ x ∈ m) → l.Perm m
  | [], m, _, _, h => by
    cases m with
    | nil => exact .nil
    | cons x r => exact absurd ((h x).mpr (List.mem_cons_self ..)) List.not_mem_nil
  | x :: r, m, n1, n2, h => by
    have hx := (h x).mp (List.mem_cons_self ..)
    obtain ⟨a, b⟩ := List.nodup_cons.mp n1
    refine (List.Perm.cons x (perm_of b (n2.erase x) fun y => ?_)).trans (List.perm_cons_erase hx).symm
    rw [n2.mem_erase_iff]
    constructor
    · intro hy
      exact ⟨fun e => a (e ▸ hy), (h y).mp (List.mem_cons_of_mem _ hy)⟩
    · rintro ⟨ne, hy⟩
      rcases List.mem_cons.mp ((h y).mpr hy) with e | hy
      · exact absurd e ne
      · exact hy
/-- by places -/
def RRb (n : Nat) (rds : List (List (Nat × Nat))) : Bool := decide (rds.length = n - 1) && rds.all (fun r => decide ((r.flatMap fun p => [p.1, p.2]).Nodup) && decide (r.length * 2 = n) && r.all fun p => decide (p.1 < n) && decide (p.2 < n)) && decide (rds.flatten.map (fun p => [p.1, p.2]) ++ rds.flatten.map (fun p => [p.2, p.1])).Nodup
def gtP (ss : List Str) (p : Nat × Nat) : Str × Str := (ss.getD p.1 "", ss.getD p.2 "")
theorem getD_at {ss : List Str} {i : Nat} (h : i < ss.length) : ss.getD i "" = ss[i] := by
  rw [List.getD_eq_getElem?_getD, List.getElem?_eq_getElem h]; rfl
theorem getD_inj {ss : List Str} (nd : ss.Nodup) {i j : Nat} (hi : i < ss.length) (hj : j < ss.length) (e : ss.getD i "" = ss.getD j "") : i = j := by
  rw [getD_at hi, getD_at hj] at e
  exact (List.getElem?_inj hi nd).mp (by rw [List.getElem?_eq_getElem hi, List.getElem?_eq_getElem hj, e])
theorem nd_map {α β : Type} {f : α → β} : ∀ {l : List α}, l.Nodup → (∀ x ∈ l, ∀ y ∈ l, f x = f y → x = y) → (l.map f).Nodup
  | [], _, _ => List.nodup_nil
  | a :: r, nd, h => by
    obtain ⟨n1, n2⟩ := List.nodup_cons.mp nd
    rw [List.map_cons]
    refine List.nodup_cons.mpr ⟨fun m => ?_, nd_map n2 fun x hx y hy => h x (List.mem_cons_of_mem _ hx) y (List.mem_cons_of_mem _ hy)⟩
    obtain ⟨y, hy, e⟩ := List.mem_map.mp m
    exact n1 (h a (List.mem_cons_self ..) y (List.mem_cons_of_mem _ hy) e.symm ▸ hy)
theorem flat_two {ss : List Str} : ∀ {r : List (Nat × Nat)}, (r.map (gtP ss)).flatMap twoS = (r.flatMap fun p => [p.1, p.2]).map fun i => ss.getD i ""
  | [] => rfl
  | p :: r => by rw [List.map_cons, List.flatMap_cons, flat_two, List.flatMap_cons, List.map_append]; rfl
theorem RRb.fx {ss : List Str} {rds : List (List (Nat × Nat))} (nd : ss.Nodup) (h : RRb ss.length rds = true) : Fx ss (rds.map fun r => r.map (gtP ss)) := by
  unfold RRb at h
  rw [Bool.and_eq_true, Bool.and_eq_true, decide_eq_true_iff, decide_eq_true_iff, List.all_eq_true] at h
  obtain ⟨⟨h1, h2⟩, h3⟩ := h
  have h2' : ∀ r ∈ rds, (r.flatMap fun p => [p.1, p.2]).Nodup ∧ r.length * 2 = ss.length ∧ ∀ p ∈ r, p.1 < ss.length ∧ p.2 < ss.length := fun r hr => by
    have := h2 r hr
    rw [Bool.and_eq_true, Bool.and_eq_true, decide_eq_true_iff, decide_eq_true_iff, List.all_eq_true] at this
    exact ⟨this.1.1, this.1.2, fun p hp => by
      have := this.2 p hp
      rw [Bool.and_eq_true, decide_eq_true_iff, decide_eq_true_iff] at this
      exact this⟩
  have inn : ∀ r ∈ rds, ∀ x ∈ r.flatMap (fun p => [p.1, p.2]), x < ss.length := fun r hr x hx => by
    obtain ⟨p, hp, hx⟩ := List.mem_flatMap.mp hx
    obtain ⟨a, b⟩ := (h2' r hr).2.2 p hp
    simp only [List.mem_cons, List.not_mem_nil, or_false] at hx
    rcases hx with rfl | rfl <;> assumption
  refine ⟨by rw [List.length_map, h1], fun r hr => ?_, ?_⟩
  · obtain ⟨r0, hr0, rfl⟩ := List.mem_map.mp hr
    rw [flat_two]
    obtain ⟨n1, n2, _⟩ := h2' r0 hr0
    have nl : ((r0.flatMap fun p => [p.1, p.2]).map fun i => ss.getD i "").Nodup := nd_map n1 fun x hx y hy e => getD_inj nd (inn r0 hr0 x hx) (inn r0 hr0 y hy) e
    have sub : ∀ x ∈ (r0.flatMap fun p => [p.1, p.2]).map (fun i => ss.getD i ""), x ∈ ss := fun x hx => by
      obtain ⟨i, hi, rfl⟩ := List.mem_map.mp hx
      rw [getD_at (inn r0 hr0 i hi)]
      exact List.getElem_mem _
    have ll : ((r0.flatMap fun p => [p.1, p.2]).map fun i => ss.getD i "").length = ss.length := by
      rw [← flat_two, two_len, List.length_map, n2]
    obtain ⟨_, c2, _⟩ := cover nl sub (by omega)
    exact perm_of nl nd (fun x => ⟨sub x, c2 x⟩)
  · rw [flat_map3, List.map_map, List.map_map]
    have e : rds.flatten.map (twoS ∘ gtP ss) ++ rds.flatten.map (twoR ∘ gtP ss) = (rds.flatten.map (fun p => [p.1, p.2]) ++ rds.flatten.map (fun p => [p.2, p.1])).map fun l => l.map fun i => ss.getD i "" := by
      rw [List.map_append, List.map_map, List.map_map]; rfl
    rw [e]
    refine nd_map h3 fun x hx y hy e => ?_
    have two : ∀ x ∈ rds.flatten.map (fun p => [p.1, p.2]) ++ rds.flatten.map (fun p => [p.2, p.1]), ∃ a b, x = [a, b] ∧ a < ss.length ∧ b < ss.length := fun x hx => by
      rcases List.mem_append.mp hx with hx | hx
      · obtain ⟨p, hp, rfl⟩ := List.mem_map.mp hx
        obtain ⟨r, hr, hp⟩ := List.mem_flatten.mp hp
        exact ⟨_, _, rfl, ((h2' r hr).2.2 p hp).1, ((h2' r hr).2.2 p hp).2⟩
      · obtain ⟨p, hp, rfl⟩ := List.mem_map.mp hx
        obtain ⟨r, hr, hp⟩ := List.mem_flatten.mp hp
        exact ⟨_, _, rfl, ((h2' r hr).2.2 p hp).2, ((h2' r hr).2.2 p hp).1⟩
    obtain ⟨a, b, rfl, a1, b1⟩ := two x hx
    obtain ⟨c, d, rfl, c1, d1⟩ := two y hy
    simp only [List.map_cons, List.map_nil, List.cons.injEq, and_true] at e
    rw [getD_inj nd a1 c1 e.1, getD_inj nd b1 d1 e.2]

/-- the rounds as data -/
def pD (p : Str × Str) : D := .tup [.str p.1, .str p.2]
def rD (r : List (Str × Str)) : D := .tup (r.map pD)
def dF (rds : List (List (Str × Str))) : D := .tup (rds.map rD)
def pY (p : Str × Str) : PyData := .tuple [.str p.1, .str p.2]
def rY (r : List (Str × Str)) : PyData := .tuple (r.map pY)
def pyF (rds : List (List (Str × Str))) : PyData := .tuple (rds.map rY)
theorem isr_py (r : List (Str × Str)) : IsR (rY r) r := ⟨⟨_, rfl, by rw [List.length_map], fun j p q h1 h2 => by
  rw [List.getElem?_map, h2] at h1
  cases h1
  rfl⟩⟩
theorem is3_py (rds : List (List (Str × Str))) : Is3 (pyF rds) rds := ⟨⟨_, rfl, by rw [List.length_map], fun i b r h1 h2 => by
  rw [List.getElem?_map, h2] at h1
  cases h1
  exact isr_py r⟩⟩
theorem rd_tup {h : MH} {n : Nat} {α : Type} {f : α → D} {g : α → PyData} {xs : List α} (l : xs.length ≤ 200) (a : ∀ x ∈ xs, Rd h n (f x) (g x)) : Rd h (n + 1) (.tup (xs.map f)) (.tuple (xs.map g)) :=
  .inr ⟨_, _, fun i x y h1 h2 => by
    rw [List.getElem?_map] at h1 h2
    obtain ⟨z, ez, rfl⟩ := Option.map_eq_some_iff.mp h1
    rw [ez] at h2
    cases h2
    exact a z (List.mem_of_getElem? ez), by rw [List.length_map, List.length_map], by rw [List.length_map]; exact l, .inl ⟨rfl, rfl⟩⟩
theorem Rd.flat {h : MH} {n : Nat} {d : D} {e : PyData} (p : PyOf h d e) (f : flatP e) : Rd h n d e := by
  cases n with
  | zero => exact ⟨p, f⟩
  | succ n => exact .inl ⟨p, f⟩
theorem rd_pair {h : MH} {n : Nat} {p : Str × Str} (a : flatP (.str p.1)) (b : flatP (.str p.2)) : Rd h (n + 1) (pD p) (pY p) := by
  have := rd_tup (h := h) (n := n) (f := D.str) (g := PyData.str) (xs := [p.1, p.2]) (by show (2 : Nat) ≤ 200; decide) fun x hx => by
    simp only [List.mem_cons, List.not_mem_nil, or_false] at hx
    rcases hx with rfl | rfl
    · exact Rd.flat (.str _) a
    · exact Rd.flat (.str _) b
  exact this
theorem rd_dF {h : MH} {n : Nat} {rds : List (List (Str × Str))} (l : rds.length ≤ 200) (a : ∀ r ∈ rds, r.length ≤ 200 ∧ ∀ p ∈ r, flatP (.str p.1) ∧ flatP (.str p.2)) : Rd h (n + 3) (dF rds) (pyF rds) :=
  rd_tup l fun r hr => rd_tup (a r hr).1 fun p hp => rd_pair ((a r hr).2 p hp).1 ((a r hr).2 p hp).2
theorem sq_dF {h : MH} {n : Nat} {rds : List (List (Str × Str))} (l : rds.length ≤ 200) (a : ∀ r ∈ rds, r.length ≤ 200) : Sq h (n + 3) (dF rds) (dF rds) :=
  Sq.tup (by rw [List.length_map]; omega) fun x hx => by
    obtain ⟨r, hr, rfl⟩ := List.mem_map.mp hx
    refine Sq.tup (by rw [List.length_map]; have := a r hr; omega) fun y hy => ?_
    obtain ⟨p, _, rfl⟩ := List.mem_map.mp hy
    refine Sq.tup (by show (2 : Nat) ≤ 1000; decide) fun z hz => ?_
    simp only [List.mem_cons, List.not_mem_nil, or_false] at hz
    rcases hz with rfl | rfl <;> exact Sq.flat rfl
theorem name_yes' {s : Str} (h : IsName s) : isNameD (.str s) = true := name_yes h
theorem sd_yes {h : MH} {d : D} {ss : List Str} (i : itemsD h d = some (ss.map D.str)) (hv : Hv h d) (nm : ∀ s ∈ ss, IsName s) (nd : ss.Nodup) (c : cnt4 ss.length = true) : sdOk h d = true ∧ Hnd h d := by
  have l8 := of_decide_eq_true c
  constructor
  · unfold sdOk areN
    rw [i, Bool.and_eq_true]
    refine ⟨names_yes nm nd, ?_⟩
    show cnt4 (ss.map D.str).length = true
    rw [List.length_map]; exact c
  · refine ⟨hv, fun xs e => ?_⟩
    rw [i] at e
    cases e
    refine ⟨by rw [List.length_map]; omega, fun x hx => ?_⟩
    obtain ⟨s, hs, rfl⟩ := List.mem_map.mp hx
    have := (nm s hs).len
    show s.length ≤ 1000
    omega
theorem strs_inj {a b : List Str} (h : a.map D.str = b.map D.str) : a = b := by rw [← strsOf_map a, h, strsOf_map]

theorem rdP_len {n r : Nat} : (seatP n r).length = 1 + (n / 2 - 1) := by
  unfold seatP
  rw [List.length_cons, List.length_map, List.length_range]; omega

end My

namespace My
open PySem PySem.Spec PyProof.Rows L2 SX L3
local macro_rules | `(tactic| walk_at "w") => `(tactic| with_reducible conv => whnf)
local macro_rules | `(tactic| walk_at "ne") => `(tactic| first | assumption | (apply Ne.symm; assumption) | omega)
local macro_rules | `(tactic| walk_at "lk") => `(tactic| first | assumption | exact get_new | (apply get_set; walk_at "lk") | (refine get_push ?_; walk_at "lk") | (refine get_setne ?_ ?_; walk_at "ne"; walk_at "lk"))
local macro_rules | `(tactic| walk_at "kp") => `(tactic| first | assumption | exact Kp.refl | (refine Kp.push ?_; walk_at "kp") | (refine Kp.set ?_ (Or.inl (by simp)); walk_at "kp") | (refine Kp.set ?_ (Or.inr (by omega)); walk_at "kp"))
local macro_rules | `(tactic| walk_at "c") => `(tactic| ((with_reducible refine And.intro ?we ?_); case we => first | decide | exact Nat.le_of_ble_eq_true rfl | exact List.contains_iff_mem.mp rfl | exact (rfl : List.length _ = _) | exact (rfl : (_ : Str) = _) | exact (show (0 : Int) < _ from by decide) | exact Or.inr ⟨by decide, by decide⟩ | exact Or.inl ⟨by decide, by decide⟩ | exact (show _ ∧ _ from ⟨show (0 : Int) < _ from by decide, by decide⟩) | exact ⟨by decide, by decide, by decide⟩ | exact Or.inl ⟨by omega, by omega⟩ | exact (show (_ : Nat) < _ from by omega) | exact (show (_ : Nat) ≤ _ from by omega) | exact (show (_ : Int) < _ from by omega) | exact (show (_ : Int) ≤ _ from by omega)))
local macro_rules | `(tactic| walk_at "wd") => `(tactic| ((conv => lhs; whnf); try exact rfl))
local macro_rules | `(tactic| walk_at "s") => `(tactic| (walk_at "w"; first | ((with_reducible apply go_var); exact rfl) | ((with_reducible apply go_aug); exact rfl) | ((with_reducible apply lstAt_of); walk_at "lk") | ((with_reducible apply wrAt_of); walk_at "lk") | ((with_reducible apply isL_of); walk_at "lk") | ((with_reducible apply atK_of); exact rfl) | (with_reducible refine isT_non ?_) | (with_reducible refine isT_bl ?_) | (with_reducible refine isT_int ?_) | (with_reducible refine isT_str ?_) | (with_reducible refine isT_tup ?_) | (with_reducible refine isT_kls ?_) | ((with_reducible apply isT_lst); walk_at "lk") | (with_reducible refine tru_bl ?_) | (with_reducible refine tru_non ?_) | (with_reducible refine tru_int ?_) | (with_reducible refine tru_tup ?_) | ((with_reducible apply tru_lst); walk_at "lk") | ((with_reducible apply clsAt_of); walk_at "lk"; rfl) | ((with_reducible apply fldAt_of); walk_at "lk"; rfl) | ((with_reducible apply setF_of); walk_at "lk"; first | decide | exact Nat.le_of_ble_eq_true rfl) | ((with_reducible apply setK_of); walk_at "lk"; rfl) | ((with_reducible refine hd_hit ?we ?wf ?wg ?_); (case we => exact rfl); (case wf => exact rfl); (case wg => exact rfl)) | ((with_reducible refine hd_miss ?we ?wf ?wg ?_); (case we => exact rfl); (case wf => exact rfl); (case wg => exact rfl)) | ((with_reducible refine hd_hit0 ?we ?wf ?_); (case we => exact rfl); (case wf => exact rfl)) | ((with_reducible refine hd_miss0 ?we ?wf ?_); (case we => exact rfl); (case wf => exact rfl)) | (with_reducible refine byErr_of ?_) | ((with_reducible refine ifB_T ?we ?_); case we => exact rfl) | ((with_reducible refine ifB_F ?we ?_); case we => exact rfl) | ((with_reducible apply oDGet_of); walk_at "lk"; exact rfl; exact rfl; walk_at "wd") | ((with_reducible apply oDIn_of); walk_at "lk"; exact rfl) | ((with_reducible apply oDPut_of); walk_at "lk"; exact rfl; first | decide | exact Nat.le_of_ble_eq_true rfl) | ((with_reducible apply dispK_of); exact rfl; exact rfl; first | decide | exact Nat.le_of_ble_eq_true rfl) | walk_at "c" | (delta L3.isNon)))
local macro_rules | `(tactic| walk_at "go") => `(tactic| ((repeat walk_at "s"); (try walk_at "w")))
local macro_rules | `(tactic| walk_at "gd") => `(tactic| first | exact True.intro | ((with_reducible apply lstAt_of); walk_at "lk"; exact rfl) | assumption)
local macro_rules | `(tactic| walk_at "u") => `(tactic| first | walk_at "s" | ((with_reducible refine un_for1 ?g0 ?_); (case g0 => walk_at "gd")) | ((with_reducible refine un_for0 ?g0 ?_); (case g0 => walk_at "gd")) | ((with_reducible refine un_lc1 ?g0 ?_); (case g0 => walk_at "gd")) | ((with_reducible refine un_lc0 ?g0 ?_); (case g0 => walk_at "gd")) | ((with_reducible refine un_lcB ?g0 ?_); (case g0 => walk_at "gd")) | ((with_reducible refine un_lcA ?g0 ?_); (case g0 => walk_at "gd")) | ((with_reducible refine un_lcD ?g0 ?_); (case g0 => walk_at "gd")) | ((with_reducible refine un_lcC ?g0 ?_); (case g0 => walk_at "gd")) | (with_reducible refine un_wh ?_))
local macro_rules | `(tactic| walk_at "gu") => `(tactic| ((repeat walk_at "u"); (try walk_at "w")))
/-! ### sides that are none (k34 k35 k36) -/
variable {P : Program} {w : World} {K : PySem.W.Frag} {mg : Str → Option Value} {base : Heap}
theorem sc__law_wrong_sides : C8.scC ["state", "sides", "k", "bad", "many", "rows"] ["state", "sides"] (defScope s__law_wrong_sides) = true := by decide +kernel
theorem cut_to {us : List Str} {m : Nat} (l : m ≤ us.length) : L3.cutD (us.map D.str) none (some (m : Int)) = (us.take m).map D.str := by
  have es : HT.sIx us.length us.length (some (m : Int)) = min m us.length := by
    unfold HT.sIx
    simp only
    first
      | omega
      | (split <;> omega)
  unfold L3.cutD
  rw [List.length_map, show HT.sIx us.length 0 none = 0 from rfl, es, List.drop_zero, Nat.sub_zero, List.map_take, Nat.min_eq_left l]
theorem cut_from {us : List Str} {m : Nat} (l : m ≤ us.length) : L3.cutD (us.map D.str) (some (m : Int)) none = (us.drop m).map D.str := by
  have es : HT.sIx us.length 0 (some (m : Int)) = min m us.length := by
    unfold HT.sIx
    simp only
    first
      | omega
      | (split <;> omega)
  unfold L3.cutD
  rw [List.length_map, show HT.sIx us.length us.length none = us.length from rfl, es, Nat.min_eq_left l, List.map_drop, List.take_of_length_le (by rw [List.length_drop, List.length_map]; exact Nat.le_refl _)]
def BL (q : Nat) : List D := [.str "", .str "A", .str "abcdefghi", .str "a b", .str "a1", .int 5, .non, .tup [.str "a"], .str "-", .bl true, .loc q]
def BadS (h : MH) (d : D) : Prop := Hnd h d ∧ sdOk h d = false
theorem tup_bad {h : MH} {xs : List D} (hv : ∀ x ∈ xs, Hv h x) (l : xs.length ≤ 1000) (b : areL xs = false ∨ cnt4 xs.length = false) : BadS h (.tup xs) := by
  refine ⟨⟨trivial, fun ys e => by cases e; exact ⟨l, hv⟩⟩, ?_⟩
  show (areL xs && cnt4 xs.length) = false
  rcases b with b | b <;> rw [b]
  · rfl
  · exact Bool.and_false _
theorem are_no {xs : List D} {z : D} (m : z ∈ xs) (b : isNameD z = false) : areL xs = false := by
  unfold areL
  rw [show xs.all isNameD = false from List.all_eq_false.mpr ⟨z, m, by rw [b]; decide⟩]
  rfl
theorem are_dup {us : List Str} (n : ¬ us.Nodup) : areL (us.map D.str) = false := by
  unfold areL
  rw [strsOf_map, decide_eq_false n]
  exact Bool.and_false _
theorem hv_names {h : MH} {us : List Str} (n : ∀ s ∈ us, IsName s) : ∀ x ∈ us.map D.str, Hv h x := fun x hx => by
  obtain ⟨s, hs, rfl⟩ := List.mem_map.mp hx
  have := (n s hs).len
  show s.length ≤ 1000
  omega
def sp_ws : SpM := fun ds h Q _ => ∃ a l p, ∃ ss : List Str, ds = [.loc a, .loc p] ∧ Pl h a l ∧ p ≠ a ∧ h[p]? = some (.lst (ss.map D.str)) ∧ cnt4 ss.length = true ∧ (∀ s ∈ ss, IsName s) ∧ ss.Nodup ∧ ∀ h' d, Pl h' a l → Kp [a] h h' → BadS h' d → Q d h'
theorem c__law_wrong_sides (T : TX K mg) : Fn P w K mg base 3 "_law_wrong_sides" sp_ws := by
  refine mk_fn T.h__law_wrong_sides sc__law_wrong_sides (fun _ _ _ _ _ _ us hl => match us, hl with | [_, _], _ => rfl) (fun ds h Q E q => ?_) (fun f cdv A outer s H E hr tk =>
    (css_cons (cs_set (i := 2) rfl (C8.fnScope_by sc__law_wrong_sides).nd rfl (by first | exact Or.inl rfl | exact Or.inr rfl) (ce_call (c__law_take T) hr (by decide) tk (by rfl) (ca_cons (cv 0) (ca_cons (ce_callB b_len (by rfl) T.B.len (by decide +kernel) (ca_cons (cv 1) ca_nil)) ca_nil))))
    (css_cons (cs_set (i := 3) rfl (C8.fnScope_by sc__law_wrong_sides).nd rfl (by first | exact Or.inl rfl | exact Or.inr rfl) (ce_ix (ce_lst (ca_cons ce_str (ca_cons ce_str (ca_cons ce_str (ca_cons ce_str (ca_cons ce_str (ca_cons ce_int (ca_cons ce_non (ca_cons (ce_tup (ca_cons ce_str ca_nil)) (ca_cons ce_str (ca_cons ce_bl (ca_cons (ce_lst (ca_cons ce_str ca_nil)) ca_nil)))))))))))) (ce_call (c__law_take T) hr (by decide) tk (by rfl) (ca_cons (cv 0) (ca_cons ce_int ca_nil))) (fun _ _ => rfl)))
    (css_cons (cs_set (i := 4) rfl (C8.fnScope_by sc__law_wrong_sides).nd rfl (by first | exact Or.inl rfl | exact Or.inr rfl) (ce_callTy b_tuple (by rfl) T.B.tuple (by decide +kernel) (ca_cons (cv 1) ca_nil)))
    (css_cons (cs_set (i := 5) rfl (C8.fnScope_by sc__law_wrong_sides).nd rfl (by first | exact Or.inl rfl | exact Or.inr rfl) (ce_lst (ca_cons ce_non (ca_cons ce_int (ca_cons ce_str (ca_cons (ce_tup ca_nil) (ca_cons (ce_slice (cv 4) (cp_some ce_int) cp_none) (ca_cons (ce_op o_add (cv 4) (ce_tup (ca_cons ce_str ca_nil))) (ca_cons (ce_op o_add (ce_op o_add (ce_slice (cv 4) cp_none (cp_some (cv 2))) (ce_tup (ca_cons (cv 3) ca_nil))) (ce_slice (cv 4) (cp_some (ce_op o_add (cv 2) ce_int)) cp_none)) (ca_cons (ce_op o_add (ce_slice (cv 4) cp_none (cp_some ce_int)) (ce_slice (cv 4) cp_none (cp_some ce_int))) ca_nil))))))))))
    (css_cons (cs_set (i := 5) rfl (C8.fnScope_by sc__law_wrong_sides).nd rfl (by first | exact Or.inl rfl | exact Or.inr rfl) (ce_op o_add (cv 5) (ce_lst (ca_cons (ce_op o_add (ce_op o_add (ce_slice (cv 4) cp_none (cp_some (cv 2))) (ce_tup (ca_cons (ce_ix (cv 4) (ce_op o_sub (cv 2) ce_int) (fun _ _ => rfl)) ca_nil))) (ce_slice (cv 4) (cp_some (ce_op o_add (cv 2) ce_int)) cp_none)) (ca_cons (ce_tup (ca_cons ce_str (ca_cons ce_str (ca_cons ce_str (ca_cons ce_str (ca_cons ce_str (ca_cons ce_str (ca_cons ce_str (ca_cons ce_str (ca_cons ce_str (ca_cons ce_str ca_nil))))))))))) ca_nil)))))
    (css_one (cs_ret (ce_ix (cv 5) (ce_call (c__law_take T) hr (by decide) tk (by rfl) (ca_cons (cv 0) (ca_cons (ce_callB b_len (by rfl) T.B.len (by decide +kernel) (ca_cons (cv 5) ca_nil)) ca_nil))) (fun _ _ => rfl)))))))))) (fun ds h Q E q => ?_)
  · obtain ⟨a, l, p, ss, rfl, _⟩ := q; rfl
  · obtain ⟨a, l, p, ss, rfl, f, np, e, c4, nm, nd, q⟩ := q
    have c4' := of_decide_eq_true c4
    walk_at "go"
    rw [List.length_map]
    refine ⟨a, l, _, rfl, f, by omega, smallI (by omega), fun h1 k f1 k1 hl1 r0 r1 => ?_⟩
    obtain ⟨k, rfl⟩ : ∃ n : Nat, k = n := ⟨k.toNat, by omega⟩
    walk_at "go"
    refine ⟨a, l, _, rfl, f1.nil Kp.refl.push.push, by omega, smallI (by omega), fun h2 x f2 k2 hl2 x0 x1 => ?_⟩
    have l1 : h1.length = h.length := hl1
    have l2 : h2.length = h.length + 2 := by rw [hl2, List.length_append, List.length_append, hl1]; rfl
    have eA : h2[h1.length]? = some (.lst [.str "a"]) := k2.get _ _ (by have := f.lt.1; simp; omega) (get_push get_new)
    have eB : h2[(h1 ++ [Nd.lst [D.str (Str.ofString "a")]]).length]? = some (.lst (BL h1.length)) := k2.get _ _ (by have := f.lt.1; simp; omega) get_new
    obtain ⟨z, ez, hz⟩ := at_in (xs := BL h1.length) (r := x) x0 x1
    have hb : isNameD z = false ∧ ∀ h', h'[h1.length]? = some (.lst [.str "a"]) → Hv h' z := by
      simp only [BL, List.mem_cons, List.not_mem_nil, or_false] at hz
      rcases hz with rfl | rfl | rfl | rfl | rfl | rfl | rfl | rfl | rfl | rfl | rfl <;> first
        | exact ⟨by decide +kernel, fun _ _ => by show _ ≤ 1000; decide +kernel⟩
        | exact ⟨rfl, fun _ _ => trivial⟩
        | exact ⟨rfl, fun _ e => ⟨_, e⟩⟩
    walk_at "go"
    refine atK_of ez ?_
    have e2 := k2.get _ _ (by simpa using np) (get_push (y := Nd.lst (BL h1.length)) (get_push (y := Nd.lst [.str "a"]) (k1.get _ _ (by simpa using np) e)))
    clear eB
    have k1c : ((k : Nat) : Int) + 1 = ((k + 1 : Nat) : Int) := by omega
    have c1 : L3.cutD (ss.map D.str) (some 1) none = (ss.drop 1).map D.str := cut_from (m := 1) (by omega)
    have c2 : L3.cutD (ss.map D.str) none (some 1) = (ss.take 1).map D.str := cut_to (m := 1) (by omega)
    have c3 : L3.cutD (ss.map D.str) none (some (k : Nat)) = (ss.take k).map D.str := cut_to (by omega)
    have c4 : L3.cutD (ss.map D.str) (some ((k : Nat) + 1 : Int)) none = (ss.drop (k + 1)).map D.str := by rw [k1c]; exact cut_from (by omega)
    walk_at "go"
    refine ⟨by rw [List.length_map]; show _ + 1 ≤ _; omega, ?_⟩
    walk_at "go"
    rw [c3]
    refine ⟨by rw [List.length_map, List.length_take]; show _ + 1 ≤ _; omega, ?_⟩
    walk_at "go"
    rw [c4]
    refine ⟨by simp only [List.length_append, List.length_map, List.length_take, List.length_drop, List.length_cons, List.length_nil]; omega, ?_⟩
    walk_at "go"
    rw [c2]
    refine ⟨by simp only [List.length_append, List.length_map, List.length_take, List.length_drop, List.length_cons, List.length_nil]; omega, ?_⟩
    walk_at "go"
    rw [c1]
    obtain ⟨j, jl, jk, ej⟩ : ∃ j, j < ss.length ∧ j ≠ k ∧ atI (ss.map D.str) ((k : Nat) - 1 : Int) = some (.str (ss.getD j "")) := by
      by_cases k0 : k = 0
      · refine ⟨ss.length - 1, by omega, by omega, ?_⟩
        subst k0
        unfold atI ixN
        rw [if_neg (by omega), if_pos (by rw [List.length_map]; omega), List.length_map, show ((((0 : Nat) : Int) - 1) + ((ss.length : Nat) : Int)).toNat = ss.length - 1 by omega]
        show (ss.map D.str)[ss.length - 1]? = _
        rw [List.getElem?_map, List.getElem?_eq_getElem (by omega), getD_at (by omega)]
        rfl
      · refine ⟨k - 1, by omega, by omega, ?_⟩
        rw [show (((k : Nat) : Int) - 1) = ((k - 1 : Nat) : Int) by omega]
        refine atI_nat ?_
        rw [List.getElem?_map, List.getElem?_eq_getElem (by omega), getD_at (by omega)]
        rfl
    refine atK_of ej ?_
    walk_at "go"
    rw [c3]
    refine ⟨by rw [List.length_map, List.length_take]; show _ + 1 ≤ _; omega, ?_⟩
    walk_at "go"
    rw [c4]
    refine ⟨by simp only [List.length_append, List.length_map, List.length_take, List.length_drop, List.length_cons, List.length_nil]; omega, ?_⟩
    walk_at "go"
    refine ⟨a, l, 10, rfl, f2.nil Kp.refl.push.push.push, by decide, smallI (by decide), fun h3 y f3 k3 hl3 y0 y1 => ?_⟩
    obtain ⟨v, ev, hv⟩ := at_in (xs := [D.non, D.int 5, D.str (Str.ofString ""), D.tup [], D.tup (List.map D.str (List.drop 1 ss)), D.tup (List.map D.str ss ++ [D.str (Str.ofString "zzzzzzzz")]), D.tup (List.map D.str (List.take k ss) ++ [z] ++ List.map D.str (List.drop (k + 1) ss)), D.tup (List.map D.str (List.take 1 ss) ++ List.map D.str (List.take 1 ss))] ++ [D.tup (List.map D.str (List.take k ss) ++ [D.str (ss.getD j (Str.ofString ""))] ++ List.map D.str (List.drop (k + 1) ss)), D.tup [D.str (Str.ofString "a"), D.str (Str.ofString "b"), D.str (Str.ofString "c"), D.str (Str.ofString "d"), D.str (Str.ofString "e"), D.str (Str.ofString "f"), D.str (Str.ofString "g"), D.str (Str.ofString "h"), D.str (Str.ofString "i"), D.str (Str.ofString "j")]]) (r := y) y0 y1
    have eC := k3.get _ _ (by have := f.lt.1; simp; omega) (get_new (h := h2 ++ [_] ++ [_]) (y := Nd.lst _))
    have eA3 := k3.get _ _ (by have := f.lt.1; simp; omega) (get_push (get_push (get_push eA)))
    have kk : Kp [a] h h3 := ((k1.trans ((Kp.refl.push.push).nil.trans k2)).push.push.push).trans k3
    walk_at "go"
    refine atK_of ev ?_
    walk_at "go"
    refine q _ _ f3 kk ?_
    have tk : ∀ n, ∀ s ∈ ss.take n, IsName s := fun n s hs => nm s (List.mem_of_mem_take hs)
    have dk : ∀ n, ∀ s ∈ ss.drop n, IsName s := fun n s hs => nm s (List.mem_of_mem_drop hs)
    have hzs : Hv h3 (D.str (Str.ofString "zzzzzzzz")) := by show _ ≤ 1000; decide +kernel
    simp only [List.mem_append, List.mem_cons, List.not_mem_nil, or_false] at hv
    rcases hv with (rfl | rfl | rfl | rfl | rfl | rfl | rfl | rfl) | rfl | rfl
    · exact ⟨⟨trivial, fun ys e => by cases e⟩, rfl⟩
    · exact ⟨⟨trivial, fun ys e => by cases e⟩, rfl⟩
    · exact ⟨⟨by show _ ≤ 1000; decide +kernel, fun ys e => by cases e⟩, rfl⟩
    · exact tup_bad (fun _ z => (nomatch z)) (by decide) (.inr rfl)
    · refine tup_bad (hv_names (dk 1)) (by rw [List.length_map, List.length_drop]; omega) (.inr ?_)
      rw [List.length_map, List.length_drop]
      exact decide_eq_false (by omega)
    · refine tup_bad (fun x hx => ?_) (by rw [List.length_append, List.length_map]; show _ + 1 ≤ _; omega) (.inr ?_)
      · rcases List.mem_append.mp hx with hx | hx
        · exact hv_names nm x hx
        · rw [List.mem_singleton.mp hx]; exact hzs
      · rw [List.length_append, List.length_map]
        exact decide_eq_false (by show ¬ (_ + 1 = 2 ∨ _ + 1 = 4 ∨ _ + 1 = 6 ∨ _ + 1 = 8); omega)
    · refine tup_bad (fun x hx => ?_) (by simp only [List.length_append, List.length_map, List.length_take, List.length_drop, List.length_cons, List.length_nil]; omega) (.inl (are_no (z := z) (by simp) hb.1))
      rcases List.mem_append.mp hx with hx | hx
      · rcases List.mem_append.mp hx with hx | hx
        · exact hv_names (tk k) x hx
        · rw [List.mem_singleton.mp hx]; exact hb.2 _ eA3
      · exact hv_names (dk _) x hx
    · refine tup_bad (fun x hx => ?_) (by simp only [List.length_append, List.length_map, List.length_take]; omega) (.inl ?_)
      · rcases List.mem_append.mp hx with hx | hx <;> exact hv_names (tk 1) x hx
      · rw [← List.map_append]
        refine are_dup fun n => ?_
        obtain ⟨s, r, rfl⟩ : ∃ s r, ss = s :: r := by
          cases ss with
          | nil => simp at c4'
          | cons s r => exact ⟨s, r, rfl⟩
        simp at n
    · refine tup_bad (fun x hx => ?_) (by simp only [List.length_append, List.length_map, List.length_take, List.length_drop, List.length_cons, List.length_nil]; omega) (.inl ?_)
      · rcases List.mem_append.mp hx with hx | hx
        · rcases List.mem_append.mp hx with hx | hx
          · exact hv_names (tk k) x hx
          · rw [List.mem_singleton.mp hx]
            have := (nm _ (by rw [getD_at jl]; exact List.getElem_mem jl)).len (s := ss.getD j "")
            show _ ≤ 1000
            omega
        · exact hv_names (dk _) x hx
      · rw [show [D.str (ss.getD j (Str.ofString ""))] = [ss.getD j (Str.ofString "")].map D.str from rfl, ← List.map_append, ← List.map_append]
        refine are_dup fun n => ?_
        rw [getD_at jl] at n
        obtain ⟨n1, _, n3⟩ := List.nodup_append.mp n
        obtain ⟨_, _, n2⟩ := List.nodup_append.mp n1
        rcases Nat.lt_or_ge j k with c | c
        · exact n2 ss[j] (List.mem_take_iff_getElem.mpr ⟨j, by omega, rfl⟩) ss[j] (List.mem_singleton.mpr rfl) rfl
        · refine n3 ss[j] (List.mem_append_right _ (List.mem_singleton.mpr rfl)) ss[j] (List.mem_drop_iff_getElem.mpr ⟨j - (k + 1), by omega, ?_⟩) rfl
          congr 1
          omega
    · refine tup_bad (fun x hx => ?_) (by show (10 : Nat) ≤ 1000; decide) (.inr rfl)
      simp only [List.mem_cons, List.not_mem_nil, or_false] at hx
      rcases hx with rfl | rfl | rfl | rfl | rfl | rfl | rfl | rfl | rfl | rfl <;> (show _ ≤ 1000; decide +kernel)

end My

namespace My
open PySem PySem.Spec PyProof.Rows L2 SX L3
local macro_rules | `(tactic| walk_at "w") => `(tactic| with_reducible conv => whnf)
local macro_rules | `(tactic| walk_at "ne") => `(tactic| first | assumption | (apply Ne.symm; assumption) | omega)
local macro_rules | `(tactic| walk_at "lk") => `(tactic| first | assumption | exact get_new | (apply get_set; walk_at "lk") | (refine get_push ?_; walk_at "lk") | (refine get_setne ?_ ?_; walk_at "ne"; walk_at "lk"))
local macro_rules | `(tactic| walk_at "kp") => `(tactic| first | assumption | exact Kp.refl | (refine Kp.push ?_; walk_at "kp") | (refine Kp.set ?_ (Or.inl (by simp)); walk_at "kp") | (refine Kp.set ?_ (Or.inr (by omega)); walk_at "kp"))
local macro_rules | `(tactic| walk_at "c") => `(tactic| ((with_reducible refine And.intro ?we ?_); case we => first | decide | exact Nat.le_of_ble_eq_true rfl | exact List.contains_iff_mem.mp rfl | exact (rfl : List.length _ = _) | exact (rfl : (_ : Str) = _) | exact (show (0 : Int) < _ from by decide) | exact Or.inr ⟨by decide, by decide⟩ | exact Or.inl ⟨by decide, by decide⟩ | exact (show _ ∧ _ from ⟨show (0 : Int) < _ from by decide, by decide⟩) | exact ⟨by decide, by decide, by decide⟩ | exact Or.inl ⟨by omega, by omega⟩ | exact (show (_ : Nat) < _ from by omega) | exact (show (_ : Nat) ≤ _ from by omega) | exact (show (_ : Int) < _ from by omega) | exact (show (_ : Int) ≤ _ from by omega)))
local macro_rules | `(tactic| walk_at "wd") => `(tactic| ((conv => lhs; whnf); try exact rfl))
local macro_rules | `(tactic| walk_at "s") => `(tactic| (walk_at "w"; first | ((with_reducible apply go_var); exact rfl) | ((with_reducible apply go_aug); exact rfl) | ((with_reducible apply lstAt_of); walk_at "lk") | ((with_reducible apply wrAt_of); walk_at "lk") | ((with_reducible apply isL_of); walk_at "lk") | ((with_reducible apply atK_of); exact rfl) | (with_reducible refine isT_non ?_) | (with_reducible refine isT_bl ?_) | (with_reducible refine isT_int ?_) | (with_reducible refine isT_str ?_) | (with_reducible refine isT_tup ?_) | (with_reducible refine isT_kls ?_) | ((with_reducible apply isT_lst); walk_at "lk") | (with_reducible refine tru_bl ?_) | (with_reducible refine tru_non ?_) | (with_reducible refine tru_int ?_) | (with_reducible refine tru_tup ?_) | ((with_reducible apply tru_lst); walk_at "lk") | ((with_reducible apply clsAt_of); walk_at "lk"; rfl) | ((with_reducible apply fldAt_of); walk_at "lk"; rfl) | ((with_reducible apply setF_of); walk_at "lk"; first | decide | exact Nat.le_of_ble_eq_true rfl) | ((with_reducible apply setK_of); walk_at "lk"; rfl) | ((with_reducible refine hd_hit ?we ?wf ?wg ?_); (case we => exact rfl); (case wf => exact rfl); (case wg => exact rfl)) | ((with_reducible refine hd_miss ?we ?wf ?wg ?_); (case we => exact rfl); (case wf => exact rfl); (case wg => exact rfl)) | ((with_reducible refine hd_hit0 ?we ?wf ?_); (case we => exact rfl); (case wf => exact rfl)) | ((with_reducible refine hd_miss0 ?we ?wf ?_); (case we => exact rfl); (case wf => exact rfl)) | (with_reducible refine byErr_of ?_) | ((with_reducible refine ifB_T ?we ?_); case we => exact rfl) | ((with_reducible refine ifB_F ?we ?_); case we => exact rfl) | ((with_reducible apply oDGet_of); walk_at "lk"; exact rfl; exact rfl; walk_at "wd") | ((with_reducible apply oDIn_of); walk_at "lk"; exact rfl) | ((with_reducible apply oDPut_of); walk_at "lk"; exact rfl; first | decide | exact Nat.le_of_ble_eq_true rfl) | ((with_reducible apply dispK_of); exact rfl; exact rfl; first | decide | exact Nat.le_of_ble_eq_true rfl) | walk_at "c" | (delta L3.isNon)))
local macro_rules | `(tactic| walk_at "go") => `(tactic| ((repeat walk_at "s"); (try walk_at "w")))
local macro_rules | `(tactic| walk_at "gd") => `(tactic| first | exact True.intro | ((with_reducible apply lstAt_of); walk_at "lk"; exact rfl) | assumption)
local macro_rules | `(tactic| walk_at "u") => `(tactic| first | walk_at "s" | ((with_reducible refine un_for1 ?g0 ?_); (case g0 => walk_at "gd")) | ((with_reducible refine un_for0 ?g0 ?_); (case g0 => walk_at "gd")) | ((with_reducible refine un_lc1 ?g0 ?_); (case g0 => walk_at "gd")) | ((with_reducible refine un_lc0 ?g0 ?_); (case g0 => walk_at "gd")) | ((with_reducible refine un_lcB ?g0 ?_); (case g0 => walk_at "gd")) | ((with_reducible refine un_lcA ?g0 ?_); (case g0 => walk_at "gd")) | ((with_reducible refine un_lcD ?g0 ?_); (case g0 => walk_at "gd")) | ((with_reducible refine un_lcC ?g0 ?_); (case g0 => walk_at "gd")) | (with_reducible refine un_wh ?_))
local macro_rules | `(tactic| walk_at "gu") => `(tactic| ((repeat walk_at "u"); (try walk_at "w")))
/-! ### the law (k35) -/
variable {P : Program} {w : World} {K : PySem.W.Frag} {mg : Str → Option Value} {base : Heap}
theorem c__law_same4 (T : TX K mg) : Fn P w K mg base 6 "_law_same" (sp_same 4) := c__law_sameN T 5
theorem sc__law_refused : C8.scC ["sides", "e"] ["sides"] (defScope s__law_refused) = true := by decide +kernel
theorem sc_law : C8.scC ["script", "state", "many", "sides", "due", "told"] ["script"] (defScope s_law) = true := by decide +kernel
def sp_ref : SpM := fun ds h Q _ => ∃ d, ds = [d] ∧ BadS h d ∧ ∀ h' p, Kp [] h h' → h.length ≤ p → h'[p]? = some (.lst [.int 0, .int 1]) → Q (.loc p) h'
theorem c__law_refused (T : TX K mg) : Fn P w K mg base 6 "_law_refused" sp_ref := by
  refine mk_fn T.h__law_refused sc__law_refused (fun _ _ _ _ _ _ us hl => match us, hl with | [_], _ => rfl) (fun ds h Q E q => ?_) (fun f cdv A outer s H E hr tk =>
    (css_cut (cs_try (errs := ERRS) rfl rfl rfl tk (fun _ _ _ tk' po' => (css_one (cs_expr (ce_call (c_drawn_up T) hr (by decide) tk' (by rfl) (ca_cons (cv 0) ca_nil)))))
    (.named (i := 1) (c := "BadValue") (C8.fnScope_by sc__law_refused).nd rfl rfl ⟨by rfl, by decide, .inl T.g_BadValue⟩ (fun a ha => T.x_BadValue a ha) (fun _ _ _ _ _ _ hz hf => (css_one (cs_ret (ce_lst (ca_cons (ce_byErr (i := 1) T.e_BadValue hz hf (by rfl) (by first | exact Or.inl rfl | exact Or.inr (Or.inl rfl))) (ca_cons (ce_callTy b_int (by rfl) T.B.int (by decide +kernel) (ca_cons (ce_and (ce_isErr (errs := ERRS) (i := 1) (c := "LeagueError") T.kit_LeagueError T.exc hz hf (by rfl) T.B.isinstance T.g_LeagueError (by rfl) (by rfl) (by first | exact Or.inl rfl | exact Or.inr (Or.inl rfl))) (ce_one (ce_not (ce_isErr (errs := ERRS) (i := 1) (c := "BadSide") T.kit_BadSide T.exc hz hf (by rfl) T.B.isinstance T.g_BadSide (by rfl) (by rfl) (by first | exact Or.inl rfl | exact Or.inr (Or.inl rfl)))))) ca_nil)) ca_nil)))))) .nil))
    (css_one (cs_ret (ce_lst ca_nil))))) (fun ds h Q E q => ?_)
  · obtain ⟨d, rfl, _⟩ := q; rfl
  · obtain ⟨d, rfl, ⟨hd, hb⟩, q⟩ := q
    refine ⟨fun _ _ => False, ?_, fun _ _ z => z.elim⟩
    walk_at "go"
    refine ⟨d, rfl, hd, fun _ h1 k1 => ?_, fun ss so => by rw [hb] at so; cases so⟩
    walk_at "go"
    have e1 : (!subC "BadValue" "BadSide") = true := by decide +kernel
    have e2 : (D.int (match (!subC "BadValue" "BadSide") with | true => 1 | false => 0)) = D.int 1 := by rw [e1]
    refine q _ _ (k1.trans Kp.refl.push) k1.le ?_
    refine get_new.trans ?_
    exact congrArg (fun z => some (Nd.lst [D.int 0, z])) e2
theorem seat_ok (n : Nat) (h : cnt4 n = true) : RRb n ((List.range (n - 1)).map (seatP n)) = true := by
  have h := of_decide_eq_true h
  rcases h with rfl | rfl | rfl | rfl <;> decide +kernel
theorem ok_law (T : TX K mg) {f : Addr} {fd : FuncData} (F : FunD K "law" "law" (defArgs s_law) (defBody s_law) (defScope s_law) [] [] f fd) : FnG P w K mg base CX0 9 f fd ["script"] (L3.spLaw K) := by
  refine law_ok rfl (fnok (k := 8) F sc_law ?_ (fun cdv A outer s H E hr tk => (css_cons (cs_set (i := 1) rfl (C8.fnScope_by sc_law).nd rfl (by first | exact Or.inl rfl | exact Or.inr rfl) (ce_call (c__law_start T) hr (by decide) tk (by rfl) (ca_cons (cv 0) ca_nil)))
    (css_cut (cs_for (L2.passes_of rfl) rfl (ci_seq (ce_tup (ca_cons ce_int (ca_cons ce_int (ca_cons ce_int (ca_cons ce_int ca_nil)))))) (cg_name [2] (i := 2) (by decide) rfl (C8.fnScope_by sc_law).nd rfl (by first | exact Or.inl rfl | exact Or.inr rfl) (by first | exact Or.inl rfl | exact Or.inr rfl))
    (css_cons (cs_set (i := 3) rfl (C8.fnScope_by sc_law).nd rfl (by first | exact Or.inl rfl | exact Or.inr rfl) (ce_call (c__law_names T) hr (by decide) tk (by rfl) (ca_cons (cv 1) (ca_cons (cv 2) ca_nil))))
    (css_cons (cs_set (i := 4) rfl (C8.fnScope_by sc_law).nd rfl (by first | exact Or.inl rfl | exact Or.inr rfl) (ce_call (c__law_drawn T) hr (by decide) tk (by rfl) (ca_cons (cv 3) ca_nil)))
    (css_cons (cs_set (i := 5) rfl (C8.fnScope_by sc_law).nd rfl (by first | exact Or.inl rfl | exact Or.inr rfl) (ce_call (c_drawn_up T) hr (by decide) tk (by rfl) (ca_cons (ce_ix (ce_lst (ca_cons (ce_callTy b_tuple (by rfl) T.B.tuple (by decide +kernel) (ca_cons (cv 3) ca_nil)) (ca_cons (ce_callTy b_list (by rfl) T.B.list (by decide +kernel) (ca_cons (cv 3) ca_nil)) ca_nil))) (ce_call (c__law_take T) hr (by decide) tk (by rfl) (ca_cons (cv 1) (ca_cons ce_int ca_nil))) (fun _ _ => rfl)) ca_nil)))
    (css_cut (cs_if (CW.ct (cw_or (ct_not (ct_tru (ce_call (c__law_same4 T) hr (by decide) tk (by rfl) (ca_cons (cv 5) (ca_cons (cv 4) ca_nil))))) (cw_or1 (ct_not (ct_tru (ce_call (c__law_same4 T) hr (by decide) tk (by rfl) (ca_cons (ce_call (c_is_fixtures T) hr (by decide) tk (by rfl) (ca_cons (ce_callTy b_tuple (by rfl) T.B.tuple (by decide +kernel) (ca_cons (cv 3) ca_nil)) (ca_cons (cv 5) ca_nil))) (ca_cons ce_bl ca_nil)))))))) (css_one (cs_ret ce_bl)) css_nil)
    (css_cons (cs_if (ct_not (ct_tru (ce_call (c__law_same4 T) hr (by decide) tk (by rfl) (ca_cons (ce_callK (k_drawn_up_sides T) hr (by decide) tk (by rfl) (ck_cons (cv 3) ck_nil)) (ca_cons (cv 4) ca_nil))))) (css_one (cs_ret ce_bl)) css_nil)
    (css_one (cs_if (ct_not (ct_tru (ce_call (c__law_same4 T) hr (by decide) tk (by rfl) (ca_cons (ce_call (c__law_refused T) hr (by decide) tk (by rfl) (ca_cons (ce_call (c__law_wrong_sides T) hr (by decide) tk (by rfl) (ca_cons (cv 1) (ca_cons (cv 3) ca_nil))) ca_nil)) (ca_cons (ce_lst (ca_cons ce_int (ca_cons ce_int ca_nil))) ca_nil))))) (css_one (cs_ret ce_bl)) css_nil))))))))
    (css_one (cs_ret ce_bl))))) ?_)
  · rintro ds h Q E ⟨ns, rfl, _⟩; rfl
  · rintro ds h Q E ⟨ns, rfl, h63, rfl, q⟩
    walk_at "go"
    refine ⟨ns, rfl, h63, fun h1 a l k1 la ll f1 => ?_⟩
    let I : Nat → Ev → MH → Prop := fun _ ρ' h' => ∃ c2 c3 c4 c5, ρ' = [some (.kls (ns.map D.int)), some (.loc a), c2, c3, c4, c5] ∧ Pl h' a l
    walk_at "go"
    refine ⟨I 4, ?_, ?_⟩
    · walk_at "go"
      refine forGo_ind I ⟨_, _, _, _, rfl, f1⟩ (fun _ _ _ _ _ => trivial) ?_ (fun ρ h z => z)
      rintro i d ρ' h2 R hd ⟨c2, c3, c4, c5, rfl, f2⟩ k
      obtain ⟨m, rfl, mc⟩ : ∃ m : Nat, d = .int (m : Nat) ∧ cnt4 m = true := by
        have := List.mem_of_getElem? hd
        simp only [List.mem_cons, List.not_mem_nil, or_false] at this
        rcases this with rfl | rfl | rfl | rfl
        · exact ⟨2, rfl, rfl⟩
        · exact ⟨4, rfl, rfl⟩
        · exact ⟨6, rfl, rfl⟩
        · exact ⟨8, rfl, rfl⟩
      have m8 := of_decide_eq_true mc
      walk_at "go"
      refine ⟨a, l, m, rfl, f2, by omega, fun h3 p ss f3 k3 lp e3 sl nm nd => ?_⟩
      subst sl
      have la2 := f2.lt
      walk_at "go"
      refine ⟨p, ss, rfl, e3, mc, fun h4 k4 => ?_⟩
      have e4 := k4.get _ _ (by simp) e3
      have F : Fx ss ((List.range (ss.length - 1)).map fun r => (seatP ss.length r).map (gtP ss)) := by
        have := RRb.fx (rds := (List.range (ss.length - 1)).map (seatP ss.length)) nd (seat_ok _ mc)
        rwa [List.map_map] at this
      have du : duS ss = dF ((List.range (ss.length - 1)).map fun r => (seatP ss.length r).map (gtP ss)) := by
        unfold duS dF
        rw [List.map_map]
        refine congrArg D.tup (List.map_congr_left fun r _ => ?_)
        show rndS ss r = rD ((seatP ss.length r).map (gtP ss))
        unfold rndS rD
        rw [List.map_map]
        rfl
      have fl : ∀ s ∈ ss, flatP (.str s) := fun s hs => name_flat (name_yes (nm s hs))
      have gfl : ∀ i, i < ss.length → flatP (.str (ss.getD i "")) := fun i hi => fl _ (by rw [getD_at hi]; exact List.getElem_mem hi)
      have rl : ∀ r ∈ ((List.range (ss.length - 1)).map fun r => (seatP ss.length r).map (gtP ss)), r.length ≤ 200 ∧ ∀ p ∈ r, flatP (.str p.1) ∧ flatP (.str p.2) := fun r hr => by
        obtain ⟨i, hi, rfl⟩ := List.mem_map.mp hr
        have hi := List.mem_range.mp hi
        refine ⟨by rw [List.length_map, rdP_len]; omega, fun p hp => ?_⟩
        obtain ⟨z, hz, rfl⟩ := List.mem_map.mp hp
        obtain ⟨a1, a2⟩ := seat_lt (by omega) hi z hz
        exact ⟨gfl _ a1, gfl _ a2⟩
      have rlen : ((List.range (ss.length - 1)).map fun r => (seatP ss.length r).map (gtP ss)).length ≤ 200 := by rw [List.length_map, List.length_range]; omega
      rw [du]
      generalize ((List.range (ss.length - 1)).map fun r => (seatP ss.length r).map (gtP ss)) = rds at *
      have sq : ∀ h : MH, Sq h 4 (dF rds) (dF rds) := fun h => sq_dF rlen fun r hr => (rl r hr).1
      walk_at "go"
      refine ⟨a, l, 2, rfl, (f3.nil k4).nil Kp.refl.push.push, by decide, smallI (by decide), fun h5 x f5 k5 hl5 x0 x1 => ?_⟩
      obtain ⟨z, ez, hz⟩ := at_in (xs := [D.tup (List.map D.str ss), D.loc (List.length h4)]) (r := x) x0 x1
      have la4 : a < h4.length := by have := k3.le; have := k4.le; omega
      have eZ := k5.get _ _ (by simp; omega) (get_new (h := h4 ++ [Nd.lst (List.map D.str ss)]) (y := Nd.lst [D.tup (List.map D.str ss), D.loc (List.length h4)]))
      have eL : h5[h4.length]? = some (.lst (ss.map D.str)) := k5.get _ _ (by simp; omega) (get_push get_new)
      have e5 := k5.get _ _ (by simp; omega) (get_push (get_push e4))
      have iz : itemsD h5 z = some (ss.map D.str) ∧ Hv h5 z := by
        simp only [List.mem_cons, List.not_mem_nil, or_false] at hz
        rcases hz with rfl | rfl
        · exact ⟨rfl, trivial⟩
        · exact ⟨items_at eL, _, eL⟩
      obtain ⟨z1, z2⟩ := sd_yes iz.1 iz.2 nm nd mc
      have p1 := sd_yes (h := h5) (items_at e5) ⟨_, e5⟩ nm nd mc
      walk_at "go"
      refine atK_of ez ?_
      walk_at "go"
      have same : ∀ {ss' : List Str} {h : MH} {d : D}, itemsD h d = some (ss.map D.str) → itemsD h d = some (ss'.map D.str) → ss' = ss := fun a b => strs_inj (Option.some.inj (b.symm.trans a))
      refine ⟨z, rfl, z2, (fun so => by rw [z1] at so; cases so), fun ss' so it h6 k6 => ?_⟩
      obtain rfl := same iz.1 it
      rw [du]
      have e6 := k6.get _ _ (by simp) e5
      have f6 := f5.nil k6
      walk_at "go"
      refine ⟨fun ρ' h' => ρ' = [some (.kls (ns.map D.int)), some (.loc a), some (.int (ss'.length : Nat)), some (.loc p), some (dF rds), some (dF rds)] ∧ Kp [] h6 h', ?_, ?_⟩
      · walk_at "go"
        refine ⟨_, _, rfl, sq _, ?_⟩
        walk_at "go"
        have p2 := sd_yes (h := h6) (d := .tup (ss'.map D.str)) rfl trivial nm nd mc
        refine ⟨0, _, _, pyF rds, rfl, p2.2, rd_dF rlen rl, by decide, (fun so => by rw [p2.1] at so; cases so), fun ss2 so it n8 nd2 sf h7 k7 => ?_⟩
        obtain rfl := same (h := h6) (d := .tup (ss'.map D.str)) rfl it
        rw [(is3_py rds).fix nd F]
        walk_at "go"
        refine ⟨_, _, rfl, Sq.flat rfl, ?_⟩
        walk_at "go"
        exact ⟨rfl, k7⟩
      rintro ρ' h7 ⟨rfl, k7⟩
      have e7 := k7.get _ _ (by simp) e6
      have f7 := f6.nil k7
      have p7 := sd_yes (h := h7) (items_at e7) ⟨_, e7⟩ nm nd mc
      walk_at "go"
      refine ⟨.loc p, rfl, p7.2, (fun so => by rw [p7.1] at so; cases so), fun ss2 so it h8 k8 => ?_⟩
      obtain rfl := same (items_at e7) it
      rw [du]
      have e8 := k8.get _ _ (by simp) e7
      have f8 := f7.nil k8
      walk_at "go"
      refine ⟨_, _, rfl, sq _, ?_⟩
      walk_at "go"
      refine ⟨a, l, p, _, rfl, f8, by omega, e8, mc, nm, nd, fun h9 d f9 k9 bad => ?_⟩
      walk_at "go"
      refine ⟨d, rfl, bad, fun h10 q10 k10 l10 e10 => ?_⟩
      walk_at "go"
      refine ⟨_, _, rfl, Sq.lst (xs := [.int 0, .int 1]) (by decide) (fun x hx => ?_) (get_push e10) get_new, ?_⟩
      · simp only [List.mem_cons, List.not_mem_nil, or_false] at hx
        rcases hx with rfl | rfl <;> rfl
      walk_at "go"
      exact k _ _ ⟨_, _, _, _, rfl, (f9.nil k10).nil Kp.refl.push⟩
    rintro ρ' h2 ⟨c2, c3, c4, c5, rfl, f2⟩
    walk_at "go"
    exact q h2

end My

namespace My
open PySem PySem.Spec PyProof.Rows L2
theorem facts {P : Program} {w : World} {K : PySem.W.Frag} {h : Heap} {mg : Str → Option Value} {f : Addr} (X : K.In h) (G : h.Ns mainGlobals mg) (hfa : mg ("law" : Str) = some (.ref f)) (x : ex K = true) (c : He.SaysD fa fn K) :
    ∃ fd : FuncData, (∀ (s : Shared) (v : Value), BindsTo s fd ⟨[v], []⟩ [("script", v)]) ∧ ∀ base : Heap, K.In base → base.Ns mainGlobals mg → FnG P w K mg base CX0 9 f fd ["script"] (L3.spLaw K) := by
  obtain ⟨fd, F⟩ := c.def_ 18 (d := d_law) rfl
  have e := hfa.symm.trans (He.glo_ok X G (c.fact 18 (f := .glo "law") rfl))
  cases e
  have b := FunD.bindsA (ps := ["script"]) F fun _ _ _ _ _ _ us hl => match us, hl with | [_], _ => rfl
  exact ⟨fd, fun s v => b s [v] rfl, fun base _ _ => ok_law (tx X G x c) F⟩
end My
open PySem PySem.W PySem.Calls PyProof.Rows
theorem PySem.Challenge.cw_stillmay_k35_drawn_up_by_the_rule_holds : PySem.Challenge.rw_stillmay_k35_drawn_up_by_the_rule.Holds := by
  w_on; o_law
  refine HandSHeadRun.head_any (r := OpenLaw.row PySem.Challenge.rw_stillmay_k35_drawn_up_by_the_rule) (q := view (OpenLaw.row PySem.Challenge.rw_stillmay_k35_drawn_up_by_the_rule).prog [28]) (H := My.hk) (ob := My.ob) (M := 9000) (loose := My.loose) (d := HandSHeadRun.topDef (OpenLaw.row PySem.Challenge.rw_stillmay_k35_drawn_up_by_the_rule).prog 28) (kwd := []) My.ob_eq
    (by kernel_rfl) (fun s => by kernel_rfl) My.run (by kernel_rfl) (by kernel_rfl) (by kernel_rfl) (by rfl) (by first | assumption | decide +kernel) (by decide +kernel) ⟨rfl, rfl, rfl, rfl, rfl, by decide +kernel⟩ ?hw ?hc
  case hw => w_witness2
  case hc =>
    refine L2.walk_ofG (l := PySem.Challenge.rw_stillmay_k35_drawn_up_by_the_rule) (n := 63) (k := 9) (x := "script") (CX := L2.CX0) rfl (by decide) (by kernel_rfl) ⟨⟨rfl, by decide, by decide⟩, rfl⟩ ?F (fun _ _ _ _ z => z)
    intro w mg fa h Y G hmg0
    obtain ⟨K, KX, x, c⟩ := Y
    have hmg : mg ("law" : PySem.Str) = some (.ref fa) := by
      have e : (HandSHeadRun.topDef (OpenLaw.row PySem.Challenge.rw_stillmay_k35_drawn_up_by_the_rule).prog 28).name = ("law" : PySem.Str) := by kernel_rfl
      rw [← e]
      exact hmg0
    obtain ⟨fd, hb, hF⟩ := My.facts (P := (PySem.Challenge.rw_stillmay_k35_drawn_up_by_the_rule).prog) (w := w) KX G hmg x c
    exact ⟨K, fd, L3.spLaw K, KX, hb, fun H a ns hl hO hS => ⟨a, ns, rfl, hO, hS, hl, fun _ => rfl⟩, hF⟩

