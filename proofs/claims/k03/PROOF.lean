import PyProof.Rows.All
import Wide.All
import OpenK.AllK
import Wide.FinOn
import PyProof.EqAt
import PyProof.EqKinds
import PyProof.TupleCall
import HandS.Base
import HandS.Call
import HandS.List
import HandS.Comp
import HandS.Ends
import HandS.Exc
import HandS.ExcOwn
import HandS.TryMany
import HandS.ExcCtx
import HandS.Hot
import HandS.HotCalls
import HandS.ExcIs
import HandS.ExcField
import HandS.IsInst
import HandS.Strs
import HandS.ForMost
import HandS.Wide
import HandS.Defaults
import HandS.Flow
import HandS.Codes
import HandS.HeadHook2
import PySem.Challenge.RW_stillmay_k03_results_entered
import HandS.Walk
import HandS.Deep
import KE.KStateDown
import HandS.Head0
import HandS.Head1
import HandS.Head2
import HandS.HeadEnd
import HandS.HeadHook1
set_option Elab.async false
set_option linter.all false
set_option maxRecDepth 100000
set_option maxHeartbeats 0
set_option exponentiation.threshold 500
namespace PySem
namespace MyX
open PySem.W PySem.Calls PyProof.Rows PySem.HandSPX Builtin Builtin.ObjectAttr
/-! ### own error classes over Exception, with an init that keeps one argument -/
abbrev eTail : List Value := [.type "Exception", .type "BaseException", .type "object"]
def refsE : List Value → Bool
  | .ref _ :: r => refsE r
  | l => l == eTail
theorem refsE_cases : ∀ l : List Value, refsE l = true → (∃ c r, l = .ref c :: r ∧ refsE r = true) ∨ l = eTail
  | [], e => .inr (beq_iff_eq.mp e)
  | .ref c :: r, e => .inl ⟨c, r, rfl, e⟩
  | .none :: _, e => .inr (beq_iff_eq.mp e)
  | .ellipsis :: _, e => .inr (beq_iff_eq.mp e)
  | .notImplemented :: _, e => .inr (beq_iff_eq.mp e)
  | .bool _ :: _, e => .inr (beq_iff_eq.mp e)
  | .int _ _ :: _, e => .inr (beq_iff_eq.mp e)
  | .float _ _ :: _, e => .inr (beq_iff_eq.mp e)
  | .str _ _ :: _, e => .inr (beq_iff_eq.mp e)
  | .bytes _ _ :: _, e => .inr (beq_iff_eq.mp e)
  | .type _ :: _, e => .inr (beq_iff_eq.mp e)
  | .builtin _ :: _, e => .inr (beq_iff_eq.mp e)
theorem refsE_pass (self : Value) : ∀ l : List Value, refsE l = true → refuseLoop self "__setattr__" l = pure () := by
  intro l
  induction l with
  | nil => intro e; exact absurd e (by decide)
  | cons a r ih =>
    intro e
    rcases refsE_cases (a :: r) e with ⟨c, r', q, h⟩ | q
    · obtain ⟨rfl, rfl⟩ := List.cons.inj q
      rw [refuseLoop_ref]; exact ih h
    · rw [q]; exact F.store_Exception.passes self
theorem refsE_contains (X : String) : ∀ l : List Value, refsE l = true → l.contains (.type X) = eTail.contains (.type X) := by
  intro l
  induction l with
  | nil => intro e; exact absurd e (by decide)
  | cons a r ih =>
    intro e
    rcases refsE_cases (a :: r) e with ⟨c, r', q, h⟩ | q
    · obtain ⟨rfl, rfl⟩ := List.cons.inj q
      rw [List.contains_cons, ih h]; rfl
    · rw [q]
theorem refsE_ne {l : List Value} (e : refsE l = true) : l.isEmpty = false := by
  cases l with
  | nil => exact absurd e (by decide)
  | cons _ _ => rfl
section
variable {prog : Program} {w : World} {A : Around} {E : Value → Shared → Prop} {R : Result → Shared → Prop} {hp : Heap} {g : Array GenState} {d : Drawn} {t : Nat} {os : OsState}
theorem exc_osaE {K : W.Frag} {name : Str} {tk : Tok} {v : Value} {x C : Addr} {fv : Array Value} {cd : ClassData}
    (X : K.In hp) (hx : hp.get? x = some { cls := .ref C, data := .fields fv }) (hcd : W.clsIn K C = some cd) (hm : refsE cd.mro = true) (hh : cd.hasDict = true) (ha : W.findIn K (.ref C) name = some none)
    (hq : ∀ h' tk' dx, (∀ b o, b ≠ x → hp.get? b = some o → h'.get? b = some o) → hp.objs.size ≤ dx → dx ≠ x → h'.get? x = some { cls := .ref C, dict := some dx, data := .fields fv } →
      h'.Ns1 dx (fun y => if y = name then some v else none) → R (.ok (.ret .none)) ⟨h', g, d, tk', os⟩) :
    codeAny (model prog w) A (.call (.builtin "object.__setattr__") ⟨[.ref x, .str name tk, v], []⟩) R ⟨hp, g, d, t, os⟩ := by
  have I : W.InstAt hp x { cls := .ref C, data := .fields fv } C none := ⟨hx, rfl, rfl, trivial⟩
  have SF := F.store_object
  have ne := refsE_ne hm
  have hob : cd.mro.contains (.type "object") = true := (refsE_contains "object" _ hm).trans (by decide +kernel)
  have hxs : x ≠ hp.objs.size := Nat.ne_of_lt (Heap.lt_size hx)
  have sub : W.Looks (model prog w) hp (isInstance (.ref x) (.type "object")) true := I.type.andThen (W.looks_mroIn X (by unfold W.mroIn; rw [hcd, Option.bind_some, if_neg (by rw [ne]; decide), hob]))
  refine codeAny_call_builtin SF.slot.plain SF.entry (@W.check_slot (model prog w) _ _ ⟨hp, g, d, t, os⟩ "object.__setattr__" "object" "__setattr__" (.ref x) [.str name tk, v] [] _ SF.kind SF.split sub (SF.args (.ref x) (.str name tk) v) ?_)
  have hmr : W.Looks (model prog w) hp (mroOf (.ref C)) cd.mro := (W.looks_clsIn X hcd).andThen .now
  have L3 : W.Looks (model prog w) hp (storeTaker? none) none := .now
  have hcls : W.Looks (model prog w) hp (classData C) cd := W.looks_clsIn X hcd
  rw [W.osa_eq, refuse_eq]
  refine wpAny_bind (wpAny_bind (I.type.at (wpAny_bind (hmr.at ?_))))
  rw [refsE_pass _ _ hm]
  refine wpAny_pure (wpAny_bind (I.type.at (wpAny_bind ((W.looks_findIn X ha).at (wpAny_bind (L3.at ?_))))))
  show wpAny _ _ (storeInOwnDict (.ref x) (.ref C) (.str name tk) name v false) _ _ _
  obtain ⟨nm, bs, mro, ns, qn, hd, sn, sb, ab, col, del⟩ := cd
  dsimp only at hh
  subst hh
  unfold storeInOwnDict ownDictForStores
  repeat (first | with_reducible refine store_in_new ?_ ?_ | with_reducible refine wpAny_loadPart_at hx ?_ | with_reducible refine hcls.at ?_ | wp_step)
  · exact ⟨_, #[], _, (Heap.get?_update_ne _ _ _ _ hxs.symm).trans (Heap.get?_push_at rfl rfl), rfl, fun e he => absurd he (by simp), fun _ => rfl⟩
  · intro h' tk' hn' hs
    have hx₁ : (hp.push { cls := .type "dict", data := .dict #[] }).get? x = some { cls := .ref C, data := .fields fv } := Heap.get?_push_of_some _ hx
    refine hq h' tk' hp.objs.size (fun b o hb ho => ?_) (Nat.le_refl _) hxs.symm ?_ hn'
    · exact (hs.2 b (Nat.ne_of_lt (Heap.lt_size ho))).trans ((Heap.get?_update_ne _ _ _ _ hb).trans (Heap.get?_push_of_some _ ho))
    · exact (hs.2 x hxs).trans (Heap.get?_update_self _ hx₁ rfl)
end
/-! the text of such an init -/
def iA (n : Str) (p1 p2 : Pos) : Arguments := { posonlyargs := [], args := [{ arg := "self", annotation := none, pos := p1 }, { arg := n, annotation := none, pos := p2 }], vararg := none, kwonlyargs := [], kw_defaults := [], kwarg := none, defaults := [] }
def iB (n : Str) (q1 q2 q3 q4 : Pos) : List Stmt := [.Assign [.Attribute (.Name "self" q1) n q2] (.Name n q3) q4]
def iS (n : Str) : Scope := { kind := .function, names := [(PySem.Str.ofString "self", .local), (n, .local)], isGenerator := false, isCoroutine := false, more := [] }
/-- what the written part says of such a class at C, of its init at fI -/
structure ErrC (K : Frag) (C fI : Addr) (n : Str) : Prop where
  cls : ∃ nm q N bs bm sn sub ab col dd k0 k1 k2 k3 k5, K.lookup C = some (excClassObj nm q C N bs bm true sn sub ab col dd k0 k1 k2 k3 k5 "Exception.__new__") ∧ refsE bm = true
  sa : findIn K (.ref C) "__setattr__" = some (some (.builtin "object.__setattr__"))
  ga : findIn K (.ref C) "__getattribute__" = some (some (.builtin "BaseException.__getattribute__"))
  gg : findIn K (.ref C) "__getattr__" = some none
  noN : findIn K (.ref C) n = some none
  iC : findIn K (.ref C) "__init__" = some (some (.ref fI))
  tC : typeIn K (.ref fI) = some (.type "function")
  kC : keepIn K (.ref C) = true
  exC : subIn K (.ref C) (.type "BaseException") = some true
  tyC : typeIn K (.ref C) = some (.type "type")
  hdC : hasDictIn K C = true
  nn : n ≠ "self" ∧ (n == ("__debug__" : Str)) = false
  fn : ∃ (oc : Value) (od : Option Addr) (kV doc pm : Value) (an : Option Addr) (cdv ct : Value) (osl : Array (Option Value)) (ql : Str) (p1 p2 q1 q2 q3 q4 : Pos),
    K.lookup fI = some ⟨oc, od, .func (fnOf "__init__" ql (iA n p1 p2) (iB n q1 q2 q3 q4) (iS n) .none kV doc pm an cdv ct), osl⟩ ∧ codeIn K cdv ql = true ∧
      ∀ u v : Value, bindArgs (fnOf "__init__" ql (iA n p1 p2) (iB n q1 q2 q3 q4) (iS n) .none kV doc pm an cdv ct) ⟨[u, v], []⟩ = pure [(PySem.Str.ofString "self", u), (n, v)]
theorem kept_but {K : Frag} {h h' : Heap} {x : Addr} (X : K.In h) (hx : K.lookup x = none) (k : ∀ b o, b ≠ x → h.get? b = some o → h'.get? b = some o) : K.In h' := fun a o e =>
  k a o (fun z => by rw [z, hx] at e; cases e) (X a o e)
theorem ldC {M : Model} {s : Shared} {name : Str} {scope : Scope} {L a : Addr} {cd : Value} {m : Str → Option Value} {x : Str} {pos : Pos} {v : Value} {Q : Value → Shared → Prop} {A : Around} {E : Value → Shared → Prop} (hn : s.heap.Ns L m) (hv : m x = some v) (h : Q v s)
    (hd : (x == ("__debug__" : Str)) = false) (hl : (envOfC name scope L a cd).kindOf x = some .local) (hk : scope.kind = .function := by rfl) :
    wpAny M A (eval (.Name x pos) (envOfC name scope L a cd)) Q E s := wpAny_Name (wpAny_loadName_local hk hl hn hv h) hd
/-- what init leaves of a fresh exception at x -/
structure InitEnd (h h' : Heap) (x C dx t1 : Addr) (n : Str) (v : Value) : Prop where
  keep : ∀ b o, b ≠ x → h.get? b = some o → h'.get? b = some o
  obj : h'.get? x = some { cls := .ref C, dict := some dx, data := .fields #[.ref t1, .none, .none, .none, .bool false, .none] }
  dbig : h.objs.size ≤ dx
  dne : dx ≠ x
  ns : h'.Ns1 dx (fun y => if y = n then some v else none)
structure OwnMade (h h' : Heap) (e C d : Addr) (n : Str) (v : Value) : Prop where
  keep : ∀ b o, h.get? b = some o → h'.get? b = some o
  new : h.objs.size ≤ e
  obj : ∃ oe vs, h'.get? e = some oe ∧ oe.cls = .ref C ∧ oe.dict = some d ∧ oe.data = .fields vs ∧ vs[1]? = some .none ∧ vs[2]? = some .none
  dbig : h.objs.size ≤ d
  dne : d ≠ e
  ns : h'.Ns1 d (fun y => if y = n then some v else none)
theorem lk_self {n : Str} (h : n ≠ "self") : (iS n).names.lookup ("self" : Str) = some .local := by
  show List.lookup ("self" : Str) [(PySem.Str.ofString "self", NameKind.local), (n, NameKind.local)] = some .local
  rfl
theorem lk_n {n : Str} : (iS n).names.lookup n = some .local := by
  show List.lookup n [(PySem.Str.ofString "self", NameKind.local), (n, NameKind.local)] = some .local
  rw [List.lookup_cons]
  cases n == PySem.Str.ofString "self" with
  | true => rfl
  | false => rw [List.lookup_cons_self]
section
variable {prog : Program} {w : World} {A : Around} {E : Value → Shared → Prop} {R : Result → Shared → Prop} {s : Shared} {K : Frag} {C fI : Addr} {n : Str}
theorem err_init (T : ErrC K C fI n) {x t0 : Addr} {v : Value} (X : K.In s.heap) (hlim : s.heap.NoLimit) (hx : s.heap.get? x = some (excO C t0)) (hnx : K.lookup x = none) (hroom : A.depth < recursionLimit)
    (hq : ∀ h' tk dx, InitEnd s.heap h' x C dx t0 n v → R (.ok (.ret .none)) { s with heap := h', toks := tk }) :
    codeAny (model prog w) A (.call (.ref fI) ⟨[.ref x, v], []⟩) R s := by
  obtain ⟨oc, od, kV, doc, pm, an, cdv, ct, osl, ql, p1, p2, q1, q2, q3, q4, ho, hcd, hbd⟩ := T.fn
  obtain ⟨nm, q, N, bs, bm, sn, sub, ab, col, dd, k0, k1, k2, k3, k5, hC, hbm⟩ := T.cls
  have hcl : clsIn K C = some { name := nm, bases := bs, mro := .ref C :: bm, ns := N, qualname := q, hasDict := true, slotNames := sn, subclasses := sub, abstract := ab, collection := col, hasDel := false } := by unfold clsIn; rw [hC] <;> rfl
  refine Att.call_fn (binds := [(PySem.Str.ofString "self", .ref x), (n, v)]) X hlim ho hcd hroom (BindsTo.of_eq (hbd _ _)) ?_ (fun s₁ IC => ?_) rfl rfl rfl
  · rw [List.all_cons, List.all_cons, List.all_nil]
    show (((iS n).names.lookup ("self" : Str) == some NameKind.local || (iS n).names.lookup ("self" : Str) == some NameKind.cell) && (((iS n).names.lookup n == some NameKind.local || (iS n).names.lookup n == some NameKind.cell) && true)) = true
    rw [lk_self T.nn.1, lk_n]
    rfl
  obtain ⟨h₁, tk₁, rfl⟩ := IC.toInCall.same
  have k : ∀ b o, s.heap.get? b = some o → h₁.get? b = some o := IC.toInCall.keep
  have hn := IC.toInCall.ns
  have hxL : s.heap.objs.size ≠ x := Nat.ne_of_gt (Heap.lt_size hx)
  have X₁ : K.In h₁ := X.keeps k
  have hx₁ := k _ _ hx
  have kself : (envOfC ql (iS n) s.heap.objs.size fI cdv).kindOf ("self" : Str) = some .local := lk_self T.nn.1
  have kn : (envOfC ql (iS n) s.heap.objs.size fI cdv).kindOf n = some .local := lk_n
  have nd : (["self", n] : List Str).Nodup := List.nodup_cons.mpr ⟨fun hm => T.nn.1 (List.mem_singleton.mp hm).symm, by simp⟩
  -- self.n = n
  show wpAny _ _ (execs _ _) _ _ _
  refine wpAny_execs_cons (plainObj_wpAny_Assign_Attribute ?_)
  refine ldC (v := v) hn (L2.bindL_get (P := ["self", n]) (vs := [.ref x, v]) (i := 1) nd rfl rfl kn) (ldC (v := .ref x) hn (L2.bindL_get (P := ["self", n]) (vs := [.ref x, v]) (i := 0) nd rfl rfl kself) ?_ (by decide) kself) T.nn.2 kn
  refine set_plain X₁ (ox := excO C t0) (od := none) ⟨hx₁, rfl, rfl, trivial⟩ T.sa ?_
  refine exc_osaE X₁ hx₁ hcl (show refsE (.ref C :: bm) = true from hbm) rfl T.noN (fun h₃ tk₃ dx k₃ dn dne hx₃ hn₃ => ?_)
  show wpAny _ _ (execs _ _) _ _ _
  have z : s.heap.objs.size < h₁.objs.size := hn.lt
  exact wpAny_execs_nil (hq h₃ tk₃ dx ⟨fun b o hb e => k₃ b o hb (k b o e), hx₃, Nat.le_of_lt (Nat.lt_of_lt_of_le z dn), dne, hn₃⟩)
theorem one_size (v : Value) : [v].length ≤ sizeLine := by
  rw [sizeLine_eq]
  exact (by decide : 1 ≤ 16777216)
theorem err_made (T : ErrC K C fI n) {v : Value} (X : K.In s.heap) (hlim : s.heap.NoLimit) (hroom : A.depth + 1 < recursionLimit)
    (hq : ∀ h' tk e d, OwnMade s.heap h' e C d n v → R (.ok (.ret (.ref e))) { s with heap := h', toks := tk }) :
    codeAny (model prog w) A (.call (.ref C) ⟨[v], []⟩) R s := by
  obtain ⟨nm, q, N, bs, bm, sn, sub, ab, col, dd, k0, k1, k2, k3, k5, hC, hbm⟩ := T.cls
  obtain ⟨hp, g, dr, tk, os⟩ := s
  have k : ∀ b o, hp.get? b = some o → ((hp.push (kdv_tup [v])).push (excO C hp.objs.size)).get? b = some o := fun b o e => Heap.get?_push_of_some _ (Heap.get?_push_of_some _ e)
  have hget : ((hp.push (kdv_tup [v])).push (excO C hp.objs.size)).get? (hp.objs.size + 1) = some (excO C hp.objs.size) := by heap_get
  have hnx : K.lookup (hp.objs.size + 1) = none := by
    cases e : K.lookup (hp.objs.size + 1) with
    | none => rfl
    | some o =>
      have z : hp.get? (hp.objs.size + 1) = some o := X _ _ e
      exact absurd (Nat.lt_of_succ_lt (Heap.lt_size z)) (Nat.lt_irrefl _)
  refine call_own F.excBase_Exception (fun X => refsE_contains X bm hbm) (X _ _ hC) (looks_findIn X T.iC) (fun self => bind_fn X self T.tC) (one_size v) ?_
  refine err_init (s := ⟨(hp.push (kdv_tup [v])).push (excO C hp.objs.size), g, dr, tk, os⟩) T (X.keeps k) (hlim.keeps k) hget hnx ?_ fun h' tk' dx ⟨k', hx, dn, dne, hns⟩ => ?_
  · show A.depth + 1 < recursionLimit
    exact hroom
  · have old : ∀ b o, hp.get? b = some o → h'.get? b = some o := fun b o e => k' b o (Nat.ne_of_lt (Nat.lt_succ_of_lt (Heap.lt_size e))) (k b o e)
    have z : hp.objs.size + 1 + 1 ≤ dx := by
      first
        | (simpa only [Heap.size_push] using dn)
        | exact dn
        | (have q := dn; rw [Heap.size_push, Heap.size_push] at q; exact q)
    exact ⟨rfl, hq h' tk' (hp.objs.size + 1) dx ⟨old, Nat.le_succ _, ⟨_, _, hx, rfl, rfl, rfl, rfl, rfl⟩, Nat.le_trans (Nat.le_trans (Nat.le_succ _) (Nat.le_succ _)) z, dne, hns⟩⟩
end
end MyX
end PySem
namespace L2
open PySem PySem.Spec PyProof.Rows
theorem relO_err {n : Str} {v : V} {v' : Value} (r : RelV v v') (f : Str) : RelO (List.lookup f [(n, v)]) (if f = n then some v' else none) := by
  by_cases hw : f = n
  · subst hw
    rw [if_pos rfl]
    have q : List.lookup f [(f, v)] = some v := by simp [List.lookup]
    rw [q]
    exact r
  · rw [if_neg hw]
    have qw : (f == n) = false := by simpa using hw
    have q2 : List.lookup f [(n, v)] = none := by simp [List.lookup, qw]
    rw [q2]
    trivial
section
variable {X : Cx} {C fI : Addr} {n : Str}
/-- C(e) -/
def tMkErr (C : Addr) (n : Str) (ta : TA) : St → Hp → XK → Prop := fun σ H Q => ta σ H fun vs H1 => ∃ v, vs = [v] ∧ ∀ d, H1 d = none → Q (.ref C) (some d) (upd H1 d (.xd [(n, v)]))
theorem pmk_err {cn : Str} {a : Expr} {ta : TA} {p pos : Pos} {k : Nat} (T : PySem.MyX.ErrC X.K C fI n) (hm : X.mg cn = some (.ref C)) (hr : Room k X.A) (ha : PA X [a] ta) (hg : Gl X cn := by rfl)
    (hdb : (cn == ("__debug__" : Str)) = false := by decide)
    (he : starEach (a :: []) X.env = (false, eval a X.env) :: starEach [] X.env := by rfl) (hpl : (backTo pos (starEach [] X.env)).any (·.1) = false := by rfl) :
    L2N.PMk X (.Call (.Name cn p) [a] [] pos) (tMkErr C n ta) := by
  intro pins s σ H Q I h
  refine wpAny_Call_Name_kw (ld_glob I hg hm ?_ hdb)
  refine PySem.W.callWith_K (h₀ := X.base) I.ok.mod.kin T.kC (thn (ha.run pos pins s σ H _ I h) fun us s1 hh => ?_) he hpl
  obtain ⟨vs, H1, I1, r1, v, ev, q1⟩ := hh
  subst ev
  refine ⟨I1.kIn, ?_⟩
  cases r1 with
  | cons rv rn =>
    rename_i v' us'
    cases rn
    show wpAny _ _ (call (.ref C) [v']) _ _ _
    have hlim := I1.nolimit
    obtain ⟨hp, g, dr, tk, os⟩ := s1
    refine wpAny_call (PySem.MyX.err_made T I1.kIn hlim (by have := hr.dp; omega) fun h' tk' e d M => ?_)
    show L2N.MkP X pins σ Q (.ref e) ⟨h', g, dr, tk', os⟩
    obtain ⟨oe, fv, hoe, hc, hd, hdat, h1, h2⟩ := M.obj
    have hns := M.ns
    obtain ⟨G', g1, g2⟩ := restrict h' fun b => decide (b ≠ e)
    have gk : ∀ b, b ≠ e → G'.get? b = h'.get? b := fun b hb => g1 b (decide_eq_true hb)
    have ge : G'.get? e = none := g2 e (by simp)
    have old : ∀ b o, hp.get? b = some o → G'.get? b = some o := fun b o q => (gk b (Nat.ne_of_lt (Nat.lt_of_lt_of_le (Heap.lt_size q) M.new))).trans (M.keep b o q)
    have ob : ObjOk X.prog X.w (upd H1 d (.xd [(n, v)])) G' d (.xd [(n, v)]) :=
      ⟨_, hns.at (fun o q => (gk d M.dne).trans q), fun f => relO_err rv f⟩
    have J : Inv X pins σ (upd H1 d (.xd [(n, v)])) ⟨G', g, dr, tk', os⟩ := I1.laid (t' := tk') old M.dbig ob
    refine ⟨e, oe, fv, ⟨G', g, dr, tk', os⟩, _, .ref C, some d, rfl, J, fun b o q => ?_, ge, hoe, ⟨hc, hd, fun vs' e' => ?_⟩, hdat, h1, ?_, rfl, I1.bare, raises_own T.exC T.tyC, q1 d (I1.hok.fresh M.dbig)⟩
    · by_cases hb : b = e
      · have q' : G'.get? b = some o := q
        rw [hb, ge] at q'; cases q'
      · exact (gk b hb).symm.trans q
    · rw [hdat] at e'
      injection e' with e2
      rw [← e2]
      exact h2
    · rw [upd_ne (Ne.symm M.dne)]
      exact I1.hok.fresh M.new
/-- raise C(e) -/
def tRaiseErr (C : Addr) (n : Str) (W : WX) (ta : TA) : TS := fun _ σ H => tMkErr C n ta σ H fun cls d H' => W cls d σ H'
theorem ps_raiseErr {cn : Str} {a : Expr} {ta : TA} {W : WX} {p pos pos2 : Pos} {k : Nat} (hc : X.calm = true) (T : PySem.MyX.ErrC X.K C fI n) (hm : X.mg cn = some (.ref C)) (hr : Room k X.A) (tk : L2N.Takes X W) (ha : PA X [a] ta) (hg : Gl X cn := by rfl)
    (hdb : (cn == ("__debug__" : Str)) = false := by decide)
    (he : starEach (a :: []) X.env = (false, eval a X.env) :: starEach [] X.env := by rfl) (hpl : (backTo pos (starEach [] X.env)).any (·.1) = false := by rfl) :
    PS X (.Raise (some (.Call (.Name cn p) [a] [] pos)) none pos2) (tRaiseErr C n W ta) := L2N.ps_raise hc tk (pmk_err T hm hr ha hg hdb he hpl)
/-- e.n, e the exception that the suite holds (at a; its class cls, its dict d) -/
def tByErr (n : Str) (C : Addr) (a : Addr) (cls : Value) (d : Option Addr) (te : TE) : TE := fun σ H Q => te σ H fun x H1 => x = .ref a ∧ cls = .ref C ∧ ∃ (dd : Addr) (v : V), d = some dd ∧ H1 dd = some (.xd [(n, v)]) ∧ Q v H1
theorem pe_byErr {a : Addr} {oe : Obj} {cls : Value} {d : Option Addr} {pn : List (Addr × Obj)} {e : Expr} {te : TE} {pos : Pos} (T : PySem.MyX.ErrC X.K C fI n) (hz : Zc cls d oe) (hf : ∃ vs, oe.data = .fields vs) (he : PE (X.suite a ((a, oe) :: pn)) e te)
    (hb : attributeBase e n X.env (eval e X.env) = eval e X.env := by rfl) :
    PE (X.suite a ((a, oe) :: pn)) (.Attribute e n pos) (tByErr n C a cls d te) := by
  refine ⟨fun pins s σ H Q I h => ?_⟩
  refine attr_of hb (thn (he.run pins s σ H _ I h) fun u s1 hh => ?_)
  obtain ⟨x, H1, I1, rx, ex, ec, dd, v, ed, ea, q⟩ := hh
  subst ex
  obtain rfl : u = Value.ref a := rx
  subst ec
  subst ed
  obtain ⟨ha, _⟩ := I1.pin (a, oe) (List.mem_append_left _ List.mem_cons_self)
  obtain ⟨vs, hd⟩ := hf
  have hx : ObjOk X.prog X.w H1 s1.heap dd (.xd [(n, v)]) := I1.hok dd _ ea
  obtain ⟨mA, hns, hr⟩ := hx
  obtain ⟨od, ho, hl⟩ := lookIn_ns hns
  have l : List.lookup n [(n, v)] = some v := by simp [List.lookup]
  obtain ⟨u, hu, ru⟩ := RelO.some_of (v := v) (o := mA n) (by rw [← l]; exact hr n)
  have J : PySem.W.InstAt s1.heap a oe C (some od) := ⟨ha, hz.1, by unfold PySem.W.notCls; rw [hd] <;> rfl, by rw [hz.2]; exact ho⟩
  exact HandSPX.exc_get I1.kIn J T.ga T.gg T.exC (PySem.W.findObj_own T.hdC T.noN rfl (by rw [hl, hu])) (handed_of ru) ⟨v, H1, I1.tok _, ru, q⟩
end
end L2

namespace L2
open PySem PySem.Spec PyProof.Rows
/-! ### several except clauses, each with a name or without -/
abbrev SuT : Type := Addr → Value → Option Addr → TS
def goneD (i : Nat) (D : Ends) : Ends := { nx := fun s h => D.nx (s.set i none) h, rt := D.rt, bk := fun s h => D.bk (s.set i none) h, ct := fun s h => D.ct (s.set i none) h }
def wHds (K : PySem.W.Frag) (Wout : WX) (D : Ends) : List (Value × Option Nat × SuT) → WX
  | [] => Wout
  | (c, none, ts) :: r => fun cls d σ H => ∃ b, PySem.W.exmOne K cls c = some b ∧ (b = true → ∀ a, H a = none → ts a cls d D σ H) ∧ (b = false → wHds K Wout D r cls d σ H)
  | (c, some i, ts) :: r => fun cls d σ H => ∃ b, PySem.W.exmOne K cls c = some b ∧ (b = true → ∀ a, H a = none → ts a cls d (goneD i D) (σ.set i (some (.ref a))) H) ∧ (b = false → wHds K Wout D r cls d σ H)
/-- the suites are read where the caught object is known to have no context -/
abbrev SuOk (X : Cx) (ss : List Stmt) (ts : SuT) : Prop := ∀ (a : Addr) (oe : Obj) (cls : Value) (d : Option Addr) (pn : List (Addr × Obj)), L2N.Zn cls d oe → (∃ vs, oe.data = .fields vs) → PSs (X.suite a ((a, oe) :: pn)) ss (ts a cls d)
inductive Hds (X : Cx) : List ExceptHandler → List (Value × Option Nat × SuT) → Prop
  | nil : Hds X [] []
  | plain {x : Str} {c : Value} {ts : SuT} {b₀ : Stmt} {suite : List Stmt} {np pos' : Pos} {hds : List ExceptHandler} {l : List (Value × Option Nat × SuT)} (hc : Names X x c) (hsu : SuOk X (b₀ :: suite) ts) (r : Hds X hds l) :
      Hds X (.ExceptHandler (some (.Name x np)) none (b₀ :: suite) pos' :: hds) ((c, none, ts) :: l)
  | named {x n : Str} {c : Value} {i : Nat} {ts : SuT} {b₀ : Stmt} {suite : List Stmt} {np pos' : Pos} {hds : List ExceptHandler} {l : List (Value × Option Nat × SuT)} (hN : X.N.Nodup) (hi : X.N[i]? = some n) (hln : X.env.kindOf n = some .local)
      (hc : Names X x c) (hsu : SuOk X (b₀ :: suite) ts) (r : Hds X hds l) :
      Hds X (.ExceptHandler (some (.Name x np)) (some n) (b₀ :: suite) pos' :: hds) ((c, some i, ts) :: l)
/-- the error at a has come down to X's own frame and stands in s; sI: the state without it -/
structure Down (X : Cx) (pins : List (Addr × Obj)) (σ : St) (H : Hp) (B : Heap) (a : Addr) (cls : Value) (d : Option Addr) (sI s : Shared) : Prop where
  was : Inv X pins σ H sI
  nb : ∀ b o, sI.heap.get? b = some o → b ∉ frs X.stack → B.get? b = some o
  up : sI.heap.UpToSlots s.heap
  os : s.os = sI.os
  bare : AllBare s.gens
  free : H a = none
  fly : HandSPX.FlyingZ B (X.env :: X.outer) a (L2N.Zn cls d) s.heap
section
variable {X : Cx} {pins : List (Addr × Obj)} {σ : St} {H : Hp} {B : Heap} {a : Addr} {cls : Value} {d : Option Addr} {sI s : Shared}
theorem Down.inv (K : Down X pins σ H B a cls d sI s) : Inv X pins σ H s := K.was.landed K.nb K.fly.1 K.up K.os K.bare
theorem Down.apart (K : Down X pins σ H B a cls d sI s) (hf : X.env.frame = some X.env.locals) : a ≠ X.env.locals ∧ a ∉ X.fs := by
  have no : a ∉ frs (X.env :: X.outer) := fun hm => by
    obtain ⟨oe, vs, e1, _, e3⟩ := K.fly.there
    obtain ⟨_, o', e2, nf⟩ := K.fly.2.2.1.mem hm
    rw [e1] at e2
    cases e2
    exact nf _ e3
  refine ⟨fun z => no ?_, fun hm => no ?_⟩
  · exact List.mem_filterMap.mpr ⟨X.env, List.mem_cons_self, by rw [hf, z]⟩
  · obtain ⟨e, he, q⟩ := List.mem_filterMap.mp hm
    exact List.mem_filterMap.mpr ⟨e, List.mem_cons_of_mem _ he, q⟩
/-- the same at a heap where only the flight has been set -/
theorem Down.next (K : Down X pins σ H B a cls d sI s) {h' : Heap} (fl : HandSPX.FlyingZ B (X.env :: X.outer) a (L2N.Zn cls d) h') (up : s.heap.UpToSlots h') : Down X pins σ H B a cls d sI { s with heap := h' } :=
  ⟨K.was, K.nb, K.up.trans up, K.os, K.bare, K.free, fl⟩
/-- the context of a suite, as soon as the object is looked at -/
theorem Down.at (K : Down X pins σ H B a cls d sI s) (hf : X.env.frame = some X.env.locals) : ∃ oe, L2N.Zn cls d oe ∧ (∃ vs, oe.data = .fields vs) ∧ s.heap.get? a = some oe ∧ Inv (X.suite a ((a, oe) :: (X.pn ++ pins))) [] σ H s := by
  obtain ⟨oe, vs, e1, e2, e3⟩ := K.fly.there
  obtain ⟨n1, n2⟩ := K.apart hf
  exact ⟨oe, e2, ⟨vs, e3⟩, e1, K.inv.suite e1 e3 K.free n1 n2⟩
theorem Down.look (K : Down X pins σ H B a cls d sI s) (hf : X.env.frame = some X.env.locals) {x : Str} {c : Value} {np : Pos} {b : Bool} {E : Value → Shared → Prop} {Q : Bool → Shared → Prop} (hc : Names X x c) (hb : PySem.W.exmOne X.K cls c = some b) (q : Q b s) :
    wpAny (model X.prog X.w) (X.A.mark (some (.ref a))) (eval (.Name x np) X.env) (fun v s1 => wpAny (model X.prog X.w) (X.A.mark (some (.ref a))) (excMatches (.ref a) v) Q E s1) E s := by
  obtain ⟨oe, z, _, e1, S⟩ := K.at hf
  have LT : PySem.W.Looks (model X.prog X.w) s.heap (typeOf (.ref a)) cls := fun A Q E s' k q => wpAny_typeOf_ref (k _ _ e1) (by rw [z.1]; exact q)
  have m : wpAny (model X.prog X.w) (X.A.mark (some (.ref a))) (excMatches (.ref a) c) Q E s := (PySem.W.exm_one (M := model X.prog X.w) K.inv.kIn LT hb).here q
  obtain ⟨hg, hdb, hm | ⟨hm, hv, hnn⟩⟩ := hc
  · exact ld_glob (X := X.suite a ((a, oe) :: (X.pn ++ pins))) S hg hm m hdb
  · exact ld_blt (X := X.suite a ((a, oe) :: (X.pn ++ pins))) S hg hm hv m hnn hdb
/-- no clause has taken it: it flies on -/
theorem Down.pass (K : Down X pins σ H B a cls d sI s) (hs : X.stack = X.env :: X.outer) (hf : X.env.frame = some X.env.locals) {Wout : WX} (tk : L2N.Takes X Wout) (w : Wout cls d σ H) {Q : Flow → Shared → Prop} :
    wpAny (model X.prog X.w) X.A (handleBy (.ref a) X.env []) Q X.xe s := by
  obtain ⟨_, _, _, oe, vs, T, oT, ts, he, _, hd, h1, _⟩ := id K.fly
  refine wpAny_handleBy_nil ?_
  unfold PySem.passOn
  refine wpAny_bind (wpAny_field he hd h1 ?_)
  rw [if_neg (show ¬ ((Value.ref T == Value.none) = true) from by simp)]
  have on : wpAny (model X.prog X.w) X.A (setFlight (.ref a) X.env.frame) (fun _ s4 => wpAny (model X.prog X.w) X.A (throw (.ref a) : Sem Flow) Q X.xe s4) X.xe s := by
    rw [hf]
    refine HandSPX.setFlight_upZ K.fly fun h4 held up4 => wpAny_throw (tk _ _ ?_)
    exact ⟨a, B, sI, pins, σ, H, cls, d, rfl, K.was, K.nb, K.up.trans up4, .inr (.inr (by rw [hs]; exact held)), K.free, K.os, K.bare, w⟩
  first
    | exact wpAny_bind (wpAny_pure (wpAny_bind on))
    | exact wpAny_bind on
/-- what a suite leaves, where the clause's name goes behind it -/
theorem sp_gone {oe : Obj} {i : Nat} {n : Str} {pos : Pos} {D : Ends} {f : Flow} {s6 : Shared} (ok : X.Ok) (hN : X.N.Nodup) (hi : X.N[i]? = some n) (hl : X.env.kindOf n = some .local) (hsp : SP (X.suite a ((a, oe) :: (X.pn ++ pins))) [] (goneD i D) f s6) :
    wpAny (model X.prog X.w) X.A (do bindName X.env n .none; unbindBehindTheSuite X.env n pos) (fun _ s7 => SP X pins D f s7) X.xe s6 := by
  cases f with
  | ret u =>
    obtain ⟨v, t, H6, S6, r, q⟩ := hsp
    exact gone_ok (S6.unsuite ok) hN hi hl fun _ J => ⟨v, _, H6, J, r, q⟩
  | next =>
    obtain ⟨t, H6, S6, q⟩ := hsp
    exact gone_ok (S6.unsuite ok) hN hi hl fun _ J => ⟨_, H6, J, q⟩
  | brk =>
    obtain ⟨t, H6, S6, q⟩ := hsp
    exact gone_ok (S6.unsuite ok) hN hi hl fun _ J => ⟨_, H6, J, q⟩
  | cont =>
    obtain ⟨t, H6, S6, q⟩ := hsp
    exact gone_ok (S6.unsuite ok) hN hi hl fun _ J => ⟨_, H6, J, q⟩
theorem sp_out {oe : Obj} {D : Ends} {f : Flow} {s6 : Shared} (ok : X.Ok) (hsp : SP (X.suite a ((a, oe) :: (X.pn ++ pins))) [] D f s6) : SP X pins D f s6 := by
  cases f with
  | ret u =>
    obtain ⟨v, t, H6, S6, r, q⟩ := hsp
    exact ⟨v, t, H6, S6.unsuite ok, r, q⟩
  | next =>
    obtain ⟨t, H6, S6, q⟩ := hsp
    exact ⟨t, H6, S6.unsuite ok, q⟩
  | brk =>
    obtain ⟨t, H6, S6, q⟩ := hsp
    exact ⟨t, H6, S6.unsuite ok, q⟩
  | cont =>
    obtain ⟨t, H6, S6, q⟩ := hsp
    exact ⟨t, H6, S6.unsuite ok, q⟩
theorem sp_try {xe : Value → Shared → Prop} {D : Ends} {f : Flow} {s1 : Shared} (ok : X.Ok) (hsp : SP (X.tr (X.pn ++ pins) xe) [] D f s1) : SP X pins D f s1 := by
  cases f with
  | ret u =>
    obtain ⟨v, t, H6, S6, r, q⟩ := hsp
    exact ⟨v, t, H6, S6.ofTry ok, r, q⟩
  | next =>
    obtain ⟨t, H6, S6, q⟩ := hsp
    exact ⟨t, H6, S6.ofTry ok, q⟩
  | brk =>
    obtain ⟨t, H6, S6, q⟩ := hsp
    exact ⟨t, H6, S6.ofTry ok, q⟩
  | cont =>
    obtain ⟨t, H6, S6, q⟩ := hsp
    exact ⟨t, H6, S6.ofTry ok, q⟩
/-- the clauses from some one on -/
theorem Hds.go {Wout : WX} {D : Ends} (hs : X.stack = X.env :: X.outer) (hf : X.env.frame = some X.env.locals) (tk : L2N.Takes X Wout) (K : Down X pins σ H B a cls d sI s) {hds : List ExceptHandler} {l : List (Value × Option Nat × SuT)} (hk : Hds X hds l) :
    wHds X.K Wout D l cls d σ H → wpAny (model X.prog X.w) X.A (handleBy (.ref a) X.env hds) (SP X pins D) X.xe s := by
  have ok := K.inv.ok
  induction hk with
  | nil => exact fun w => K.pass hs hf tk w
  | @plain x c ts b₀ suite np pos' hds2 l2 hc hsu r ih =>
    rintro ⟨b, hb, yes, no⟩
    refine wpAny_handleBy_cons (codeAny_handlers_test (K.look hf hc hb ?_)) (by intro q; cases q)
    cases b with
    | false => exact ih (no rfl)
    | true =>
      refine codeAny_handlers_suite (HandSPX.lands_againZ K.fly fun h4 fl4 up4 => ?_)
      obtain ⟨oe, z, hv, _, S⟩ := (K.next fl4 up4).at hf
      exact wpAny_mono ((hsu a oe cls d (X.pn ++ pins) z hv).run [] _ _ _ _ S (yes rfl a K.free)) (fun f s6 hsp => sp_out ok hsp) fun _ _ z => z.elim
  | @named x n c i ts b₀ suite np pos' hds2 l2 hN hi hl hc hsu r ih =>
    rintro ⟨b, hb, yes, no⟩
    refine wpAny_handleBy_cons (codeAny_handlers_test (K.look hf hc hb ?_)) (by intro q; cases q)
    cases b with
    | false => exact ih (no rfl)
    | true =>
      refine codeAny_handlers_suite_as (HandSPX.lands_againZ K.fly fun h4 fl4 up4 => ?_)
      obtain ⟨oe, z, hv, _, S⟩ := (K.next fl4 up4).at hf
      refine store_ok (X := X.suite a ((a, oe) :: (X.pn ++ pins))) (v := .ref a) S hN hi (.inl hl) rfl (fun s5 S5 => ?_) (.inr hl)
      exact wpAny_mono ((hsu a oe cls d (X.pn ++ pins) z hv).run [] s5 _ _ _ S5 (yes rfl a K.free)) (fun f s6 hsp => sp_gone ok hN hi hl hsp) fun _ _ z => z.elim
end
section
variable {X : Cx} {body : List Stmt} {h₀ : ExceptHandler} {hds : List ExceptHandler} {l : List (Value × Option Nat × SuT)} {pos : Pos} {tb : WX → TS} {Wout : WX}
theorem ps_try_hds (hs : X.stack = X.env :: X.outer) (hf : X.env.frame = some X.env.locals) (tk : L2N.Takes X Wout)
    (hb : ∀ (W : WX) (pn : List (Addr × Obj)) (xe : Value → Shared → Prop), L2N.Takes (X.tr pn xe) W → PassesOwn (model X.prog X.w) X.A X.env xe → PSs (X.tr pn xe) body (tb W))
    (hh : Hds X (h₀ :: hds) l) : PS X (.Try body (h₀ :: hds) [] [] pos) (fun D σ H => tb (wHds X.K Wout D l) D σ H) := by
  refine ⟨fun pins s σ H D I h => ?_⟩
  have ok := I.ok
  refine wpAny_Try_except ?_
  have took : ∀ (xe : Value → Shared → Prop), (∀ u s', L2N.XE (X.tr (X.pn ++ pins) xe) (wHds X.K Wout D l) u s' →
      wpAny (model X.prog X.w) X.A (noteFrame u X.env) (fun _ s2 => wpAny (model X.prog X.w) X.A (setFlight u none) (fun _ s3 => wpAny (model X.prog X.w) X.A (handleBy u X.env (h₀ :: hds)) (SP X pins D) X.xe s3) X.xe s2) X.xe s') := fun xe u s' xx => ?_
  · refine wpAny_mono ((hb (wHds X.K Wout D l) (X.pn ++ pins) _ (took _) PassesOwn.looking).run [] s σ H D (I.toTry _) h) (fun f s1 hsp => ?_) (fun e s1 he => he)
    have q : SP X pins D f s1 := sp_try ok hsp
    cases f with
    | next => exact wpAny_execs_nil q
    | brk => exact q
    | cont => exact q
    | ret u => exact q
  · obtain ⟨a, B, sI, pins', σ', H', cls, d, rfl, J', nb, up, sky, na, os, ag, w⟩ := xx
    have sky' : Sky B (X.env :: X.outer) a (L2N.Zn cls d) X.env.locals s'.heap := by rw [← hs]; exact sky
    show wpAny (model X.prog X.w) X.A (noteFrame (.ref a) X.env) _ _ _
    refine L2N.Sky.land L2N.Zn.steady (by rw [ok.frames, hs]) hf sky' fun h3 fl3 up3 => ?_
    exact hh.go hs hf tk (s := { s' with heap := h3 }) ⟨J'.ofTry ok, nb, up.trans up3, os, ag, na, fl3⟩ w
end
end L2
/-! ### isinstance of a caught error that has its own dict -/
namespace PySem.W
open PySem PySem.Spec PySem.Calls PyProof.Rows
section
variable {prog : Program} {w : World} {A : Around} {E : Value → Shared → Prop} {s : Shared} {K : Frag} {x D : Addr} {ox : Obj} {od : Option Obj}
theorem findObj_dataD {C : Addr} {name : Str} {a g : Value} (hc : (clsIn K C).isSome = true) (ha : findIn K (.ref C) name = some (some a)) (hg : specialIn K a "__get__" = some (some g)) (ht : takesIn K a = some true) : findObj K C od name = some (.bind g a) := by
  obtain ⟨cd, hc⟩ := Option.isSome_iff_exists.mp hc
  unfold findObj
  rw [hc, Option.bind_some, ha, Option.bind_some]
  simp [hg, ht]
theorem kin_classD {Q : Option Value → Shared → Prop} (hga : findIn K (.ref D) "__getattribute__" = some (some (.builtin "BaseException.__getattribute__"))) (hgt : findIn K (.ref D) "__getattr__" = some none) (hsub : subIn K (.ref D) (.type "BaseException") = some true)
    (hdct : hasDictIn K D = true) (ha : findIn K (.ref D) "__class__" = some (some (.builtin "object.__class__")))
    (hn : specialIn K (.builtin "object.__class__") "__get__" = some (some (.builtin "getset_descriptor.__get__"))) (htk : takesIn K (.builtin "object.__class__") = some true) (hm : mroIn K D (.type "object") = some true)
    (X : K.In s.heap) (I : InstAt s.heap x ox D od) (h : Q (some (.ref D)) { s with toks := s.toks + 1 }) : wpAny (model prog w) A (getAttr? (.ref x) "__class__") Q E s := by
  have hf : findObj K D od "__class__" = some (.bind (.builtin "getset_descriptor.__get__") (.builtin "object.__class__")) := findObj_dataD (by obtain ⟨cd, hc, _⟩ := any_some hdct; rw [hc]; rfl) ha hn htk
  obtain ⟨hp, g, d, t, os⟩ := s
  have L0 := I.type (M := model prog w)
  have L1 := looks_findIn (M := model prog w) X hga
  have L2 := looks_findIn (M := model prog w) X hgt
  have L3 := looks_find (M := model prog w) X I hf
  have sub : Looks (model prog w) hp (isInstance (.ref x) (.type "BaseException")) true := L0.andThen (looks_subIn X hsub)
  have hx0 : (false && onTheHeap (Value.builtin "BaseException.__getattribute__")) = false := rfl
  have hx2 : (Value.builtin "BaseException.__getattribute__" == Value.builtin "object.__getattribute__") = false := by decide +kernel
  have hx1 : (onTheHeap (Value.ref D) && Value.builtin "BaseException.__getattribute__" == Value.builtin "object.__getattribute__") = false := by rw [hx2]; rfl
  unfold getAttr? getAttrBy? getAttrBy
  refine wpAny_bind (wpAny_mkText (wpAny_bind (wpAny_attempt (wpAny_holding (wpAny_bind (L0.at (wpAny_bind (L1.at ?_))))))))
  show wpAny _ _ (if (onTheHeap (Value.ref D) && Value.builtin "BaseException.__getattribute__" == Value.builtin "object.__getattribute__") = true then _ else _) _ _ _
  rw [hx1, if_neg Bool.false_ne_true]
  unfold getAttrByItsOwn hookBefore
  refine wpAny_bind ?_
  rw [if_pos (show onTheHeap (Value.ref D) = true from rfl)]
  refine L2.at ?_
  refine wpAny_bind (wpAny_attempt (wpAny_holding ?_))
  unfold callGetattribute
  rw [hx0, if_neg Bool.false_ne_true]
  unfold boundAndCalled
  rw [PySem.F.excAttr_ValueError.ga.bind (.ref x)]
  refine wpAny_bind (wpAny_pure ?_)
  show wpAny _ _ (call (.builtin "BaseException.__getattribute__") [.ref x, .str "__class__" t]) _ _ _
  refine wpAny_call (codeAny_call_builtin PySem.F.excAttr_ValueError.ga.plain PySem.F.entry_bexc_ga ?_)
  refine @check_slot (model prog w) _ _ ⟨hp, g, d, t + 1, os⟩ "BaseException.__getattribute__" "BaseException" "__getattribute__" (.ref x) [.str "__class__" t] [] _ (by decide +kernel) (by decide +kernel) sub (PySem.F.args_bexc_ga (.ref x) (.str "__class__" t)) ?_
  unfold Builtin.«object.__getattribute__»
  refine wpAny_bind (wpAny_of_eq (a := ((Value.ref x : Value), [Value.str "__class__" t])) (by first | rfl | (simp only [slotArgs]; rfl)) ?_)
  refine wpAny_bind (wpAny_pure (wpAny_bind (L0.at (wpAny_bind (L3.at ?_)))))
  show wpAny _ _ (holding [Value.builtin "object.__class__"] (call (.builtin "getset_descriptor.__get__") [.builtin "object.__class__", .ref x, .ref D]) >>= ret) _ _ _
  refine wpAny_bind (wpAny_holding (wpAny_call (class_get (s := ⟨hp, g, d, t + 1, os⟩) (ox := ox) (od := od) X I hm ?_)))
  refine wpAny_pure ?_
  show wpAny _ _ (handedOut (.ref D)) _ _ _
  rw [handedOut_of (v := .ref D) rfl]
  first
    | exact wpAny_pure (wpAny_pure h)
    | exact wpAny_pure h
    | exact wpAny_pure (wpAny_bind (wpAny_pure (wpAny_pure h)))
theorem kitx_excD (hga : findIn K (.ref D) "__getattribute__" = some (some (.builtin "BaseException.__getattribute__"))) (hgt : findIn K (.ref D) "__getattr__" = some none) (hsub : subIn K (.ref D) (.type "BaseException") = some true) (hdct : hasDictIn K D = true) (ha : findIn K (.ref D) "__class__" = some (some (.builtin "object.__class__")))
    (hn : specialIn K (.builtin "object.__class__") "__get__" = some (some (.builtin "getset_descriptor.__get__"))) (htk : takesIn K (.builtin "object.__class__") = some true) (hm : mroIn K D (.type "object") = some true) :
    KitX K (.ref x) (.ref D) (fun h => InstAt h x ox D od) where
  ty := fun _ _ _ I => I.type
  it := fun _ _ X _ => by
    obtain ⟨cdD, hcD, _⟩ := any_some hdct
    unfold clsIn at hcD
    split at hcD
    · rename_i c' d' cd' sl' ho
      intro A' Q' E' s' k q
      unfold isType loadHead
      exact wpAny_bind (wpAny_loadPart (k _ _ (X _ _ ho)) (wpAny_pure q))
    · cases hcD
  ne := fun h tp dd its n sl X htp => by
    obtain ⟨cdD, hcD, _⟩ := any_some hdct
    refine Bool.eq_false_iff.mpr fun q => ?_
    have e : D = tp := Value.ref.inj (beq_iff_eq.mp q)
    subst e
    unfold clsIn at hcD
    split at hcD
    · rename_i c' d' cd' sl' ho
      have z := (X _ _ ho).symm.trans htp
      cases z
    · cases hcD
  ca := fun X I k => kin_classD hga hgt hsub hdct ha hn htk hm X I k
end
end PySem.W
namespace L2
open PySem PySem.Spec PyProof.Rows
theorem inst_of {X : Cx} {a D dd : Addr} {oe : Obj} {pn pins : List (Addr × Obj)} {σ : St} {H : Hp} {s : Shared} {fs : List (Str × V)} (hz : Zc (.ref D) (some dd) oe) (hf : ∃ vs, oe.data = .fields vs) (I : Inv (X.suite a ((a, oe) :: pn)) pins σ H s) (ed : H dd = some (.xd fs)) :
    ∃ od, PySem.W.InstAt s.heap a oe D (some od) := by
  obtain ⟨hget, _⟩ := I.pin (a, oe) (List.mem_append.mpr (.inl List.mem_cons_self))
  obtain ⟨vs, hv⟩ := hf
  have hx : ObjOk X.prog X.w H s.heap dd (.xd fs) := I.hok dd _ ed
  obtain ⟨mA, hns, hr⟩ := hx
  obtain ⟨od, ho, hl⟩ := lookIn_ns hns
  refine ⟨od, ?_⟩
  obtain ⟨oc, oo, oda, osl⟩ := oe
  obtain ⟨h1, h2⟩ := hz
  dsimp only at h1 h2 hv
  subst h1 h2 hv
  exact ⟨hget, rfl, rfl, ho⟩
/-- isinstance(e, c), e the error that the suite holds: of the class at D, with a dict of its own -/
def rIsD (K : PySem.W.Frag) (a : Addr) (cls : Value) (d : Option Addr) : List V → Hp → VK → Prop := fun xs H Q => ∃ (D : Addr) (c : V) (cv : Value) (b : Bool) (dd : Addr) (fs : List (Str × V)), cls = .ref D ∧ ExcC K D ∧ xs = [.ref a, c] ∧ ClsV c cv ∧ PySem.W.kitOne K (.ref D) cv = some b ∧ d = some dd ∧ H dd = some (.xd fs) ∧ Q (.bl b) H
theorem call_isD {X : Cx} {a : Addr} {cls : Value} {d : Option Addr} {oe : Obj} {pn : List (Addr × Obj)} (hz : Zc cls d oe) (hf : ∃ vs, oe.data = .fields vs) : CallR (X.suite a ((a, oe) :: pn)) (.builtin "isinstance") (rIsD X.K a cls d) := by
  intro pins s σ H xs us Q I r h
  obtain ⟨D, c, cv, b, dd, fs, rfl, C, rfl, hcv, e, rfl, ed, q⟩ := h
  cases r with
  | cons rx rr =>
    cases rr with
    | cons rt rr =>
      cases rr
      cases rx
      have ec := hcv.eq rt
      subst ec
      obtain ⟨od, J⟩ := inst_of hz hf I ed
      exact PySem.W.kia_one (PySem.W.kitx_excD C.hg C.hk C.hs C.hd C.ha C.hn C.ht C.hm) I.kIn J e (fun z => nomatch z) fun tk => ⟨.bl b, H, I.kept (t' := tk) fun _ _ z => z, rfl, q⟩
/-- isinstance(e, (c, ..)), the tuple made before -/
def rIsDT (K : PySem.W.Frag) (a : Addr) (cls : Value) (d : Option Addr) : List V → Hp → VK → Prop := fun xs H Q => ∃ (D tp : Addr) (cs : List V) (us : List Value) (b : Bool) (dd : Addr) (fs : List (Str × V)), cls = .ref D ∧ ExcC K D ∧ xs = [.ref a, .ref tp] ∧ H tp = some (.tup cs) ∧ Paired ClsV cs us ∧ PySem.W.kitAny K (.ref D) us = some b ∧ d = some dd ∧ H dd = some (.xd fs) ∧ Q (.bl b) H
theorem call_isDT {X : Cx} {a : Addr} {cls : Value} {d : Option Addr} {oe : Obj} {pn : List (Addr × Obj)} (hz : Zc cls d oe) (hf : ∃ vs, oe.data = .fields vs) : CallR (X.suite a ((a, oe) :: pn)) (.builtin "isinstance") (rIsDT X.K a cls d) := by
  intro pins s σ H xs us Q I r h
  obtain ⟨D, tp, cs, ws, b, dd, fs, rfl, C, rfl, et, hcs, e, rfl, ed, q⟩ := h
  cases r with
  | cons rx rr =>
    cases rr with
    | cons rt rr =>
      cases rr
      cases rx
      cases rt
      obtain ⟨_, its, rv, o, h1, h2, h3⟩ := (show ObjOk X.prog X.w H s.heap tp (.tup cs) from I.hok tp _ et)
      have ei := ClsV.all hcs rv
      subst ei
      obtain ⟨od, J⟩ := inst_of hz hf I ed
      obtain ⟨oc, oo, oda, osl⟩ := o
      dsimp only at h2 h3
      subst h2
      obtain ⟨n, h3⟩ := h3
      subst h3
      exact PySem.W.kia_tup (PySem.W.kitx_excD C.hg C.hk C.hs C.hd C.ha C.hn C.ht C.hm) I.kIn J h1 e (fun z => nomatch z) fun tk => ⟨.bl b, H, I.kept (t' := tk) fun _ _ z => z, rfl, q⟩
end L2

namespace HotX
open PySem PySem.Spec PyProof.Rows
section
variable {prog : Program} {w : World} {A : Around} {E : Value → Shared → Prop} {s : Shared}
theorem pyNext_list_end_hot {it l x1 : Addr} {i : Nat} {items} {Q : Option Value → Shared → Prop} (hot : HotAt A x1 s.heap)
    (hit : s.heap.IsListIter it l i) (hl : s.heap.IsList l items) (hx : items[i]? = none)
    (hQ : ∀ h', Heap.ExtBut it s.heap h' → Q none { s with heap := h' }) : wpAny (model prog w) A (pyNext (.ref it)) Q E s := by
  obtain ⟨hh, o1, vs1, h1, d1, c1⟩ := hot
  obtain ⟨o, ho, hc, hd⟩ := id hit
  obtain ⟨ol, hol, _, nl, hdl⟩ := hl
  have ne : x1 ≠ it := fun z => by
    rw [z, ho] at h1
    have e := Option.some.inj h1
    rw [← e, hd] at d1
    have e2 := Data.fields.inj d1
    rw [← e2] at c1
    simp at c1
  unfold pyNext
  refine wpAny_bind (wpAny_attempt (wpAny_callSpecial?_slot (name := Str.ofString "__next__") hit.typeIs slot_listiter_next
    (wpAny_call_entry slot_listiter_next hit.typeIs entry_listiter_next ?_ (args_listiter_next _))))
  show wpAny _ _ (field (.ref it) 0 >>= _) _ _ s
  refine wpAny_bind (wpAny_field ho hd (x := .ref l) rfl ?_)
  show wpAny _ _ (if (Value.ref l == Value.none) = true then _ else _) _ _ s
  rw [if_neg (show ¬ ((Value.ref l == Value.none) = true) from Bool.false_ne_true)]
  show wpAny _ _ (field (.ref it) 1 >>= _) _ _ s
  refine wpAny_bind (wpAny_field ho hd (x := .int i 0) rfl ?_)
  show wpAny _ _ (seqItems? (.ref l) >>= _) _ _ s
  refine wpAny_bind (wpAny_seqItems hol hdl ?_)
  simp only [Int.toNat_natCast, hx]
  refine wpAny_bind (wpAny_rule (wpAny_bind (wpAny_setField ho hd (by simp) ?_)))
  show wpAny _ _ (newExc (.type "StopIteration") [] >>= _) _ _ _
  refine wpAny_bind ?_
  simp only [newExc, newTuple]
  refine wpAny_bind (wpAny_newObj_type ?_ (by size_fits))
  refine wpAny_bind (m := firstArgMember _ _) (wpAny_of_eq (a := Value.none) (by first | rfl | (simp only [firstArgMember]; rfl)) ?_)
  refine wpAny_newObj_type ?_ (by size_fits)
  have h1' : ∀ f, (s.heap.update it f).get? x1 = some o1 := fun f => by
    rw [Heap.get?_update_other _ _ (Ne.symm ne)]
    exact h1
  refine raiseNew_hot ⟨hh, o1, vs1, Heap.get?_push_of_some _ (Heap.get?_push_of_some _ (h1' _)), d1, c1⟩ (Nat.ne_of_lt (Heap.lt_size (Heap.get?_push_of_some _ (h1' _)))) (Heap.get?_push_size _ rfl) rfl (by first | (simp; done) | (simp; omega) | (simp only [Array.size_append]; simp; omega)) ?_
  refine wpAny_bind (wpAny_isInstance (T := "StopIteration") (b := true) ⟨_, Heap.get?_update_self _ (Heap.get?_push_size _ rfl) rfl, rfl⟩ isSubtype_stop ?_)
  refine wpAny_pure (hQ _ fun b ob hb e => ?_)
  have e2 : ∀ f, (s.heap.update it f).get? b = some ob := fun f => by
    rw [Heap.get?_update_other _ _ (Ne.symm hb)]
    exact e
  rw [Heap.get?_update_other _ _ (Nat.ne_of_gt (Heap.lt_size (Heap.get?_push_of_some _ (e2 _))))]
  exact Heap.get?_push_of_some _ (Heap.get?_push_of_some _ (e2 _))
/-- a list's iterator, walked where an error is handled -/
theorem walks_listH (I ax x1 : Addr) (hne : ax ≠ I) (hn1 : x1 ≠ I) (hh : A.handled = some (.ref x1)) (items : Array Value) :
    Walks prog w A I [I, ax, x1] [I] items.size (fun i v => items[i]? = some v) (fun i h => h.IsListIter I ax i ∧ h.IsList ax items ∧ ∃ o1 vs1, h.get? x1 = some o1 ∧ o1.data = .fields vs1 ∧ vs1[2]? = some .none) where
  sub := fun b hb => by simp at hb; simp [hb]
  frame := fun _ _ _ st hk => ⟨st.1.at fun o e => hk I (by simp) o e, st.2.1.at fun o e => hk ax (by simp) o e, by
    obtain ⟨o1, vs1, a, b, c⟩ := st.2.2
    exact ⟨o1, vs1, hk x1 (by simp) _ a, b, c⟩⟩
  item := fun i s Q E hi st hQ => by
    refine wpAny_pyNext_list_item st.1 st.2.1 (x := items[i]) (by simp [hi]) fun h' hit' hs' => ?_
    obtain ⟨o1, vs1, a, b, c⟩ := st.2.2
    exact hQ _ h' s.toks (by simp [hi]) ⟨hit', st.2.1.extBut hs'.extBut hne, o1, vs1, hs'.extBut x1 _ hn1 a, b, c⟩ fun b o hb e => hs'.extBut b o (fun h => hb (by simp [h])) e
  done := fun s Q E st hQ => by
    obtain ⟨o1, vs1, a, b, c⟩ := st.2.2
    exact pyNext_list_end_hot ⟨hh, o1, vs1, a, b, c⟩ st.1 st.2.1 (by simp) fun h' he' => hQ h' s.toks fun b o hb e => he' b o (fun h => hb (by simp [h])) e
  self := fun _ _ _ _ st hQ => wpAny_pyIter_listiter st.1 hQ
end
end HotX
namespace L2
open PySem PySem.Spec PyProof.Rows
/-! ### all(xs) of a list of bools, where an error is handled -/
theorem cr_allH {X : Cx} (hc : L2H.HotC X) : CallR X (.builtin "all") (rAll X.K) := by
  intro pins s σ H vs us Q I r h
  obtain ⟨a, bs, rfl, hs, q⟩ := h
  obtain ⟨its, rv, hl, _⟩ := I.list hs
  rw [Vals.ref1 r]
  have hb := rv.bls
  obtain ⟨x1, hh, o1, vs1, g1, d1, c1⟩ := hc.at I
  have hn1 : x1 ≠ s.heap.objs.size := Nat.ne_of_lt (Heap.lt_size g1)
  refine call_all_walk (iter_any hl.isList fun s₂ e2 st hne => ?_)
  subst e2
  refine ⟨_, _, _, _, _, _, _, rfl, HotX.walks_listH (A := X.A.in1) _ a x1 hne hn1 hh its.toArray, ⟨st.1, st.2, o1, vs1, Heap.get?_push_of_some _ g1, d1, c1⟩, truth_bools hb, fun h' tk hk => ?_⟩
  refine ⟨.bl _, H, I.kept fun b o eo => hk b o (fun hmem => ?_) (Heap.get?_push_of_some _ eo), ?_, q⟩
  · rcases List.mem_cons.mp hmem with e1 | hmem
    · exact absurd (e1 ▸ Heap.lt_size eo) (Nat.lt_irrefl _)
    · cases hmem
  · show Value.bool _ = Value.bool _
    rw [← all_range, hb, List.size_toArray, List.length_map]
/-! ### a list comprehension where an error is handled: its block keeps the pins, among them the handled error -/
abbrev Cx.blkH (X : Cx) (s : Shared) (H : Hp) (scope : Scope) (ce : Env) (fp : List Addr) : Cx := (X.blk s H scope ce fp).tr X.pn fun _ _ => False
section
variable {X : Cx} {pins : List (Addr × Obj)} {σ : St} {H : Hp} {s : Shared}
theorem blk_pins {scope : Scope} {ce : Env} {fp : List Addr} {t : St} {s4 : Shared} (I : Inv X pins σ H s) (Ib : Inv (X.blk s H scope ce fp) [] t H s4) (kp : ∀ b o, s.heap.get? b = some o → s4.heap.get? b = some o) (hL : ce.locals = s.heap.objs.size) :
    Inv (X.blkH s H scope ce fp) [] t H s4 := by
  refine ⟨Ib.ok.toTry _ _, Ib.os, Ib.bare, Ib.base, Ib.loc, Ib.cell, Ib.free, Ib.freeC, fun p hp => ?_, Ib.hok, Ib.len⟩
  have hp1 : p ∈ X.pn ++ pins := List.mem_append_left _ (by simpa using hp)
  obtain ⟨g, n, ne, nf, dd⟩ := I.pin p hp1
  exact ⟨kp _ _ g, n, by rw [show (X.blkH s H scope ce fp).env.locals = ce.locals from rfl, hL]; exact Nat.ne_of_lt (Heap.lt_size g), fun hm => (List.mem_cons.mp (I.stkSub p.1 hm)).elim ne nf, dd⟩
end
/-- the loop ahead of some turn -/
def LcSt (Y : Cx) (t : St) (fp : List Addr) (tn : Nat → Heap → Prop) (W : Nat → Nat → Hp → Prop) (n : Nat) (s : Shared) : Prop := ∃ i H, Inv Y [] t H s ∧ tn i s.heap ∧ (∀ b ∈ fp, H b = none) ∧ W i n H
/-- one turn of the block in the context Y, that bears the handled error -/
theorem lc_turnH {Y : Cx} {σ : St} {vs fp : List Nat} {tn : Nat → Heap → Prop} {J : It} {it D : Addr} {W : Nat → Nat → Hp → Prop} {Q : VK} {elt tg : Expr} {ifs : List Expr} {g : TG} {tt : TT} {te : TE} {R : Result → Shared → Prop} {E : Value → Shared → Prop}
    (hot : L2H.HotC Y) (pg : PG Y tg g) (pt : PTs Y ifs tt) (pe : PE Y elt te) (hE : Y.xe = fun _ _ => False) (T : L2H.TurnH Y.prog Y.w Y.K tg J fp it tn)
    (stat : ∀ {t : St} {H : Hp} {s : Shared}, Inv Y [] t H s → (∀ b ∈ fp, H b = none) → ∀ b ∈ fp, FpOk Y [] H b)
    (turn : ∀ i m H, W i m H → (J.stop i H ∧ Q (.ref D) H) ∨ (J.go i H ∧ ∃ Nx : Hp → Prop, (∀ H', Nx H' → ∃ m', m' < m ∧ W (i + 1) m' H') ∧ ∀ x H', J.yld i H x H' → g x (wipe σ vs) H' fun σ2 H2 => wipe σ2 vs = wipe σ vs ∧ tt σ2 H2 fun b H3 =>
      if b = true then te σ2 H3 fun y H4 => ∃ acc, H4 D = some (.lst acc) ∧ acc.length < sizeLine ∧ Nx (upd H4 D (.lst (acc ++ [y]))) else Nx H3))
    (out : ∀ H s, Inv Y [] (wipe σ vs) H s → Q (.ref D) H → R (.ok .next) s) (n : Nat) (s : Shared) (hI : LcSt Y (wipe σ vs) fp tn W n s) :
    wpAny (model Y.prog Y.w) Y.A (pyNext (.ref it)) (fun r s₁ => match r with
      | none => R (.ok .next) s₁
      | some v => wpAny (model Y.prog Y.w) Y.A (letOwnedTupleGo tg (.ref it) v) (fun _ s₁' => wpAny (model Y.prog Y.w) Y.A (assign tg Y.env v) (fun _ s₂ =>
          wpAny (model Y.prog Y.w) Y.A (forIn ifs true fun c r => if r = true then do let ok ← isTrue c Y.env (eval c Y.env); pure (ForInStep.yield ok) else pure (ForInStep.yield r)) (fun ok s₃ =>
            if ok = true then wpAny (model Y.prog Y.w) Y.A (eval elt Y.env) (fun x s₄ =>
              wpAny (model Y.prog Y.w) Y.A (call (.builtin "list.append") [.ref D, x]) (fun _ s₅ => ∃ m, m < n ∧ LcSt Y (wipe σ vs) fp tn W m s₅) E s₄) E s₃
            else ∃ m, m < n ∧ LcSt Y (wipe σ vs) fp tn W m s₃) E s₂) E s₁') E s₁) E s := by
  obtain ⟨i, H5, I5, st5, n5, w5⟩ := hI
  have no : ∀ {α : Type} {t : Sem α} {P P' : α → Shared → Prop} {s : Shared}, wpAny (model Y.prog Y.w) Y.A t P Y.xe s → (∀ a s, P a s → P' a s) → wpAny (model Y.prog Y.w) Y.A t P' E s := fun h k => wpAny_mono h k fun _ _ z => by
    rw [hE] at z
    exact z.elim
  rcases turn i n H5 w5 with ⟨stop, qq⟩ | ⟨go, Nx, hNx, step⟩
  · refine no (T.done Y rfl rfl rfl hot i [] s _ H5 Y.xe I5 (stat I5 n5) st5 stop) fun r s6 ⟨hr, I6⟩ => ?_
    subst hr
    exact out H5 s6 I6 qq
  refine no (T.item Y rfl rfl rfl hot i [] s _ H5 Y.xe I5 (stat I5 n5) st5 go) fun r s6 ⟨u, hr, h6⟩ => ?_
  subst hr
  refine no h6 fun _ s7 ⟨x, H7, I7, r7, y7, st7, n7⟩ => ?_
  have P7 := I7.pinned (stat I7 n7) (T.obj _ _ st7)
  -- behind the turn: the iterator's objects stand as they stood, the block's own names are forgotten
  have fin : ∀ {t8 : St} {s' : Shared} {H' : Hp}, wipe t8 vs = wipe σ vs → Inv Y ([] ++ pinsAt fp s7.heap) t8 H' s' → Nx H' → ∃ m, m < n ∧ LcSt Y (wipe σ vs) fp tn W m s' := fun {t8 s' H'} hw J8 nx => by
    obtain ⟨m', hm, w'⟩ := hNx H' nx
    have at_ : ∀ b ∈ fp, ∀ o, s7.heap.get? b = some o → s'.heap.get? b = some o ∧ H' b = none := fun b hb o e => by
      have z := J8.pin (b, o) (List.mem_append_right _ (List.mem_append_right _ (mem_pinsAt hb e)))
      exact ⟨z.1, z.2.1⟩
    have len : (wipe σ vs).length = t8.length := by rw [← hw, wipe_length]
    refine ⟨m', hm, i + 1, H', (J8.unpinned (pins := [])).weak len (fun j v e => ?_), T.keep _ _ _ st7 fun b hb o e => (at_ b hb o e).1, fun b hb => ?_, w'⟩
    · rw [← hw] at e
      exact (wipe_some e).1
    · obtain ⟨o, e, _⟩ := T.obj _ _ st7 b hb
      exact (at_ b hb o e).2
  refine no (pg.run _ s7 _ H7 x u _ P7 r7 (step x H7 y7)) fun _ s8 ⟨t8, H8, I8, hw, q8⟩ => ?_
  refine no (pt.run _ s8 t8 H8 _ I8 q8) fun b s9 ⟨H9, I9, q9⟩ => ?_
  cases b with
  | false => exact fin hw I9 q9
  | true =>
    refine no (pe.run _ s9 t8 H9 _ I9 q9) fun z s10 ⟨yv, H10, I10, r10, acc, hD, hz, nx⟩ => ?_
    exact app_ok (X := Y) I10 hD hz r10 fun s11 I11 => fin hw I11 nx
section
variable {X : Cx}
theorem pe_lcH {elt tg iter : Expr} {ifs : List Expr} {scope : Scope} {own : List (Str × Nat)} {pos : Pos} {wi : TI} {g : TG} {tt : TT} {te : TE} (hc : L2H.HotC X) (hN : X.N.Nodup) (hi : L2H.PIH X tg iter wi) (ok : BlkOk X.N X.env.scope scope own)
    (hg : ∀ (s : Shared) (H : Hp) (C : Addr) (cl : List (Str × Addr)) (fp : List Addr), PG (X.blkH s H scope (compEnvC scope cl C X.env) fp) tg g) (ht : ∀ (s : Shared) (H : Hp) (C : Addr) (cl : List (Str × Addr)) (fp : List Addr), PTs (X.blkH s H scope (compEnvC scope cl C X.env) fp) ifs tt)
    (he : ∀ (s : Shared) (H : Hp) (C : Addr) (cl : List (Str × Addr)) (fp : List Addr), PE (X.blkH s H scope (compEnvC scope cl C X.env) fp) elt te) (hs : ∀ x, foldedSetIterable iter X.env x = pure x := by intro _; rfl) :
    PE X (.ListComp elt [⟨tg, iter, ifs, 0⟩] scope pos) (tLc wi g tt te (own.map (·.2))) := by
  refine ⟨fun pins s σ H Q I h => ?_⟩
  rw [eval_ListComp]
  have hfree : ∀ y ∈ scope.names, y.2 = .free → ∃ c, X.env.cells.lookup y.1 = some c := fun y hy e => (ok.free y hy e).elim (fun k => I.ok.has _ (.inl k)) fun k => I.ok.has _ (.inr k)
  refine wpAny_comprehension_free rfl hs (closure_ok hfree) ok.kind (fun y hy e => by rw [ok.uniq y hy, e]) (thn (hi.run pins s σ H _ I h) fun xv s1 hx => thn hx fun itv s2 h2 => ?_)
  obtain ⟨it, fp, tn, J, H2, e, I2, T, st2, f2, q⟩ := h2
  subst e
  refine wpAny_newObj_type (newEnv_comp ?_) (by show 0 ≤ sizeLine; decide)
  -- the new list at D, the state s3 with it
  obtain ⟨D, hD⟩ : ∃ D, s2.heap.objs.size = D := ⟨_, rfl⟩
  obtain ⟨W, ⟨m0, w0⟩, turn⟩ := q D (I2.hok.fresh (Nat.le_of_eq hD))
  have I3 : Inv X pins σ (upd H2 D (.lst [])) { s2 with heap := s2.heap.push { cls := .type "list", data := .seq ([] : List Value).toArray } } :=
    I2.laid (t' := s2.toks) (fun b o e => Heap.get?_push_of_some _ e) (Nat.le_of_eq hD) ⟨Nat.zero_le _, [], 0, .nil, by rw [← hD]; exact Heap.get?_push_size _ rfl⟩
  obtain ⟨s3, hs3⟩ : ∃ s3 : Shared, ({ s2 with heap := s2.heap.push { cls := .type "list", data := .seq ([] : List Value).toArray } } : Shared) = s3 := ⟨_, rfl⟩
  have k3 : ∀ b o, s2.heap.get? b = some o → s3.heap.get? b = some o := fun b o e => by
    rw [← hs3]
    exact Heap.get?_push_of_some _ e
  have z3 : s3.heap.objs.size = s2.heap.objs.size + 1 := by
    rw [← hs3]
    exact Heap.size_push ..
  rw [hD, hs3]
  rw [hs3] at I3
  have lt : ∀ b ∈ fp, b < s2.heap.objs.size := fun b hb => by
    obtain ⟨o, e, _⟩ := T.obj _ _ st2 b hb
    exact Heap.lt_size e
  have f3 : ∀ b ∈ fp, FpOk X pins (upd H2 D (.lst [])) b ∧ b < s3.heap.objs.size := fun b hb => by
    refine ⟨⟨?_, (f2 b hb).2⟩, by rw [z3]; exact Nat.lt_succ_of_lt (lt b hb)⟩
    rw [upd_ne (by rw [← hD]; exact Nat.ne_of_lt (lt b hb))]
    exact (f2 b hb).1
  obtain ⟨H3, hH3⟩ : ∃ H3, upd H2 D (.lst []) = H3 := ⟨_, rfl⟩
  rw [hH3] at I3 w0 f3
  -- the block
  have kb : ∀ b o, s3.heap.get? b = some o → (pushCells (s3.heap.push { cls := .type "dict", data := .dict #[] }) scope.names).get? b = some o := fun b o e => pushCells_keeps _ _ _ _ (Heap.get?_push_of_some _ e)
  have I4 := blk_pins I3 (block_start I3 ok hN f3) kb rfl
  have pg := hg s3 H3 s3.heap.objs.size (cellsFrom (s3.heap.objs.size + 1) scope.names (cloFrom X.env.cells scope.names [])) fp
  have pt := ht s3 H3 s3.heap.objs.size (cellsFrom (s3.heap.objs.size + 1) scope.names (cloFrom X.env.cells scope.names [])) fp
  have pe := he s3 H3 s3.heap.objs.size (cellsFrom (s3.heap.objs.size + 1) scope.names (cloFrom X.env.cells scope.names [])) fp
  obtain ⟨ce, hce⟩ : ∃ ce, compEnvC scope (cellsFrom (s3.heap.objs.size + 1) scope.names (cloFrom X.env.cells scope.names [])) s3.heap.objs.size X.env = ce := ⟨_, rfl⟩
  have cL : ce.locals = s3.heap.objs.size := by
    rw [← hce]
    rfl
  show codeAny _ _ (.compStart (.ListComp elt [⟨tg, iter, ifs, 0⟩] scope pos) 0 (.ref it) (.ref D) (compEnvC scope (cellsFrom (s3.heap.objs.size + 1) scope.names (cloFrom X.env.cells scope.names [])) s3.heap.objs.size X.env)) _ _
  rw [hce] at I4 pg pt pe ⊢
  have hot : L2H.HotC (X.blkH s3 H3 scope ce fp) := by
    obtain ⟨p, a, b⟩ := hc
    exact ⟨p, a, b⟩
  have stat : ∀ {t : St} {H' : Hp} {s' : Shared}, Inv (X.blkH s3 H3 scope ce fp) [] t H' s' → (∀ b ∈ fp, H' b = none) → ∀ b ∈ fp, FpOk (X.blkH s3 H3 scope ce fp) [] H' b := fun {t H' s'} I' hn b hb =>
    ⟨hn b hb, (I'.ok.exf b hb).1, I'.ok.exfs b hb, .inl hb, fun x c e => (I'.ok.exf b hb).2 x c e, fun p hp => (f3 b hb).1.2.2.2.2.2 p (List.mem_append_left _ (by simpa using hp))⟩
  have loop := compLoop_any (prog := X.prog) (w := X.w) (A := X.A) (R := compPost (model X.prog X.w) X.A X.xe none (EP X pins σ Q) (.ref D) s3.heap.objs.size) (elt := elt) (target := tg) (iter := iter) (ifs := ifs) (scope := scope) (pos := pos) (it := .ref it) (acc := .ref D) (env := ce)
    (LcSt (X.blkH s3 H3 scope ce fp) (wipe σ (own.map (·.2))) fp tn W) (fun n s hI => lc_turnH (Y := X.blkH s3 H3 scope ce fp) (Q := Q) hot pg pt pe rfl T stat turn (fun H5 s6 I6 qq => ?_) n s hI) m0
    ⟨0, H3, I4, T.keep _ _ _ st2 fun b _ o e => kb b o (k3 b o e), fun b hb => (f3 b hb).1.1, w0⟩
  · exact codeAny_compStart_list loop (T.self X.A 0 _ _ _ (T.keep _ _ _ st2 fun b _ o e => kb b o (k3 b o e)) loop)
  · -- the block is left: the def's own context again
    have I7 : Inv X pins σ H5 s6 := I3.call' (ch := fp) I6.os I6.base I6.hok I6.bare fun b hb => ⟨(f3 b hb).1.2.2.2.1, (f3 b hb).1.2.1, (f3 b hb).1.2.2.2.2.1, (f3 b hb).1.2.2.2.2.2⟩
    have nC : H5 s3.heap.objs.size = none := by
      have z : H5 ce.locals = none := I6.free
      rwa [cL] at z
    obtain ⟨m, hn, _⟩ := I6.loc
    have hn : s6.heap.Ns ce.locals m := hn
    rw [cL] at hn
    obtain ⟨a0, a1, a2, a3, a4, a5⟩ := I3.fpOk (Nat.le_refl _) nC
    exact ⟨m, hn, fun h'' sb => ⟨.ref D, H5, I7.turned (t' := s6.toks) (fun b o hb e => (sb.2 b hb).trans e) a0 a1 a3 a4 a5, rfl, qq⟩⟩
/-- the context of the suite bears the handled error -/
theorem hot_suite {a : Addr} {oe : Obj} {cls : Value} {d : Option Addr} {pn : List (Addr × Obj)} (hz : L2N.Zn cls d oe) (hf : ∃ vs, oe.data = .fields vs) : L2H.HotC (X.suite a ((a, oe) :: pn)) := by
  obtain ⟨vs, hv⟩ := hf
  exact ⟨(a, oe), ⟨rfl, vs, hv, hz.2.2 vs hv⟩, List.mem_cons_self⟩
end
end L2

/-! set(xs) of any number of texts (fewer than 4000), some perhaps twice; len of it -/
namespace MyS
open PySem PySem.Spec PyProof.Rows
/-- the texts of a row, each once -/
def put1 (acc : List Str) (x : Str) : List Str := if acc.contains x then acc else acc ++ [x]
def uq (xs : List Str) : List Str := xs.foldl put1 []
theorem uq_snoc (xs : List Str) (x : Str) : uq (xs ++ [x]) = put1 (uq xs) x := by
  unfold uq
  rw [List.foldl_append]
  rfl
theorem put1_has (acc : List Str) (x k : Str) : (put1 acc x).contains k = (acc.contains k || decide (k = x)) := by
  unfold put1
  split
  · rename_i h
    by_cases e : k = x
    · rw [e, h]; rfl
    · rw [decide_eq_false e, Bool.or_false]
  · rw [List.contains_eq_any_beq, List.contains_eq_any_beq, List.any_append]
    congr 1
    by_cases e : k = x
    · rw [decide_eq_true e, e]; simp
    · rw [decide_eq_false e]; simp [e]
theorem put1_len (acc : List Str) (x : Str) : (put1 acc x).length = if acc.contains x then acc.length else acc.length + 1 := by
  unfold put1
  split <;> simp
theorem uq_take {xs : List Str} {i : Nat} (h : i < xs.length) : uq (xs.take (i + 1)) = put1 (uq (xs.take i)) (xs.getD i Str.empty) := by
  rw [List.take_succ, List.getElem?_eq_getElem h]
  have e : xs.getD i Str.empty = xs[i] := by simp [List.getD, List.getElem?_eq_getElem h]
  rw [e]
  exact uq_snoc _ _
theorem uq_le : ∀ (n : Nat) (xs : List Str), xs.length = n → (uq xs).length ≤ n := by
  intro n
  induction n with
  | zero =>
    intro xs h
    rw [List.eq_nil_of_length_eq_zero h]
    exact Nat.le_refl 0
  | succ n ih =>
    intro xs h
    have hx : xs ≠ [] := fun z => by rw [z] at h; cases h
    have e := List.dropLast_concat_getLast hx
    rw [← e, uq_snoc, put1_len]
    have := ih xs.dropLast (by rw [List.length_dropLast, h]; rfl)
    split <;> omega
theorem uq_le' (xs : List Str) : (uq xs).length ≤ xs.length := uq_le _ xs rfl
theorem uq_mem (xs : List Str) (k : Str) : (uq xs).contains k = xs.contains k := by
  have gen : ∀ (xs acc : List Str), (xs.foldl put1 acc).contains k = (acc.contains k || xs.contains k) := by
    intro xs
    induction xs with
    | nil => intro acc; simp
    | cons x r ih =>
      intro acc
      rw [List.foldl_cons, ih, put1_has, List.contains_cons, Bool.or_assoc]
      congr 2
  have z := gen xs []
  rw [List.contains_nil, Bool.false_or] at z
  exact z
theorem uq_nodup : ∀ (n : Nat) (xs : List Str), xs.length = n → xs.Nodup → uq xs = xs := by
  intro n
  induction n with
  | zero =>
    intro xs h _
    rw [List.eq_nil_of_length_eq_zero h]
    rfl
  | succ n ih =>
    intro xs h nd
    have hx : xs ≠ [] := fun z => by rw [z] at h; cases h
    have e := List.dropLast_concat_getLast hx
    rw [← e] at nd
    rw [List.nodup_append] at nd
    have i1 := ih xs.dropLast (by rw [List.length_dropLast, h]; rfl) nd.1
    have no : xs.dropLast.contains (xs.getLast hx) = false := by
      rw [Bool.eq_false_iff]
      intro c
      exact nd.2.2 _ (List.contains_iff_mem.mp c) _ (List.mem_singleton.mpr rfl) rfl
    conv => lhs; rw [← e]
    rw [uq_snoc, i1]
    unfold put1
    rw [no]
    exact e
theorem uq_lt : ∀ (n : Nat) (xs : List Str), xs.length = n → ¬ xs.Nodup → (uq xs).length < xs.length := by
  intro n
  induction n with
  | zero =>
    intro xs h nd
    rw [List.eq_nil_of_length_eq_zero h] at nd
    exact absurd List.nodup_nil nd
  | succ n ih =>
    intro xs h nd
    have hx : xs ≠ [] := fun z => by rw [z] at h; cases h
    have e := List.dropLast_concat_getLast hx
    have hl : xs.dropLast.length = n := by rw [List.length_dropLast, h]; rfl
    rw [h, ← e, uq_snoc, put1_len]
    by_cases c : xs.dropLast.Nodup
    · have hm : xs.getLast hx ∈ xs.dropLast := by
        refine Classical.byContradiction fun no => nd ?_
        rw [← e, List.nodup_append]
        refine ⟨c, by simp, fun a ha b hb q => no ?_⟩
        rw [List.mem_singleton.mp hb] at q
        rw [← q]
        exact ha
      have hc : (uq xs.dropLast).contains (xs.getLast hx) = true := by rw [uq_mem]; exact List.contains_iff_mem.mpr hm
      rw [hc, if_pos rfl]
      have := uq_le' xs.dropLast
      omega
    · have := ih _ hl c
      split <;> omega
theorem uq_same {xs : List Str} : decide ((uq xs).length = xs.length) = decide xs.Nodup := by
  by_cases h : xs.Nodup
  · rw [uq_nodup _ xs rfl h, decide_eq_true h, decide_eq_true rfl]
  · rw [decide_eq_false h, decide_eq_false (Nat.ne_of_lt (uq_lt _ xs rfl h))]
theorem keepSet {P : Program} {w : World} {h h' : Heap} {a : Addr} {S : Str → Bool} {n : Nat} (R : h.SetOf (strKind P w) a S n) (k : ∀ o, h.get? a = some o → h'.get? a = some o) : h'.SetOf (strKind P w) a S n :=
  match R with
  | ⟨o, x1, x2, x3, e, r⟩ => ⟨o, x1, x2, x3, k o e, r⟩
section
variable {prog : Program} {w : World} {A : Around} {R : Result → Shared → Prop} {I : Addr} {fp wr : List Addr} {G : Array GenState → Array GenState → Prop} {n : Nat} {P : Nat → Value → Prop} {St : Nat → Shared → Prop}
theorem update_texts (W : WalksS prog w A.in1 I fp wr G n P St) {a : Addr} (haf : a ∉ fp) {xs : List Str} (hx : xs.length = n) (hb : n + 1 < scanBound) (hv : ∀ i v, P i v → ∃ t, v = .str (xs.getD i Str.empty) t) :
    ∀ (m i : Nat) (s : Shared), i + m = n → St i s → s.heap.SetOf (strKind prog w) a (fun k => (uq (xs.take i)).contains k) (uq (xs.take i)).length →
      (∀ s2, Moved (a :: wr) G s s2 → s2.heap.SetOf (strKind prog w) a (fun k => (uq xs).contains k) (uq xs).length → R (.ok (.ret .none)) s2) →
      codeAny (model prog w) A (.builtin "set.update.loop" ⟨[.ref a, .ref I], []⟩) R s := by
  have haw : a ∉ wr := fun q => haf (W.sub _ q)
  have up : ∀ b ∈ wr, b ∈ a :: wr := fun b q => List.mem_cons_of_mem _ q
  intro m
  induction m with
  | zero =>
    intro i s e st hS hR
    obtain rfl : i = n := e
    refine codeAny_builtin PyProof.Rows.F.entry_set_update_loop ?_
    rw [Around.under_plainId PyProof.Rows.F.plain_set_update_loop _]
    show wpAny _ A.in1 (pyNext (.ref I) >>= _) _ _ s
    refine wpAny_bind (W.done s _ _ st fun s2 mv => ?_)
    have hS2 := keepSet hS fun o q => mv.heap a o haw q
    rw [List.take_of_length_le (Nat.le_of_eq hx)] at hS2
    exact wpAny_pure (hR s2 (mv.mono up) hS2)
  | succ m ih =>
    intro i s e st hS hR
    have lt : i < n := by omega
    refine codeAny_builtin PyProof.Rows.F.entry_set_update_loop ?_
    rw [Around.under_plainId PyProof.Rows.F.plain_set_update_loop _]
    show wpAny _ A.in1 (pyNext (.ref I) >>= _) _ _ s
    refine wpAny_bind (W.item i s _ _ lt st fun v s2 pv st2 mv => ?_)
    obtain ⟨t, rfl⟩ := hv i v pv
    have hS2 := keepSet hS fun o q => mv.heap a o haw q
    show wpAny _ A.in1 (holding [Value.str (xs.getD i Str.empty) t] (setAdd a (.str (xs.getD i Str.empty) t)) >>= _) _ _ s2
    refine wpAny_bind (wpAny_holding ?_)
    unfold setAdd
    refine wpAny_holding (wpAny_bind ((strKind prog w).pyHash (k := xs.getD i Str.empty) (strKind_is _ _ _ _) ?_))
    have room : (uq (xs.take i)).length + 1 < scanBound := by
      have q1 := uq_le' (xs.take i)
      have q2 := List.length_take_le i xs
      omega
    refine wpAny_setAddHashed_of (knd := strKind prog w) (s := { s2 with toks := s2.toks + 1 }) (strKind_is _ _ _ _) rfl hS2 room fun h3 sb hS3 => ?_
    have eq := uq_take (xs := xs) (i := i) (by omega)
    have hS4 : h3.SetOf (strKind prog w) a (fun k => (uq (xs.take (i + 1))).contains k) (uq (xs.take (i + 1))).length :=
      SetOf_congr hS3 (fun k => by rw [eq, put1_has]) (by rw [eq, put1_len])
    refine wpAny_pure ⟨plainId_quiet PyProof.Rows.F.plain_set_update_loop _, ih (i + 1) _ (by omega) (W.frame _ s2 _ _ st2 (Nat.le_succ _) fun b hbf o q => ?_) hS4 fun s5 mv5 hS5 => ?_⟩
    · rw [sb.2 b fun z => haf (z ▸ hbf)]
      exact q
    · refine hR s5 (Moved.trans W.gtrans ((mv.mono up).then_heap (Nat.le_succ _) fun b o nb q => ?_) mv5) hS5
      rw [sb.2 b fun z => nb (z ▸ List.mem_cons_self)]
      exact q
end
/-- what set(..) wants of the object q: its class, its walk -/
structure Src (prog : Program) (w : World) (T : String) (itO : Obj) (q : Addr) (n : Nat) (P : Nat → Value → Prop) (oq : Obj) : Prop where
  cls : oq.cls = .type T
  alive : itO.isFreed = false
  noSet : isSubtype (.type T) (.type "set") = pure false
  noFrz : isSubtype (.type T) (.type "frozenset") = pure false
  noDict : (Value.type T == Value.type "dict") = false
  opens : ∀ (A : Around) (E : Value → Shared → Prop) (s : Shared) (Q : Value → Shared → Prop), s.heap.get? q = some oq → Q (.ref s.heap.objs.size) { s with heap := s.heap.push itO } → wpAny (model prog w) A (pyIter (.ref q)) Q E s
  walk : ∀ (A : Around) (I : Addr), A.handled = none → q ≠ I → ∃ St, Walks prog w A I [I, q] [I] n P St ∧ ∀ h : Heap, h.get? I = some itO → h.get? q = some oq → St 0 h
theorem src_list {prog : Program} {w : World} {h : Heap} {q : Addr} {items : Array Value} (H : h.IsList q items) : ∃ oq, h.get? q = some oq ∧ Src prog w "list" { cls := .type "list_iterator", data := .fields #[.ref q, .int 0 0] } q items.size (fun i v => items[i]? = some v) oq := by
  obtain ⟨oq, h1, h2, k, h3⟩ := H
  refine ⟨oq, h1, h2, rfl, PySem.F.sub_list_set, PySem.F.sub_list_frozenset, by decide, fun A E s Q e hq => wpAny_pyIter_list ⟨oq, e, h2, k, h3⟩ hq, fun A I hh ne => ⟨_, Walks.list hh I q ne items, fun h5 e1 e2 => ⟨⟨_, e1, rfl, rfl⟩, ⟨oq, e2, h2, k, h3⟩⟩⟩⟩
theorem src_tuple {prog : Program} {w : World} {h : Heap} {q : Addr} {items : Array Value} (H : h.IsTuple q items) : ∃ oq, h.get? q = some oq ∧ Src prog w "tuple" { cls := .type "tuple_iterator", data := .fields #[.ref q, .int 0 0] } q items.size (fun i v => items[i]? = some v) oq := by
  obtain ⟨oq, h1, h2, k, h3⟩ := H
  refine ⟨oq, h1, h2, rfl, PySem.F.sub_tuple_set, PySem.F.sub_tuple_frozenset, by decide, fun A E s Q e hq => wpAny_pyIter_tuple ⟨oq, e, h2, k, h3⟩ hq, fun A I hh ne => ⟨_, Walks.tuple hh I q ne items, fun h5 e1 e2 => ⟨⟨_, e1, rfl, rfl⟩, ⟨oq, e2, h2, k, h3⟩⟩⟩⟩
abbrev setO (led : Bool) : Obj := { cls := .type "set", dict := none, data := .set #[] 0 (.fresh 0 0 led) }
section
variable {prog : Program} {w : World} {A : Around} {E : Value → Shared → Prop} {s : Shared}
/-- how a set's making ends -/
def SetEnd (prog : Program) (w : World) (xs : List Str) (s : Shared) (s2 : Shared) : Prop := ∃ h2 t2, s2 = { s with heap := h2, toks := t2 } ∧ h2.SetOf (strKind prog w) s.heap.objs.size (fun k => (uq xs).contains k) (uq xs).length ∧ ∀ b o, b < s.heap.objs.size → s.heap.get? b = some o → h2.get? b = some o
theorem call_set_src {T : String} {itO oq : Obj} {q : Addr} {xs : List Str} {P : Nat → Value → Prop} {Q : Value → Shared → Prop} (S : Src prog w T itO q xs.length P oq) (hh : A.handled = none) (hb : xs.length + 1 < scanBound) (hv : ∀ i v, P i v → ∃ t, v = .str (xs.getD i Str.empty) t) (hq : s.heap.get? q = some oq)
    (k : ∀ s2, SetEnd prog w xs s s2 → Q (.ref s.heap.objs.size) s2) : wpAny (model prog w) A (call (.type "set") [.ref q]) Q E s := by
  obtain ⟨_, _, mro⟩ := PySem.F.called_set.mro
  obtain ⟨made, sub, m1, m2, m3⟩ := And.intro PySem.F.called_set.made (And.intro PySem.F.called_set.sub (And.intro PySem.F.called_set.notType (And.intro PySem.F.called_set.canCreate (PySem.F.typeCall_set_1 (.ref q)))))
  refine wpAny_call (codeAny_of_tree (show wpAny _ _ (callAny (.type "set") _) _ _ _ from wpAny_pure ⟨Code.quiet_builtin _ (by decide +kernel), codeAny_builtin PySem.F.entry_type_call ?_⟩))
  rw [Around.under_plain (weight_type_call_type "set" [.ref q] []) rfl]
  repeat any_goals (first | assumption | wp_step)
  refine codeAny_mono (code_set_new_1 (.ref q) (E := E) (Q₁ := fun u s1 => ∃ led : Bool, u = .ref s.heap.objs.size ∧ s1 = { s with heap := s.heap.push (setO led) }) fun led => ⟨led, rfl, rfl⟩) fun r1 s1 h1 => ?_
  cases r1 with
  | error e => exact h1
  | ok f1 =>
    cases f1 with
    | next => exact h1.elim
    | brk => exact h1.elim
    | cont => exact h1.elim
    | ret u =>
      obtain ⟨led, rfl, rfl⟩ := h1
      have g1 : (s.heap.push (setO led)).get? s.heap.objs.size = some (setO led) := Heap.get?_push_size _ rfl
      have ty : Shared.TypeIs { s with heap := s.heap.push (setO led) } (.ref s.heap.objs.size) "set" := ⟨_, g1, rfl⟩
      obtain ⟨li, bi⟩ := And.intro PySem.F.called_set.init.lookup (PySem.F.called_set.init.bind (.ref s.heap.objs.size))
      repeat any_goals (first | assumption | wp_step)
      refine codeAny_mono (codeAny_call_builtin (R := wants (fun r s2 => r = .none ∧ SetEnd prog w xs s s2) E) PySem.F.called_set.init.plain PySem.F.entry_set_init (check_set_init_1 ty ?_)) fun r2 s2 h2 => ?_
      · have gq : (s.heap.push (setO led)).get? q = some oq := Heap.get?_push_of_some _ hq
        obtain ⟨cq, dq, xq, sq⟩ := oq
        obtain rfl : cq = .type T := S.cls
        obtain ⟨a1, a2, a3⟩ := And.intro S.noSet (And.intro S.noFrz S.noDict)
        unfold Builtin.«set.__init__» Builtin.Frozenset.updateFrom noKeywords
        generalize eIter : pyIter = PI
        wp_walk
        subst eIter
        refine S.opens _ _ _ _ gq ?_
        refine wpAny_bind (wpAny_runValue ?_)
        have lt : q < s.heap.objs.size := Heap.lt_size hq
        have ne : q ≠ (s.heap.push (setO led)).objs.size := by
          rw [Heap.size_push]
          exact Nat.ne_of_lt (Nat.lt_succ_of_lt lt)
        obtain ⟨St, W, st⟩ := S.walk A.in1.in1.in1 _ (by simp [hh]) ne
        have nin : s.heap.objs.size ∉ [(s.heap.push (setO led)).objs.size, q] := by
          rw [Heap.size_push]
          intro z
          rcases List.mem_cons.mp z with z | z
          · exact absurd z (Nat.ne_of_lt (Nat.lt_succ_self _))
          · exact absurd (List.mem_singleton.mp z) (Nat.ne_of_gt lt)
        have g2 : ((s.heap.push (setO led)).push itO).get? s.heap.objs.size = some (setO led) := Heap.get?_push_of_some _ g1
        refine update_texts W.toS nin rfl hb hv xs.length 0 _ (Nat.zero_add _) (st _ (Heap.get?_push_size _ S.alive) (Heap.get?_push_of_some _ gq))
          (SetOf_congr ((setObjOf_fresh (knd := strKind prog w) led).setOf g2 (by unfold scanBound; omega)) (fun _ => rfl) rfl) fun s5 mv hS => ?_
        obtain ⟨h5, g5, d5, t5, o5⟩ := s5
        obtain ⟨eg, ed, eo⟩ : g5 = s.gens ∧ d5 = s.drawn ∧ o5 = s.os := ⟨mv.gens, mv.drawn, mv.os⟩
        subst eg ed eo
        show wpAny _ _ _ _ _ _
        refine wpAny_pure (show wpAny _ _ (ret Value.none) _ _ _ from wpAny_pure ⟨rfl, h5, t5, rfl, hS, fun b o blt e => ?_⟩)
        refine mv.heap b o (fun z => ?_) (Heap.get?_push_of_some _ (Heap.get?_push_of_some _ e))
        rcases List.mem_cons.mp z with z | z
        · exact Nat.ne_of_lt blt z
        · have z3 := List.mem_singleton.mp z
          rw [Heap.size_push] at z3
          rw [z3] at blt
          exact absurd blt (Nat.not_lt.mpr (Nat.le_succ _))
      · cases r2 with
        | error e => exact h2
        | ok f2 =>
          cases f2 with
          | ret r =>
            obtain ⟨rfl, en⟩ := h2
            repeat any_goals (first | assumption | wp_step)
            exact k _ en
          | _ => exact h2.elim
end
end MyS
namespace L2
open PySem PySem.Spec PyProof.Rows
/-- len(set(xs)), xs a list or tuple of texts -/
def tLenTx (K : PySem.W.Frag) (ta : TE) : TE := fun σ H Q => ta σ H fun x H1 => ∃ l, ∃ xs : List Str, x = .ref l ∧ (SqL K H1 l (xs.map V.str) ∨ SqT K H1 l (xs.map V.str)) ∧ xs.length ≤ 4000 ∧ Q (.int (MyS.uq xs).length) H1
theorem str_at : ∀ {xs : List Str} {us : List Value}, Vals (xs.map V.str) us → us.length = xs.length ∧ ∀ (i : Nat) (v : Value), us[i]? = some v → ∃ t, v = .str (xs.getD i Str.empty) t
  | [], _, .nil => ⟨rfl, fun i v h => by simp at h⟩
  | x :: xs, _, .cons r t => by
    obtain ⟨e, f⟩ := str_at t
    refine ⟨by rw [List.length_cons, List.length_cons, e], fun i v h => ?_⟩
    cases i with
    | zero =>
      obtain ⟨k, e2⟩ := r
      rw [List.getElem?_cons_zero] at h
      exact ⟨k, by rw [← Option.some.inj h, e2]; rfl⟩
    | succ i =>
      rw [List.getElem?_cons_succ] at h
      exact f i v h
section
variable {X : Cx}
theorem pe_lenTx {a : Expr} {ta : TE} {p p2 q pos : Pos} (hc : X.calm = true) (hg : Gl X "len") (hm : X.mg "len" = none) (hg2 : Gl X "set") (hm2 : X.mg "set" = none) (ha : PE X a ta)
    (na : starEach [a] X.env = (false, eval a X.env) :: starEach [] X.env := by rfl) : PE X (.Call (.Name "len" p) [.Call (.Name "set" p2) [a] [] q] [] pos) (tLenTx X.K ta) := by
  refine ⟨fun pins s σ H Q I h => Call_ (ld_blt I hg hm boot_len (PyProof.Rows.callWith_builtin1 (PyProof.Rows.args_cons (Call_ (ld_blt I hg2 hm2 boot_set ?_)) rfl) rfl rfl))⟩
  refine PyProof.Rows.callWith_type1 (PyProof.Rows.args_cons (thn (ha.run pins s σ H _ I h) fun v s1 ⟨x, H1, I1, r1, q1⟩ => PyProof.Rows.args_nil ?_) na) na rfl
  obtain ⟨l, xs, rfl, sq, h1, q1⟩ := q1
  cases r1
  have fin : ∀ s2, MyS.SetEnd X.prog X.w xs s1 s2 → wpAny (model X.prog X.w) X.A (spliced (backTo pos (starEach [] X.env))) (fun vs s3 => wpAny (model X.prog X.w) X.A (call (.builtin "len") (Value.ref s1.heap.objs.size :: vs)) (EP X pins σ Q) X.xe s3) X.xe s2 := by
    rintro s2 ⟨h2, t2, rfl, hS, kp⟩
    refine PyProof.Rows.args_nil ?_
    obtain ⟨o, es, ep, t, ho, ex, hd, _, _, _, hf, hn⟩ := hS
    have I2 : Inv X pins σ H1 { s1 with heap := h2, toks := t2 } := I1.kept fun b o e => kp b o (Heap.lt_size e) e
    have lz := MyS.uq_le' xs
    exact call_len_set ho ex hd hf (by rw [hn] <;> omega) ⟨.int (MyS.uq xs).length, H1, I2.tok _, ⟨_, by rw [hn]⟩, q1⟩
  rcases sq with sq | sq
  · obtain ⟨its, r, pl, hz⟩ := I1.list sq
    obtain ⟨e, at_⟩ := str_at r
    obtain ⟨oq, hq, S⟩ := MyS.src_list (prog := X.prog) (w := X.w) pl.isList
    rw [List.size_toArray, e] at S
    exact MyS.call_set_src S (I1.ok.hd hc) (by unfold scanBound; omega) (fun i v z => at_ i v (by simpa using z)) hq fin
  · obtain ⟨its, r, pl, hz⟩ := I1.tuple sq
    obtain ⟨e, at_⟩ := str_at r
    obtain ⟨oq, hq, S⟩ := MyS.src_tuple (prog := X.prog) (w := X.w) pl
    rw [List.size_toArray, e] at S
    exact MyS.call_set_src S (I1.ok.hd hc) (by unfold scanBound; omega) (fun i v z => at_ i v (by simpa using z)) hq fin
end
end L2

/-! words that every law of this set wants: heaps but for one place, the stream of draws, data of a small depth -/
namespace My
open PySem PySem.Spec PyProof.Rows L2
theorem ix_seqK {X : Cx} {K : PySem.W.Frag} (h : X.K = K) : IxR X (rIx K) := by
  rw [← h]
  exact ix_seq
theorem ix_listK {X : Cx} {K : PySem.W.Frag} (h : X.K = K) : IxR X (rIxL K) := by
  rw [← h]
  exact ix_list
theorem ifT {c : Bool} {A B : Prop} (hc : c = true) (h : A) : if c = true then A else B := by rw [if_pos hc]; exact h
theorem ifF {c : Bool} {A B : Prop} (hc : c = false) (h : B) : if c = true then A else B := by rw [hc]; exact iteF h
def But (a : Addr) (H H' : Hp) : Prop := ∀ b o, H b = some o → b ≠ a → H' b = some o
theorem But.refl {a : Addr} {H : Hp} : But a H H := fun _ _ h _ => h
theorem But.trans {a : Addr} {H H1 H2 : Hp} (x : But a H H1) (y : But a H1 H2) : But a H H2 := fun b o h n => y b o (x b o h n) n
theorem But.upd {a : Addr} {H H1 : Hp} {o : HO} (x : But a H H1) : But a H (upd H1 a o) := fun b u h n => by
  rw [upd_ne n]
  exact x b u h n
theorem But.same {a : Addr} {H H1 : Hp} (x : Same H H1) : But a H H1 := fun b u h _ => x b u h
theorem same_new {H : Hp} {p : Addr} (h : H p = none) (o : HO) : Same H (upd H p o) := fun b u q => by rw [upd_ne (ne_of_none q h)]; exact q
/-- the stream's six cells: the script's list, how many cells are taken, the number at hand, how many draws it still gives, the mixed number, its kind -/
abbrev fl (l : Addr) (i x c m o : Int) : List V := [.ref l, .int i, .int x, .int c, .int m, .int o]
def FlowAt (H : Hp) (a : Addr) : Prop := ∃ (l : Addr) (ns : List Int) (i x c m o : Int), H a = some (.lst (fl l i x c m o)) ∧ H l = some (.lst (ns.map V.int)) ∧ (0 ≤ i ∧ i ≤ (ns.length : Int)) ∧ ns.length ≤ 63
theorem fl_ne {H : Hp} {a l : Addr} {i x c m o : Int} {ns : List Int} (h : H a = some (.lst (fl l i x c m o))) (h2 : H l = some (.lst (ns.map V.int))) : l ≠ a := fun e => by
  rw [e, h] at h2
  have q := HO.lst.inj (Option.some.inj h2)
  cases ns with
  | nil => cases q
  | cons n r =>
    have z : V.ref l = V.int n := (List.cons.inj q).1
    cases z
theorem FlowAt.keep {H H' : Hp} {a : Addr} (h : FlowAt H a) (k : Same H H') : FlowAt H' a := by
  obtain ⟨l, ns, i, x, c, m, o, h1, h2, h3, h4⟩ := h
  exact ⟨l, ns, i, x, c, m, o, k _ _ h1, k _ _ h2, h3, h4⟩
section
variable {X : Cx} {a b e o i : Expr} {ta tb te to ti : TE} {pos p' : Pos}
theorem pix (ha : PE X a ta) (hb : PE X b tb) (hs : PlainIx b := by intro _ _; rfl) : PE X (.Subscript a b pos) (tOp (rIxL X.K) ta tb) := pe_ix ix_list ha hb hs
end
theorem both {c A : Prop} [Decidable c] {P : Hp → Prop} {H : Hp} {a : Addr} (h0 : FlowAt H a) (h1 : (∀ H1, FlowAt H1 a → But a H H1 → P H1) → A) (main : ∀ H1, FlowAt H1 a → But a H H1 → P H1) : if c then A else P H := by
  by_cases h : c
  · rw [if_pos h]
    exact h1 main
  · rw [if_neg h]
    exact main H h0 But.refl
def spLoad : Sp := fun vs H Q _ => ∃ a, vs = [.ref a] ∧ FlowAt H a ∧ ∀ H', FlowAt H' a → But a H H' → Q .non H'
def mx (n : Int) : Int := if n > 1 then n else 1
def spDraw : Sp := fun vs H Q _ => ∃ (a : Addr) (n : Int), vs = [.ref a, .int n] ∧ FlowAt H a ∧ n.natAbs < 2 ^ 400 ∧ ∀ H' (r : Int), FlowAt H' a → But a H H' → 0 ≤ r → r < mx n → Q (.int r) H'
theorem mx_pos (n : Int) : 0 < mx n := by
  unfold mx
  split <;> omega
theorem mx_big {n : Int} (h : n.natAbs < 2 ^ 400) : (mx n).natAbs < 2 ^ 400 := by
  unfold mx
  split
  · exact h
  · exact (show (1 : Nat) < 2 ^ 400 from Nat.lt_of_lt_of_le (show 1 < 2 ^ 1 from by decide) (Nat.pow_le_pow_right (show 2 > 0 from by decide) (show 1 ≤ 400 from by decide)))
def spFlow (K : PySem.W.Frag) : Sp := fun vs H Q _ => ∃ (a : Addr) (ns : List Int), vs = [.ref a] ∧ SqL K H a (ns.map V.int) ∧ ns.length ≤ 63 ∧ ∀ H' p, H p = none → FlowAt H' p → Same H H' → Q (.ref p) H'
def spPick (K : PySem.W.Frag) : Sp := fun vs H Q _ => ∃ (a t : Addr) (xs : List V), vs = [.ref a, .ref t] ∧ FlowAt H a ∧ SqL K H t xs ∧ (∀ H', But a H H' → SqL K H' t xs) ∧ 0 < xs.length ∧ xs.length < 100000 ∧ ∀ H' x, FlowAt H' a → But a H H' → x ∈ xs → Q x H'
/-- a def's body where an error is handled -/
theorem FunD.okH {P : Program} {w : World} {K : PySem.W.Frag} {mg : Str → Option Value} {base : Heap} {x qual : Str} {params : Arguments} {body : List Stmt} {scope : Scope} {dvs : List V} {kws : List (Str × V)} {f : Addr} {fd : FuncData} {CX : CXT} {N ps : List Str} {k : Nat} {sp : Sp}
    (F : FunD K x qual params body scope dvs kws f fd) (S : FnScope N ps scope) (len : ∀ vs H Q E, sp vs H Q E → vs.length = ps.length)
    (hbody : ∀ (cdv : Value) (A : Around) (outer : List Env) (s : Shared) (H : Hp) (vs : List V) (Q : VK) (E : XK) (p : Addr × Obj), L2H.Hot1 A p → L2H.RoomH k (A.deeper (envOfC qual scope s.heap.objs.size f cdv)) → sp vs H Q E →
      ∃ t, PSs (L2H.cxH CX P w K mg base N qual scope f cdv A outer s H E p) body t ∧ t { nx := fun _ H' => Q .non H', rt := Q } (L2.start N vs) H) : L2H.FnH P w K mg base CX (k + 1) f fd ps sp := by
  obtain ⟨oc, od, dV, kV, doc, pm, an, cdv, ct, osl, rfl, lk, hcd, _, _⟩ := F.ex
  exact L2H.fn_ofH lk hcd S len fun A outer s H vs Q E p hot hr hsp => hbody cdv A outer s H vs Q E p hot hr hsp
end My

/-! defs by name, texts by their signs, names -/
namespace My
open PySem PySem.Spec PyProof.Rows L2 SX
/-- the def x of the module, as the text has it at st -/
structure Have (K : PySem.W.Frag) (mg : Str → Option Value) (x : Str) (st : Stmt) : Prop where
  ex : ∃ f fd, FunD K x x (defArgs st) (defBody st) (defScope st) [] [] f fd ∧ mg x = some (.ref f)
section
variable {P : Program} {w : World} {K : PySem.W.Frag} {mg : Str → Option Value} {base : Heap}
theorem cal {x : Str} {st : Stmt} {N ps : List Str} {k : Nat} {sp : Sp} (T : Have K mg x st) (S : C8.scC N ps (defScope st) = true)
    (b : ∀ (kV doc pm : Value) (an : Option Addr) (cdv ct : Value) (us : List Value), us.length = ps.length → bindArgs (PySem.W.fnOf x x (defArgs st) (defBody st) (defScope st) .none kV doc pm an cdv ct) ⟨us, []⟩ = pure (ps.zip us))
    (len : ∀ vs H Q E, sp vs H Q E → vs.length = ps.length)
    (hbody : ∀ (f : Addr) (cdv : Value) (A : Around) (outer : List Env) (s : Shared) (H : Hp) (vs : List V) (Q : VK) (E : XK), Room k (A.deeper (envOfC x (defScope st) s.heap.objs.size f cdv)) → sp vs H Q E →
      ∃ t, PSs (cxOf CX0 P w K mg base N x (defScope st) f cdv A outer s H E).nox (defBody st) t ∧ t { nx := fun _ H' => Q .non H', rt := Q } (L2.start N vs) H) : C8.Cal P w K mg base (k + 1) x sp [] := by
  obtain ⟨f, fd, F, g⟩ := T.ex
  refine ⟨f, fd, ps, [], F.ok (CX := CX0) (C8.fnScope_by S) len fun cdv A outer s H vs Q E hr h => ?_, g, F.kp, F.bindsN b, .nil⟩
  obtain ⟨t, h1, h2⟩ := hbody f cdv A outer s H vs Q E hr h
  exact ⟨t, PSs.nox h1, h2⟩
/-- a def that may raise -/
structure CalX (P : Program) (w : World) (K : PySem.W.Frag) (mg : Str → Option Value) (base : Heap) (k : Nat) (x : Str) (sp : Sp) : Prop where
  ex : ∃ (f : Addr) (fd : FuncData) (ps : List Str), FnOk P w K mg base (L2N.CX P w) k f fd ps sp ∧ mg x = some (.ref f) ∧ PySem.W.keepIn K (.ref f) = true ∧ Binds K fd ps []
theorem calX {x : Str} {st : Stmt} {N ps : List Str} {k : Nat} {sp : Sp} (T : Have K mg x st) (S : C8.scC N ps (defScope st) = true)
    (b : ∀ (kV doc pm : Value) (an : Option Addr) (cdv ct : Value) (us : List Value), us.length = ps.length → bindArgs (PySem.W.fnOf x x (defArgs st) (defBody st) (defScope st) .none kV doc pm an cdv ct) ⟨us, []⟩ = pure (ps.zip us))
    (len : ∀ vs H Q E, sp vs H Q E → vs.length = ps.length)
    (hbody : ∀ (f : Addr) (cdv : Value) (A : Around) (outer : List Env) (s : Shared) (H : Hp) (vs : List V) (Q : VK) (E : XK), Room k (A.deeper (envOfC x (defScope st) s.heap.objs.size f cdv)) → sp vs H Q E →
      ∃ t, PSs (cxOf (L2N.CX P w) P w K mg base N x (defScope st) f cdv A outer s H E) (defBody st) t ∧ t { nx := fun _ H' => Q .non H', rt := Q } (L2.start N vs) H) : CalX P w K mg base (k + 1) x sp := by
  obtain ⟨f, fd, F, g⟩ := T.ex
  exact ⟨f, fd, ps, F.ok (CX := L2N.CX P w) (C8.fnScope_by S) len fun cdv A outer s H vs Q E hr h => hbody f cdv A outer s H vs Q E hr h, g, F.kp, F.bindsN b⟩
end
/-! ### texts by their signs -/
theorem len_S (l : List Nat) : (S l).length = l.length := S_len l
theorem eta_S (x : Str) : ∃ l, x = S l := ⟨x.cps.toList, (S_tl x).symm⟩
theorem join0 : ∀ ls : List (List Nat), TL.joinL [] ls = ls.flatten
  | [] => rfl
  | [p] => by rw [List.flatten_cons, List.flatten_nil, List.append_nil]; rfl
  | p :: q :: r => by
    show p ++ ([] ++ TL.joinL [] (q :: r)) = _
    rw [join0 (q :: r), List.nil_append]
    rfl
def Low (c : Nat) : Prop := 97 ≤ c ∧ c < 123
def abcL : List Nat := (List.range 26).map (97 + ·)
theorem abc_eq : ("abcdefghijklmnopqrstuvwxyz" : Str) = S abcL := by decide +kernel
theorem abc_at {i : Int} (h0 : 0 ≤ i) (h1 : i < 26) : ∃ c, atI ("abcdefghijklmnopqrstuvwxyz" : Str).cps.toList i = some c ∧ Low c := by
  obtain ⟨n, rfl⟩ : ∃ n : Nat, i = n := ⟨i.toNat, by omega⟩
  rw [abc_eq]
  refine ⟨97 + n, atI_nat (j := n) ?_, by unfold Low; omega⟩
  show abcL[n]? = _
  unfold abcL
  rw [List.getElem?_map, List.getElem?_range (by omega)]
  rfl
theorem low_abc {c : Nat} : decide (c ∈ ("abcdefghijklmnopqrstuvwxyz" : Str).cps.toList) = true ↔ Low c := by
  rw [abc_eq, decide_eq_true_iff]
  show c ∈ abcL ↔ _
  unfold abcL Low
  rw [List.mem_map]
  constructor
  · rintro ⟨i, hi, rfl⟩
    have := List.mem_range.mp hi
    omega
  · intro h
    exact ⟨c - 97, List.mem_range.mpr (by omega), by omega⟩
/-- a name of a side -/
def IsName (s : Str) : Prop := ∃ l, s = S l ∧ 1 ≤ l.length ∧ l.length ≤ 8 ∧ ∀ c ∈ l, Low c
theorem IsName.len {s : Str} (h : IsName s) : 1 ≤ s.length ∧ s.length ≤ 8 := by
  obtain ⟨l, rfl, h1, h2, _⟩ := h
  rw [len_S]
  exact ⟨h1, h2⟩
theorem small_len {s : Str} (h : s.length ≤ 1000) : s.length ≤ sizeLine := Nat.le_trans h (by decide)
theorem inV_str (s : Str) : ∀ xs : List Str, inV (.str s) (xs.map V.str) = xs.contains s
  | [] => rfl
  | x :: xs => by
    rw [List.map_cons, List.contains_cons]
    show (eqV (.str x) (.str s) || inV (.str s) (xs.map V.str)) = _
    rw [inV_str s xs]
    congr 1
    show (x == s) = (s == x)
    by_cases e : x = s
    · rw [e]
    · rw [beq_eq_false_iff_ne.mpr e, beq_eq_false_iff_ne.mpr (Ne.symm e)]
theorem flat_strs : ∀ xs : List Str, (xs.map V.str).all flatV = true
  | [] => rfl
  | x :: xs => by
    rw [List.map_cons, List.all_cons, flat_strs xs]
    rfl
/-! ### the stream of draws, its list's address told -/
def FlowL (H : Hp) (a l : Addr) : Prop := ∃ (ns : List Int) (i x c m o : Int), H a = some (.lst (fl l i x c m o)) ∧ H l = some (.lst (ns.map V.int)) ∧ (0 ≤ i ∧ i ≤ (ns.length : Int)) ∧ ns.length ≤ 63
theorem FlowL.keep {H H' : Hp} {a l : Addr} (h : FlowL H a l) (k : Same H H') : FlowL H' a l := by
  obtain ⟨ns, i, x, c, m, o, h1, h2, h3, h4⟩ := h
  exact ⟨ns, i, x, c, m, o, k _ _ h1, k _ _ h2, h3, h4⟩
theorem FlowL.neq {H : Hp} {a l b : Addr} (h : FlowL H a l) (n : H b = none) : b ≠ a ∧ b ≠ l := by
  obtain ⟨ns, i, x, c, m, o, h1, h2, _⟩ := h
  refine ⟨fun e => ?_, fun e => ?_⟩
  · rw [e, h1] at n
    cases n
  · rw [e, h2] at n
    cases n
/-- a store elsewhere -/
theorem FlowL.upd {H : Hp} {a l b : Addr} {o : HO} (h : FlowL H a l) (n : b ≠ a ∧ b ≠ l) : FlowL (L2.upd H b o) a l := by
  obtain ⟨ns, i, x, c, m, o, h1, h2, h3⟩ := h
  exact ⟨ns, i, x, c, m, o, by rw [upd_ne (Ne.symm n.1)]; exact h1, by rw [upd_ne (Ne.symm n.2)]; exact h2, h3⟩
theorem FlowL.ne {H : Hp} {a l : Addr} (h : FlowL H a l) : l ≠ a := by
  obtain ⟨ns, i, x, c, m, o, h1, h2, _⟩ := h
  exact fl_ne h1 h2
theorem But.upd' {a : Addr} {H0 H1 : Hp} {b : Addr} {o : HO} (x : But a H0 H1) (n : H0 b = none) : But a H0 (L2.upd H1 b o) := fun d u h nd => by
  rw [upd_ne (ne_of_none h n)]
  exact x d u h nd
theorem bothL {c A : Prop} [Decidable c] {P : Hp → Prop} {H : Hp} {a l : Addr} (h0 : FlowL H a l) (h1 : (∀ H1, FlowL H1 a l → But a H H1 → P H1) → A) (main : ∀ H1, FlowL H1 a l → But a H H1 → P H1) : if c then A else P H := by
  by_cases h : c
  · rw [if_pos h]
    exact h1 main
  · rw [if_neg h]
    exact main H h0 But.refl
def spLoadL : Sp := fun vs H Q _ => ∃ a l, vs = [.ref a] ∧ FlowL H a l ∧ ∀ H', FlowL H' a l → But a H H' → Q .non H'
def spDrawL : Sp := fun vs H Q _ => ∃ (a l : Addr) (n : Int), vs = [.ref a, .int n] ∧ FlowL H a l ∧ n.natAbs < 2 ^ 400 ∧ ∀ H' (r : Int), FlowL H' a l → But a H H' → 0 ≤ r → r < mx n → Q (.int r) H'
def spFlowL (K : PySem.W.Frag) : Sp := fun vs H Q _ => ∃ (a : Addr) (ns : List Int), vs = [.ref a] ∧ SqL K H a (ns.map V.int) ∧ ns.length ≤ 63 ∧ ∀ H' p l, H p = none → FlowL H' p l → Same H H' → Q (.ref p) H'
def spPickL (K : PySem.W.Frag) : Sp := fun vs H Q _ => ∃ (a l t : Addr) (xs : List V), vs = [.ref a, .ref t] ∧ FlowL H a l ∧ SqL K H t xs ∧ (∀ H', But a H H' → SqL K H' t xs) ∧ 0 < xs.length ∧ xs.length < 100000 ∧ ∀ H' x, FlowL H' a l → But a H H' → x ∈ xs → Q x H'
/-! ### rules whose part K is told, for the blocks of comprehensions -/
section
variable {X : Cx} {K : PySem.W.Frag}
theorem op_inK (h : X.K = K) : OpR X (compareOp .In) (rIn K false) := by rw [← h]; exact op_in_seq
theorem op_notInK (h : X.K = K) : OpR X (compareOp .NotIn) (rIn K true) := by rw [← h]; exact op_notIn_seq
theorem ix_tupK (h : X.K = K) : IxR X (rIxT K) := by rw [← h]; exact ix_tup
theorem sl_listK (h : X.K = K) : SlR X (rSlL K) := by rw [← h]; exact sl_list
def rLenK (K : PySem.W.Frag) : List V → Hp → VK → Prop := fun xs H Q => ∃ p ys, xs = [.ref p] ∧ (SqL K H p ys ∨ SqT K H p ys) ∧ Q (.int (ys.length : Nat)) H
theorem call_lenK (h : X.K = K) : CallR X (.builtin "len") (rLenK K) := by rw [← h]; exact call_len_seq
theorem call_isiK (h : X.K = K) : CallR X (.builtin "isinstance") (rIsi K) := by rw [← h]; exact call_isi
end
end My

namespace My
open PySem PySem.Spec PyProof.Rows L2
def top (i : Nat) : Stmt := PySem.Challenge.pw_stillmay_k03_results_entered.main.body.getD i (.Pass ⟨0, 0, 0, 0⟩)
abbrev s__wall : Stmt := top 0
abbrev s_BadValue : Stmt := inClass (top 3) 0
abbrev s_BadGame : Stmt := inClass (top 4) 0
abbrev s_BadSide : Stmt := inClass (top 5) 0
abbrev s_TooMany : Stmt := inClass (top 6) 0
abbrev s_is_sequence : Stmt := top 11
abbrev s_is_integer : Stmt := top 12
abbrev s_is_number : Stmt := top 13
abbrev s_is_word : Stmt := top 14
abbrev s_is_name : Stmt := top 15
abbrev s_are_names : Stmt := top 16
abbrev s_outcomes_of : Stmt := top 17
abbrev m_init : Stmt := inClass (top 24) 0
abbrev m_eq : Stmt := inClass (top 24) 1
abbrev m_sides : Stmt := inClass (top 24) 2
abbrev m_scheme : Stmt := inClass (top 24) 3
abbrev m_rules : Stmt := inClass (top 24) 4
abbrev m_games : Stmt := inClass (top 24) 5
abbrev m_left : Stmt := inClass (top 24) 6
abbrev m_withdrawn : Stmt := inClass (top 24) 7
abbrev m_copy : Stmt := inClass (top 24) 8
abbrev m_add_game : Stmt := inClass (top 24) 9
abbrev m_enter : Stmt := inClass (top 24) 10
abbrev m_call_off : Stmt := inClass (top 24) 11
abbrev m_reopen : Stmt := inClass (top 24) 12
abbrev m_withdraw : Stmt := inClass (top 24) 13
abbrev m__check_playing : Stmt := inClass (top 24) 14
abbrev m__check_game : Stmt := inClass (top 24) 15
abbrev m__set_state : Stmt := inClass (top 24) 16
abbrev s__are_sides : Stmt := top 25
abbrev s__is_scheme : Stmt := top 26
abbrev s__is_mark : Stmt := top 27
abbrev s__are_rules : Stmt := top 28
abbrev s__law_flow : Stmt := top 30
abbrev s__law_load : Stmt := top 31
abbrev s__law_draw : Stmt := top 32
abbrev s__law_pick : Stmt := top 33
abbrev s__law_letter : Stmt := top 34
abbrev s__law_name : Stmt := top 35
abbrev s__law_near : Stmt := top 36
abbrev s__law_sides : Stmt := top 37
abbrev s__law_scheme : Stmt := top 38
abbrev s__law_rules : Stmt := top 39
abbrev s__law_same : Stmt := top 40
abbrev s__law_called : Stmt := top 41
abbrev s__law_outcome : Stmt := top 42
abbrev s__law_due : Stmt := top 43
abbrev s__law_done : Stmt := top 44
abbrev s__law_state_right : Stmt := top 45
abbrev s__law_deed : Stmt := top 46
abbrev s_law : Stmt := top 47
/-- built-in names that the module leaves as they are -/
structure Bx (mg : Str → Option Value) : Prop where
  int : mg "int" = none
  len : mg "len" = none
  list : mg "list" = none
  abs : mg "abs" = none
  max : mg "max" = none
  range : mg "range" = none
  isinstance : mg "isinstance" = none
  all : mg "all" = none
  tuple : mg "tuple" = none
  str : mg "str" = none
  bool : mg "bool" = none
  set : mg "set" = none
  enumerate : mg "enumerate" = none
/-- a method of the class at C -/
structure HaveM (K : PySem.W.Frag) (C : Addr) (m qual : Str) (st : Stmt) : Prop where
  ex : ∃ f fd, FunD K m qual (defArgs st) (defBody st) (defScope st) [] [] f fd ∧ Meth K C m f
abbrev lg (K : PySem.W.Frag) : Addr := He.ga K "League"
/-- what the written part says -/
structure TX (K : PySem.W.Frag) (mg : Str → Option Value) : Prop where
  B : Bx mg
  h__wall : Have K mg "_wall" s__wall
  h_is_sequence : Have K mg "is_sequence" s_is_sequence
  h_is_integer : Have K mg "is_integer" s_is_integer
  h_is_number : Have K mg "is_number" s_is_number
  h_is_word : Have K mg "is_word" s_is_word
  h_is_name : Have K mg "is_name" s_is_name
  h_are_names : Have K mg "are_names" s_are_names
  h_outcomes_of : Have K mg "outcomes_of" s_outcomes_of
  h__are_sides : Have K mg "_are_sides" s__are_sides
  h__is_scheme : Have K mg "_is_scheme" s__is_scheme
  h__is_mark : Have K mg "_is_mark" s__is_mark
  h__are_rules : Have K mg "_are_rules" s__are_rules
  h__law_flow : Have K mg "_law_flow" s__law_flow
  h__law_load : Have K mg "_law_load" s__law_load
  h__law_draw : Have K mg "_law_draw" s__law_draw
  h__law_pick : Have K mg "_law_pick" s__law_pick
  h__law_letter : Have K mg "_law_letter" s__law_letter
  h__law_name : Have K mg "_law_name" s__law_name
  h__law_near : Have K mg "_law_near" s__law_near
  h__law_sides : Have K mg "_law_sides" s__law_sides
  h__law_scheme : Have K mg "_law_scheme" s__law_scheme
  h__law_rules : Have K mg "_law_rules" s__law_rules
  h__law_same : Have K mg "_law_same" s__law_same
  h__law_called : Have K mg "_law_called" s__law_called
  h__law_outcome : Have K mg "_law_outcome" s__law_outcome
  h__law_due : Have K mg "_law_due" s__law_due
  h__law_done : Have K mg "_law_done" s__law_done
  h__law_state_right : Have K mg "_law_state_right" s__law_state_right
  h__law_deed : Have K mg "_law_deed" s__law_deed
  h_law : Have K mg "law" s_law
  LETTERS : ∃ u, mg "LETTERS" = some u ∧ RelV (.str "abcdefghijklmnopqrstuvwxyz") u
  LONGEST_NAME : ∃ u, mg "LONGEST_NAME" = some u ∧ RelV (.int 8) u
  OUTCOMES : mg "OUTCOMES" = some (.ref (He.ga K "OUTCOMES"))
  tOUTCOMES : ∀ H, SqT K H (He.ga K "OUTCOMES") ((["home", "draw", "away"] : List Str).map V.str)
  RULES : mg "RULES" = some (.ref (He.ga K "RULES"))
  tRULES : ∀ H, SqT K H (He.ga K "RULES") ((["points", "wins", "away", "among"] : List Str).map V.str)
  FEWEST_SIDES : ∃ u, mg "FEWEST_SIDES" = some u ∧ RelV (.int 2) u
  MOST_SIDES : ∃ u, mg "MOST_SIDES" = some u ∧ RelV (.int 8) u
  MOST_GAMES : ∃ u, mg "MOST_GAMES" = some u ∧ RelV (.int 80) u
  MOST_POINTS : ∃ u, mg "MOST_POINTS" = some u ∧ RelV (.int 100) u
  e_BadValue : PySem.MyX.ErrC K (He.ga K "BadValue") (He.ma K (He.ga K "BadValue") "__init__") "at"
  g_BadValue : mg "BadValue" = some (.ref (He.ga K "BadValue"))
  e_BadGame : PySem.MyX.ErrC K (He.ga K "BadGame") (He.ma K (He.ga K "BadGame") "__init__") "number"
  g_BadGame : mg "BadGame" = some (.ref (He.ga K "BadGame"))
  e_BadSide : PySem.MyX.ErrC K (He.ga K "BadSide") (He.ma K (He.ga K "BadSide") "__init__") "name"
  g_BadSide : mg "BadSide" = some (.ref (He.ga K "BadSide"))
  e_TooMany : PySem.MyX.ErrC K (He.ga K "TooMany") (He.ma K (He.ga K "TooMany") "__init__") "word"
  g_TooMany : mg "TooMany" = some (.ref (He.ga K "TooMany"))
  g_LeagueError : mg "LeagueError" = some (.ref (He.ga K "LeagueError"))
  x_BadValue_BadValue : PySem.W.exmOne K (.ref (He.ga K "BadValue")) (.ref (He.ga K "BadValue")) = some true
  x_BadValue_BadGame : PySem.W.exmOne K (.ref (He.ga K "BadValue")) (.ref (He.ga K "BadGame")) = some false
  x_BadValue_BadSide : PySem.W.exmOne K (.ref (He.ga K "BadValue")) (.ref (He.ga K "BadSide")) = some false
  x_BadValue_TooMany : PySem.W.exmOne K (.ref (He.ga K "BadValue")) (.ref (He.ga K "TooMany")) = some false
  x_BadValue_LeagueError : PySem.W.exmOne K (.ref (He.ga K "BadValue")) (.ref (He.ga K "LeagueError")) = some true
  x_BadGame_BadValue : PySem.W.exmOne K (.ref (He.ga K "BadGame")) (.ref (He.ga K "BadValue")) = some false
  x_BadGame_BadGame : PySem.W.exmOne K (.ref (He.ga K "BadGame")) (.ref (He.ga K "BadGame")) = some true
  x_BadGame_BadSide : PySem.W.exmOne K (.ref (He.ga K "BadGame")) (.ref (He.ga K "BadSide")) = some false
  x_BadGame_TooMany : PySem.W.exmOne K (.ref (He.ga K "BadGame")) (.ref (He.ga K "TooMany")) = some false
  x_BadGame_LeagueError : PySem.W.exmOne K (.ref (He.ga K "BadGame")) (.ref (He.ga K "LeagueError")) = some true
  x_BadSide_BadValue : PySem.W.exmOne K (.ref (He.ga K "BadSide")) (.ref (He.ga K "BadValue")) = some false
  x_BadSide_BadGame : PySem.W.exmOne K (.ref (He.ga K "BadSide")) (.ref (He.ga K "BadGame")) = some false
  x_BadSide_BadSide : PySem.W.exmOne K (.ref (He.ga K "BadSide")) (.ref (He.ga K "BadSide")) = some true
  x_BadSide_TooMany : PySem.W.exmOne K (.ref (He.ga K "BadSide")) (.ref (He.ga K "TooMany")) = some false
  x_BadSide_LeagueError : PySem.W.exmOne K (.ref (He.ga K "BadSide")) (.ref (He.ga K "LeagueError")) = some true
  x_TooMany_BadValue : PySem.W.exmOne K (.ref (He.ga K "TooMany")) (.ref (He.ga K "BadValue")) = some false
  x_TooMany_BadGame : PySem.W.exmOne K (.ref (He.ga K "TooMany")) (.ref (He.ga K "BadGame")) = some false
  x_TooMany_BadSide : PySem.W.exmOne K (.ref (He.ga K "TooMany")) (.ref (He.ga K "BadSide")) = some false
  x_TooMany_TooMany : PySem.W.exmOne K (.ref (He.ga K "TooMany")) (.ref (He.ga K "TooMany")) = some true
  x_TooMany_LeagueError : PySem.W.exmOne K (.ref (He.ga K "TooMany")) (.ref (He.ga K "LeagueError")) = some true
  cl : Cls K (lg K)
  mgL : mg "League" = some (.ref (lg K))
  n_sides : NoAttr K (lg K) "_sides"
  n_scheme : NoAttr K (lg K) "_scheme"
  n_rules : NoAttr K (lg K) "_rules"
  n_games : NoAttr K (lg K) "_games"
  n_gone : NoAttr K (lg K) "_gone"
  mkL : ∃ f fd, FunD K "__init__" "League.__init__" (defArgs m_init) (defBody m_init) (defScope m_init) [] [] f fd ∧ Mk K (lg K) f
  m_eq : HaveM K (lg K) "__eq__" "League.__eq__" m_eq
  m_sides : HaveM K (lg K) "sides" "League.sides" m_sides
  m_scheme : HaveM K (lg K) "scheme" "League.scheme" m_scheme
  m_rules : HaveM K (lg K) "rules" "League.rules" m_rules
  m_games : HaveM K (lg K) "games" "League.games" m_games
  m_left : HaveM K (lg K) "left" "League.left" m_left
  m_withdrawn : HaveM K (lg K) "withdrawn" "League.withdrawn" m_withdrawn
  m_copy : HaveM K (lg K) "copy" "League.copy" m_copy
  m_add_game : HaveM K (lg K) "add_game" "League.add_game" m_add_game
  m_enter : HaveM K (lg K) "enter" "League.enter" m_enter
  m_call_off : HaveM K (lg K) "call_off" "League.call_off" m_call_off
  m_reopen : HaveM K (lg K) "reopen" "League.reopen" m_reopen
  m_withdraw : HaveM K (lg K) "withdraw" "League.withdraw" m_withdraw
  m__check_playing : HaveM K (lg K) "_check_playing" "League._check_playing" m__check_playing
  m__check_game : HaveM K (lg K) "_check_game" "League._check_game" m__check_game
  m__set_state : HaveM K (lg K) "_set_state" "League._set_state" m__set_state
end My

namespace My
open PySem PySem.Spec PyProof.Rows L2 SX
section
variable {P : Program} {w : World} {K : PySem.W.Frag} {mg : Str → Option Value} {base : Heap}
theorem sc__law_flow : C8.scC ["script", "mixed", "cell"] ["script"] (defScope s__law_flow) = true := by decide +kernel
theorem sc__law_load : C8.scC ["flow", "cell"] ["flow"] (defScope s__law_load) = true := by decide +kernel
theorem sc__law_draw : C8.scC ["flow", "many", "drawn"] ["flow", "many"] (defScope s__law_draw) = true := by decide +kernel
theorem sc__law_pick : C8.scC ["flow", "things"] ["flow", "things"] (defScope s__law_pick) = true := by decide +kernel
theorem c__law_flow (T : TX K mg) : C8.Cal P w K mg base 1 "_law_flow" (spFlowL K) [] := by
  refine cal T.h__law_flow sc__law_flow (fun _ _ _ _ _ _ us hl => match us, hl with | [_], _ => rfl) (fun vs H Q E h => ?_) (fun f cdv A outer s H vs Q E hr h => ?_)
  · obtain ⟨a, ns, rfl, _⟩ := h
    rfl
  obtain ⟨a, ns, rfl, hS, hl, q⟩ := h
  refine ⟨_, (pss_cons (ps_set (i := 1) (C8.fnScope_by sc__law_flow).nd rfl (Or.inl rfl) pe_int)
    (pss_cons (ps_for PassesOwn.never rfl (pi_list (pv 0)) (pg_name (i := 2) (C8.fnScope_by sc__law_flow).nd rfl (Or.inl rfl)) (pss_one (ps_set (i := 1) (C8.fnScope_by sc__law_flow).nd rfl (Or.inl rfl) (pe_op op_mod (pe_callTy call_int1 (by rfl) T.B.int (by decide +kernel) (pa_cons (pe_op op_add (pe_op op_mul (pv 1) pe_int) (pe_callTy call_int1 (by rfl) T.B.int (by decide +kernel) (pa_cons (pv 2) pa_nil))) pa_nil)) pe_int))))
    (pss_one (ps_ret (pe_lst (pa_cons (pe_callTy call_list_of (by rfl) T.B.list (by decide +kernel) (pa_cons (pv 0) pa_nil)) (pa_cons pe_int (pa_cons pe_int (pa_cons pe_int (pa_cons (pv 1) (pa_cons pe_int pa_nil))))))))))), ?_⟩
  refine ⟨_, rfl, a, rfl, ⟨_, hS⟩, for_list (K := K) (a := a) (xs := ns.map V.int) (fun i σ H' => ∃ (m : Int) (v : Option V), σ = [some (.ref a), some (.int m), v] ∧ H' = H)
    ⟨1, none, rfl, rfl⟩ (fun i σ H' _ ⟨_, _, _, e⟩ => by rw [e]; exact hS) ?_ ?_⟩
  · rintro i y σ H' hi ⟨m, v, rfl, rfl⟩
    obtain ⟨z, hz, rfl⟩ : ∃ z, ns[i]? = some z ∧ y = V.int z := by
      rw [List.getElem?_map] at hi
      cases e : ns[i]? with
      | none => rw [e] at hi; cases hi
      | some z => rw [e] at hi; exact ⟨z, rfl, (Option.some.inj hi).symm⟩
    refine ⟨_, rfl, _, _, rfl, rfl, .inr ⟨by decide, by decide⟩, _, rfl, .inl ⟨_, rfl, _, _, rfl, rfl, .inl ⟨_, rfl, _, _, rfl, rfl, (show (0 : Int) < 2147483647 from by decide), ?_⟩⟩⟩
    exact ⟨_, some (.int z), rfl, rfl⟩
  · rintro σ H' ⟨m, v, rfl, rfl⟩
    refine ⟨_, rfl, a, _, rfl, .inl hS, fun l hl2 => ⟨_, rfl, (by show 6 ≤ sizeLine; decide), fun p hp => ?_⟩⟩
    have hpl : l ≠ p := ne_of_none upd_same hp
    have hp0 : H' p = none := by rwa [upd_ne (Ne.symm hpl)] at hp
    refine q _ p l hp0 ⟨ns, 0, 0, 0, m, 0, upd_same, by rw [upd_ne hpl]; exact upd_same, by omega, hl⟩ (Same.trans (same_new hl2 _) (same_new hp _))

theorem c__law_load (T : TX K mg) : C8.Cal P w K mg base 1 "_law_load" spLoadL [] := by
  refine cal T.h__law_load sc__law_load (fun _ _ _ _ _ _ us hl => match us, hl with | [_], _ => rfl) (fun vs H Q E h => ?_) (fun f cdv A outer s H vs Q E hr h => ?_)
  · obtain ⟨a, l, rfl, _⟩ := h
    rfl
  obtain ⟨a, l, rfl, ⟨ns, i, x, c, m, o, ha, hl, hi, h63⟩, q⟩ := h
  have nla := fl_ne ha hl
  refine ⟨_, (pss_cons (ps_if (pt_cmpR op_ge (pe_ix ix_list (pv 0) pe_int (fun _ _ => rfl)) (pe_callB call_len_seq (by rfl) T.B.len (by decide +kernel) (pa_cons (pe_ix ix_list (pv 0) pe_int (fun _ _ => rfl)) pa_nil)) (nomark _)) (pss_cons (ps_asg pe_int (pg_sub (pv 0) pe_int set_list))
    (pss_cons (ps_asg pe_int (pg_sub (pv 0) pe_int set_list))
    (pss_cons (ps_asg pe_int (pg_sub (pv 0) pe_int set_list))
    (pss_one ps_retN)))) pss_nil)
    (pss_cons (ps_set (i := 1) (C8.fnScope_by sc__law_load).nd rfl (Or.inl rfl) (pe_callTy call_int1 (by rfl) T.B.int (by decide +kernel) (pa_cons (pe_ix ix_list (pe_ix ix_list (pv 0) pe_int (fun _ _ => rfl)) (pe_ix ix_list (pv 0) pe_int (fun _ _ => rfl)) (fun _ _ => rfl)) pa_nil)))
    (pss_cons (ps_asg (pe_op op_add (pe_ix ix_list (pv 0) pe_int (fun _ _ => rfl)) pe_int) (pg_sub (pv 0) pe_int set_list))
    (pss_cons (ps_asg (pe_op op_fdiv (pe_callB call_abs (by rfl) T.B.abs (by decide +kernel) (pa_cons (pv 1) pa_nil)) pe_int) (pg_sub (pv 0) pe_int set_list))
    (pss_cons (ps_asg pe_int (pg_sub (pv 0) pe_int set_list))
    (pss_cons (ps_asg (pe_op op_mod (pe_callTy call_int1 (by rfl) T.B.int (by decide +kernel) (pa_cons (pv 1) pa_nil)) pe_int) (pg_sub (pv 0) pe_int set_list))
    (pss_one (ps_if (pt_cmpR op_eq (pe_ix ix_list (pv 0) pe_int (fun _ _ => rfl)) pe_int (nomark _)) (pss_cons (ps_asg (pe_op op_mod (pe_callTy call_int1 (by rfl) T.B.int (by decide +kernel) (pa_cons (pe_ix ix_list (pv 0) pe_int (fun _ _ => rfl)) pa_nil)) pe_int) (pg_sub (pv 0) pe_int set_list))
    (pss_one (ps_asg pe_int (pg_sub (pv 0) pe_int set_list)))) pss_nil)))))))), ?_⟩
  refine ⟨_, rfl, a, _, 1, _, rfl, rfl, SqL.of ha, rfl, _, rfl, a, _, 0, _, rfl, rfl, SqL.of ha, rfl, l, _, rfl, .inl (SqL.of hl), _, _, rfl, rfl, _, rfl, ?_⟩
  rw [List.length_map]
  refine ite2 (fun cc => ?_) (fun cc => ?_)
  · refine ⟨_, rfl, a, _, 2, 2, rfl, rfl, ha, rfl, _, rfl, a, _, 3, 3, rfl, rfl, upd_same, rfl, _, rfl, a, _, 5, 5, rfl, rfl, upd_same, rfl, ?_⟩
    exact q _ ⟨ns, i, 40503, 1000, m, 1, upd_same, by rw [upd_ne nla, upd_ne nla, upd_ne nla]; exact hl, hi, h63⟩ But.refl.upd.upd.upd
  · have c' : ¬ (((ns.length : Nat) : Int) ≤ i) := of_decide_eq_false (Bool.eq_false_iff.mpr cc)
    have hi2 : i.toNat < ns.length := by omega
    have hx : atI (ns.map V.int) i = some (.int ns[i.toNat]) := at_of (j := i.toNat) (by omega) (by rw [List.getElem?_map, List.getElem?_eq_getElem hi2] <;> rfl)
    -- cell; flow[1]; flow[2]
    refine ⟨_, rfl, a, _, 0, _, rfl, rfl, SqL.of ha, rfl, _, rfl, a, _, 1, _, rfl, rfl, SqL.of ha, rfl, l, _, _, _, rfl, rfl, SqL.of hl, hx, .inl ⟨_, rfl, ?_⟩⟩
    refine ⟨_, rfl, a, _, 1, _, rfl, rfl, SqL.of ha, rfl, _, _, rfl, rfl, _, rfl, a, _, 1, 1, rfl, rfl, ha, rfl, ?_⟩
    have hl1 : ∀ o : HO, upd H a o l = some (.lst (ns.map V.int)) := fun o => by rw [upd_ne nla]; exact hl
    refine ⟨_, rfl, _, rfl, _, _, rfl, rfl, ⟨by decide, by decide⟩, _, rfl, a, _, 2, 2, rfl, rfl, upd_same, rfl, ?_⟩
    refine ⟨_, rfl, a, _, 3, 3, rfl, rfl, upd_same, rfl, ?_⟩
    refine ⟨_, rfl, .inl ⟨_, rfl, _, _, rfl, rfl, (show (0 : Int) < 2 from by decide), _, rfl, a, _, 5, 5, rfl, rfl, upd_same, rfl, ?_⟩⟩
    refine ⟨_, rfl, a, _, 5, _, rfl, rfl, SqL.of upd_same, rfl, rfl, _, rfl, ?_⟩
    refine ite2 (fun cc2 => ?_) (fun cc2 => ?_)
    · refine ⟨_, rfl, a, _, 2, _, rfl, rfl, SqL.of upd_same, rfl, .inl ⟨_, rfl, _, _, rfl, rfl, (show (0 : Int) < 2147483629 from by decide), _, rfl, a, _, 2, 2, rfl, rfl, upd_same, rfl, _, rfl, a, _, 3, 3, rfl, rfl, upd_same, rfl, ?_⟩⟩
      exact q _ ⟨ns, i + 1, _, _, m, _, upd_same, by rw [upd_ne nla, upd_ne nla, upd_ne nla, upd_ne nla, upd_ne nla, upd_ne nla]; exact hl, by omega, h63⟩ But.refl.upd.upd.upd.upd.upd.upd
    · exact q _ ⟨ns, i + 1, _, _, m, _, upd_same, by rw [upd_ne nla, upd_ne nla, upd_ne nla, upd_ne nla]; exact hl, by omega, h63⟩ But.refl.upd.upd.upd.upd

theorem c__law_draw (T : TX K mg) : C8.Cal P w K mg base 2 "_law_draw" spDrawL [] := by
  refine cal T.h__law_draw sc__law_draw (fun _ _ _ _ _ _ us hl => match us, hl with | [_, _], _ => rfl) (fun vs H Q E h => ?_) (fun f cdv A outer s H vs Q E hr h => ?_)
  · obtain ⟨a, l, n, rfl, _⟩ := h
    rfl
  obtain ⟨a, l, n, rfl, hf, hn, q⟩ := h
  have hm := mx_pos n
  refine ⟨_, (pss_cons (ps_if (pt_cmpR op_eq (pe_ix ix_list (pv 0) pe_int (fun _ _ => rfl)) pe_int (nomark _)) (pss_one (ps_expr (C8.pe_c (c__law_load T) hr (by decide) (by rfl) (pa_cons (pv 0) pa_nil)))) pss_nil)
    (pss_cons (ps_asg (pe_op op_sub (pe_ix ix_list (pv 0) pe_int (fun _ _ => rfl)) pe_int) (pg_sub (pv 0) pe_int set_list))
    (pss_cons (ps_if (pt_cmpR op_eq (pe_ix ix_list (pv 0) pe_int (fun _ _ => rfl)) pe_int (nomark _)) (pss_cons (ps_asg (pe_op op_mod (pe_callTy call_int1 (by rfl) T.B.int (by decide +kernel) (pa_cons (pe_op op_add (pe_op op_add (pe_op op_mul (pe_ix ix_list (pv 0) pe_int (fun _ _ => rfl)) pe_int) (pe_ix ix_list (pv 0) pe_int (fun _ _ => rfl))) pe_int) pa_nil)) pe_int) (pg_sub (pv 0) pe_int set_list))
    (pss_one (ps_ret (pe_op op_mod (pe_callTy call_int1 (by rfl) T.B.int (by decide +kernel) (pa_cons (pe_op op_fdiv (pe_ix ix_list (pv 0) pe_int (fun _ _ => rfl)) pe_int) pa_nil)) (pe_callB (call_max2 rfl) (by rfl) T.B.max (by decide +kernel) (pa_cons pe_int (pa_cons (pv 1) pa_nil))))))) pss_nil)
    (pss_cons (ps_set (i := 2) (C8.fnScope_by sc__law_draw).nd rfl (Or.inl rfl) (pe_op op_mod (pe_callTy call_int1 (by rfl) T.B.int (by decide +kernel) (pa_cons (pe_ix ix_list (pv 0) pe_int (fun _ _ => rfl)) pa_nil)) (pe_callB (call_max2 rfl) (by rfl) T.B.max (by decide +kernel) (pa_cons pe_int (pa_cons (pv 1) pa_nil)))))
    (pss_cons (ps_asg (pe_op op_fdivW (pe_ix ix_list (pv 0) pe_int (fun _ _ => rfl)) (pe_callB (call_max2 rfl) (by rfl) T.B.max (by decide +kernel) (pa_cons pe_int (pa_cons (pv 1) pa_nil)))) (pg_sub (pv 0) pe_int set_list))
    (pss_cons (ps_if (pt_cmpR op_eq (pe_ix ix_list (pv 0) pe_int (fun _ _ => rfl)) pe_int (nomark _)) (pss_one (ps_asg pe_int (pg_sub (pv 0) pe_int set_list))) pss_nil)
    (pss_one (ps_ret (pv 2))))))))), ?_⟩
  -- flow[3] == 0; behind it some stream at H1
  have hf0 := hf
  obtain ⟨ns, i, x, c, m, o, ha, hl, hi, h63⟩ := hf
  refine ⟨_, rfl, a, _, 3, _, rfl, rfl, SqL.of ha, rfl, rfl, _, rfl, ?_⟩
  refine bothL hf0 (fun main => ⟨_, rfl, a, l, rfl, hf0, main⟩) (fun H1 hf1 b1 => ?_)
  clear ha hl hi h63 ns i x c m o
  obtain ⟨ns, i, x, c, m, o, ha, hl, hi, h63⟩ := hf1
  have nla := fl_ne ha hl
  -- flow[3] = flow[3] - 1; flow[5] == 1
  refine ⟨_, rfl, a, _, 3, _, rfl, rfl, SqL.of ha, rfl, _, _, rfl, rfl, _, rfl, a, _, 3, 3, rfl, rfl, ha, rfl, ?_⟩
  refine ⟨_, rfl, a, _, 5, _, rfl, rfl, SqL.of upd_same, rfl, rfl, _, rfl, ?_⟩
  refine ite2 (fun cc => ?_) (fun cc => ?_)
  · refine ⟨_, rfl, a, _, 4, _, rfl, rfl, SqL.of upd_same, rfl, _, _, rfl, rfl, .inr ⟨by decide, by decide⟩, _, rfl, a, _, 2, _, rfl, rfl, SqL.of upd_same, rfl, _, _, rfl, rfl, _, _, rfl, rfl, .inl ⟨_, rfl, _, _, rfl, rfl, (show (0 : Int) < 2147483647 from by decide), _, rfl, a, _, 4, 4, rfl, rfl, upd_same, rfl, ?_⟩⟩
    refine ⟨_, rfl, a, _, 4, _, rfl, rfl, SqL.of upd_same, rfl, _, _, rfl, rfl, ⟨by decide, by decide⟩, .inl ⟨_, rfl, _, rfl, _, _, rfl, _, _, rfl, rfl, hm, ?_⟩⟩
    exact q _ _ ⟨ns, i, _, _, _, _, upd_same, by rw [upd_ne nla, upd_ne nla]; exact hl, hi, h63⟩ b1.upd.upd (Int.emod_nonneg _ (by omega)) (Int.emod_lt_of_pos _ hm)
  · refine ⟨_, rfl, a, _, 2, _, rfl, rfl, SqL.of upd_same, rfl, .inl ⟨_, rfl, _, rfl, _, _, rfl, _, _, rfl, rfl, hm, ?_⟩⟩
    refine ⟨_, rfl, a, _, 2, _, rfl, rfl, SqL.of upd_same, rfl, _, rfl, _, _, rfl, _, _, rfl, rfl, wide_div hm (mx_big hn) (by decide) (by decide), _, rfl, a, _, 2, 2, rfl, rfl, upd_same, rfl, ?_⟩
    refine ⟨_, rfl, a, _, 2, _, rfl, rfl, SqL.of upd_same, rfl, rfl, _, rfl, ?_⟩
    refine ite2 (fun c2 => ?_) (fun c2 => ?_)
    · refine ⟨_, rfl, a, _, 3, 3, rfl, rfl, upd_same, rfl, _, rfl, ?_⟩
      exact q _ _ ⟨ns, i, _, _, _, _, upd_same, by rw [upd_ne nla, upd_ne nla, upd_ne nla]; exact hl, hi, h63⟩ b1.upd.upd.upd (Int.emod_nonneg _ (by omega)) (Int.emod_lt_of_pos _ hm)
    · refine ⟨_, rfl, ?_⟩
      exact q _ _ ⟨ns, i, _, _, _, _, upd_same, by rw [upd_ne nla, upd_ne nla]; exact hl, hi, h63⟩ b1.upd.upd (Int.emod_nonneg _ (by omega)) (Int.emod_lt_of_pos _ hm)

theorem c__law_pick (T : TX K mg) : C8.Cal P w K mg base 3 "_law_pick" (spPickL K) [] := by
  refine cal T.h__law_pick sc__law_pick (fun _ _ _ _ _ _ us hl => match us, hl with | [_, _], _ => rfl) (fun vs H Q E h => ?_) (fun f cdv A outer s H vs Q E hr h => ?_)
  · obtain ⟨a, l, t, xs, rfl, _⟩ := h
    rfl
  obtain ⟨a, l, t, xs, rfl, hf, ht, kt, h0, h1, q⟩ := h
  refine ⟨_, (pss_one (ps_ret (pe_ix ix_list (pv 1) (C8.pe_c (c__law_draw T) hr (by decide) (by rfl) (pa_cons (pv 0) (pa_cons (pe_callB call_len_seq (by rfl) T.B.len (by decide +kernel) (pa_cons (pv 1) pa_nil)) pa_nil))) (fun _ _ => rfl)))), ?_⟩
  refine ⟨_, rfl, _, rfl, _, rfl, t, xs, rfl, .inl ht, a, l, _, rfl, hf, ?_, fun H' r hf' b' r0 r1 => ?_⟩
  · exact Nat.lt_of_lt_of_le (show (xs.length : Int).natAbs < 2 ^ 20 by omega) (Nat.pow_le_pow_right (by decide) (by decide))
  · have rl : r < (xs.length : Int) := by
      unfold mx at r1
      split at r1 <;> omega
    have hx : xs[r.toNat]? = some xs[r.toNat] := List.getElem?_eq_getElem (by omega)
    exact ⟨t, xs, r, _, rfl, rfl, kt H' b', at_of (j := r.toNat) (by omega) hx, q _ _ hf' b' (List.getElem_mem ..)⟩
end
end My

namespace My
open PySem PySem.Spec PyProof.Rows L2 SX
theorem small400 {n : Int} (h : n.natAbs < 2 ^ 100) : n.natAbs < 2 ^ 400 := Nat.lt_of_lt_of_le h (Nat.pow_le_pow_right (by decide) (by decide))
theorem join_letters (ls : List Nat) : Txt.join ("" : Str) (ls.map fun c => S [c]) = S ls := by
  have e : ls.map (fun c => S [c]) = (ls.map fun c => [c]).map S := by rw [List.map_map]; rfl
  rw [show ("" : Str) = S [] from by decide +kernel, e, join_S, join0]
  congr 1
  induction ls with
  | nil => rfl
  | cons c r ih =>
    rw [List.map_cons, List.flatten_cons, ih (by rw [List.map_map]; rfl)]
    rfl
theorem lens_letters (ls : List Nat) : ((ls.map fun c => S [c]).map (·.length)).sum = ls.length := by
  induction ls with
  | nil => rfl
  | cons c r ih =>
    rw [List.map_cons, List.map_cons, List.sum_cons, ih, len_S]
    show 1 + r.length = r.length + 1
    omega
def spLetter : Sp := fun vs H Q _ => ∃ a l, vs = [.ref a] ∧ FlowL H a l ∧ ∀ H' c, FlowL H' a l → But a H H' → Low c → Q (.str (S [c])) H'
def spName : Sp := fun vs H Q _ => ∃ a l, vs = [.ref a] ∧ FlowL H a l ∧ ∀ H' s, FlowL H' a l → But a H H' → IsName s → Q (.str s) H'
def spNear : Sp := fun vs H Q _ => ∃ a l s, vs = [.ref a, .str s] ∧ IsName s ∧ FlowL H a l ∧ ∀ H' s', FlowL H' a l → But a H H' → IsName s' → Q (.str s') H'
section
variable {P : Program} {w : World} {K : PySem.W.Frag} {mg : Str → Option Value} {base : Heap}
theorem sc__law_letter : C8.scC ["flow"] ["flow"] (defScope s__law_letter) = true := by decide +kernel
theorem sc__law_name : C8.scC ["flow", "k"] ["flow"] (defScope s__law_name) = true := by decide +kernel
theorem sc__law_near : C8.scC ["flow", "name", "at", "kind"] ["flow", "name"] (defScope s__law_near) = true := by decide +kernel
theorem c__law_letter (T : TX K mg) : C8.Cal P w K mg base 3 "_law_letter" spLetter [] := by
  refine cal T.h__law_letter sc__law_letter (fun _ _ _ _ _ _ us hl => match us, hl with | [_], _ => rfl) (fun vs H Q E h => ?_) (fun f cdv A outer s H vs Q E hr h => ?_)
  · obtain ⟨a, l, rfl, _⟩ := h
    rfl
  obtain ⟨a, l, rfl, hf, q⟩ := h
  refine ⟨_, (pss_one (ps_ret (pe_ix ix_str pe_str (C8.pe_c (c__law_draw T) hr (by decide) (by rfl) (pa_cons (pv 0) (pa_cons pe_int pa_nil))) (fun _ _ => rfl)))), ?_⟩
  refine ⟨_, rfl, a, l, 26, rfl, hf, small400 (by decide), fun H1 r f1 b1 r0 r1 => ?_⟩
  obtain ⟨c, hc, lc⟩ := abc_at r0 (show r < 26 from r1)
  exact ⟨_, _, c, rfl, rfl, by decide +kernel, hc, q _ _ f1 b1 lc⟩
theorem c__law_name (T : TX K mg) : C8.Cal P w K mg base 4 "_law_name" spName [] := by
  refine cal T.h__law_name sc__law_name (fun _ _ _ _ _ _ us hl => match us, hl with | [_], _ => rfl) (fun vs H Q E h => ?_) (fun f cdv A outer s H vs Q E hr h => ?_)
  · obtain ⟨a, l, rfl, _⟩ := h
    rfl
  obtain ⟨a, l, rfl, hf, q⟩ := h
  refine ⟨_, (pss_one (ps_ret (pe_join pe_str (pe_lc (own := [("k", 1)]) (g := (gName 1)) (tt := tYes) (by rfl) (C8.fnScope_by sc__law_name).nd (pi_range1 (by rfl) T.B.range (pa_cons (pe_op op_add pe_int (C8.pe_c (c__law_draw T) hr (by decide) (by rfl) (pa_cons (pv 0) (pa_cons pe_int pa_nil)))) pa_nil)) (blkOk_by (own := [("k", 1)]) (N := ["flow", "k"]) (sc := defScope s__law_name) (by decide +kernel)) (fun _ _ _ _ _ => pg_name (i := 1) (C8.fnScope_by sc__law_name).nd rfl (Or.inl rfl)) (fun _ _ _ _ _ => pts_nil) (fun _ _ _ _ _ => (C8.pe_c (c__law_letter T) hr (by decide) (by rfl) (pa_cons (pv 0) pa_nil))))))), ?_⟩
  refine ⟨⟨_, rfl⟩, _, rfl, a, l, 8, rfl, hf, small400 (by decide), fun H1 r f1 b1 r0 r1 => ?_⟩
  have r8 : r < 8 := r1
  refine ⟨_, _, rfl, rfl, _, rfl, by omega, by omega, fun D hD => ?_⟩
  have nD := f1.neq hD
  obtain ⟨n, hn⟩ : ∃ n : Nat, (1 + r).toNat = n := ⟨_, rfl⟩
  rw [hn]
  refine lc_range (lo := 0) (n := n) (fun i H' => FlowL H' a l ∧ But a H1 H' ∧ ∃ ls : List Nat, ls.length = i ∧ (∀ c ∈ ls, Low c) ∧ H' D = some (.lst ((ls.map fun c => S [c]).map V.str)))
    ⟨f1.keep (same_new hD _), But.same (same_new hD _), [], rfl, fun c hc => (nomatch hc), upd_same⟩ (fun i H' hi ⟨f', b', ls, hl, hc, e⟩ => ?_) (fun H' ⟨f', b', ls, hl, hc, e⟩ => ?_)
  · refine ⟨rfl, ?_⟩
    delta tYes
    dsimp only
    rw [if_pos rfl]
    refine ⟨_, rfl, a, l, rfl, f', fun H2 c f2 b2 lc => ?_⟩
    have e2 := b2 _ _ e nD.1
    refine ⟨_, e2, by rw [List.length_map, List.length_map]; exact small1000 (by omega), ?_⟩
    refine ⟨?_, ?_, ls ++ [c], by rw [List.length_append, hl]; rfl, fun d hd => ?_, ?_⟩
    · exact f2.upd nD
    · exact (b'.trans b2).upd' hD
    · rcases List.mem_append.mp hd with hd | hd
      · exact hc d hd
      · rw [List.mem_singleton.mp hd]; exact lc
    · rw [upd_same, List.map_append, List.map_append]
      rfl
  · refine ⟨_, D, _, rfl, rfl, .inl (SqL.of e), ?_, ?_⟩
    · rw [lens_letters, List.length_map, hl]
      show n + n * 0 ≤ _
      omega
    · rw [join_letters]
      exact q _ _ f' (b1.trans b') ⟨ls, rfl, by omega, by omega, hc⟩
theorem c__law_near (T : TX K mg) : C8.Cal P w K mg base 4 "_law_near" spNear [] := by
  refine cal T.h__law_near sc__law_near (fun _ _ _ _ _ _ us hl => match us, hl with | [_, _], _ => rfl) (fun vs H Q E h => ?_) (fun f cdv A outer s H vs Q E hr h => ?_)
  · obtain ⟨a, l, s, rfl, _⟩ := h
    rfl
  obtain ⟨a, l, s, rfl, hs, hf, q⟩ := h
  refine ⟨_, (pss_cons (ps_set (i := 2) (C8.fnScope_by sc__law_near).nd rfl (Or.inl rfl) (C8.pe_c (c__law_draw T) hr (by decide) (by rfl) (pa_cons (pv 0) (pa_cons (pe_callB call_len_str (by rfl) T.B.len (by decide +kernel) (pa_cons (pv 1) pa_nil)) pa_nil))))
    (pss_cons (ps_set (i := 3) (C8.fnScope_by sc__law_near).nd rfl (Or.inl rfl) (C8.pe_c (c__law_draw T) hr (by decide) (by rfl) (pa_cons (pv 0) (pa_cons pe_int pa_nil))))
    (C8.pss_cut (ps_if (PW.pt (pw_and (pt_cmpR op_eq (pv 3) pe_int (nomark _)) (pw_and1 (pt_cmpR op_lt (pe_callB call_len_str (by rfl) T.B.len (by decide +kernel) (pa_cons (pv 1) pa_nil)) pe_int (nomark _))))) (pss_one (ps_ret (pe_op op_add_str (pe_op op_add_str (pe_slice C8.sl_txt (pv 1) po_none (po_some (pv 2))) (C8.pe_c (c__law_letter T) hr (by decide) (by rfl) (pa_cons (pv 0) pa_nil))) (pe_slice C8.sl_txt (pv 1) (po_some (pv 2)) po_none)))) pss_nil)
    (C8.pss_cut (ps_if (PW.pt (pw_and (pt_cmpR op_eq (pv 3) pe_int (nomark _)) (pw_and1 (pt_cmpR op_gt (pe_callB call_len_str (by rfl) T.B.len (by decide +kernel) (pa_cons (pv 1) pa_nil)) pe_int (nomark _))))) (pss_one (ps_ret (pe_op op_add_str (pe_slice C8.sl_txt (pv 1) po_none (po_some (pv 2))) (pe_slice C8.sl_txt (pv 1) (po_some (pe_op op_add (pv 2) pe_int)) po_none)))) pss_nil)
    (pss_one (ps_ret (pe_op op_add_str (pe_op op_add_str (pe_slice C8.sl_txt (pv 1) po_none (po_some (pv 2))) (C8.pe_c (c__law_letter T) hr (by decide) (by rfl) (pa_cons (pv 0) pa_nil))) (pe_slice C8.sl_txt (pv 1) (po_some (pe_op op_add (pv 2) pe_int)) po_none)))))))), ?_⟩
  obtain ⟨w, rfl, w1, w8, lw⟩ := hs
  have lz : (S w).length ≤ sizeLine := small_len (by rw [len_S]; omega)
  refine ⟨_, rfl, _, rfl, _, rfl, lz, a, l, _, rfl, hf, ?_, fun H1 at_ f1 b1 a0 a1 => ?_⟩
  · rw [len_S]
    exact small400 (Nat.lt_of_lt_of_le (show ((w.length : Nat) : Int).natAbs < 2 ^ 4 by omega) (by decide))
  have a1 : at_ < (w.length : Int) := by
    rw [len_S] at a1
    unfold mx at a1
    split at a1 <;> omega
  obtain ⟨n, rfl⟩ : ∃ n : Nat, at_ = n := ⟨at_.toNat, by omega⟩
  refine ⟨_, rfl, a, l, 3, rfl, f1, small400 (by decide), fun H2 k f2 b2 _ _ => ?_⟩
  have b := b1.trans b2
  have e1 : Txt.slice (S w) none (some (n : Int)) = S (w.take n) := slice_to (by omega)
  have e2 : Txt.slice (S w) (some (n : Int)) none = S (w.drop n) := slice_from (by omega)
  have e3 : Txt.slice (S w) (some ((n : Int) + 1)) none = S (w.drop (n + 1)) := by
    have e := slice_from (a := w) (i := (n : Int) + 1) (by omega)
    rw [e]
    congr 2
  have lt := List.length_take (i := n) (l := w)
  have ld := List.length_drop (i := n) (l := w)
  have ld1 := List.length_drop (i := n + 1) (l := w)
  have nm : ∀ u : List Nat, 1 ≤ u.length → u.length ≤ 8 → (∀ c ∈ u, Low c) → IsName (S u) := fun u h1 h2 h3 => ⟨u, rfl, h1, h2, h3⟩
  have sm : ∀ u v : List Nat, u.length + v.length ≤ 9 → (S u).length + (S v).length ≤ sizeLine := fun u v h => by
    rw [len_S, len_S]
    exact Nat.le_trans h (by decide)
  refine ⟨fun σ' H' => σ' = [some (.ref a), some (.str (S w)), some (.int n), some (.int k)] ∧ H2 = H', ⟨_, rfl, rfl, _, rfl, ite2 (fun c => ⟨_, rfl, _, rfl, lz, _, _, rfl, rfl, _, rfl, ite2 (fun c2 => ?_) (fun _ => ⟨rfl, rfl⟩)⟩) (fun _ => ⟨rfl, rfl⟩)⟩, fun σ' H' ⟨es, eh⟩ => ?_⟩
  · have c3 := of_decide_eq_true c2
    rw [len_S] at c3
    refine ⟨_, rfl, _, rfl, _, rfl, _, rfl, lz, ?_⟩
    rw [e1]
    refine ⟨_, rfl, a, l, rfl, f2, fun H3 c f3 b3 lc => ?_⟩
    refine ⟨_, _, rfl, rfl, sm _ [c] (by show _ + 1 ≤ 9; omega), _, rfl, _, rfl, _, rfl, _, rfl, lz, ?_⟩
    rw [e2, S_cat]
    refine ⟨_, _, rfl, rfl, sm _ _ (by rw [List.length_append, List.length_singleton]; omega), ?_⟩
    rw [S_cat]
    refine q _ _ f3 (b.trans b3) (nm _ (by rw [List.length_append, List.length_append, List.length_singleton]; omega) (by rw [List.length_append, List.length_append, List.length_singleton]; omega) fun d hd => ?_)
    rcases List.mem_append.mp hd with hd | hd
    · rcases List.mem_append.mp hd with hd | hd
      · exact lw d (List.mem_of_mem_take hd)
      · rw [List.mem_singleton.mp hd]; exact lc
    · exact lw d (List.mem_of_mem_drop hd)
  subst es eh
  refine ⟨fun σ' H' => σ' = [some (.ref a), some (.str (S w)), some (.int n), some (.int k)] ∧ H2 = H', ⟨_, rfl, rfl, _, rfl, ite2 (fun c => ⟨_, rfl, _, rfl, lz, _, _, rfl, rfl, _, rfl, ite2 (fun c2 => ?_) (fun _ => ⟨rfl, rfl⟩)⟩) (fun _ => ⟨rfl, rfl⟩)⟩, fun σ' H' ⟨es, eh⟩ => ?_⟩
  · have c3 := of_decide_eq_true c2
    rw [len_S] at c3
    refine ⟨_, rfl, _, rfl, _, rfl, _, rfl, lz, ?_⟩
    rw [e1]
    refine ⟨_, rfl, _, rfl, _, _, rfl, rfl, _, rfl, _, rfl, lz, ?_⟩
    rw [e3]
    refine ⟨_, _, rfl, rfl, sm _ _ (by omega), ?_⟩
    rw [S_cat]
    refine q _ _ f2 b (nm _ (by rw [List.length_append]; omega) (by rw [List.length_append]; omega) fun d hd => ?_)
    rcases List.mem_append.mp hd with hd | hd
    · exact lw d (List.mem_of_mem_take hd)
    · exact lw d (List.mem_of_mem_drop hd)
  subst es eh
  refine ⟨_, rfl, _, rfl, _, rfl, _, rfl, lz, ?_⟩
  rw [e1]
  refine ⟨_, rfl, a, l, rfl, f2, fun H3 c f3 b3 lc => ?_⟩
  refine ⟨_, _, rfl, rfl, sm _ [c] (by show _ + 1 ≤ 9; omega), _, rfl, _, rfl, _, _, rfl, rfl, _, rfl, _, rfl, lz, ?_⟩
  rw [e3, S_cat]
  refine ⟨_, _, rfl, rfl, sm _ _ (by rw [List.length_append, List.length_singleton]; omega), ?_⟩
  rw [S_cat]
  refine q _ _ f3 (b.trans b3) (nm _ (by rw [List.length_append, List.length_append, List.length_singleton]; omega) (by rw [List.length_append, List.length_append, List.length_singleton]; omega) fun d hd => ?_)
  rcases List.mem_append.mp hd with hd | hd
  · rcases List.mem_append.mp hd with hd | hd
    · exact lw d (List.mem_of_mem_take hd)
    · rw [List.mem_singleton.mp hd]; exact lc
  · exact lw d (List.mem_of_mem_drop hd)
end
end My

namespace My
open PySem PySem.Spec PyProof.Rows L2 SX
def lastC (s : Str) : Nat := s.cps.toList.getLastD 0
theorem last_S (l : List Nat) (c : Nat) : lastC (S (l ++ [c])) = c := by
  show (l ++ [c]).getLastD 0 = c
  rw [List.getLastD_concat]
theorem sub_len : ∀ {l m : List Nat}, l.Nodup → (∀ x ∈ l, x ∈ m) → l.length ≤ m.length
  | [], _, _, _ => Nat.zero_le _
  | x :: r, m, nd, h => by
    obtain ⟨n1, n2⟩ := List.nodup_cons.mp nd
    have hx := h x (List.mem_cons_self ..)
    have i := sub_len (m := m.erase x) n2 fun y hy => by
      have ne : y ≠ x := fun e => n1 (by rw [← e]; exact hy)
      rw [List.mem_erase_of_ne ne]
      exact h y (List.mem_cons_of_mem _ hy)
    rw [List.length_erase_of_mem hx] at i
    have p : 0 < m.length := List.length_pos_of_mem hx
    rw [List.length_cons]
    omega
theorem eight {ss : List Str} (h : ∀ j, j < 8 → ∃ t ∈ ss, lastC t = 97 + j) : 8 ≤ ss.length := by
  have e := sub_len (l := (List.range 8).map (97 + ·)) (m := ss.map lastC) (by decide) fun x hx => by
    obtain ⟨j, hj, rfl⟩ := List.mem_map.mp hx
    obtain ⟨t, ht, e⟩ := h j (List.mem_range.mp hj)
    exact List.mem_map.mpr ⟨t, ht, e⟩
  rw [List.length_map, List.length_map, List.length_range] at e
  exact e
theorem nine_eq : ("abcdefghi" : Str).cps = ((List.range 9).map (97 + ·)).toArray := by decide +kernel
/-- the name as it is behind i letters of the walk -/
def Tried (ss : List Str) (i : Nat) (s : Str) : Prop := IsName s ∧ (s ∈ ss → (1 ≤ i → lastC s = 96 + i) ∧ ∀ j, j + 1 < i → ∃ t ∈ ss, lastC t = 97 + j)
theorem tried0 {ss : List Str} {s : Str} (h : IsName s) : Tried ss 0 s := ⟨h, fun _ => ⟨fun z => absurd z (by decide), fun j z => absurd z (by omega)⟩⟩
theorem tried9 {ss : List Str} {s : Str} (h : Tried ss 9 s) (hl : ss.length ≤ 7) : s ∉ ss := fun hm => by
  obtain ⟨h1, h2⟩ := h.2 hm
  have := eight (ss := ss) fun j hj => h2 j (by omega)
  omega
theorem tried_stays {ss : List Str} {i : Nat} {s : Str} (h : Tried ss i s) (hn : s ∉ ss) : Tried ss (i + 1) s := ⟨h.1, fun z => absurd z hn⟩
theorem tried_next {ss : List Str} {i : Nat} {w : List Nat} (h : Tried ss i (S w)) (hm : S w ∈ ss) (hi : i < 9) : Tried ss (i + 1) (S (w.take 7 ++ [97 + i])) := by
  obtain ⟨hn, h2⟩ := h
  obtain ⟨w', e, h1, h8, lw⟩ := hn
  have e := S_inj e
  subst e
  refine ⟨⟨_, rfl, by rw [List.length_append, List.length_singleton]; omega, by rw [List.length_append, List.length_singleton, List.length_take]; omega, fun c hc => ?_⟩, fun _ => ⟨fun _ => by rw [last_S]; omega, fun j hj => ?_⟩⟩
  · rcases List.mem_append.mp hc with hc | hc
    · exact lw c (List.mem_of_mem_take hc)
    · rw [List.mem_singleton.mp hc]
      unfold Low
      omega
  · obtain ⟨a1, a2⟩ := h2 hm
    by_cases q : j + 1 < i
    · exact a2 j q
    · exact ⟨S w, hm, by rw [a1 (by omega)]; omega⟩
def spSides : Sp := fun vs H Q _ => ∃ a l n, vs = [.ref a, .int (n : Nat)] ∧ n ≤ 8 ∧ FlowL H a l ∧ ∀ (H' : Hp) (p : Addr) (ss : List Str), H p = none → FlowL H' a l → But a H H' → H' p = some (.lst (ss.map V.str)) → ss.length = n → (∀ s ∈ ss, IsName s) → ss.Nodup → Q (.ref p) H'
section
variable {P : Program} {w : World} {K : PySem.W.Frag} {mg : Str → Option Value} {base : Heap}
theorem sc__law_sides : C8.scC ["flow", "many", "names", "k", "name", "letter"] ["flow", "many"] (defScope s__law_sides) = true := by decide +kernel
theorem c__law_sides (T : TX K mg) : C8.Cal P w K mg base 5 "_law_sides" spSides [] := by
  refine cal T.h__law_sides sc__law_sides (fun _ _ _ _ _ _ us hl => match us, hl with | [_, _], _ => rfl) (fun vs H Q E h => ?_) (fun f cdv A outer s H vs Q E hr h => ?_)
  · obtain ⟨a, l, n, rfl, _⟩ := h
    rfl
  obtain ⟨a, l, n, rfl, hn, hf, q⟩ := h
  refine ⟨_, (pss_cons (ps_set (i := 2) (C8.fnScope_by sc__law_sides).nd rfl (Or.inl rfl) (pe_lst pa_nil))
    (pss_cons (ps_for PassesOwn.never rfl (pi_range1 (by rfl) T.B.range (pa_cons (pv 1) pa_nil)) (pg_name (i := 3) (C8.fnScope_by sc__law_sides).nd rfl (Or.inl rfl)) (pss_cons (ps_set (i := 4) (C8.fnScope_by sc__law_sides).nd rfl (Or.inl rfl) (C8.pe_c (c__law_name T) hr (by decide) (by rfl) (pa_cons (pv 0) pa_nil)))
    (C8.pss_cut (ps_if (PW.pt (pw_and (pt_cmpR op_gt (pv 3) pe_int (nomark _)) (pw_and1 (pt_cmpR op_eq (C8.pe_c (c__law_draw T) hr (by decide) (by rfl) (pa_cons (pv 0) (pa_cons pe_int pa_nil))) pe_int (nomark _))))) (pss_one (ps_set (i := 4) (C8.fnScope_by sc__law_sides).nd rfl (Or.inl rfl) (C8.pe_c (c__law_near T) hr (by decide) (by rfl) (pa_cons (pv 0) (pa_cons (pe_ix ix_list (pv 2) (C8.pe_c (c__law_draw T) hr (by decide) (by rfl) (pa_cons (pv 0) (pa_cons (pv 3) pa_nil))) (fun _ _ => rfl)) pa_nil))))) pss_nil)
    (C8.pss_cut (ps_for PassesOwn.never rfl (pi_str pe_str) (pg_name (i := 5) (C8.fnScope_by sc__law_sides).nd rfl (Or.inl rfl)) (pss_one (ps_if (pt_cmpR op_in_seq (pv 4) (pv 2) (by rfl)) (pss_one (ps_set (i := 4) (C8.fnScope_by sc__law_sides).nd rfl (Or.inl rfl) (pe_op op_add_str (pe_slice C8.sl_txt (pv 4) po_none (po_some pe_int)) (pv 5)))) pss_nil)))
    (pss_one (ps_expr (pe_bm PySem.F.plainAttrs_list PySem.F.slot_list_append PySem.F.type_list_append mt_append (pv 2) (pa_cons (pv 4) pa_nil))))))))
    (pss_one (ps_ret (pv 2))))), ?_⟩
  refine ⟨by show 0 ≤ sizeLine; decide, fun p hp => ?_⟩
  have np := hf.neq hp
  refine ⟨_, rfl, _, rfl, by omega, by omega, ?_⟩
  rw [Int.toNat_natCast]
  refine for_range (lo := 0) (n := n) (fun i σ H' => ∃ (kk v4 v5 : Option V) (ss : List Str), σ = [some (.ref a), some (.int (n : Nat)), some (.ref p), kk, v4, v5] ∧ FlowL H' a l ∧ But a H H' ∧ H' p = some (.lst (ss.map V.str)) ∧ ss.length = i ∧ (∀ s ∈ ss, IsName s) ∧ ss.Nodup)
    ⟨none, none, none, [], rfl, hf.upd np, But.refl.upd' hp, upd_same, rfl, fun s hs => (nomatch hs), List.nodup_nil⟩ ?_ ?_
  · rintro i σ H1 hi ⟨kk, v4, v5, ss, rfl, f1, b1, e1, hl, hnm, nd⟩
    refine ⟨_, rfl, a, l, rfl, f1, fun H2 s f2 b2 hs => ?_⟩
    have e2 := b2 _ _ e1 np.1
    refine ⟨fun σ' H' => ∃ s', σ' = [some (.ref a), some (.int (n : Nat)), some (.ref p), some (.int (0 + (i : Nat))), some (.str s'), v5] ∧ IsName s' ∧ FlowL H' a l ∧ But a H H' ∧ H' p = some (.lst (ss.map V.str)), ?_, ?_⟩
    · refine ⟨_, rfl, _, _, rfl, rfl, _, rfl, ite2 (fun c => ?_) (fun c => ⟨s, rfl, hs, f2, b1.trans b2, e2⟩)⟩
      refine ⟨_, rfl, a, l, 2, rfl, f2, small400 (by decide), fun H3 r f3 b3 _ _ => ?_⟩
      have e3 := b3 _ _ e2 np.1
      refine ⟨rfl, _, rfl, ite2 (fun c2 => ?_) (fun c2 => ⟨s, rfl, hs, f3, (b1.trans b2).trans b3, e3⟩)⟩
      refine ⟨_, rfl, _, rfl, _, rfl, _, rfl, a, l, _, rfl, f3, small400 ?_, fun H4 r4 f4 b4 r0 r1 => ?_⟩
      · exact Nat.lt_of_lt_of_le (show (0 + (i : Int)).natAbs < 2 ^ 4 by omega) (by decide)
      have e4 := b4 _ _ e3 np.1
      have c3 : (0 : Int) < 0 + (i : Int) := of_decide_eq_true c
      have r2 : r4 < (i : Int) := by
        unfold mx at r1
        split at r1 <;> omega
      have hx : (ss.map V.str)[r4.toNat]? = some (V.str (ss[r4.toNat]'(by omega))) := by rw [List.getElem?_map, List.getElem?_eq_getElem (by omega)]; rfl
      refine ⟨p, _, r4, _, rfl, rfl, SqL.of e4, at_of (j := r4.toNat) (by omega) hx, a, l, _, rfl, hnm _ (List.getElem_mem ..), f4, fun H5 s5 f5 b5 hs5 => ?_⟩
      exact ⟨s5, rfl, hs5, f5, (((b1.trans b2).trans b3).trans b4).trans b5, b5 _ _ e4 np.1⟩
    · rintro σ' H3 ⟨s3, rfl, hs3, f3, b3, e3⟩
      refine ⟨fun σ' H' => ∃ s' v5, σ' = [some (.ref a), some (.int (n : Nat)), some (.ref p), some (.int (0 + (i : Nat))), some (.str s'), v5] ∧ Tried ss 9 s' ∧ H3 = H', ?_, ?_⟩
      · refine ⟨_, rfl, for_it walk_str (fun m σ' H' => ∃ s' v5, σ' = [some (.ref a), some (.int (n : Nat)), some (.ref p), some (.int (0 + (i : Nat))), some (.str s'), v5] ∧ Tried ss m s' ∧ H3 = H') ⟨s3, v5, rfl, tried0 hs3, rfl⟩ (fun _ _ _ _ _ => trivial) ?_ ?_⟩
        · rintro m x σ' H5 H6 hm ⟨s4, v6, rfl, ht, rfl⟩ ⟨rfl, c, hc, rfl⟩
          have hm9 : m < 9 := hm
          obtain rfl : c = 97 + m := by
            rw [nine_eq] at hc
            have hc2 : ((List.range 9).map (97 + ·))[m]? = some c := by
              rw [← hc]
              simp
            rw [List.getElem?_map, List.getElem?_range hm9] at hc2
            exact (Option.some.inj hc2).symm
          refine ⟨_, rfl, _, rfl, p, _, rfl, .inl (SqL.of e3), rfl, flat_strs _, _, rfl, ?_⟩
          rw [show (if false = true then !inV (V.str s4) (ss.map V.str) else inV (V.str s4) (ss.map V.str)) = ss.contains s4 from inV_str s4 ss]
          refine ite2 (fun q1 => ?_) (fun q1 => ?_)
          · have hmem : s4 ∈ ss := List.contains_iff_mem.mp q1
            obtain ⟨w4, rfl, w1, w8, lw⟩ := id ht.1
            refine ⟨_, rfl, _, rfl, _, rfl, small_len (by rw [len_S]; omega), ?_⟩
            rw [slice_to (by decide)]
            refine ⟨_, rfl, _, _, rfl, rfl, ?_, ?_⟩
            · rw [len_S]
              show (w4.take 7).length + 1 ≤ sizeLine
              rw [List.length_take]
              exact Nat.le_trans (show min 7 w4.length + 1 ≤ 8 by omega) (by decide)
            · refine ⟨_, _, rfl, ?_, rfl⟩
              rw [show (S (w4.take (7 : Int).toNat) ++ (⟨#[97 + m]⟩ : Str)) = S (w4.take 7 ++ [97 + m]) from S_cat _ _]
              exact tried_next ht hmem hm9
          · have hmem : s4 ∉ ss := fun z => q1 (List.contains_iff_mem.mpr z)
            exact ⟨s4, _, rfl, tried_stays ht hmem, rfl⟩
        · rintro σ' H5 ⟨s4, v6, rfl, ht, rfl⟩
          exact ⟨s4, v6, rfl, ht, rfl⟩
      · rintro σ' H5 ⟨s4, v6, rfl, ht, rfl⟩
        have fresh := tried9 ht (by omega)
        refine ⟨_, rfl, .inl ⟨rfl, _, SqL.of e3⟩, _, rfl, p, _, _, rfl, rfl, e3, ?_, ?_⟩
        · rw [List.length_map]
          exact small1000 (by omega)
        · refine ⟨_, _, _, ss ++ [s4], rfl, f3.upd np, b3.upd' hp, ?_, ?_, ?_, ?_⟩
          · rw [upd_same, List.map_append]
            rfl
          · rw [List.length_append, hl]
            rfl
          · intro t ht2
            rcases List.mem_append.mp ht2 with ht2 | ht2
            · exact hnm t ht2
            · rw [List.mem_singleton.mp ht2]
              exact ht.1
          · rw [List.nodup_append]
            refine ⟨nd, by simp, fun x hx y hy e => fresh ?_⟩
            rw [← List.mem_singleton.mp hy, ← e]
            exact hx
  · rintro σ H1 ⟨kk, v4, v5, ss, rfl, f1, b1, e1, hl, hnm, nd⟩
    exact ⟨_, rfl, q _ _ ss hp f1 b1 e1 hl hnm nd⟩
end
end My

namespace My
open PySem PySem.Spec PyProof.Rows L2 SX
def SchemeOk (w : Int) (d : V) (lo : Int) : Prop := 0 ≤ lo ∧ lo < w ∧ w ≤ 100 ∧ (d = .non ∨ ∃ x, d = .int x ∧ lo ≤ x ∧ x ≤ w)
def Good (H : Hp) (x : V) : Prop := ∃ t w d lo, x = .ref t ∧ H t = some (.tup [.int w, d, .int lo]) ∧ SchemeOk w d lo
theorem Good.same {H H' : Hp} {x : V} (k : Same H H') (g : Good H x) : Good H' x := by
  obtain ⟨t, w, d, lo, e, h, ok⟩ := g
  exact ⟨t, w, d, lo, e, k _ _ h, ok⟩
theorem Good.new {H : Hp} {p : Addr} {w : Int} {d : V} {lo : Int} (ok : SchemeOk w d lo) : Good (upd H p (.tup [.int w, d, .int lo])) (.ref p) := ⟨p, w, d, lo, rfl, upd_same, ok⟩
theorem Good.but {H H' : Hp} {a l : Addr} {x : V} (f : FlowL H a l) (k : But a H H') (g : Good H x) : Good H' x := by
  obtain ⟨t, w, d, lo, e, h, ok⟩ := g
  refine ⟨t, w, d, lo, e, k _ _ h fun z => ?_, ok⟩
  obtain ⟨ns, i, x, c, m, o, h1, _⟩ := f
  rw [z, h1] at h
  cases h
theorem mem_cutV {x : V} {xs : List V} {lo hi : Option Int} (h : x ∈ cutV xs lo hi) : x ∈ xs := List.mem_of_mem_drop (List.mem_of_mem_take h)
def spScheme : Sp := fun vs H Q _ => ∃ a l, vs = [.ref a] ∧ FlowL H a l ∧ ∀ H' x, FlowL H' a l → But a H H' → Good H' x → Q x H'
section
variable {P : Program} {w : World} {K : PySem.W.Frag} {mg : Str → Option Value} {base : Heap}
theorem sc__law_scheme : C8.scC ["flow", "schemes", "loss", "win"] ["flow"] (defScope s__law_scheme) = true := by decide +kernel
theorem c__law_scheme (T : TX K mg) : C8.Cal P w K mg base 4 "_law_scheme" spScheme [] := by
  refine cal T.h__law_scheme sc__law_scheme (fun _ _ _ _ _ _ us hl => match us, hl with | [_], _ => rfl) (fun vs H Q E h => ?_) (fun f cdv A outer s H vs Q E hr h => ?_)
  · obtain ⟨a, l, rfl, _⟩ := h
    rfl
  obtain ⟨a, l, rfl, hf, q⟩ := h
  refine ⟨_, (C8.pss_cut (ps_set (i := 1) (C8.fnScope_by sc__law_scheme).nd rfl (Or.inl rfl) (pe_lst (pa_cons (pe_tup (pa_cons pe_int (pa_cons pe_non (pa_cons pe_int pa_nil)))) (pa_cons (pe_tup (pa_cons pe_int (pa_cons pe_int (pa_cons pe_int pa_nil)))) (pa_cons (pe_tup (pa_cons pe_int (pa_cons pe_int (pa_cons pe_int pa_nil)))) (pa_cons (pe_tup (pa_cons pe_int (pa_cons pe_int (pa_cons pe_int pa_nil)))) (pa_cons (pe_tup (pa_cons pe_int (pa_cons pe_int (pa_cons pe_int pa_nil)))) (pa_cons (pe_tup (pa_cons pe_int (pa_cons pe_non (pa_cons pe_int pa_nil)))) (pa_cons (pe_tup (pa_cons pe_int (pa_cons pe_int (pa_cons pe_int pa_nil)))) (pa_cons (pe_tup (pa_cons pe_int (pa_cons pe_int (pa_cons pe_int pa_nil)))) pa_nil))))))))))
    (pss_cons (ps_set (i := 2) (C8.fnScope_by sc__law_scheme).nd rfl (Or.inl rfl) (C8.pe_c (c__law_draw T) hr (by decide) (by rfl) (pa_cons (pv 0) (pa_cons pe_int pa_nil))))
    (pss_cons (ps_set (i := 3) (C8.fnScope_by sc__law_scheme).nd rfl (Or.inl rfl) (pe_op op_add (pe_op op_add (pv 2) pe_int) (C8.pe_c (c__law_draw T) hr (by decide) (by rfl) (pa_cons (pv 0) (pa_cons (pe_op op_sub pe_int (pv 2)) pa_nil)))))
    (C8.pss_cut (ps_set (i := 1) (C8.fnScope_by sc__law_scheme).nd rfl (Or.inl rfl) (pe_op op_cat (pv 1) (pe_lst (pa_cons (pe_tup (pa_cons (pv 3) (pa_cons (pe_op op_add (pv 2) (C8.pe_c (c__law_draw T) hr (by decide) (by rfl) (pa_cons (pv 0) (pa_cons (pe_op op_add (pe_op op_sub (pv 3) (pv 2)) pe_int) pa_nil)))) (pa_cons (pv 2) pa_nil)))) (pa_cons (pe_tup (pa_cons (pv 3) (pa_cons pe_non (pa_cons (pv 2) pa_nil)))) pa_nil)))))
    (pss_one (ps_ret (C8.pe_c (c__law_pick T) hr (by decide) (by rfl) (pa_cons (pv 0) (pa_cons (pe_op op_cat (pv 1) (pe_slice sl_list (pv 1) (po_some (pe_un un_neg pe_int)) po_none)) pa_nil))))))))), ?_⟩
  refine ⟨fun σ' H' => ∃ p ys, σ' = [some (.ref a), some (.ref p), none, none] ∧ H' p = some (.lst ys) ∧ (∀ x ∈ ys, Good H' x) ∧ ys.length = 8 ∧ FlowL H' a l ∧ But a H H' ∧ H p = none, ?_, ?_⟩
  · skip
    refine ⟨by show 3 ≤ sizeLine; decide, fun p1 h1 => ⟨by show 3 ≤ sizeLine; decide, fun p2 h2 => ⟨by show 3 ≤ sizeLine; decide, fun p3 h3 => ⟨by show 3 ≤ sizeLine; decide, fun p4 h4 => ⟨by show 3 ≤ sizeLine; decide, fun p5 h5 => ⟨by show 3 ≤ sizeLine; decide, fun p6 h6 => ⟨by show 3 ≤ sizeLine; decide, fun p7 h7 => ⟨by show 3 ≤ sizeLine; decide, fun p8 h8 => ⟨by show 8 ≤ sizeLine; decide, fun p9 h9 => ?_⟩⟩⟩⟩⟩⟩⟩⟩⟩
    have k1 := same_new h1 (.tup [.int 1, .non, .int 0])
    have k2 := same_new h2 (.tup [.int 2, .int 1, .int 0])
    have k3 := same_new h3 (.tup [.int 3, .int 1, .int 0])
    have k4 := same_new h4 (.tup [.int 4, .int 2, .int 1])
    have k5 := same_new h5 (.tup [.int 100, .int 99, .int 98])
    have k6 := same_new h6 (.tup [.int 100, .non, .int 99])
    have k7 := same_new h7 (.tup [.int 3, .int 3, .int 0])
    have k8 := same_new h8 (.tup [.int 5, .int 2, .int 2])
    have k9 := same_new h9 (.lst [.ref p1, .ref p2, .ref p3, .ref p4, .ref p5, .ref p6, .ref p7, .ref p8])
    have g1 := Good.same ((k2.trans (k3.trans (k4.trans (k5.trans (k6.trans (k7.trans (k8.trans k9)))))))) (Good.new (p := p1) (w := 1) (d := .non) (lo := 0) (by unfold SchemeOk; exact ⟨by decide, by decide, by decide, .inl rfl⟩))
    have g2 := Good.same ((k3.trans (k4.trans (k5.trans (k6.trans (k7.trans (k8.trans k9))))))) (Good.new (p := p2) (w := 2) (d := .int 1) (lo := 0) (by unfold SchemeOk; exact ⟨by decide, by decide, by decide, .inr ⟨_, rfl, by decide, by decide⟩⟩))
    have g3 := Good.same ((k4.trans (k5.trans (k6.trans (k7.trans (k8.trans k9)))))) (Good.new (p := p3) (w := 3) (d := .int 1) (lo := 0) (by unfold SchemeOk; exact ⟨by decide, by decide, by decide, .inr ⟨_, rfl, by decide, by decide⟩⟩))
    have g4 := Good.same ((k5.trans (k6.trans (k7.trans (k8.trans k9))))) (Good.new (p := p4) (w := 4) (d := .int 2) (lo := 1) (by unfold SchemeOk; exact ⟨by decide, by decide, by decide, .inr ⟨_, rfl, by decide, by decide⟩⟩))
    have g5 := Good.same ((k6.trans (k7.trans (k8.trans k9)))) (Good.new (p := p5) (w := 100) (d := .int 99) (lo := 98) (by unfold SchemeOk; exact ⟨by decide, by decide, by decide, .inr ⟨_, rfl, by decide, by decide⟩⟩))
    have g6 := Good.same ((k7.trans (k8.trans k9))) (Good.new (p := p6) (w := 100) (d := .non) (lo := 99) (by unfold SchemeOk; exact ⟨by decide, by decide, by decide, .inl rfl⟩))
    have g7 := Good.same ((k8.trans k9)) (Good.new (p := p7) (w := 3) (d := .int 3) (lo := 0) (by unfold SchemeOk; exact ⟨by decide, by decide, by decide, .inr ⟨_, rfl, by decide, by decide⟩⟩))
    have g8 := Good.same (k9) (Good.new (p := p8) (w := 5) (d := .int 2) (lo := 2) (by unfold SchemeOk; exact ⟨by decide, by decide, by decide, .inr ⟨_, rfl, by decide, by decide⟩⟩))
    have kk := (k1.trans (k2.trans (k3.trans (k4.trans (k5.trans (k6.trans (k7.trans (k8.trans k9))))))))
    have f9 := hf.keep kk
    have b9 : But a H _ := But.same kk
    have G9 : ∀ x ∈ ([.ref p1, .ref p2, .ref p3, .ref p4, .ref p5, .ref p6, .ref p7, .ref p8] : List V), Good _ x := fun x hx => by
      simp only [List.mem_cons, List.not_mem_nil, or_false] at hx
      rcases hx with rfl | rfl | rfl | rfl | rfl | rfl | rfl | rfl
      · exact g1
      · exact g2
      · exact g3
      · exact g4
      · exact g5
      · exact g6
      · exact g7
      · exact g8
    exact ⟨p9, _, rfl, upd_same, G9, rfl, f9, b9, ((((((((k1.trans k2).trans k3).trans k4).trans k5).trans k6).trans k7).trans k8)).free h9⟩
  rintro σ1 H1 ⟨p, ys, rfl, e1, G1, hl, f1, b1, hp⟩
  have np := hf.neq hp
  refine ⟨_, rfl, a, l, 100, rfl, f1, small400 (by decide), fun H2 r1 f2 b2 r10 r11 => ?_⟩
  have r12 : r1 < 100 := r11
  have e2 := b2 _ _ e1 np.1
  have G2 := fun x hx => Good.but f1 b2 (G1 x hx)
  refine ⟨_, rfl, _, _, rfl, rfl, _, rfl, _, rfl, _, _, rfl, rfl, a, l, _, rfl, f2, small400 ?_, fun H3 r2 f3 b3 r20 r21 => ?_⟩
  · exact Nat.lt_of_lt_of_le (show (100 - r1).natAbs < 2 ^ 7 by omega) (by decide)
  have r22 : r2 < 100 - r1 := by
    unfold mx at r21
    split at r21 <;> omega
  have e3 := b3 _ _ e2 np.1
  have G3 := fun x hx => Good.but f2 b3 (G2 x hx)
  refine ⟨_, _, rfl, rfl, ?_⟩
  refine ⟨fun σ' H' => ∃ p' ys', σ' = [some (.ref a), some (.ref p'), some (.int r1), some (.int (r1 + 1 + r2))] ∧ H' p' = some (.lst ys') ∧ (∀ x ∈ ys', Good H' x) ∧ ys'.length = 10 ∧ FlowL H' a l ∧ But a H H' ∧ H p' = none, ?_, ?_⟩
  · refine ⟨_, rfl, _, rfl, _, rfl, _, rfl, _, rfl, _, rfl, _, _, rfl, rfl, _, _, rfl, rfl, a, l, _, rfl, f3, small400 ?_, fun H4 r3 f4 b4 r30 r31 => ?_⟩
    · exact Nat.lt_of_lt_of_le (show (r1 + 1 + r2 - r1 + 1).natAbs < 2 ^ 7 by omega) (by decide)
    have r32 : r3 < r1 + 1 + r2 - r1 + 1 := by
      unfold mx at r31
      split at r31 <;> omega
    have e4 := b4 _ _ e3 np.1
    have G4 := fun x hx => Good.but f3 b4 (G3 x hx)
    refine ⟨_, _, rfl, rfl, _, rfl, by show 3 ≤ sizeLine; decide, fun q1 h1 => ⟨_, rfl, _, rfl, by show 3 ≤ sizeLine; decide, fun q2 h2 => ⟨by show 2 ≤ sizeLine; decide, fun q3 h3 => ?_⟩⟩⟩
    have k1 := same_new h1 (.tup [.int (r1 + 1 + r2), .int (r1 + r3), .int r1])
    have k2 := same_new h2 (.tup [.int (r1 + 1 + r2), .non, .int r1])
    have k3 := same_new h3 (.lst [.ref q1, .ref q2])
    have g1 := Good.same (k2.trans k3) (Good.new (p := q1) (w := r1 + 1 + r2) (d := .int (r1 + r3)) (lo := r1) ⟨r10, by omega, by omega, .inr ⟨_, rfl, by omega, by omega⟩⟩)
    have g2 := Good.same k3 (Good.new (p := q2) (w := r1 + 1 + r2) (d := .non) (lo := r1) ⟨r10, by omega, by omega, .inl rfl⟩)
    have kk := k1.trans (k2.trans k3)
    refine ⟨p, q3, _, _, rfl, rfl, kk _ _ e4, upd_same, by rw [hl]; show 10 ≤ sizeLine; decide, fun q4 h4 => ?_⟩
    have k4 := same_new h4 (.lst (ys ++ [.ref q1, .ref q2]))
    refine ⟨q4, _, rfl, upd_same, fun x hx => Good.same k4 ?_, by rw [List.length_append, hl]; rfl, f4.keep (kk.trans k4), (((b1.trans b2).trans b3).trans b4).trans (But.same (kk.trans k4)), ?_⟩
    · rcases List.mem_append.mp hx with hx | hx
      · exact Good.same kk (G4 x hx)
      · simp only [List.mem_cons, List.not_mem_nil, or_false] at hx
        rcases hx with rfl | rfl
        · exact g1
        · exact g2
    · have z := kk.free h4
      cases e : H q4 with
      | none => rfl
      | some o =>
        have z2 := ((((b1.trans b2).trans b3).trans b4)) q4 o e (f4.neq z).1
        rw [z] at z2
        cases z2
  rintro σ1 H4 ⟨p4, ys4, rfl, e4, G4, hl4, f4, b4, hp4⟩
  have np4 := hf.neq hp4
  refine ⟨_, rfl, _, rfl, _, rfl, _, rfl, _, rfl, p4, _, rfl, SqL.of e4, fun q5 h5 => ?_⟩
  have k5 := same_new h5 (.lst (cutV ys4 (some (-2)) none))
  have hc := cutV_length ys4 (some (-2)) none
  refine ⟨p4, q5, _, _, rfl, rfl, k5 _ _ e4, upd_same, by rw [hl4]; exact Nat.le_trans (show 10 + _ ≤ 20 by omega) (by decide), fun q6 h6 => ?_⟩
  have k6 := same_new h6 (.lst (ys4 ++ cutV ys4 (some (-2)) none))
  have f6 := f4.keep (k5.trans k6)
  have np6 := f4.neq (k5.free h6)
  refine ⟨a, l, q6, _, rfl, f6, SqL.of upd_same, fun H' b' => SqL.of (b' _ _ upd_same np6.1), by rw [List.length_append, hl4]; omega, by rw [List.length_append, hl4]; omega, fun H7 x f7 b7 hx => ?_⟩
  refine q H7 x f7 ((b4.trans (But.same (k5.trans k6))).trans b7) (Good.but f6 b7 (Good.same (k5.trans k6) (G4 x ?_)))
  rcases List.mem_append.mp hx with hx | hx
  · exact hx
  · exact mem_cutV hx
end
end My

namespace My
open PySem PySem.Spec PyProof.Rows L2 SX
abbrev fourR : List Str := ["points", "wins", "away", "among"]
/-- rules of a league -/
def RulesOk (rs : List Str) : Prop := rs.Nodup ∧ (∀ x ∈ rs, x ∈ fourR) ∧ rs[0]? = some ("points" : Str) ∧ rs.length ≤ 4
theorem four_nodup : fourR.Nodup := by decide +kernel
theorem seqIx {r : Int} {n : Nat} (h0 : 0 ≤ r) (h1 : r < n) : seqIndex? r n = some r.toNat := by
  refine (ixN_seq (i := r) (n := n) (j := r.toNat) ?_).1
  unfold ixN
  rw [if_pos h0]
  first
    | rw [if_pos (by omega)]
    | (simp; omega)
theorem map_erase : ∀ (ws : List Str) (k : Nat), (ws.map V.str).eraseIdx k = (ws.eraseIdx k).map V.str
  | [], _ => rfl
  | x :: r, 0 => rfl
  | x :: r, k + 1 => by
    show V.str x :: (r.map V.str).eraseIdx k = V.str x :: (r.eraseIdx k).map V.str
    rw [map_erase r k]
theorem perm_out {α : Type} : ∀ (l : List α) (k : Nat) (h : k < l.length), (l[k] :: l.eraseIdx k).Perm l
  | [], _, h => absurd h (Nat.not_lt_zero _)
  | x :: r, 0, _ => List.Perm.refl _
  | x :: r, k + 1, h => by
    have h2 : k < r.length := Nat.lt_of_succ_lt_succ h
    show (r[k] :: x :: r.eraseIdx k).Perm (x :: r)
    exact (List.Perm.swap _ _ _).trans ((perm_out r k h2).cons x)
def spRules : Sp := fun vs H Q _ => ∃ a l, vs = [.ref a] ∧ FlowL H a l ∧ ∀ (H' : Hp) (p : Addr) (rs : List Str), H p = none → FlowL H' a l → But a H H' → H' p = some (.lst (rs.map V.str)) → RulesOk rs → Q (.ref p) H'
section
variable {P : Program} {w : World} {K : PySem.W.Frag} {mg : Str → Option Value} {base : Heap}
theorem sc__law_rules : C8.scC ["flow", "words", "rules", "k"] ["flow"] (defScope s__law_rules) = true := by decide +kernel
theorem c__law_rules (T : TX K mg) : C8.Cal P w K mg base 3 "_law_rules" spRules [] := by
  refine cal T.h__law_rules sc__law_rules (fun _ _ _ _ _ _ us hl => match us, hl with | [_], _ => rfl) (fun vs H Q E h => ?_) (fun f cdv A outer s H vs Q E hr h => ?_)
  · obtain ⟨a, l, rfl, _⟩ := h
    rfl
  obtain ⟨a, l, rfl, hf, q⟩ := h
  refine ⟨_, (pss_cons (ps_set (i := 1) (C8.fnScope_by sc__law_rules).nd rfl (Or.inl rfl) (pe_lst (pa_cons pe_str (pa_cons pe_str (pa_cons pe_str pa_nil)))))
    (pss_cons (ps_set (i := 2) (C8.fnScope_by sc__law_rules).nd rfl (Or.inl rfl) (pe_lst (pa_cons pe_str pa_nil)))
    (pss_cons (ps_for PassesOwn.never rfl (pi_range1 (by rfl) T.B.range (pa_cons (C8.pe_c (c__law_draw T) hr (by decide) (by rfl) (pa_cons (pv 0) (pa_cons pe_int pa_nil))) pa_nil)) (pg_name (i := 3) (C8.fnScope_by sc__law_rules).nd rfl (Or.inl rfl)) (pss_one (ps_expr (pe_bm PySem.F.plainAttrs_list PySem.F.slot_list_append PySem.F.type_list_append mt_append (pv 2) (pa_cons (pe_bm PySem.F.plainAttrs_list PySem.F.slot_list_pop PySem.F.type_list_pop mt_popAt (pv 1) (pa_cons (C8.pe_c (c__law_draw T) hr (by decide) (by rfl) (pa_cons (pv 0) (pa_cons (pe_callB call_len_seq (by rfl) T.B.len (by decide +kernel) (pa_cons (pv 1) pa_nil)) pa_nil))) pa_nil)) pa_nil)))))
    (pss_one (ps_ret (pv 2)))))), ?_⟩
  refine ⟨by show 3 ≤ sizeLine; decide, fun pw hw => ⟨by show 1 ≤ sizeLine; decide, fun pr hr0 => ?_⟩⟩
  have nw := hf.neq hw
  have nwr : pw ≠ pr := ne_of_none upd_same hr0
  have hr1 : H pr = none := by rwa [upd_ne (Ne.symm nwr)] at hr0
  have nr := hf.neq hr1
  have fb := (hf.upd (o := .lst [.str "wins", .str "away", .str "among"]) nw).upd (o := .lst [.str "points"]) nr
  refine ⟨_, rfl, a, l, 4, rfl, fb, small400 (by decide), fun H1 n f1 b1 n0 n1 => ?_⟩
  have n4 : n < 4 := n1
  have w1 := b1 pw _ (by rw [upd_ne nwr]; exact upd_same) nw.1
  have r1 := b1 pr _ upd_same nr.1
  have bb : But a H H1 := ((But.refl.upd' hw).upd' hr1).trans b1
  refine ⟨_, rfl, by omega, by omega, for_range (lo := 0) (n := n.toNat) (fun i σ H' => ∃ (v : Option V) (ws rs : List Str), σ = [some (.ref a), some (.ref pw), some (.ref pr), v] ∧ H' pw = some (.lst (ws.map V.str)) ∧ H' pr = some (.lst (rs.map V.str)) ∧ FlowL H' a l ∧ But a H H' ∧ ws.length + i = 3 ∧ (rs ++ ws).Perm fourR ∧ rs[0]? = some ("points" : Str))
    ⟨none, ["wins", "away", "among"], ["points"], rfl, w1, r1, f1, bb, rfl, List.Perm.refl _, rfl⟩ ?_ ?_⟩
  · rintro i σ H2 hi ⟨v, ws, rs, rfl, ew, er, f2, b2, hl, pm, h0⟩
    refine ⟨_, rfl, .inl ⟨rfl, _, SqL.of er⟩, _, rfl, .inl ⟨rfl, _, SqL.of ew⟩, _, rfl, _, rfl, pw, _, rfl, .inl (SqL.of ew), a, l, _, rfl, f2, small400 ?_, fun H3 r f3 b3 r0 r1 => ?_⟩
    · rw [List.length_map]
      exact Nat.lt_of_lt_of_le (show ((ws.length : Nat) : Int).natAbs < 2 ^ 4 by omega) (by decide)
    rw [List.length_map] at r1
    have r2 : r < (ws.length : Int) := by
      unfold mx at r1
      split at r1 <;> omega
    have rl : r.toNat < ws.length := by omega
    have ew3 := b3 _ _ ew nw.1
    have er3 := b3 _ _ er nr.1
    refine ⟨pw, _, r, r.toNat, V.str ws[r.toNat], rfl, rfl, ew3, by omega, by omega, by rw [List.length_map]; exact seqIx r0 r2, by rw [List.getElem?_map, List.getElem?_eq_getElem rl]; rfl, ?_⟩
    have lr : rs.length ≤ 4 := by
      have z := pm.length_eq
      rw [List.length_append] at z
      exact Nat.le_trans (Nat.le_add_right _ _) (Nat.le_of_eq z)
    refine ⟨pr, _, _, rfl, rfl, by rw [upd_ne (Ne.symm nwr)]; exact er3, by rw [List.length_map]; exact small1000 (by omega), ?_⟩
    refine ⟨_, ws.eraseIdx r.toNat, rs ++ [ws[r.toNat]], rfl, ?_, ?_, (f3.upd nw).upd nr, ((b2.trans b3).upd' hw).upd' hr1, ?_, ?_, ?_⟩
    · rw [upd_ne nwr, upd_same, map_erase]
    · rw [upd_same, List.map_append]
      rfl
    · rw [List.length_eraseIdx_of_lt rl]
      omega
    · rw [List.append_assoc]
      exact (List.Perm.append_left rs (perm_out ws r.toNat rl)).trans pm
    · have pos : 0 < rs.length := by
        cases rs with
        | nil => cases h0
        | cons _ _ => exact Nat.zero_lt_succ _
      rw [List.getElem?_append_left pos]
      exact h0
  · rintro σ H2 ⟨v, ws, rs, rfl, ew, er, f2, b2, hl, pm, h0⟩
    have nd := pm.nodup_iff.mpr four_nodup
    have z := pm.length_eq
    rw [List.length_append] at z
    exact ⟨_, rfl, q H2 pr rs hr1 f2 b2 er ⟨(List.nodup_append.mp nd).1, fun x hx => pm.mem_iff.mp (List.mem_append_left _ hx), h0, Nat.le_trans (Nat.le_add_right _ _) (Nat.le_of_eq z)⟩⟩
end
end My

namespace My
open PySem PySem.Spec PyProof.Rows L2 SX
/-! ### kinds of data -/
def atom : V → Bool
  | .non => true
  | .bl _ => true
  | .int _ => true
  | .str _ => true
  | _ => false
def Dat1 (H : Hp) (v : V) : Prop := atom v = true ∨ ∃ a xs, v = .ref a ∧ (H a = some (.tup xs) ∨ H a = some (.lst xs))
def kd (H : Hp) : V → String
  | .non => "NoneType"
  | .bl _ => "bool"
  | .int _ => "int"
  | .str _ => "str"
  | .ref a => match H a with
    | some (.tup _) => "tuple"
    | some (.lst _) => "list"
    | _ => "object"
  | _ => "object"
def isT (k t : String) : Bool := k == t || (k == "bool" && t == "int")
theorem isiD {K : PySem.W.Frag} {σ : L2.St} {H : Hp} {i : Nat} {v : V} {T : String} {Q : VK} (hv : σ[i]? = some (some v)) (hd : Dat1 H v) (hT : T ∈ ["int", "bool", "str", "list", "tuple"]) (q : Q (.bl (isT (kd H v) T)) H) :
    tCB (rIsi K) (tCons (tVar i) (tCons (tC (.ty T)) tNil)) σ H Q := by
  have fin : ∀ t, TyX K H v (.type t) → kd H v = t → PySem.W.kitOne K (.type t) (.type T) = some (isT t T) → tCB (rIsi K) (tCons (tVar i) (tCons (tC (.ty T)) tNil)) σ H Q := fun t ty e k =>
    ⟨v, hv, v, .ty T, .type t, .type T, isT t T, rfl, .ty T, ty, k, by rw [← e]; exact q⟩
  have kk : ∀ t, t ∈ ["NoneType", "bool", "int", "str", "tuple", "list"] → PySem.W.kitOne K (.type t) (.type T) = some (isT t T) := fun t ht => by
    simp only [List.mem_cons, List.not_mem_nil, or_false] at ht hT
    rcases ht with rfl | rfl | rfl | rfl | rfl | rfl <;> rcases hT with rfl | rfl | rfl | rfl | rfl <;> exact kit_ty (by decide +kernel)
  rcases hd with ha | ⟨a, xs, rfl, ha | ha⟩
  · cases v with
    | non => exact fin _ (.base .non) rfl (kk _ (by decide))
    | bl b => exact fin _ (.base (.bl _)) rfl (kk _ (by decide))
    | int b => exact fin _ (.base (.int _)) rfl (kk _ (by decide))
    | str b => exact fin _ (.base (.str _)) rfl (kk _ (by decide))
    | _ => cases ha
  · exact fin "tuple" (.base (.tup ha)) (by show (match H a with | some (.tup _) => "tuple" | some (.lst _) => "list" | _ => "object") = "tuple"; rw [ha]) (kk _ (by decide))
  · exact fin "list" (.base (.lst ha)) (by show (match H a with | some (.tup _) => "tuple" | some (.lst _) => "list" | _ => "object") = "list"; rw [ha]) (kk _ (by decide))
theorem isiR {K : PySem.W.Frag} {σ : L2.St} {H : Hp} {i : Nat} {v : V} {t : Value} {T : String} {b : Bool} {Q : VK} (hv : σ[i]? = some (some v)) (ty : TyX K H v t) (k : PySem.W.kitOne K t (.type T) = some b) (q : Q (.bl b) H) :
    tCB (rIsi K) (tCons (tVar i) (tCons (tC (.ty T)) tNil)) σ H Q := ⟨v, hv, v, .ty T, t, .type T, b, rfl, .ty T, ty, k, q⟩
theorem same_upd {H H1 : Hp} {b : Addr} {o : HO} (x : Same H H1) (n : H b = none) : Same H (upd H1 b o) := fun d u h => by
  rw [upd_ne (ne_of_none h n)]
  exact x d u h
theorem all_true (n : Nat) : (List.replicate n true).all id = true := by
  rw [List.all_eq_true]
  intro y hy
  rw [List.eq_of_mem_replicate hy]
  rfl
def isI : V → Bool
  | .int _ => true
  | _ => false
def isN : V → Bool
  | .int i => decide (0 ≤ i)
  | _ => false
def isMk : V → Bool
  | .int i => decide (0 ≤ i) && decide (i ≤ 100)
  | _ => false
theorem isI_eq {H : Hp} {v : V} (hd : Dat1 H v) : isI v = (isT (kd H v) "int" && !isT (kd H v) "bool") := by
  rcases hd with ha | ⟨a, xs, rfl, ha | ha⟩
  · cases v with
    | non => rfl
    | bl b => rfl
    | int b => rfl
    | str b => rfl
    | _ => cases ha
  · show false = (isT (match H a with | some (.tup _) => "tuple" | some (.lst _) => "list" | _ => "object") "int" && !isT (match H a with | some (.tup _) => "tuple" | some (.lst _) => "list" | _ => "object") "bool")
    rw [ha]
    rfl
  · show false = (isT (match H a with | some (.tup _) => "tuple" | some (.lst _) => "list" | _ => "object") "int" && !isT (match H a with | some (.tup _) => "tuple" | some (.lst _) => "list" | _ => "object") "bool")
    rw [ha]
    rfl
def spIsI : Sp := fun vs H Q _ => ∃ v, vs = [v] ∧ Dat1 H v ∧ Q (.bl (isI v)) H
def spIsN : Sp := fun vs H Q _ => ∃ v, vs = [v] ∧ Dat1 H v ∧ Q (.bl (isN v)) H
def spIsMk : Sp := fun vs H Q _ => ∃ v, vs = [v] ∧ Dat1 H v ∧ Q (.bl (isMk v)) H
/-- a list or tuple -/
def spSeq : Sp := fun vs H Q _ => ∃ p xs, vs = [.ref p] ∧ (H p = some (.lst xs) ∨ H p = some (.tup xs)) ∧ ∀ H', Same H H' → Q (.bl true) H'
def spIsName : Sp := fun vs H Q _ => ∃ s, vs = [.str s] ∧ IsName s ∧ ∀ H', Same H H' → Q (.bl true) H'
/-- a list of names, unlike -/
def spAreNames : Sp := fun vs H Q _ => ∃ (p : Addr) (ss : List Str), vs = [.ref p] ∧ H p = some (.lst (ss.map V.str)) ∧ ss.length ≤ 8 ∧ (∀ s ∈ ss, IsName s) ∧ ss.Nodup ∧ ∀ H', Same H H' → Q (.bl true) H'
section
variable {P : Program} {w : World} {K : PySem.W.Frag} {mg : Str → Option Value} {base : Heap}
theorem sc_is_sequence : C8.scC ["value"] ["value"] (defScope s_is_sequence) = true := by decide +kernel
theorem sc_is_integer : C8.scC ["value"] ["value"] (defScope s_is_integer) = true := by decide +kernel
theorem sc_is_number : C8.scC ["value"] ["value"] (defScope s_is_number) = true := by decide +kernel
theorem sc__is_mark : C8.scC ["value"] ["value"] (defScope s__is_mark) = true := by decide +kernel
theorem sc_is_word : C8.scC ["text", "sign"] ["text"] (defScope s_is_word) = true := by decide +kernel
theorem sc_is_name : C8.scC ["value"] ["value"] (defScope s_is_name) = true := by decide +kernel
theorem sc_are_names : C8.scC ["values", "value"] ["values"] (defScope s_are_names) = true := by decide +kernel
theorem c_is_sequence (T : TX K mg) : C8.Cal P w K mg base 1 "is_sequence" spSeq [] := by
  refine cal T.h_is_sequence sc_is_sequence (fun _ _ _ _ _ _ us hl => match us, hl with | [_], _ => rfl) (fun vs H Q E h => ?_) (fun f cdv A outer s H vs Q E hr h => ?_)
  · obtain ⟨p, xs, rfl, _⟩ := h
    rfl
  obtain ⟨p, xs, rfl, hp, q⟩ := h
  refine ⟨_, (pss_one (ps_ret (pe_callB call_isiT (by rfl) T.B.isinstance (by decide +kernel) (pa_cons (pv 0) (pa_cons (pe_tup (pa_cons (pe_bltn (v := .ty "list") (by rfl) T.B.list (by decide +kernel) rfl) (pa_cons (pe_bltn (v := .ty "tuple") (by rfl) T.B.tuple (by decide +kernel) rfl) pa_nil))) pa_nil))))), ?_⟩
  refine ⟨_, rfl, by show 2 ≤ sizeLine; decide, fun t ht => ?_⟩
  have k := same_new ht (.tup [.ty "list", .ty "tuple"])
  rcases hp with hp | hp
  · exact ⟨_, t, _, _, _, true, rfl, upd_same, .cons (.ty _) (.cons (.ty _) .nil), .base (.lst (k _ _ hp)), kitAny_cons (kit_ty (b := "list") (r := true) (by decide +kernel)) (fun z => nomatch z) (fun _ => rfl), q _ k⟩
  · exact ⟨_, t, _, _, _, true, rfl, upd_same, .cons (.ty _) (.cons (.ty _) .nil), .base (.tup (k _ _ hp)), kitAny_cons (kit_ty (b := "list") (r := false) (by decide +kernel)) (fun _ => kitAny_cons (kit_ty (b := "tuple") (r := true) (by decide +kernel)) (fun z => nomatch z) (fun _ => rfl)) (fun z => nomatch z), q _ k⟩
theorem c_is_integer (T : TX K mg) : C8.Cal P w K mg base 1 "is_integer" spIsI [] := by
  refine cal T.h_is_integer sc_is_integer (fun _ _ _ _ _ _ us hl => match us, hl with | [_], _ => rfl) (fun vs H Q E h => ?_) (fun f cdv A outer s H vs Q E hr h => ?_)
  · obtain ⟨v, rfl, _⟩ := h
    rfl
  obtain ⟨v, rfl, hd, q⟩ := h
  refine ⟨_, (pss_one (ps_ret (pe_and (pe_callB call_isi (by rfl) T.B.isinstance (by decide +kernel) (pa_cons (pv 0) (pa_cons (pe_bltn (v := .ty "int") (by rfl) T.B.int (by decide +kernel) rfl) pa_nil))) (pe_one (pe_not (pe_callB call_isi (by rfl) T.B.isinstance (by decide +kernel) (pa_cons (pv 0) (pa_cons (pe_bltn (v := .ty "bool") (by rfl) T.B.bool (by decide +kernel) rfl) pa_nil)))))))), ?_⟩
  rw [isI_eq hd] at q
  refine isiD rfl hd (by decide) ⟨_, rfl, ?_⟩
  cases e : isT (kd H v) "int" with
  | false =>
    rw [e] at q
    exact iteF q
  | true =>
    rw [e] at q
    exact iteT (isiD rfl hd (by decide) ⟨_, rfl, q⟩)
theorem c_is_number (T : TX K mg) : C8.Cal P w K mg base 2 "is_number" spIsN [] := by
  refine cal T.h_is_number sc_is_number (fun _ _ _ _ _ _ us hl => match us, hl with | [_], _ => rfl) (fun vs H Q E h => ?_) (fun f cdv A outer s H vs Q E hr h => ?_)
  · obtain ⟨v, rfl, _⟩ := h
    rfl
  obtain ⟨v, rfl, hd, q⟩ := h
  refine ⟨_, (pss_one (ps_ret (pe_and (C8.pe_c (c_is_integer T) hr (by decide) (by rfl) (pa_cons (pv 0) pa_nil)) (pe_one (pe_cmpR op_ge (pv 0) pe_int (nomark _)))))), ?_⟩
  refine ⟨_, rfl, v, rfl, hd, _, rfl, ?_⟩
  cases v with
  | int i => exact iteT ⟨_, rfl, _, _, rfl, rfl, q⟩
  | _ => exact iteF q
theorem c__is_mark (T : TX K mg) : C8.Cal P w K mg base 3 "_is_mark" spIsMk [] := by
  refine cal T.h__is_mark sc__is_mark (fun _ _ _ _ _ _ us hl => match us, hl with | [_], _ => rfl) (fun vs H Q E h => ?_) (fun f cdv A outer s H vs Q E hr h => ?_)
  · obtain ⟨v, rfl, _⟩ := h
    rfl
  obtain ⟨v, rfl, hd, q⟩ := h
  refine ⟨_, (pss_one (ps_ret (pe_and (C8.pe_c (c_is_number T) hr (by decide) (by rfl) (pa_cons (pv 0) pa_nil)) (pe_one (pe_cmpR op_le (pv 0) (C8.pe_gc (by rfl) T.MOST_POINTS) (nomark _)))))), ?_⟩
  refine ⟨_, rfl, v, rfl, hd, _, rfl, ?_⟩
  cases v with
  | int i =>
    refine ite2 (fun c => ?_) (fun c => ?_)
    · refine ⟨_, rfl, _, _, rfl, rfl, ?_⟩
      have e : isMk (.int i) = decide (i ≤ 100) := by
        show (decide (0 ≤ i) && decide (i ≤ 100)) = _
        rw [show decide (0 ≤ i) = true from c, Bool.true_and]
      rw [e] at q
      exact q
    · have e : isMk (.int i) = false := by
        show (decide (0 ≤ i) && decide (i ≤ 100)) = _
        rw [show decide (0 ≤ i) = false from Bool.eq_false_iff.mpr c, Bool.false_and]
      rw [e] at q
      exact q
  | _ => exact iteF q
theorem c_is_word (T : TX K mg) : C8.Cal P w K mg base 1 "is_word" spIsName [] := by
  refine cal T.h_is_word sc_is_word (fun _ _ _ _ _ _ us hl => match us, hl with | [_], _ => rfl) (fun vs H Q E h => ?_) (fun f cdv A outer s H vs Q E hr h => ?_)
  · obtain ⟨s, rfl, _⟩ := h
    rfl
  obtain ⟨s, rfl, ⟨l, rfl, l1, l8, ll⟩, q⟩ := h
  refine ⟨_, (pss_one (ps_ret (pe_and (pe_cmpR op_ne (pv 0) pe_str (nomark _)) (pe_one (pe_callB (cr_all rfl) (by rfl) T.B.all (by decide +kernel) (pa_cons (pe_lc (own := [("sign", 1)]) (g := (gName 1)) (tt := tYes) (by rfl) (C8.fnScope_by sc_is_word).nd (pi_str (pv 0)) (blkOk_by (own := [("sign", 1)]) (N := ["text", "sign"]) (sc := defScope s_is_word) (by decide +kernel)) (fun _ _ _ _ _ => pg_name (i := 1) (C8.fnScope_by sc_is_word).nd rfl (Or.inl rfl)) (fun _ _ _ _ _ => pts_nil) (fun _ _ _ _ _ => (pe_cmpR op_in_sign (pv 1) (C8.pe_gc (by rfl) T.LETTERS) (by rfl)))) pa_nil)))))), ?_⟩
  have ls : (S l).length ≤ sizeLine := small_len (by rw [len_S]; omega)
  have ne : decide (V.str (S l) = V.str "") = false := decide_eq_false fun e => by
    have e : S l = "" := by cases e; rfl
    have z : (S l).length = 0 := by rw [e]; rfl
    rw [len_S] at z
    omega
  refine ⟨_, rfl, rfl, _, rfl, ?_⟩
  rw [ne]
  refine iteT ?_
  refine ⟨_, rfl, _, rfl, fun D hD => lc_it walk_str (fun i H' => Same H H' ∧ H' D = some (.lst (List.replicate i (V.bl true)))) ⟨same_new hD _, upd_same⟩ (fun _ _ _ _ => trivial) ?_ ?_⟩
  · rintro i x H1 H2 hi ⟨s1, e1⟩ ⟨rfl, c, hc, rfl⟩
    have hi8 : i < l.length := by
      have z : i < (S l).cps.size := hi
      rwa [show (S l).cps.size = l.length from len_S l] at z
    have lc : Low c := ll c (by
      have z : (S l).cps.toList[i]? = some c := by rw [Array.getElem?_toList]; exact hc
      exact List.mem_of_getElem? z)
    refine ⟨rfl, ?_⟩
    delta tYes
    dsimp only
    rw [if_pos rfl]
    refine ⟨_, rfl, c, _, rfl, rfl, _, e1, by rw [List.length_replicate]; exact small1000 (by omega), same_upd s1 hD, ?_⟩
    rw [upd_same, low_abc.mpr lc, List.replicate_succ']
  · rintro H1 ⟨s1, e1⟩
    refine ⟨D, List.replicate (S l).cps.size true, rfl, SqL.of (by rw [e1, List.map_replicate]), ?_⟩
    rw [all_true]
    exact q H1 s1
theorem c_is_name (T : TX K mg) : C8.Cal P w K mg base 2 "is_name" spIsName [] := by
  refine cal T.h_is_name sc_is_name (fun _ _ _ _ _ _ us hl => match us, hl with | [_], _ => rfl) (fun vs H Q E h => ?_) (fun f cdv A outer s H vs Q E hr h => ?_)
  · obtain ⟨s, rfl, _⟩ := h
    rfl
  obtain ⟨s, rfl, hn, q⟩ := h
  refine ⟨_, (pss_one (ps_ret (pe_and (pe_callB call_isi (by rfl) T.B.isinstance (by decide +kernel) (pa_cons (pv 0) (pa_cons (pe_bltn (v := .ty "str") (by rfl) T.B.str (by decide +kernel) rfl) pa_nil))) (pe_and (pe_cmpR op_le (pe_callB call_len_str (by rfl) T.B.len (by decide +kernel) (pa_cons (pv 0) pa_nil)) (C8.pe_gc (by rfl) T.LONGEST_NAME) (nomark _)) (pe_one (C8.pe_c (c_is_word T) hr (by decide) (by rfl) (pa_cons (pv 0) pa_nil))))))), ?_⟩
  have hl := hn.len
  have ls : s.length ≤ sizeLine := small_len (by omega)
  have n8 : decide ((((s).length : Nat) : Int) ≤ 8) = true := decide_eq_true (by omega)
  refine isiR (b := true) rfl (.base (.str _)) (kit_ty (by decide +kernel)) ⟨true, rfl, iteT ⟨_, rfl, _, rfl, ls, _, _, rfl, rfl, _, rfl, ?_⟩⟩
  rw [n8]
  exact iteT ⟨_, rfl, s, rfl, hn, q⟩
theorem c_are_names (T : TX K mg) : C8.Cal P w K mg base 3 "are_names" spAreNames [] := by
  refine cal T.h_are_names sc_are_names (fun _ _ _ _ _ _ us hl => match us, hl with | [_], _ => rfl) (fun vs H Q E h => ?_) (fun f cdv A outer s H vs Q E hr h => ?_)
  · obtain ⟨p, ss, rfl, _⟩ := h
    rfl
  obtain ⟨p, ss, rfl, hp, hl, hn, nd, q⟩ := h
  refine ⟨_, (pss_cons (ps_if (PW.pt (pw_or (pt_not (pt_val (C8.pe_c (c_is_sequence T) hr (by decide) (by rfl) (pa_cons (pv 0) pa_nil)))) (pw_or1 (pt_not (pt_val (pe_callB (cr_all rfl) (by rfl) T.B.all (by decide +kernel) (pa_cons (pe_lc (own := [("value", 1)]) (g := (gName 1)) (tt := tYes) (by rfl) (C8.fnScope_by sc_are_names).nd (pi_list (pv 0)) (blkOk_by (own := [("value", 1)]) (N := ["values", "value"]) (sc := defScope s_are_names) (by decide +kernel)) (fun _ _ _ _ _ => pg_name (i := 1) (C8.fnScope_by sc_are_names).nd rfl (Or.inl rfl)) (fun _ _ _ _ _ => pts_nil) (fun _ _ _ _ _ => (C8.pe_c (c_is_name T) hr (by decide) (by rfl) (pa_cons (pv 1) pa_nil)))) pa_nil))))))) (pss_one (ps_ret pe_bl)) pss_nil)
    (pss_one (ps_ret (pe_cmpR op_eq (pe_lenTx (by rfl) (by rfl) T.B.len (by rfl) T.B.set (pv 0)) (pe_callB call_len_seq (by rfl) T.B.len (by decide +kernel) (pa_cons (pv 0) pa_nil)) (nomark _))))), ?_⟩
  refine ⟨_, rfl, p, _, rfl, .inl hp, fun H1 s1 => ⟨true, rfl, iteF ?_⟩⟩
  have e1 := s1 _ _ hp
  refine ⟨_, rfl, p, rfl, ⟨_, SqL.of e1⟩, fun D hD => lc_list (K := K) (a := p) (xs := ss.map V.str) (fun i H' => Same H1 H' ∧ H' D = some (.lst (List.replicate i (V.bl true)))) ⟨same_new hD _, upd_same⟩ (fun i H' _ ⟨s2, _⟩ => SqL.of (s2 _ _ e1)) ?_ ?_⟩
  · rintro i x H2 hi ⟨s2, e2⟩
    have hi2 : i < ss.length := by
      have z := (List.getElem?_eq_some_iff.mp hi).1
      rwa [List.length_map] at z
    obtain rfl : x = V.str ss[i] := by
      rw [List.getElem?_map, List.getElem?_eq_getElem hi2] at hi
      exact (Option.some.inj hi).symm
    refine ⟨rfl, ?_⟩
    delta tYes
    dsimp only
    rw [if_pos rfl]
    refine ⟨_, rfl, _, rfl, hn _ (List.getElem_mem ..), fun H3 s3 => ?_⟩
    have e3 := s3 _ _ e2
    refine ⟨_, e3, by rw [List.length_replicate]; exact small1000 (by omega), same_upd (Same.trans s2 s3) hD, ?_⟩
    rw [upd_same, List.replicate_succ']
  · rintro H2 ⟨s2, e2⟩
    refine ⟨D, List.replicate (ss.map V.str).length true, rfl, SqL.of (by rw [e2, List.map_replicate]), true, ?_, iteF ?_⟩
    · rw [all_true]
    · have e3 := s2 _ _ e1
      refine ⟨_, rfl, p, ss, rfl, .inl (SqL.of e3), by omega, _, rfl, p, _, rfl, .inl (SqL.of e3), rfl, ?_⟩
      rw [List.length_map, MyS.uq_nodup _ ss rfl nd, decide_eq_true (rfl : V.int (ss.length : Nat) = V.int (ss.length : Nat))]
      exact q H2 (s1.trans s2)
end
end My

namespace My
open PySem PySem.Spec PyProof.Rows L2 SX
def spAreSides : Sp := fun vs H Q _ => ∃ (p : Addr) (ss : List Str), vs = [.ref p] ∧ H p = some (.lst (ss.map V.str)) ∧ 2 ≤ ss.length ∧ ss.length ≤ 8 ∧ (∀ s ∈ ss, IsName s) ∧ ss.Nodup ∧ ∀ H', Same H H' → Q (.bl true) H'
def spIsScheme : Sp := fun vs H Q _ => ∃ (t : Addr) (w : Int) (d : V) (lo : Int), vs = [.ref t] ∧ H t = some (.tup [.int w, d, .int lo]) ∧ SchemeOk w d lo ∧ ∀ H', Same H H' → Q (.bl true) H'
def spAreRules : Sp := fun vs H Q _ => ∃ (p : Addr) (rs : List Str), vs = [.ref p] ∧ H p = some (.lst (rs.map V.str)) ∧ RulesOk rs ∧ ∀ H', Same H H' → Q (.bl true) H'
/-- a league's fields -/
def LF (ts tc tr l tg : V) : List (Str × V) := [("_sides", ts), ("_scheme", tc), ("_rules", tr), ("_games", l), ("_gone", tg)]
theorem putN {f k : Str} {v x : V} {r : List (Str × V)} (h : ¬ k = f) : putF f v ((k, x) :: r) = (k, x) :: putF f v r := by
  show (if k = f then _ else _) = _
  rw [if_neg h]
theorem putE {f : Str} {v x : V} {r : List (Str × V)} : putF f v ((f, x) :: r) = (f, v) :: r := by
  show (if f = f then _ else _) = _
  rw [if_pos rfl]
theorem n12 : ¬ ("_sides" : Str) = "_scheme" := by decide +kernel
theorem n13 : ¬ ("_sides" : Str) = "_rules" := by decide +kernel
theorem n14 : ¬ ("_sides" : Str) = "_games" := by decide +kernel
theorem n15 : ¬ ("_sides" : Str) = "_gone" := by decide +kernel
theorem n23 : ¬ ("_scheme" : Str) = "_rules" := by decide +kernel
theorem n24 : ¬ ("_scheme" : Str) = "_games" := by decide +kernel
theorem n25 : ¬ ("_scheme" : Str) = "_gone" := by decide +kernel
theorem n34 : ¬ ("_rules" : Str) = "_games" := by decide +kernel
theorem n35 : ¬ ("_rules" : Str) = "_gone" := by decide +kernel
theorem n45 : ¬ ("_games" : Str) = "_gone" := by decide +kernel
theorem put2 {a b : V} : putF "_scheme" b [("_sides", a)] = ([("_sides", a), ("_scheme", b)] : List (Str × V)) := by rw [putN n12]; rfl
theorem put3 {a b c : V} : putF "_rules" c [("_sides", a), ("_scheme", b)] = ([("_sides", a), ("_scheme", b), ("_rules", c)] : List (Str × V)) := by rw [putN n13, putN n23]; rfl
theorem put4 {a b c d : V} : putF "_games" d [("_sides", a), ("_scheme", b), ("_rules", c)] = ([("_sides", a), ("_scheme", b), ("_rules", c), ("_games", d)] : List (Str × V)) := by rw [putN n14, putN n24, putN n34]; rfl
theorem put5 {a b c d e : V} : putF "_gone" e [("_sides", a), ("_scheme", b), ("_rules", c), ("_games", d)] = LF a b c d e := by rw [putN n15, putN n25, putN n35, putN n45]; rfl
theorem LF_games {a b c d e x : V} : putF "_games" x (LF a b c d e) = LF a b c x e := by unfold LF; rw [putN n14, putN n24, putN n34, putE]
theorem LF_gone {a b c d e x : V} : putF "_gone" x (LF a b c d e) = LF a b c d x := by unfold LF; rw [putN n15, putN n25, putN n35, putN n45, putE]
theorem lf_sides {a b c d e : V} : (LF a b c d e).lookup ("_sides" : Str) = some a := by unfold LF; simp [List.lookup]
theorem lf_scheme {a b c d e : V} : (LF a b c d e).lookup ("_scheme" : Str) = some b := by unfold LF; rw [List.lookup_cons, beq_eq_false_iff_ne.mpr (Ne.symm n12)]; simp [List.lookup]
theorem lf_rules {a b c d e : V} : (LF a b c d e).lookup ("_rules" : Str) = some c := by unfold LF; rw [List.lookup_cons, beq_eq_false_iff_ne.mpr (Ne.symm n13)]; dsimp only; rw [List.lookup_cons, beq_eq_false_iff_ne.mpr (Ne.symm n23)]; simp [List.lookup]
theorem lf_games {a b c d e : V} : (LF a b c d e).lookup ("_games" : Str) = some d := by unfold LF; rw [List.lookup_cons, beq_eq_false_iff_ne.mpr (Ne.symm n14)]; dsimp only; rw [List.lookup_cons, beq_eq_false_iff_ne.mpr (Ne.symm n24)]; dsimp only; rw [List.lookup_cons, beq_eq_false_iff_ne.mpr (Ne.symm n34)]; simp [List.lookup]
theorem lf_gone {a b c d e : V} : (LF a b c d e).lookup ("_gone" : Str) = some e := by unfold LF; rw [List.lookup_cons, beq_eq_false_iff_ne.mpr (Ne.symm n15)]; dsimp only; rw [List.lookup_cons, beq_eq_false_iff_ne.mpr (Ne.symm n25)]; dsimp only; rw [List.lookup_cons, beq_eq_false_iff_ne.mpr (Ne.symm n35)]; dsimp only; rw [List.lookup_cons, beq_eq_false_iff_ne.mpr (Ne.symm n45)]; simp [List.lookup]
theorem lf_no {a b c d e : V} {m : Str} (h1 : m ≠ "_sides") (h2 : m ≠ "_scheme") (h3 : m ≠ "_rules") (h4 : m ≠ "_games") (h5 : m ≠ "_gone") : (LF a b c d e).lookup m = none := by
  unfold LF
  rw [List.lookup_cons, beq_eq_false_iff_ne.mpr h1]; dsimp only
  rw [List.lookup_cons, beq_eq_false_iff_ne.mpr h2]; dsimp only
  rw [List.lookup_cons, beq_eq_false_iff_ne.mpr h3]; dsimp only
  rw [List.lookup_cons, beq_eq_false_iff_ne.mpr h4]; dsimp only
  rw [List.lookup_cons, beq_eq_false_iff_ne.mpr h5]; rfl
section
variable {P : Program} {w : World} {K : PySem.W.Frag} {mg : Str → Option Value} {base : Heap}
theorem sc__are_sides : C8.scC ["sides"] ["sides"] (defScope s__are_sides) = true := by decide +kernel
theorem sc__is_scheme : C8.scC ["scheme", "win", "draw", "loss"] ["scheme"] (defScope s__is_scheme) = true := by decide +kernel
theorem sc__are_rules : C8.scC ["rules", "rule"] ["rules"] (defScope s__are_rules) = true := by decide +kernel
theorem c__are_sides (T : TX K mg) : C8.Cal P w K mg base 4 "_are_sides" spAreSides [] := by
  refine cal T.h__are_sides sc__are_sides (fun _ _ _ _ _ _ us hl => match us, hl with | [_], _ => rfl) (fun vs H Q E h => ?_) (fun f cdv A outer s H vs Q E hr h => ?_)
  · obtain ⟨p, ss, rfl, _⟩ := h
    rfl
  obtain ⟨p, ss, rfl, hp, h2, h8, hn, nd, q⟩ := h
  refine ⟨_, (pss_one (ps_ret (pe_and (C8.pe_c (c_are_names T) hr (by decide) (by rfl) (pa_cons (pv 0) pa_nil)) (pe_one (pe_chain op_le op_le (C8.pe_gc (by rfl) T.FEWEST_SIDES) (pe_callB call_len_seq (by rfl) T.B.len (by decide +kernel) (pa_cons (pv 0) pa_nil)) (C8.pe_gc (by rfl) T.MOST_SIDES)))))), ?_⟩
  refine ⟨_, rfl, p, ss, rfl, hp, h8, hn, nd, fun H1 s1 => ⟨true, rfl, iteT ?_⟩⟩
  have e1 := s1 _ _ hp
  have d2 : decide ((2 : Int) ≤ ((ss.map V.str).length : Nat)) = true := decide_eq_true (by rw [List.length_map]; omega)
  have d8 : decide ((((ss.map V.str).length : Nat) : Int) ≤ 8) = true := decide_eq_true (by rw [List.length_map]; omega)
  refine ⟨_, rfl, p, _, rfl, .inl (SqL.of e1), _, _, rfl, rfl, _, rfl, ?_⟩
  rw [show (decide ((2 : Int) ≤ ((ss.map V.str).length : Nat))) = true from d2]
  refine iteT ⟨_, _, rfl, rfl, ?_⟩
  show Q (.bl (decide ((((ss.map V.str).length : Nat) : Int) ≤ 8))) H1
  rw [d8]
  exact q H1 s1
theorem c__is_scheme (T : TX K mg) : C8.Cal P w K mg base 4 "_is_scheme" spIsScheme [] := by
  refine cal T.h__is_scheme sc__is_scheme (fun _ _ _ _ _ _ us hl => match us, hl with | [_], _ => rfl) (fun vs H Q E h => ?_) (fun f cdv A outer s H vs Q E hr h => ?_)
  · obtain ⟨t, w, d, lo, rfl, _⟩ := h
    rfl
  obtain ⟨t, w1, d, lo, rfl, ht, ⟨l0, lw, w100, hd⟩, q⟩ := h
  refine ⟨_, (pss_cons (ps_if (PW.pt (pw_or (pt_not (pt_val (C8.pe_c (c_is_sequence T) hr (by decide) (by rfl) (pa_cons (pv 0) pa_nil)))) (pw_or1 (pt_cmpR op_ne (pe_callB call_len_seq (by rfl) T.B.len (by decide +kernel) (pa_cons (pv 0) pa_nil)) pe_int (nomark _))))) (pss_one (ps_ret pe_bl)) pss_nil)
    (pss_cons (ps_asg (pv 0) (pg_tup rfl (pgs_cons (pg_name (i := 1) (C8.fnScope_by sc__is_scheme).nd rfl (Or.inl rfl)) (pgs_cons (pg_name (i := 2) (C8.fnScope_by sc__is_scheme).nd rfl (Or.inl rfl)) (pgs_cons (pg_name (i := 3) (C8.fnScope_by sc__is_scheme).nd rfl (Or.inl rfl)) pgs_nil)))))
    (pss_cons (ps_if (PW.pt (pw_or (pt_not (pt_val (C8.pe_c (c__is_mark T) hr (by decide) (by rfl) (pa_cons (pv 1) pa_nil)))) (pw_or (pt_not (pt_val (C8.pe_c (c__is_mark T) hr (by decide) (by rfl) (pa_cons (pv 3) pa_nil)))) (pw_or1 (pt_cmpR op_le (pv 1) (pv 3) (nomark _)))))) (pss_one (ps_ret pe_bl)) pss_nil)
    (pss_one (ps_ret (pe_or (pe_cmpR op_isN (pv 2) pe_non (nomark _)) (pe_one (pe_and (C8.pe_c (c__is_mark T) hr (by decide) (by rfl) (pa_cons (pv 2) pa_nil)) (pe_one (pe_chain op_le op_le (pv 3) (pv 2) (pv 1))))))))))), ?_⟩
  refine ⟨_, rfl, t, _, rfl, .inr ht, fun H1 s1 => ⟨true, rfl, iteF ?_⟩⟩
  have e1 := s1 _ _ ht
  have m1 : isMk (.int w1) = true := by
    show (decide (0 ≤ w1) && decide (w1 ≤ 100)) = true
    rw [decide_eq_true (by omega : 0 ≤ w1), decide_eq_true w100]; rfl
  have m2 : isMk (.int lo) = true := by
    show (decide (0 ≤ lo) && decide (lo ≤ 100)) = true
    rw [decide_eq_true l0, decide_eq_true (by omega : lo ≤ 100)]; rfl
  refine ⟨_, rfl, t, _, rfl, .inr (SqT.of e1), rfl, _, rfl, ifF (show (!decide (V.int 3 = V.int 3)) = false from by rw [decide_eq_true rfl]; rfl) ?_⟩
  refine ⟨_, rfl, t, _, rfl, SqT.of e1, rfl, ?_⟩
  refine ⟨_, _, rfl, _, _, rfl, _, _, rfl, rfl, ?_⟩
  refine ⟨_, rfl, _, rfl, .inl rfl, _, rfl, ?_⟩
  rw [m1]
  refine iteF ⟨_, rfl, _, rfl, .inl rfl, _, rfl, ?_⟩
  rw [m2]
  refine iteF ⟨_, rfl, _, rfl, _, _, rfl, rfl, _, rfl, ifF (decide_eq_false (by omega)) ?_⟩
  refine ⟨_, rfl, rfl, _, rfl, ?_⟩
  rcases hd with rfl | ⟨x, rfl, x1, x2⟩
  · exact ifT (decide_eq_true rfl) (q H1 s1)
  · refine ifF (decide_eq_false fun z => nomatch z) ?_
    have m3 : isMk (.int x) = true := by
      show (decide (0 ≤ x) && decide (x ≤ 100)) = true
      rw [decide_eq_true (by omega : 0 ≤ x), decide_eq_true (by omega : x ≤ 100)]; rfl
    refine ⟨_, rfl, _, rfl, .inl rfl, _, rfl, ?_⟩
    rw [m3]
    refine iteT ⟨_, rfl, _, rfl, _, _, rfl, rfl, _, rfl, ifT (decide_eq_true x1) ⟨_, rfl, _, _, rfl, rfl, ?_⟩⟩
    show Q (.bl (decide (x ≤ w1))) H1
    rw [decide_eq_true x2]
    exact q H1 s1
theorem c__are_rules (T : TX K mg) : C8.Cal P w K mg base 2 "_are_rules" spAreRules [] := by
  refine cal T.h__are_rules sc__are_rules (fun _ _ _ _ _ _ us hl => match us, hl with | [_], _ => rfl) (fun vs H Q E h => ?_) (fun f cdv A outer s H vs Q E hr h => ?_)
  · obtain ⟨p, rs, rfl, _⟩ := h
    rfl
  obtain ⟨p, rs, rfl, hp, ⟨nd, h4, h0, hl⟩, q⟩ := h
  refine ⟨_, (pss_cons (ps_if (PW.pt (pw_or (pt_not (pt_val (C8.pe_c (c_is_sequence T) hr (by decide) (by rfl) (pa_cons (pv 0) pa_nil)))) (pw_or1 (pt_not (pt_val (pe_callB (cr_all rfl) (by rfl) T.B.all (by decide +kernel) (pa_cons (pe_lc (own := [("rule", 1)]) (g := (gName 1)) (tt := tYes) (by rfl) (C8.fnScope_by sc__are_rules).nd (pi_list (pv 0)) (blkOk_by (own := [("rule", 1)]) (N := ["rules", "rule"]) (sc := defScope s__are_rules) (by decide +kernel)) (fun _ _ _ _ _ => pg_name (i := 1) (C8.fnScope_by sc__are_rules).nd rfl (Or.inl rfl)) (fun _ _ _ _ _ => pts_nil) (fun _ _ _ _ _ => (pe_cmpR (op_inK (K := K) rfl) (pv 1) (pe_glob (v := .ref (He.ga K "RULES")) (by rfl) T.RULES rfl) (by rfl)))) pa_nil))))))) (pss_one (ps_ret pe_bl)) pss_nil)
    (pss_one (ps_ret (pe_and (pe_cmpR op_gt (pe_callB call_len_seq (by rfl) T.B.len (by decide +kernel) (pa_cons (pv 0) pa_nil)) pe_int (nomark _)) (pe_and (pe_cmpR op_eq (pe_ix ix_list (pv 0) pe_int (fun _ _ => rfl)) pe_str (nomark _)) (pe_one (pe_cmpR op_eq (pe_lenTx (by rfl) (by rfl) T.B.len (by rfl) T.B.set (pv 0)) (pe_callB call_len_seq (by rfl) T.B.len (by decide +kernel) (pa_cons (pv 0) pa_nil)) (nomark _)))))))), ?_⟩
  refine ⟨_, rfl, p, _, rfl, .inl hp, fun H1 s1 => ⟨true, rfl, iteF ?_⟩⟩
  have e1 := s1 _ _ hp
  refine ⟨_, rfl, p, rfl, ⟨_, SqL.of e1⟩, fun D hD => lc_list (K := K) (a := p) (xs := rs.map V.str) (fun i H' => Same H1 H' ∧ H' D = some (.lst (List.replicate i (V.bl true)))) ⟨same_new hD _, upd_same⟩ (fun i H' _ ⟨s2, _⟩ => SqL.of (s2 _ _ e1)) ?_ ?_⟩
  · rintro i x H2 hi ⟨s2, e2⟩
    have hi2 : i < rs.length := by
      have z := (List.getElem?_eq_some_iff.mp hi).1
      rwa [List.length_map] at z
    obtain rfl : x = V.str rs[i] := by
      rw [List.getElem?_map, List.getElem?_eq_getElem hi2] at hi
      exact (Option.some.inj hi).symm
    refine ⟨rfl, ?_⟩
    delta tYes
    dsimp only
    rw [if_pos rfl]
    refine ⟨_, rfl, He.ga K "RULES", _, rfl, .inr (T.tRULES H2), rfl, flat_strs _, _, e2, by rw [List.length_replicate]; exact small1000 (by omega), same_upd s2 hD, ?_⟩
    rw [upd_same, List.replicate_succ', show (if false = true then !inV (V.str rs[i]) (fourR.map V.str) else inV (V.str rs[i]) (fourR.map V.str)) = fourR.contains rs[i] from inV_str _ _, List.contains_iff_mem.mpr (h4 _ (List.getElem_mem ..))]
  · rintro H2 ⟨s2, e2⟩
    have e3 := s2 _ _ e1
    have pos : 0 < rs.length := by
      cases rs with
      | nil => cases h0
      | cons _ _ => exact Nat.zero_lt_succ _
    refine ⟨D, List.replicate (rs.map V.str).length true, rfl, SqL.of (by rw [e2, List.map_replicate]), true, ?_, iteF ?_⟩
    · rw [all_true]
    · refine ⟨_, rfl, p, _, rfl, .inl (SqL.of e3), _, _, rfl, rfl, _, rfl, ifT (decide_eq_true (by rw [List.length_map]; omega)) ?_⟩
      refine ⟨_, rfl, p, _, 0, _, rfl, rfl, SqL.of e3, at_of (j := 0) rfl (show (rs.map V.str)[0]? = some (V.str "points") by rw [List.getElem?_map, h0]; rfl), rfl, _, rfl, ifT (decide_eq_true rfl) ?_⟩
      refine ⟨_, rfl, p, rs, rfl, .inl (SqL.of e3), by omega, _, rfl, p, _, rfl, .inl (SqL.of e3), rfl, ?_⟩
      rw [List.length_map, MyS.uq_nodup _ rs rfl nd, decide_eq_true (rfl : V.int (rs.length : Nat) = V.int (rs.length : Nat))]
      exact q H2 (s1.trans s2)
end
end My

namespace My
open PySem PySem.Spec PyProof.Rows L2 SX
theorem pe_fldK {X : Cx} {K : PySem.W.Frag} {e : Expr} {f : Str} {ta : TE} {pos : Pos} (h : X.K = K) (he : PE X e ta) (hb : attributeBase e f X.env (eval e X.env) = eval e X.env) : PE X (.Attribute e f pos) (tFld K ta f) := by
  rw [← h]
  exact pe_fld he hb
section
variable {P : Program} {w : World} {K : PySem.W.Frag} {mg : Str → Option Value} {base : Heap}
theorem met {C : Addr} {m qual : Str} {st : Stmt} {N ps : List Str} {k : Nat} {sp : Sp} (cl : Cls K C) (T : HaveM K C m qual st) (S : C8.scC N ps (defScope st) = true)
    (b : ∀ (kV doc pm : Value) (an : Option Addr) (cdv ct : Value) (us : List Value), us.length = ps.length → bindArgs (PySem.W.fnOf m qual (defArgs st) (defBody st) (defScope st) .none kV doc pm an cdv ct) ⟨us, []⟩ = pure (ps.zip us))
    (len : ∀ vs H Q E, sp vs H Q E → vs.length = ps.length)
    (hbody : ∀ (f : Addr) (cdv : Value) (A : Around) (outer : List Env) (s : Shared) (H : Hp) (vs : List V) (Q : VK) (E : XK), Room k (A.deeper (envOfC qual (defScope st) s.heap.objs.size f cdv)) → sp vs H Q E →
      ∃ t, PSs (cxOf CX0 P w K mg base N qual (defScope st) f cdv A outer s H E).nox (defBody st) t ∧ t { nx := fun _ H' => Q .non H', rt := Q } (L2.start N vs) H) : C8.Met P w K mg base (k + 1) C m sp [] := by
  obtain ⟨f, fd, F, g⟩ := T.ex
  refine ⟨f, fd, ps, [], cl, g, F.ok (CX := CX0) (C8.fnScope_by S) len fun cdv A outer s H vs Q E hr h => ?_, F.bindsN b, .nil⟩
  obtain ⟨t, h1, h2⟩ := hbody f cdv A outer s H vs Q E hr h
  exact ⟨t, PSs.nox h1, h2⟩
/-- a method that may raise -/
structure MetX (P : Program) (w : World) (K : PySem.W.Frag) (mg : Str → Option Value) (base : Heap) (k : Nat) (C : Addr) (m : Str) (sp : Sp) : Prop where
  ex : ∃ (f : Addr) (fd : FuncData) (ps : List Str), Cls K C ∧ Meth K C m f ∧ FnOk P w K mg base (L2N.CX P w) k f fd ps sp ∧ Binds K fd ps []
theorem metX {C : Addr} {m qual : Str} {st : Stmt} {N ps : List Str} {k : Nat} {sp : Sp} (cl : Cls K C) (T : HaveM K C m qual st) (S : C8.scC N ps (defScope st) = true)
    (b : ∀ (kV doc pm : Value) (an : Option Addr) (cdv ct : Value) (us : List Value), us.length = ps.length → bindArgs (PySem.W.fnOf m qual (defArgs st) (defBody st) (defScope st) .none kV doc pm an cdv ct) ⟨us, []⟩ = pure (ps.zip us))
    (len : ∀ vs H Q E, sp vs H Q E → vs.length = ps.length)
    (hbody : ∀ (f : Addr) (cdv : Value) (A : Around) (outer : List Env) (s : Shared) (H : Hp) (vs : List V) (Q : VK) (E : XK), Room k (A.deeper (envOfC qual (defScope st) s.heap.objs.size f cdv)) → sp vs H Q E →
      ∃ t, PSs (cxOf (L2N.CX P w) P w K mg base N qual (defScope st) f cdv A outer s H E) (defBody st) t ∧ t { nx := fun _ H' => Q .non H', rt := Q } (L2.start N vs) H) : MetX P w K mg base (k + 1) C m sp := by
  obtain ⟨f, fd, F, g⟩ := T.ex
  exact ⟨f, fd, ps, cl, g, F.ok (CX := L2N.CX P w) (C8.fnScope_by S) len fun cdv A outer s H vs Q E hr h => hbody f cdv A outer s H vs Q E hr h, F.bindsN b⟩
end
section
variable {X : Cx} {k j : Nat} {C : Addr} {m : Str} {sp : Sp} {E : XK} {apos pos : Pos} {e o : Expr} {es : List Expr} {ta : TE} {t : TA}
/-- a method that may raise, called; E: what it may let out -/
theorem pe_mtX {pl : Sem Bool} (c : MetX X.prog X.w X.K X.mg X.base k C m sp) (hr : Room j X.A) (hk : k ≤ j) (hx : Passes (L2N.CX X.prog X.w) X E) (he : PE X o ta) (ha : PA X (e :: es) t)
    (hst : starEach (e :: es) X.env = (false, eval e X.env) :: starEach es X.env := by rfl) (hpl : (backTo pos (starEach es X.env)).any (·.1) = false := by rfl)
    (ht : eval (.Call (.Attribute o m apos) (e :: es) [] pos) X.env = (do
      let ov ← eval o X.env
      standAt apos.atName
      let (f, first) ← holding [ov] (getMethod ov m pl)
      callWith pos f first (backTo pos (starEach (e :: es) X.env)) (backToKw pos (keywordEach [] X.env))) := by rfl) :
    PE X (.Call (.Attribute o m apos) (e :: es) [] pos) (tMeth C m sp [] E ta t) := by
  obtain ⟨f, fd, ps, hc, hm, F, b⟩ := c.ex
  exact pe_meth (pl := pl) he hc hm F (hr.mono hk) b .nil hx ha hst hpl ht
end
/-- a method of one argument, given by its name -/
structure MetK (P : Program) (w : World) (K : PySem.W.Frag) (mg : Str → Option Value) (base : Heap) (k : Nat) (C : Addr) (m kw : Str) (sp : Sp) : Prop where
  ex : ∃ (f : Addr) (fd : FuncData) (p1 p2 : Str), Cls K C ∧ Meth K C m f ∧ FnOk P w K mg base (L2N.CX P w) k f fd [p1, p2] sp ∧ ∀ (s : Shared) (a v : Value), BindsTo s fd ⟨[a], [(kw, v)]⟩ [(p1, a), (p2, v)]
section
variable {P : Program} {w : World} {K : PySem.W.Frag} {mg : Str → Option Value} {base : Heap}
theorem metXK {C : Addr} {m qual kw p1 p2 : Str} {st : Stmt} {N : List Str} {k : Nat} {sp : Sp} (cl : Cls K C) (T : HaveM K C m qual st) (S : C8.scC N [p1, p2] (defScope st) = true)
    (b : ∀ (kV doc pm : Value) (an : Option Addr) (cdv ct : Value) (us : List Value), us.length = [p1, p2].length → bindArgs (PySem.W.fnOf m qual (defArgs st) (defBody st) (defScope st) .none kV doc pm an cdv ct) ⟨us, []⟩ = pure ([p1, p2].zip us))
    (bk : ∀ (kV doc pm : Value) (an : Option Addr) (cdv ct a v : Value), bindArgs (PySem.W.fnOf m qual (defArgs st) (defBody st) (defScope st) .none kV doc pm an cdv ct) ⟨[a], [(kw, v)]⟩ = pure [(p1, a), (p2, v)])
    (len : ∀ vs H Q E, sp vs H Q E → vs.length = [p1, p2].length)
    (hbody : ∀ (f : Addr) (cdv : Value) (A : Around) (outer : List Env) (s : Shared) (H : Hp) (vs : List V) (Q : VK) (E : XK), Room k (A.deeper (envOfC qual (defScope st) s.heap.objs.size f cdv)) → sp vs H Q E →
      ∃ t, PSs (cxOf (L2N.CX P w) P w K mg base N qual (defScope st) f cdv A outer s H E) (defBody st) t ∧ t { nx := fun _ H' => Q .non H', rt := Q } (L2.start N vs) H) : MetX P w K mg base (k + 1) C m sp ∧ MetK P w K mg base (k + 1) C m kw sp := by
  obtain ⟨f, fd, F, g⟩ := T.ex
  have ok : FnOk P w K mg base (L2N.CX P w) (k + 1) f fd [p1, p2] sp := F.ok (CX := L2N.CX P w) (C8.fnScope_by S) len fun cdv A outer s H vs Q E hr h => hbody f cdv A outer s H vs Q E hr h
  refine ⟨⟨f, fd, [p1, p2], cl, g, ok, F.bindsN b⟩, ⟨f, fd, p1, p2, cl, g, ok, fun s a v => ?_⟩⟩
  obtain ⟨oc, od, dV, kV, doc, pm, an, cdv, ct, osl, rfl, lk, hcd, hD, hK⟩ := F.ex
  rcases hD with ⟨_, rfl⟩ | ⟨e, _⟩
  · exact .of_eq (bk kV doc pm an cdv ct a v)
  · exact absurd rfl e
end
theorem passFalse {X : Cx} : Passes (L2N.CX X.prog X.w) X (fun _ _ _ => False) := fun pins σ H s e s' I c => by
  have tk : L2N.Takes { X with xe := fun _ _ => False } (fun _ _ _ _ => False) := fun u s' ⟨_, _, _, _, _, _, _, _, _, _, _, _, _, _, _, _, w⟩ => w.elim
  exact (L2N.passes_call (X := X) (W := fun _ _ _ _ => False) (E := fun _ _ _ => False) (fun u s' ⟨_, _, _, _, _, _, _, _, _, _, _, _, _, _, _, _, w⟩ => w.elim) (fun _ _ _ _ h => h) pins σ H s e s' I c)
/-- a new league at g -/
def spInit (K : PySem.W.Frag) : Sp := fun vs H Q _ => ∃ (g p t r dx : Addr) (ss rs : List Str) (w : Int) (d : V) (lo : Int), vs = [.ref g, .ref p, .ref t, .ref r] ∧ H g = some (.ins (lg K) dx []) ∧ H p = some (.lst (ss.map V.str)) ∧ 2 ≤ ss.length ∧ ss.length ≤ 8 ∧ (∀ s ∈ ss, IsName s) ∧ ss.Nodup ∧
  H t = some (.tup [.int w, d, .int lo]) ∧ SchemeOk w d lo ∧ H r = some (.lst (rs.map V.str)) ∧ RulesOk rs ∧
  ∀ (H' : Hp) (ts tr l tg : Addr), (∀ b o, H b = some o → b ≠ g → H' b = some o) → H' g = some (.ins (lg K) dx (LF (.ref ts) (.ref t) (.ref tr) (.ref l) (.ref tg))) → H ts = none → H tr = none → H l = none → H tg = none → l ≠ g →
    H' ts = some (.tup (ss.map V.str)) → H' tr = some (.tup (rs.map V.str)) → H' l = some (.lst []) → H' tg = some (.tup []) → Q .non H'
section
variable {P : Program} {w : World} {K : PySem.W.Frag} {mg : Str → Option Value} {base : Heap}
theorem sc_m_init : C8.scC ["self", "sides", "scheme", "rules"] ["self", "sides", "scheme", "rules"] (defScope m_init) = true := by decide +kernel
theorem c_m_init (T : TX K mg) : C8.Mak P w K mg base 5 "League" (lg K) (spInit K) [] := by
  obtain ⟨f0, fd0, F0, M0⟩ := T.mkL
  refine ⟨f0, fd0, ["self", "sides", "scheme", "rules"], [], M0, ?_, T.mgL, F0.bindsN fun _ _ _ _ _ _ us hl => match us, hl with | [_, _, _, _], _ => rfl, .nil⟩
  refine F0.ok (CX := CX0) (C8.fnScope_by sc_m_init) (fun vs H Q E h => ?_) (fun cdv A outer s H vs Q E hr h => ?_)
  · obtain ⟨g, p, t, r, dx, ss, rs, w, d, lo, rfl, _⟩ := h
    rfl
  obtain ⟨g, p, t, r, dx, ss, rs, w, d, lo, rfl, hg, hp, h2, h8, hn, nd, ht, ok, hrs, rok, q⟩ := h
  refine ⟨_, PSs.nox ((pss_cons (ps_if (pt_not (pt_val (C8.pe_c (c__are_sides T) hr (by decide) (by rfl) (pa_cons (pv 1) pa_nil)))) (pss_one ps_never) pss_nil)
    (pss_cons (ps_if (pt_not (pt_val (C8.pe_c (c__is_scheme T) hr (by decide) (by rfl) (pa_cons (pv 2) pa_nil)))) (pss_one ps_never) pss_nil)
    (pss_cons (ps_if (pt_not (pt_val (C8.pe_c (c__are_rules T) hr (by decide) (by rfl) (pa_cons (pv 3) pa_nil)))) (pss_one ps_never) pss_nil)
    (pss_cons (ps_fld (pv 0) (pe_callTy call_tuple_of (by rfl) T.B.tuple (by decide +kernel) (pa_cons (pv 1) pa_nil)) rfl)
    (pss_cons (ps_fld (pv 0) (pe_callTy call_tuple_of (by rfl) T.B.tuple (by decide +kernel) (pa_cons (pv 2) pa_nil)) rfl)
    (pss_cons (ps_fld (pv 0) (pe_callTy call_tuple_of (by rfl) T.B.tuple (by decide +kernel) (pa_cons (pv 3) pa_nil)) rfl)
    (pss_cons (ps_fld (pv 0) (pe_lst pa_nil) rfl)
    (pss_one (ps_fld (pv 0) (pe_tup pa_nil) rfl)))))))))), ?_⟩
  refine ⟨_, rfl, p, ss, rfl, hp, h2, h8, hn, nd, fun H1 s1 => ⟨true, rfl, iteF ?_⟩⟩
  refine ⟨_, rfl, t, w, d, lo, rfl, s1 _ _ ht, ok, fun H2 s2 => ⟨true, rfl, iteF ?_⟩⟩
  have s12 := Same.trans s1 s2
  refine ⟨_, rfl, r, rs, rfl, s12 _ _ hrs, rok, fun H3 s3 => ⟨true, rfl, iteF ?_⟩⟩
  have s13 := Same.trans s12 s3
  have ng : ∀ {H' : Hp} {b : Addr}, H' g ≠ none → H' b = none → g ≠ b := fun h1 h2 e => h1 (by rw [e]; exact h2)
  have some_ne : ∀ {o : HO}, (some o : Option HO) ≠ none := fun z => nomatch z
  -- self._sides = tuple(sides)
  refine ⟨_, rfl, p, _, rfl, .inl ⟨SqL.of (s13 _ _ hp), fun ts hts => ?_⟩⟩
  have g3 := s13 _ _ hg
  have g_ts : g ≠ ts := ng (by rw [g3]; exact some_ne) hts
  refine ⟨_, rfl, g, lg K, dx, [], rfl, by rw [upd_ne g_ts]; exact g3, T.cl, T.n_sides, by show 0 < 1000; decide, ?_⟩
  have b4 : But g H3 (upd (upd H3 ts (.tup (ss.map V.str))) g (.ins (lg K) dx (putF "_sides" (.ref ts) []))) := (But.same (same_new hts _)).trans But.refl.upd
  have e4 : (upd (upd H3 ts (.tup (ss.map V.str))) g (.ins (lg K) dx (putF "_sides" (.ref ts) []))) ts = some (.tup (ss.map V.str)) := by rw [upd_ne (Ne.symm g_ts)]; exact upd_same
  have g4 : (upd (upd H3 ts (.tup (ss.map V.str))) g (.ins (lg K) dx (putF "_sides" (.ref ts) []))) g = some (.ins (lg K) dx [("_sides", .ref ts)]) := upd_same
  generalize (upd (upd H3 ts (.tup (ss.map V.str))) g (.ins (lg K) dx (putF "_sides" (.ref ts) []))) = H4 at b4 e4 g4 ⊢
  have ne_t : t ≠ g := fun e => by rw [e, hg] at ht; cases ht
  have ne_r : r ≠ g := fun e => by rw [e, hg] at hrs; cases hrs
  -- self._scheme = tuple(scheme)
  have t4 := b4 _ _ (s13 _ _ ht) ne_t
  refine ⟨_, rfl, t, _, rfl, .inr ⟨SqT.of t4, ?_⟩⟩
  refine ⟨_, rfl, g, lg K, dx, _, rfl, g4, T.cl, T.n_scheme, by show 1 < 1000; decide, ?_⟩
  rw [put2]
  -- self._rules = tuple(rules)
  have r4 := b4 _ _ (s13 _ _ hrs) ne_r
  refine ⟨_, rfl, r, _, rfl, .inl ⟨SqL.of (by rw [upd_ne ne_r]; exact r4), fun tr htr => ?_⟩⟩
  have g_tr : g ≠ tr := ng (by rw [upd_same]; exact some_ne) htr
  have htr4 : H4 tr = none := by rwa [upd_ne (Ne.symm g_tr)] at htr
  refine ⟨_, rfl, g, lg K, dx, _, rfl, by rw [upd_ne g_tr]; exact upd_same, T.cl, T.n_rules, by show 2 < 1000; decide, ?_⟩
  rw [put3]
  have b5 : But g H4 (upd (upd (upd H4 g (.ins (lg K) dx [("_sides", .ref ts), ("_scheme", .ref t)])) tr (.tup (rs.map V.str))) g (.ins (lg K) dx [("_sides", .ref ts), ("_scheme", .ref t), ("_rules", .ref tr)])) := (((But.refl.upd).upd' htr4)).upd
  have e5 : (upd (upd (upd H4 g (.ins (lg K) dx [("_sides", .ref ts), ("_scheme", .ref t)])) tr (.tup (rs.map V.str))) g (.ins (lg K) dx [("_sides", .ref ts), ("_scheme", .ref t), ("_rules", .ref tr)])) tr = some (.tup (rs.map V.str)) := by rw [upd_ne (Ne.symm g_tr)]; exact upd_same
  have g5 : (upd (upd (upd H4 g (.ins (lg K) dx [("_sides", .ref ts), ("_scheme", .ref t)])) tr (.tup (rs.map V.str))) g (.ins (lg K) dx [("_sides", .ref ts), ("_scheme", .ref t), ("_rules", .ref tr)])) g = some (.ins (lg K) dx [("_sides", .ref ts), ("_scheme", .ref t), ("_rules", .ref tr)]) := upd_same
  generalize (upd (upd (upd H4 g (.ins (lg K) dx [("_sides", .ref ts), ("_scheme", .ref t)])) tr (.tup (rs.map V.str))) g (.ins (lg K) dx [("_sides", .ref ts), ("_scheme", .ref t), ("_rules", .ref tr)])) = H5 at b5 e5 g5 ⊢
  -- self._games = []
  refine ⟨by show 0 ≤ sizeLine; decide, fun l hl => ?_⟩
  have g_l : g ≠ l := ng (by rw [g5]; exact some_ne) hl
  refine ⟨_, rfl, g, lg K, dx, _, rfl, by rw [upd_ne g_l]; exact g5, T.cl, T.n_games, by show 3 < 1000; decide, ?_⟩
  rw [put4]
  have b6 : But g H5 (upd (upd H5 l (.lst [])) g (.ins (lg K) dx [("_sides", .ref ts), ("_scheme", .ref t), ("_rules", .ref tr), ("_games", .ref l)])) := (But.same (same_new hl _)).trans But.refl.upd
  have e6 : (upd (upd H5 l (.lst [])) g (.ins (lg K) dx [("_sides", .ref ts), ("_scheme", .ref t), ("_rules", .ref tr), ("_games", .ref l)])) l = some (.lst []) := by rw [upd_ne (Ne.symm g_l)]; exact upd_same
  have g6 : (upd (upd H5 l (.lst [])) g (.ins (lg K) dx [("_sides", .ref ts), ("_scheme", .ref t), ("_rules", .ref tr), ("_games", .ref l)])) g = some (.ins (lg K) dx [("_sides", .ref ts), ("_scheme", .ref t), ("_rules", .ref tr), ("_games", .ref l)]) := upd_same
  generalize (upd (upd H5 l (.lst [])) g (.ins (lg K) dx [("_sides", .ref ts), ("_scheme", .ref t), ("_rules", .ref tr), ("_games", .ref l)])) = H6 at b6 e6 g6 ⊢
  -- self._gone = ()
  refine ⟨by show 0 ≤ sizeLine; decide, fun tg htg => ?_⟩
  have g_tg : g ≠ tg := ng (by rw [g6]; exact some_ne) htg
  refine ⟨_, rfl, g, lg K, dx, _, rfl, by rw [upd_ne g_tg]; exact g6, T.cl, T.n_gone, by show 4 < 1000; decide, ?_⟩
  rw [put5]
  have b7 : But g H6 (upd (upd H6 tg (.tup [])) g (.ins (lg K) dx (LF (.ref ts) (.ref t) (.ref tr) (.ref l) (.ref tg)))) := (But.same (same_new htg _)).trans But.refl.upd
  have back : ∀ {Ha Hb : Hp} {b : Addr}, But g Ha Hb → b ≠ g → Hb b = none → Ha b = none := fun {Ha Hb b} k n z => by
    cases e : Ha b with
    | none => rfl
    | some o => rw [k b o e n] at z; cases z
  have B4 := (But.same (a := g) s13).trans b4
  refine q _ ts tr l tg ((((But.same (a := g) s13).trans b4).trans b5).trans b6 |>.trans b7) upd_same (s13.free hts) (back B4 (Ne.symm g_tr) htr4) (back (B4.trans b5) (Ne.symm g_l) hl) (back ((B4.trans b5).trans b6) (Ne.symm g_tg) htg) (Ne.symm g_l) ?_ ?_ ?_ ?_
  · exact ((b5.trans b6).trans b7) _ _ e4 (Ne.symm g_ts)
  · exact (b6.trans b7) _ _ e5 (Ne.symm g_tr)
  · exact b7 _ _ e6 (Ne.symm g_l)
  · rw [upd_ne (Ne.symm g_tg)]
    exact upd_same
end
end My

namespace My
open PySem PySem.Spec PyProof.Rows L2 SX
/-! ### any data among names -/
/-- a list or tuple of data -/
def Cont (K : PySem.W.Frag) (H : Hp) (v : V) : Prop := ∃ (a : Addr) (xs : List V) (d : PyData), v = .ref a ∧ (H a = some (.tup xs) ∨ H a = some (.lst xs)) ∧ Dp K H v d ∧ SeqAt.shaped d = true
def Odd (K : PySem.W.Frag) (H : Hp) (v : V) : Prop := atom v = true ∨ Cont K H v
theorem Odd.dat {K : PySem.W.Frag} {H : Hp} {v : V} (h : Odd K H v) : Dat1 H v := h.elim .inl fun ⟨a, xs, _, e, h, _⟩ => .inr ⟨a, xs, e, h⟩
def strIn (v : V) (ss : List Str) : Bool := match v with
  | .str s => ss.contains s
  | _ => false
def StrOk (ss : List Str) : Prop := ∀ s ∈ ss, PyData.strOk s = true
theorem name_ok {s : Str} (h : IsName s) : PyData.strOk s = true := by
  obtain ⟨l, rfl, _, _, hl⟩ := h
  show (S l).cps.all _ = true
  rw [← Array.all_toList]
  show l.all (fun c => decide (c < 0x110000)) = true
  rw [List.all_eq_true]
  intro c hc
  have := (hl c hc).2
  exact decide_eq_true (by omega)
theorem shaped_strs {ss : List Str} (h : StrOk ss) : SeqAt.shaped (.tuple (ss.map PyData.str)) = true := by
  have h1 : ∀ ss : List Str, StrOk ss → PyData.canLayAll0 (ss.map PyData.str) = true ∧ PyData.depthAll (ss.map PyData.str) = 0 := by
    intro ss
    induction ss with
    | nil => intro _; exact ⟨rfl, rfl⟩
    | cons s r ih =>
      intro h
      obtain ⟨a, b⟩ := ih fun x hx => h x (List.mem_cons_of_mem _ hx)
      refine ⟨?_, ?_⟩
      · show (PyData.canLay0 (.str s) && PyData.canLayAll0 (r.map PyData.str)) = true
        rw [a, Bool.and_true]
        exact h s (List.mem_cons_self ..)
      · show max (PyData.depth (.str s)) (PyData.depthAll (r.map PyData.str)) = 0
        rw [b]
        rfl
  obtain ⟨a, b⟩ := h1 ss h
  unfold SeqAt.shaped
  rw [Bool.and_eq_true]
  refine ⟨a, decide_eq_true ?_⟩
  show PyData.depthAll (ss.map PyData.str) + 1 ≤ 64
  rw [b]
  decide
theorem dp_strs {K : PySem.W.Frag} {H : Hp} : ∀ ss : List Str, DpAll K H (ss.map V.str) (ss.map PyData.str)
  | [] => .nil
  | s :: r => .cons (.str s) (dp_strs r)
/-- in, not in: an item of any kind in a tuple of data -/
def rInDT (K : PySem.W.Frag) (neg : Bool) : R2 := fun x y H Q => ∃ d ds, Dp K H x d ∧ Dp K H y (.tuple ds) ∧ SeqAt.shaped d = true ∧ SeqAt.shaped (.tuple ds) = true ∧ Q (.bl (if neg then !(ds.any fun z => PyData.eqv z d) else ds.any fun z => PyData.eqv z d)) H
section
variable {X : Cx}
theorem op_inDT (hu : X.A.units + 65 < cLine) : OpR X (compareOp .In) (rInDT X.K false) := by
  rintro pins s σ H x y v u Q I rx ry ⟨d, ds, hd, he, sd, se, q⟩
  obtain ⟨_, r1⟩ := Dp.reads I d x v hd rx
  obtain ⟨_, r2⟩ := Dp.reads I (.tuple ds) y u he ry
  exact SeqAt.in_tuple_reads r2 r1 (SeqAt.canLay_of_shaped se) (SeqAt.canLay_of_shaped sd) (room_in_shaped sd hu) ⟨.bl _, H, I, rfl, q⟩
theorem op_notInDT (hu : X.A.units + 65 < cLine) : OpR X (compareOp .NotIn) (rInDT X.K true) := by
  rintro pins s σ H x y v u Q I rx ry ⟨d, ds, hd, he, sd, se, q⟩
  obtain ⟨_, r1⟩ := Dp.reads I d x v hd rx
  obtain ⟨_, r2⟩ := Dp.reads I (.tuple ds) y u he ry
  exact SeqAt.notIn_tuple_reads r2 r1 (SeqAt.canLay_of_shaped se) (SeqAt.canLay_of_shaped sd) (room_in_shaped sd hu) ⟨.bl _, H, I, rfl, q⟩
def rInAny (K : PySem.W.Frag) (neg : Bool) : R2 := fun x y H Q => rIn K neg x y H Q ∨ rInDT K neg x y H Q
theorem op_inAny (hu : X.A.units + 65 < cLine) : OpR X (compareOp .In) (rInAny X.K false) := op_in_seq.or (op_inDT hu)
theorem op_notInAny (hu : X.A.units + 65 < cLine) : OpR X (compareOp .NotIn) (rInAny X.K true) := op_notIn_seq.or (op_notInDT hu)
end
theorem inV_atom {v : V} (h : atom v = true) (ss : List Str) : flatV v = true ∧ inV v (ss.map V.str) = strIn v ss := by
  cases v with
  | str s => exact ⟨rfl, inV_str s ss⟩
  | non =>
    refine ⟨rfl, ?_⟩
    induction ss with
    | nil => rfl
    | cons x r ih => exact ih
  | bl b =>
    refine ⟨rfl, ?_⟩
    induction ss with
    | nil => rfl
    | cons x r ih => exact ih
  | int i =>
    refine ⟨rfl, ?_⟩
    induction ss with
    | nil => rfl
    | cons x r ih => exact ih
  | _ => cases h
theorem in_tup {K : PySem.W.Frag} {H : Hp} {v : V} {p : Addr} {ss : List Str} {neg : Bool} {Q : VK} (hv : Odd K H v) (hp : H p = some (.tup (ss.map V.str))) (ok : StrOk ss) (q : Q (.bl (if neg then !strIn v ss else strIn v ss)) H) : rInAny K neg v (.ref p) H Q := by
  rcases hv with ha | ⟨a, xs, d, rfl, hc, hd, sd⟩
  · obtain ⟨f, e⟩ := inV_atom ha ss
    exact .inl ⟨p, _, rfl, .inr (SqT.of hp), f, flat_strs ss, by rw [e]; exact q⟩
  · refine .inr ⟨d, ss.map PyData.str, hd, .tup (SqT.of hp) (dp_strs ss), sd, shaped_strs ok, ?_⟩
    have e : ((ss.map PyData.str).any fun z => PyData.eqv z d) = false := by
      have no : ∀ s : Str, PyData.eqv (.str s) d = false := fun s => by
        cases hd with
        | lst _ _ => rfl
        | tup _ _ => rfl
      rw [Bool.eq_false_iff]
      intro z
      obtain ⟨y, hy, e⟩ := List.any_eq_true.mp z
      obtain ⟨s, _, rfl⟩ := List.mem_map.mp hy
      rw [no s] at e
      cases e
    rw [e]
    exact q
theorem u65 {k : Nat} {A : Around} (r : Room k A) : A.units + 65 < cLine := by have := r.un; omega
theorem in_no {K : PySem.W.Frag} {H : Hp} {v : V} {p : Addr} {ss : List Str} {Q : VK} (hv : Odd K H v) (hp : H p = some (.tup (ss.map V.str))) (ok : StrOk ss) (q : Q (.bl (!strIn v ss)) H) : rInAny K true v (.ref p) H Q := in_tup hv hp ok q
theorem in_yes {K : PySem.W.Frag} {H : Hp} {v : V} {p : Addr} {ss : List Str} {Q : VK} (hv : Odd K H v) (hp : H p = some (.tup (ss.map V.str))) (ok : StrOk ss) (q : Q (.bl (strIn v ss)) H) : rInAny K false v (.ref p) H Q := in_tup hv hp ok q
/-! ### a league at a heap -/
abbrev G3 : Type := Str × Str × Str
def GsAt (H : Hp) : List Addr → List G3 → Prop
  | [], [] => True
  | a :: as, g :: gs => H a = some (.tup [.str g.1, .str g.2.1, .str g.2.2]) ∧ GsAt H as gs
  | _, _ => False
theorem GsAt.same {H H' : Hp} (k : Same H H') : ∀ {as : List Addr} {gs : List G3}, GsAt H as gs → GsAt H' as gs
  | [], [], _ => trivial
  | _ :: _, _ :: _, ⟨h, r⟩ => ⟨k _ _ h, r.same k⟩
  | [], _ :: _, h => h.elim
  | _ :: _, [], h => h.elim
theorem GsAt.len {H : Hp} : ∀ {as : List Addr} {gs : List G3}, GsAt H as gs → as.length = gs.length
  | [], [], _ => rfl
  | _ :: _, _ :: _, ⟨_, r⟩ => congrArg (· + 1) r.len
  | [], _ :: _, h => h.elim
  | _ :: _, [], h => h.elim
theorem GsAt.get {H : Hp} : ∀ {as : List Addr} {gs : List G3} (i : Nat) {g : G3}, GsAt H as gs → gs[i]? = some g → ∃ a, as[i]? = some a ∧ H a = some (.tup [.str g.1, .str g.2.1, .str g.2.2])
  | a :: _, _ :: _, 0, g, ⟨h, _⟩, e => by
    rw [List.getElem?_cons_zero] at e
    rw [← Option.some.inj e]
    exact ⟨a, rfl, h⟩
  | _ :: _, _ :: _, i + 1, g, ⟨_, r⟩, e => by
    rw [List.getElem?_cons_succ] at e ⊢
    exact r.get i e
  | [], [], i, g, _, e => by simp at e
  | [], _ :: _, _, _, h, _ => h.elim
  | _ :: _, [], _, _, h, _ => h.elim
theorem GsAt.snoc {H : Hp} {a : Addr} {g : G3} (ha : H a = some (.tup [.str g.1, .str g.2.1, .str g.2.2])) : ∀ {as : List Addr} {gs : List G3}, GsAt H as gs → GsAt H (as ++ [a]) (gs ++ [g])
  | [], [], _ => ⟨ha, trivial⟩
  | _ :: _, _ :: _, ⟨h, r⟩ => ⟨h, r.snoc ha⟩
  | [], _ :: _, h => h.elim
  | _ :: _, [], h => h.elim
theorem GsAt.set {H : Hp} {a : Addr} {g : G3} (ha : H a = some (.tup [.str g.1, .str g.2.1, .str g.2.2])) : ∀ {as : List Addr} {gs : List G3} (i : Nat), GsAt H as gs → GsAt H (as.set i a) (gs.set i g)
  | [], [], _, _ => trivial
  | _ :: _, _ :: _, 0, ⟨_, r⟩ => ⟨ha, r⟩
  | _ :: _, _ :: _, i + 1, ⟨h, r⟩ => ⟨h, r.set ha i⟩
  | [], _ :: _, _, h => h.elim
  | _ :: _, [], _, h => h.elim
structure Lgv where
  ss : List Str
  w : Int
  d : V
  lo : Int
  gs : List G3
  gone : List Str
/-- g: the league, l: its row of games -/
structure LgAt (K : PySem.W.Frag) (H : Hp) (g l : Addr) (z : Lgv) : Prop where
  ex : ∃ (dx ts tc tr tg : Addr) (as : List Addr), H g = some (.ins (lg K) dx (LF (.ref ts) (.ref tc) (.ref tr) (.ref l) (.ref tg))) ∧ H ts = some (.tup (z.ss.map V.str)) ∧ H tc = some (.tup [.int z.w, z.d, .int z.lo]) ∧ H tg = some (.tup (z.gone.map V.str)) ∧ H l = some (.lst (as.map V.ref)) ∧ GsAt H as z.gs
  names : ∀ s ∈ z.ss, IsName s
  goneOk : ∀ s ∈ z.gone, s ∈ z.ss
  small : z.gs.length ≤ 80
  ok : SchemeOk z.w z.d z.lo
  len8 : z.ss.length ≤ 8
theorem LgAt.same {K : PySem.W.Frag} {H H' : Hp} {g l : Addr} {z : Lgv} (h : LgAt K H g l z) (k : Same H H') : LgAt K H' g l z := by
  obtain ⟨dx, ts, tc, tr, tg, as, h1, h2, h3, h4, h5, h6⟩ := h.ex
  exact ⟨⟨dx, ts, tc, tr, tg, as, k _ _ h1, k _ _ h2, k _ _ h3, k _ _ h4, k _ _ h5, h6.same k⟩, h.names, h.goneOk, h.small, h.ok, h.len8⟩
theorem LgAt.sok {K : PySem.W.Frag} {H : Hp} {g l : Addr} {z : Lgv} (h : LgAt K H g l z) : StrOk z.ss ∧ StrOk z.gone := ⟨fun s hs => name_ok (h.names s hs), fun s hs => name_ok (h.names s (h.goneOk s hs))⟩
/-- a side that plays -/
def playing (z : Lgv) (v : V) : Bool := strIn v z.ss && !strIn v z.gone
def okGame (z : Lgv) (v : V) : Bool := match v with
  | .int i => decide (0 ≤ i) && (match z.gs[i.toNat]? with
    | some g => !z.gone.contains g.1 && !z.gone.contains g.2.1
    | none => false)
  | _ => false
def spChkP (K : PySem.W.Frag) : Sp := fun vs H Q E => ∃ g l z v, vs = [.ref g, v] ∧ LgAt K H g l z ∧ Odd K H v ∧ (playing z v = true → Q .non H) ∧ (playing z v = false → ∀ d, H d = none → E (.ref (He.ga K "BadSide")) (some d) (upd H d (.xd [("name", v)])))
def spChkG (K : PySem.W.Frag) : Sp := fun vs H Q E => ∃ g l z v, vs = [.ref g, v] ∧ LgAt K H g l z ∧ Odd K H v ∧ (okGame z v = true → Q .non H) ∧ (okGame z v = false → ∀ d, H d = none → E (.ref (He.ga K "BadGame")) (some d) (upd H d (.xd [("number", v)])))
section
variable {P : Program} {w : World} {K : PySem.W.Frag} {mg : Str → Option Value} {base : Heap}
theorem sc_m__check_playing : C8.scC ["self", "side"] ["self", "side"] (defScope m__check_playing) = true := by decide +kernel
theorem sc_m__check_game : C8.scC ["self", "number", "home", "away", "state"] ["self", "number"] (defScope m__check_game) = true := by decide +kernel
theorem c_m__check_playing (T : TX K mg) : MetX P w K mg base 1 (lg K) "_check_playing" (spChkP K) := by
  refine metX T.cl T.m__check_playing sc_m__check_playing (fun _ _ _ _ _ _ us hl => match us, hl with | [_, _], _ => rfl) (fun vs H Q E h => ?_) (fun f cdv A outer s H vs Q E hr h => ?_)
  · obtain ⟨g, l, z, v, rfl, _⟩ := h
    rfl
  obtain ⟨g, l, z, v, rfl, hL, hv, q1, q2⟩ := h
  refine ⟨_, (pss_one (ps_if (PW.pt (pw_or (pt_cmpR (op_notInAny (u65 hr)) (pv 1) (pe_fld (pv 0) rfl) (by rfl)) (pw_or1 (pt_cmpR (op_inAny (u65 hr)) (pv 1) (pe_fld (pv 0) rfl) (by rfl))))) (pss_one (ps_raiseErr rfl T.e_BadSide T.g_BadSide hr (L2N.takes_of rfl rfl rfl rfl) (pa_cons (pv 1) pa_nil))) pss_nil)), ?_⟩
  obtain ⟨dx, ts, tc, tr, tg, as, h1, h2, h3, h4, h5, h6⟩ := hL.ex
  refine ⟨_, rfl, _, rfl, g, lg K, dx, _, _, rfl, h1, T.cl, T.n_sides, lf_sides, in_no hv h2 hL.sok.1 ⟨_, rfl, ?_⟩⟩
  cases e1 : strIn v z.ss with
  | false =>
    have pf : playing z v = false := by unfold playing; rw [e1]; rfl
    exact ifT (c := !false) rfl (ifT (c := true) rfl ⟨_, rfl, _, rfl, q2 pf⟩)
  | true =>
    refine ifF (c := !true) rfl ⟨_, rfl, _, rfl, g, lg K, dx, _, _, rfl, h1, T.cl, T.n_gone, lf_gone, in_yes hv h4 hL.sok.2 ⟨_, rfl, ?_⟩⟩
    cases e2 : strIn v z.gone with
    | true =>
      have pf : playing z v = false := by unfold playing; rw [e1, e2]; rfl
      exact ifT (c := true) rfl ⟨_, rfl, _, rfl, q2 pf⟩
    | false =>
      have pf : playing z v = true := by unfold playing; rw [e1, e2]; rfl
      exact ifF (c := false) rfl (q1 pf)
theorem c_m__check_game (T : TX K mg) : MetX P w K mg base 2 (lg K) "_check_game" (spChkG K) := by
  refine metX T.cl T.m__check_game sc_m__check_game (fun _ _ _ _ _ _ us hl => match us, hl with | [_, _], _ => rfl) (fun vs H Q E h => ?_) (fun f cdv A outer s H vs Q E hr h => ?_)
  · obtain ⟨g, l, z, v, rfl, _⟩ := h
    rfl
  obtain ⟨g, l, z, v, rfl, hL, hv, q1, q2⟩ := h
  refine ⟨_, (pss_cons (ps_if (PW.pt (pw_or (pt_not (pt_val (C8.pe_c (c_is_integer T) hr (by decide) (by rfl) (pa_cons (pv 1) pa_nil)))) (pw_or1 (pt_not (pt_chain op_le op_lt pe_int (pv 1) (pe_callB call_len_seq (by rfl) T.B.len (by decide +kernel) (pa_cons (pe_fld (pv 0) rfl) pa_nil))))))) (pss_one (ps_raiseErr rfl T.e_BadGame T.g_BadGame hr (L2N.takes_of rfl rfl rfl rfl) (pa_cons (pv 1) pa_nil))) pss_nil)
    (pss_cons (ps_asg (pe_ix ix_list (pe_fld (pv 0) rfl) (pv 1) (fun _ _ => rfl)) (pg_tup rfl (pgs_cons (pg_name (i := 2) (C8.fnScope_by sc_m__check_game).nd rfl (Or.inl rfl)) (pgs_cons (pg_name (i := 3) (C8.fnScope_by sc_m__check_game).nd rfl (Or.inl rfl)) (pgs_cons (pg_name (i := 4) (C8.fnScope_by sc_m__check_game).nd rfl (Or.inl rfl)) pgs_nil)))))
    (pss_one (ps_if (PW.pt (pw_or (pt_cmpR op_in_seq (pv 2) (pe_fld (pv 0) rfl) (by rfl)) (pw_or1 (pt_cmpR op_in_seq (pv 3) (pe_fld (pv 0) rfl) (by rfl))))) (pss_one (ps_raiseErr rfl T.e_BadGame T.g_BadGame hr (L2N.takes_of rfl rfl rfl rfl) (pa_cons (pv 1) pa_nil))) pss_nil)))), ?_⟩
  obtain ⟨dx, ts, tc, tr, tg, as, h1, h2, h3, h4, h5, h6⟩ := hL.ex
  refine ⟨_, rfl, v, rfl, hv.dat, _, rfl, ?_⟩
  cases v with
  | int i =>
    refine ifF (c := !true) rfl ?_
    have raise : okGame z (.int i) = false → ∀ d, H d = none → E (.ref (He.ga K "BadGame")) (some d) (upd H d (.xd [("number", .int i)])) := q2
    refine ⟨_, rfl, _, _, rfl, rfl, _, rfl, ite2 (fun c0 => ?_) (fun c0 => ?_)⟩
    · have i0 : 0 ≤ i := of_decide_eq_true c0
      refine ⟨_, rfl, g, lg K, dx, _, _, rfl, h1, T.cl, T.n_games, lf_games, l, _, rfl, .inl (SqL.of h5), _, _, rfl, rfl, _, rfl, ?_⟩
      rw [List.length_map, h6.len]
      by_cases hi : i < (z.gs.length : Nat)
      · rw [show decide (i < ((z.gs.length : Nat) : Int)) = true from decide_eq_true hi]
        refine ifF (c := !true) rfl ?_
        obtain ⟨n, rfl⟩ : ∃ n : Nat, i = n := ⟨i.toNat, by omega⟩
        have hn : n < z.gs.length := by omega
        have hg : z.gs[n]? = some z.gs[n] := List.getElem?_eq_getElem hn
        obtain ⟨a, ha, hH⟩ := h6.get n hg
        have okE : okGame z (.int (n : Nat)) = (!z.gone.contains z.gs[n].1 && !z.gone.contains z.gs[n].2.1) := by
          show (decide ((0 : Int) ≤ n) && (match z.gs[(n : Int).toNat]? with | some g => !z.gone.contains g.1 && !z.gone.contains g.2.1 | none => false)) = _
          rw [decide_eq_true i0, Int.toNat_natCast, hg]
          rfl
        rw [okE] at q1 q2
        refine ⟨_, rfl, g, lg K, dx, _, _, rfl, h1, T.cl, T.n_games, lf_games, _, rfl, l, _, _, _, rfl, rfl, SqL.of h5, atI_nat (show (as.map V.ref)[n]? = some (V.ref a) by rw [List.getElem?_map, ha]; rfl), ?_⟩
        refine ⟨a, _, rfl, SqT.of hH, rfl, _, _, rfl, _, _, rfl, _, _, rfl, rfl, ?_⟩
        refine ⟨_, rfl, _, rfl, g, lg K, dx, _, _, rfl, h1, T.cl, T.n_gone, lf_gone, tg, _, rfl, .inr (SqT.of h4), rfl, flat_strs _, _, rfl, ?_⟩
        rw [show (if false = true then !inV (V.str z.gs[n].1) (z.gone.map V.str) else inV (V.str z.gs[n].1) (z.gone.map V.str)) = z.gone.contains z.gs[n].1 from inV_str _ _]
        cases e1 : z.gone.contains z.gs[n].1 with
        | true =>
          rw [e1] at q2
          exact ifT (c := true) rfl (ifT (c := true) rfl ⟨_, rfl, _, rfl, q2 rfl⟩)
        | false =>
          rw [e1] at q1 q2
          refine ifF (c := false) rfl ⟨_, rfl, _, rfl, g, lg K, dx, _, _, rfl, h1, T.cl, T.n_gone, lf_gone, tg, _, rfl, .inr (SqT.of h4), rfl, flat_strs _, _, rfl, ?_⟩
          rw [show (if false = true then !inV (V.str z.gs[n].2.1) (z.gone.map V.str) else inV (V.str z.gs[n].2.1) (z.gone.map V.str)) = z.gone.contains z.gs[n].2.1 from inV_str _ _]
          cases e2 : z.gone.contains z.gs[n].2.1 with
          | true =>
            rw [e2] at q2
            exact ifT (c := true) rfl ⟨_, rfl, _, rfl, q2 rfl⟩
          | false =>
            rw [e2] at q1
            exact ifF (c := false) rfl (q1 rfl)
      · rw [show decide (i < ((z.gs.length : Nat) : Int)) = false from decide_eq_false hi]
        refine ifT (c := !false) rfl ⟨_, rfl, _, rfl, raise ?_⟩
        show (decide ((0 : Int) ≤ i) && (match z.gs[i.toNat]? with | some g => !z.gone.contains g.1 && !z.gone.contains g.2.1 | none => false)) = false
        rw [List.getElem?_eq_none (by omega)]
        exact Bool.and_false _
    · refine ⟨_, rfl, ifT (c := !false) rfl ⟨_, rfl, _, rfl, raise ?_⟩⟩
      show (decide ((0 : Int) ≤ i) && _) = false
      rw [Bool.eq_false_iff.mpr c0]
      rfl
  | _ => exact ifT (c := !false) rfl (ifT (c := true) rfl ⟨_, rfl, _, rfl, q2 rfl⟩)
end
end My

namespace My
open PySem PySem.Spec PyProof.Rows L2 SX
def outs (d : V) : List Str := match d with
  | .non => ["home", "away"]
  | _ => ["home", "draw", "away"]
def threeO : List Str := ["home", "draw", "away"]
def kept (d : V) (s : Str) : Bool := !decide (d = V.non) || !decide (s = ("draw" : Str))
theorem kept_outs (d : V) : (threeO.take (threeO.map V.str).length).filter (kept d) = outs d := by
  by_cases e : d = .non
  · subst e
    decide +kernel
  · have k : ∀ s, kept d s = true := fun s => by unfold kept; rw [decide_eq_false e]; rfl
    have f : threeO.filter (kept d) = threeO := List.filter_eq_self.mpr fun s _ => k s
    show threeO.filter (kept d) = outs d
    rw [f]
    cases d with
    | non => exact absurd rfl e
    | _ => rfl
theorem outs_ok (d : V) : StrOk (outs d) := by
  intro s hs
  have h3 : ∀ s ∈ (["home", "draw", "away"] : List Str), PyData.strOk s = true := by decide +kernel
  refine h3 s ?_
  unfold outs at hs
  split at hs
  · simp only [List.mem_cons, List.not_mem_nil, or_false] at hs ⊢
    rcases hs with h | h
    · exact .inl h
    · exact .inr (.inr h)
  · exact hs
/-- the games with the i-th in another state -/
def setSt (gs : List G3) (i : Nat) (s : Str) : List G3 := match gs[i]? with
  | some g => gs.set i (g.1, g.2.1, s)
  | none => gs
theorem setSt_len (gs : List G3) (i : Nat) (s : Str) : (setSt gs i s).length = gs.length := by
  unfold setSt
  split
  · rw [List.length_set]
  · rfl
def spScm (K : PySem.W.Frag) : Sp := fun vs H Q _ => ∃ g l z, vs = [.ref g] ∧ LgAt K H g l z ∧ ∀ tc, H tc = some (.tup [.int z.w, z.d, .int z.lo]) → Q (.ref tc) H
def spOuts (K : PySem.W.Frag) : Sp := fun vs H Q _ => ∃ g l z, vs = [.ref g] ∧ LgAt K H g l z ∧ ∀ H' t, Same H H' → H' t = some (.tup ((outs z.d).map V.str)) → Q (.ref t) H'
def spSet (K : PySem.W.Frag) : Sp := fun vs H Q _ => ∃ (g l : Addr) (z : Lgv) (i : Nat) (s : Str), vs = [.ref g, .int i, .str s] ∧ LgAt K H g l z ∧ i < z.gs.length ∧ ∀ H', LgAt K H' g l { z with gs := setSt z.gs i s } → But l H H' → Q .non H'
def spEnter (K : PySem.W.Frag) : Sp := fun vs H Q E => ∃ g l z v o, vs = [.ref g, v, o] ∧ LgAt K H g l z ∧ Odd K H v ∧ (∀ H', Same H H' → Odd K H' o) ∧ (okGame z v = false → ∀ d, H d = none → E (.ref (He.ga K "BadGame")) (some d) (upd H d (.xd [("number", v)]))) ∧
  (okGame z v = true → strIn o (outs z.d) = false → ∀ H1 d, Same H H1 → H1 d = none → E (.ref (He.ga K "BadValue")) (some d) (upd H1 d (.xd [("at", .int 1)]))) ∧
  (okGame z v = true → ∀ (i : Nat) s, v = .int i → o = .str s → s ∈ outs z.d → ∀ H', LgAt K H' g l { z with gs := setSt z.gs i s } → But l H H' → Q .non H')
/-- called off, opened again -/
def spOff (K : PySem.W.Frag) (st : Str) : Sp := fun vs H Q E => ∃ g l z v, vs = [.ref g, v] ∧ LgAt K H g l z ∧ Odd K H v ∧ (okGame z v = false → ∀ d, H d = none → E (.ref (He.ga K "BadGame")) (some d) (upd H d (.xd [("number", v)]))) ∧
  (okGame z v = true → ∀ (i : Nat), v = .int i → ∀ H', LgAt K H' g l { z with gs := setSt z.gs i st } → But l H H' → Q .non H')
theorem ixN_nat {n i : Nat} (h : i < n) : ixN n (i : Int) = some i := by
  unfold ixN
  rw [if_pos (by omega), Int.toNat_natCast]
  first
    | rw [if_pos (by omega)]
    | (simp; omega)
theorem GsAt.upd {H : Hp} {l : Addr} {o : HO} {xs : List V} (hl : H l = some (.lst xs)) : ∀ {as : List Addr} {gs : List G3}, GsAt H as gs → GsAt (L2.upd H l o) as gs
  | [], [], _ => trivial
  | a :: _, _ :: _, ⟨h, r⟩ => ⟨by rw [upd_ne (fun e => by rw [e, hl] at h; cases h)]; exact h, r.upd hl⟩
  | [], _ :: _, h => h.elim
  | _ :: _, [], h => h.elim
theorem LgAt.put {K : PySem.W.Frag} {H H1 : Hp} {g l : Addr} {z : Lgv} (hL : LgAt K H g l z) (k : Same H H1) {bs : List Addr} {gs' : List G3} (hb : GsAt H1 bs gs') (hn : gs'.length ≤ 80) : LgAt K (L2.upd H1 l (.lst (bs.map V.ref))) g l { z with gs := gs' } := by
  obtain ⟨dx, ts, tc, tr, tg, as, h1, h2, h3, h4, h5, h6⟩ := hL.ex
  have l1 := k _ _ h5
  have ne : ∀ {b : Addr} {o : HO}, H b = some o → (∀ xs, o ≠ .lst xs) → b ≠ l := fun {b o} hb no e => by
    rw [e, h5] at hb
    exact no _ (Option.some.inj hb).symm
  have up : ∀ {b : Addr} {o : HO}, H b = some o → (∀ xs, o ≠ .lst xs) → L2.upd H1 l (.lst (bs.map V.ref)) b = some o := fun {b o} hb no => by
    rw [upd_ne (ne hb no)]
    exact k _ _ hb
  exact ⟨⟨dx, ts, tc, tr, tg, bs, up h1 (fun _ z => nomatch z), up h2 (fun _ z => nomatch z), up h3 (fun _ z => nomatch z), up h4 (fun _ z => nomatch z), upd_same, hb.upd l1⟩, hL.names, hL.goneOk, hn, hL.ok, hL.len8⟩
theorem okGame_int {z : Lgv} {v : V} (h : okGame z v = true) : ∃ i : Nat, v = .int i ∧ i < z.gs.length := by
  cases v with
  | int i =>
    have h2 : (decide ((0 : Int) ≤ i) && (match z.gs[i.toNat]? with | some g => !z.gone.contains g.1 && !z.gone.contains g.2.1 | none => false)) = true := h
    rw [Bool.and_eq_true] at h2
    have i0 : 0 ≤ i := of_decide_eq_true h2.1
    refine ⟨i.toNat, by rw [Int.toNat_of_nonneg i0], ?_⟩
    cases e : z.gs[i.toNat]? with
    | none => rw [e] at h2; exact absurd h2.2 Bool.false_ne_true
    | some g => exact (List.getElem?_eq_some_iff.mp e).1
  | _ => cases h
section
variable {P : Program} {w : World} {K : PySem.W.Frag} {mg : Str → Option Value} {base : Heap}
theorem sc_m_scheme : C8.scC ["self"] ["self"] (defScope m_scheme) = true := by decide +kernel
theorem sc_outcomes_of : C8.scC ["league", "with_draws", "outcome"] ["league"] (defScope s_outcomes_of) = true := by decide +kernel
theorem sc_m__set_state : C8.scC ["self", "number", "state", "home", "away", "before"] ["self", "number", "state"] (defScope m__set_state) = true := by decide +kernel
theorem sc_m_enter : C8.scC ["self", "number", "outcome"] ["self", "number", "outcome"] (defScope m_enter) = true := by decide +kernel
theorem sc_m_call_off : C8.scC ["self", "number"] ["self", "number"] (defScope m_call_off) = true := by decide +kernel
theorem sc_m_reopen : C8.scC ["self", "number"] ["self", "number"] (defScope m_reopen) = true := by decide +kernel
theorem c_m_scheme (T : TX K mg) : C8.Met P w K mg base 1 (lg K) "scheme" (spScm K) [] := by
  refine met T.cl T.m_scheme sc_m_scheme (fun _ _ _ _ _ _ us hl => match us, hl with | [_], _ => rfl) (fun vs H Q E h => ?_) (fun f cdv A outer s H vs Q E hr h => ?_)
  · obtain ⟨g, l, z, rfl, _⟩ := h
    rfl
  obtain ⟨g, l, z, rfl, hL, q⟩ := h
  refine ⟨_, (pss_one (ps_ret (pe_fld (pv 0) rfl))), ?_⟩
  obtain ⟨dx, ts, tc, tr, tg, as, h1, h2, h3, h4, h5, h6⟩ := hL.ex
  exact ⟨_, rfl, g, lg K, dx, _, _, rfl, h1, T.cl, T.n_scheme, lf_scheme, q tc h3⟩
theorem c_outcomes_of (T : TX K mg) : C8.Cal P w K mg base 2 "outcomes_of" (spOuts K) [] := by
  refine cal T.h_outcomes_of sc_outcomes_of (fun _ _ _ _ _ _ us hl => match us, hl with | [_], _ => rfl) (fun vs H Q E h => ?_) (fun f cdv A outer s H vs Q E hr h => ?_)
  · obtain ⟨g, l, z, rfl, _⟩ := h
    rfl
  obtain ⟨g, l, z, rfl, hL, q⟩ := h
  refine ⟨_, (pss_cons (ps_set (i := 1) (C8.fnScope_by sc_outcomes_of).nd rfl (Or.inr rfl) (pe_cmpR op_notN (pe_ix ix_tup (C8.pe_mt0 (c_m_scheme T) hr (by decide) (pv 0)) pe_int (fun _ _ => rfl)) pe_non (nomark _)))
    (pss_one (ps_ret (pe_callTy call_tuple_of (by rfl) T.B.tuple (by decide +kernel) (pa_cons (pe_lc (own := [("outcome", 2)]) (g := (gName 2)) (tt := _) (by rfl) (C8.fnScope_by sc_outcomes_of).nd (pi_tup (pe_glob (v := .ref (He.ga K "OUTCOMES")) (by rfl) T.OUTCOMES rfl)) (blkOk_by (own := [("outcome", 2)]) (N := ["league", "with_draws", "outcome"]) (sc := defScope s_outcomes_of) (by decide +kernel)) (fun _ _ _ _ _ => pg_name (i := 2) (C8.fnScope_by sc_outcomes_of).nd rfl (Or.inl rfl)) (fun _ _ _ _ _ => (pts_one (PW.pt (pw_or (pt_val (pv 1)) (pw_or1 (pt_cmpR op_ne (pv 2) pe_str (nomark _))))))) (fun _ _ _ _ _ => (pv 2))) pa_nil))))), ?_⟩
  obtain ⟨dx, ts, tc, tr, tg, as, h1, h2, h3, h4, h5, h6⟩ := hL.ex
  refine ⟨_, rfl, g, dx, _, rfl, h1, lf_no (by decide +kernel) (by decide +kernel) (by decide +kernel) (by decide +kernel) (by decide +kernel), g, l, z, rfl, hL, fun tc ht => ?_⟩
  have T3 : ∀ H', SqT K H' (He.ga K "OUTCOMES") (threeO.map V.str) := T.tOUTCOMES
  refine ⟨tc, _, 1, _, rfl, rfl, SqT.of ht, rfl, rfl, He.ga K "OUTCOMES", rfl, ⟨_, T3 _⟩, fun D hD => lc_tup (K := K) (a := He.ga K "OUTCOMES") (xs := threeO.map V.str) (fun i H' => Same H H' ∧ H' D = some (.lst (((threeO.take i).filter (kept z.d)).map V.str))) ⟨same_new hD _, upd_same⟩ (fun i H' _ _ => T3 H') ?_ ?_⟩
  · rintro i x H1 hi ⟨s1, e1⟩
    have hi3 : i < threeO.length := by
      have q := (List.getElem?_eq_some_iff.mp hi).1
      rwa [List.length_map] at q
    obtain rfl : x = V.str threeO[i] := by
      rw [List.getElem?_map, List.getElem?_eq_getElem hi3] at hi
      exact (Option.some.inj hi).symm
    have tk : threeO.take (i + 1) = threeO.take i ++ [threeO[i]] := by rw [List.take_succ, List.getElem?_eq_getElem hi3]; rfl
    have yes : kept z.d threeO[i] = true → ∃ acc, H1 D = some (.lst acc) ∧ acc.length < sizeLine ∧ (Same H (L2.upd H1 D (.lst (acc ++ [.str threeO[i]]))) ∧ L2.upd H1 D (.lst (acc ++ [.str threeO[i]])) D = some (.lst (((threeO.take (i + 1)).filter (kept z.d)).map V.str))) := fun kp => by
      refine ⟨_, e1, ?_, same_upd s1 hD, ?_⟩
      · rw [List.length_map]
        have l1 := List.length_filter_le (kept z.d) (threeO.take i)
        have l2 : (threeO.take i).length = min i threeO.length := List.length_take
        have l3 : threeO.length = 3 := rfl
        exact small1000 (by omega)
      · rw [upd_same, tk, List.filter_append, List.map_append, List.filter_cons, if_pos kp]
        rfl
    refine ⟨rfl, _, rfl, _, rfl, ?_⟩
    cases ew : decide (z.d = V.non) with
    | false => exact ifT (c := !false) rfl (ifT (c := true) rfl ⟨_, rfl, yes (by unfold kept; rw [ew]; rfl)⟩)
    | true =>
      refine ifF (c := !true) rfl ⟨_, rfl, rfl, _, rfl, ?_⟩
      by_cases ed : threeO[i] = "draw"
      · refine ifF (by rw [ed, decide_eq_true rfl]; rfl) ⟨s1, ?_⟩
        have kp : kept z.d threeO[i] = false := by unfold kept; rw [ew, ed]; rfl
        rw [tk, List.filter_append, List.filter_cons, if_neg (by rw [kp]; exact Bool.false_ne_true), List.filter_nil, List.append_nil]
        exact e1
      · exact ifT (by rw [decide_eq_false (fun q => ed (V.str.inj q))]; rfl) ⟨_, rfl, yes (by unfold kept; rw [ew, decide_eq_false ed]; rfl)⟩
  · rintro H1 ⟨s1, e1⟩
    refine ⟨D, _, rfl, .inl ⟨SqL.of e1, fun t ht => q _ t (s1.trans (same_new ht _)) ?_⟩⟩
    rw [upd_same]
    congr 3
    exact kept_outs z.d
theorem c_m__set_state (T : TX K mg) : C8.Met P w K mg base 1 (lg K) "_set_state" (spSet K) [] := by
  refine met T.cl T.m__set_state sc_m__set_state (fun _ _ _ _ _ _ us hl => match us, hl with | [_, _, _], _ => rfl) (fun vs H Q E h => ?_) (fun f cdv A outer s H vs Q E hr h => ?_)
  · obtain ⟨g, l, z, i, s, rfl, _⟩ := h
    rfl
  obtain ⟨g, l, z, i, s, rfl, hL, hi, q⟩ := h
  refine ⟨_, (pss_cons (ps_asg (pe_ix ix_list (pe_fld (pv 0) rfl) (pv 1) (fun _ _ => rfl)) (pg_tup rfl (pgs_cons (pg_name (i := 3) (C8.fnScope_by sc_m__set_state).nd rfl (Or.inl rfl)) (pgs_cons (pg_name (i := 4) (C8.fnScope_by sc_m__set_state).nd rfl (Or.inl rfl)) (pgs_cons (pg_name (i := 5) (C8.fnScope_by sc_m__set_state).nd rfl (Or.inl rfl)) pgs_nil)))))
    (pss_one (ps_asg (pe_tup (pa_cons (pv 3) (pa_cons (pv 4) (pa_cons (pv 2) pa_nil)))) (pg_sub (pe_fld (pv 0) rfl) (pv 1) set_list)))), ?_⟩
  obtain ⟨dx, ts, tc, tr, tg, as, h1, h2, h3, h4, h5, h6⟩ := hL.ex
  have hg : z.gs[i]? = some z.gs[i] := List.getElem?_eq_getElem hi
  obtain ⟨a, ha, hH⟩ := h6.get i hg
  refine ⟨_, rfl, g, lg K, dx, _, _, rfl, h1, T.cl, T.n_games, lf_games, _, rfl, l, _, _, _, rfl, rfl, SqL.of h5, atI_nat (show (as.map V.ref)[i]? = some (V.ref a) by rw [List.getElem?_map, ha]; rfl), ?_⟩
  refine ⟨a, _, rfl, SqT.of hH, rfl, _, _, rfl, _, _, rfl, _, _, rfl, rfl, ?_⟩
  refine ⟨_, rfl, _, rfl, _, rfl, by show 3 ≤ sizeLine; decide, fun t ht => ?_⟩
  have k := same_new ht (.tup [.str z.gs[i].1, .str z.gs[i].2.1, .str s])
  refine ⟨_, rfl, g, lg K, dx, _, _, rfl, k _ _ h1, T.cl, T.n_games, lf_games, _, rfl, l, _, _, i, rfl, rfl, k _ _ h5, ixN_nat (by rw [List.length_map, h6.len]; exact hi), ?_⟩
  have e : ((as.map V.ref).set i (.ref t)) = (as.set i t).map V.ref := by rw [List.map_set]
  rw [e]
  have se : setSt z.gs i s = z.gs.set i (z.gs[i].1, z.gs[i].2.1, s) := by unfold setSt; rw [hg]
  refine q _ (hL.put k ?_ (by rw [setSt_len]; exact hL.small)) ((But.same k).trans But.refl.upd)
  rw [se]
  exact GsAt.set (a := t) (g := (z.gs[i].1, z.gs[i].2.1, s)) upd_same i (h6.same k)
theorem c_m_enter (T : TX K mg) : MetX P w K mg base 3 (lg K) "enter" (spEnter K) := by
  refine metX T.cl T.m_enter sc_m_enter (fun _ _ _ _ _ _ us hl => match us, hl with | [_, _, _], _ => rfl) (fun vs H Q E h => ?_) (fun f cdv A outer s H vs Q E hr h => ?_)
  · obtain ⟨g, l, z, v, o, rfl, _⟩ := h
    rfl
  obtain ⟨g, l, z, v, o, rfl, hL, hv, ho, q1, q2, q3⟩ := h
  refine ⟨_, (pss_cons (ps_expr (pe_mtX (c_m__check_game T) hr (by decide) (L2N.passes_call (L2N.takes_of rfl rfl rfl rfl) (fun _ _ _ _ h => h)) (pv 0) (pa_cons (pv 1) pa_nil)))
    (pss_cons (ps_if (pt_cmpR (op_notInAny (u65 hr)) (pv 2) (C8.pe_c (c_outcomes_of T) hr (by decide) (by rfl) (pa_cons (pv 0) pa_nil)) (by rfl)) (pss_one (ps_raiseErr rfl T.e_BadValue T.g_BadValue hr (L2N.takes_of rfl rfl rfl rfl) (pa_cons pe_int pa_nil))) pss_nil)
    (pss_one (ps_expr (C8.pe_mt (c_m__set_state T) hr (by decide) (pv 0) (pa_cons (pv 1) (pa_cons (pv 2) pa_nil))))))), ?_⟩
  have no : ∀ {m : Str}, m ≠ "_sides" → m ≠ "_scheme" → m ≠ "_rules" → m ≠ "_games" → m ≠ "_gone" → ∀ {a b c d e : V}, (LF a b c d e).lookup m = none := fun a1 a2 a3 a4 a5 => lf_no a1 a2 a3 a4 a5
  obtain ⟨dx, ts, tc, tr, tg, as, h1, h2, h3, h4, h5, h6⟩ := hL.ex
  refine ⟨_, rfl, g, dx, _, rfl, h1, no (by decide +kernel) (by decide +kernel) (by decide +kernel) (by decide +kernel) (by decide +kernel), _, rfl, g, l, z, v, rfl, hL, hv, fun ok => ?_, q1⟩
  refine ⟨_, rfl, _, rfl, g, l, z, rfl, hL, fun H1 t s1 ht => in_no (ho H1 s1) ht (outs_ok _) ⟨_, rfl, ?_⟩⟩
  cases e : strIn o (outs z.d) with
  | false => exact ifT (c := !false) rfl ⟨_, rfl, fun d hd => q2 ok e H1 d s1 hd⟩
  | true =>
    refine ifF (c := !true) rfl ?_
    obtain ⟨i, rfl, hi⟩ := okGame_int ok
    obtain ⟨s, rfl, hs⟩ : ∃ s, o = .str s ∧ s ∈ outs z.d := by
      cases o with
      | str s => exact ⟨s, rfl, List.contains_iff_mem.mp e⟩
      | _ => cases e
    exact ⟨_, rfl, g, dx, _, rfl, s1 _ _ h1, no (by decide +kernel) (by decide +kernel) (by decide +kernel) (by decide +kernel) (by decide +kernel), _, rfl, _, rfl, g, l, z, i, s, rfl, hL.same s1, hi, fun H2 hL2 b2 => q3 ok i s rfl rfl hs H2 hL2 ((But.same s1).trans b2)⟩
theorem c_m_call_off (T : TX K mg) : MetX P w K mg base 3 (lg K) "call_off" (spOff K "off") := by
  refine metX T.cl T.m_call_off sc_m_call_off (fun _ _ _ _ _ _ us hl => match us, hl with | [_, _], _ => rfl) (fun vs H Q E h => ?_) (fun f cdv A outer s H vs Q E hr h => ?_)
  · obtain ⟨g, l, z, v, rfl, _⟩ := h
    rfl
  obtain ⟨g, l, z, v, rfl, hL, hv, q1, q3⟩ := h
  refine ⟨_, (pss_cons (ps_expr (pe_mtX (c_m__check_game T) hr (by decide) (L2N.passes_call (L2N.takes_of rfl rfl rfl rfl) (fun _ _ _ _ h => h)) (pv 0) (pa_cons (pv 1) pa_nil)))
    (pss_one (ps_expr (C8.pe_mt (c_m__set_state T) hr (by decide) (pv 0) (pa_cons (pv 1) (pa_cons pe_str pa_nil)))))), ?_⟩
  obtain ⟨dx, ts, tc, tr, tg, as, h1, h2, h3, h4, h5, h6⟩ := hL.ex
  refine ⟨_, rfl, g, dx, _, rfl, h1, lf_no (by decide +kernel) (by decide +kernel) (by decide +kernel) (by decide +kernel) (by decide +kernel), _, rfl, g, l, z, v, rfl, hL, hv, fun ok => ?_, q1⟩
  obtain ⟨i, rfl, hi⟩ := okGame_int ok
  exact ⟨_, rfl, g, dx, _, rfl, h1, lf_no (by decide +kernel) (by decide +kernel) (by decide +kernel) (by decide +kernel) (by decide +kernel), _, rfl, g, l, z, i, "off", rfl, hL, hi, fun H2 hL2 b2 => q3 ok i rfl H2 hL2 b2⟩
theorem b_m_reopen (T : TX K mg) : MetX P w K mg base 3 (lg K) "reopen" (spOff K "left") ∧ MetK P w K mg base 3 (lg K) "reopen" "number" (spOff K "left") := by
  refine metXK T.cl T.m_reopen sc_m_reopen (fun _ _ _ _ _ _ us hl => match us, hl with | [_, _], _ => rfl) (fun _ _ _ _ _ _ _ _ => rfl) (fun vs H Q E h => ?_) (fun f cdv A outer s H vs Q E hr h => ?_)
  · obtain ⟨g, l, z, v, rfl, _⟩ := h
    rfl
  obtain ⟨g, l, z, v, rfl, hL, hv, q1, q3⟩ := h
  refine ⟨_, (pss_cons (ps_expr (pe_mtX (c_m__check_game T) hr (by decide) (L2N.passes_call (L2N.takes_of rfl rfl rfl rfl) (fun _ _ _ _ h => h)) (pv 0) (pa_cons (pv 1) pa_nil)))
    (pss_one (ps_expr (C8.pe_mt (c_m__set_state T) hr (by decide) (pv 0) (pa_cons (pv 1) (pa_cons pe_str pa_nil)))))), ?_⟩
  obtain ⟨dx, ts, tc, tr, tg, as, h1, h2, h3, h4, h5, h6⟩ := hL.ex
  refine ⟨_, rfl, g, dx, _, rfl, h1, lf_no (by decide +kernel) (by decide +kernel) (by decide +kernel) (by decide +kernel) (by decide +kernel), _, rfl, g, l, z, v, rfl, hL, hv, fun ok => ?_, q1⟩
  obtain ⟨i, rfl, hi⟩ := okGame_int ok
  exact ⟨_, rfl, g, dx, _, rfl, h1, lf_no (by decide +kernel) (by decide +kernel) (by decide +kernel) (by decide +kernel) (by decide +kernel), _, rfl, g, l, z, i, "left", rfl, hL, hi, fun H2 hL2 b2 => q3 ok i rfl H2 hL2 b2⟩
theorem c_m_reopen (T : TX K mg) : MetX P w K mg base 3 (lg K) "reopen" (spOff K "left") := (b_m_reopen T).1
theorem k_reopen (T : TX K mg) : MetK P w K mg base 3 (lg K) "reopen" "number" (spOff K "left") := (b_m_reopen T).2
end
end My

namespace My
open PySem PySem.Spec PyProof.Rows L2 SX
def goneW (z : Lgv) (s : Str) : List Str := z.ss.filter fun n => decide (n = s) || z.gone.contains n
def offG (s : Str) (g : G3) : G3 := (g.1, g.2.1, if ([g.1, g.2.1] : List Str).contains s = true then "off" else g.2.2)
def isLeft (gs : List G3) (i : Nat) : Bool := match gs[i]? with
  | some g => decide (g.2.2 = ("left" : Str))
  | none => false
def leftNs (gs : List G3) : List Nat := (List.range gs.length).filter (isLeft gs)
def spWd (K : PySem.W.Frag) : Sp := fun vs H Q E => ∃ g l z v, vs = [.ref g, v] ∧ LgAt K H g l z ∧ Odd K H v ∧ (playing z v = false → ∀ d, H d = none → E (.ref (He.ga K "BadSide")) (some d) (upd H d (.xd [("name", v)]))) ∧
  (playing z v = true → ∀ s, v = .str s → ∀ H' l', H l' = none → LgAt K H' g l' { z with gs := z.gs.map (offG s), gone := goneW z s } → But g H H' → Q .non H')
def spAdd (K : PySem.W.Frag) : Sp := fun vs H Q E => ∃ g l z u v, vs = [.ref g, u, v] ∧ LgAt K H g l z ∧ Odd K H u ∧ Odd K H v ∧
  (playing z u = false → ∀ d, H d = none → E (.ref (He.ga K "BadSide")) (some d) (upd H d (.xd [("name", u)]))) ∧
  (playing z u = true → playing z v = false → ∀ d, H d = none → E (.ref (He.ga K "BadSide")) (some d) (upd H d (.xd [("name", v)]))) ∧
  (playing z u = true → playing z v = true → u = v → ∀ d, H d = none → E (.ref (He.ga K "BadValue")) (some d) (upd H d (.xd [("at", .int 1)]))) ∧
  (playing z u = true → playing z v = true → u ≠ v → 80 ≤ z.gs.length → ∀ d, H d = none → E (.ref (He.ga K "TooMany")) (some d) (upd H d (.xd [("word", .str "games")]))) ∧
  (playing z u = true → playing z v = true → u ≠ v → z.gs.length < 80 → ∀ a b, u = .str a → v = .str b → ∀ H', LgAt K H' g l { z with gs := z.gs ++ [((a, b, "left") : G3)] } → But l H H' → Q (.int (z.gs.length : Nat)) H')
def spGames (K : PySem.W.Frag) : Sp := fun vs H Q _ => ∃ g l z, vs = [.ref g] ∧ LgAt K H g l z ∧ ∀ H' t as, Same H H' → H' t = some (.tup (as.map V.ref)) → GsAt H' as z.gs → Q (.ref t) H'
def spLeft (K : PySem.W.Frag) : Sp := fun vs H Q _ => ∃ g l z, vs = [.ref g] ∧ LgAt K H g l z ∧ ∀ H' t, Same H H' → H' t = some (.tup ((leftNs z.gs).map fun n => V.int (n : Nat))) → Q (.ref t) H'
def spGone (K : PySem.W.Frag) : Sp := fun vs H Q _ => ∃ g l z, vs = [.ref g] ∧ LgAt K H g l z ∧ ∀ t, H t = some (.tup (z.gone.map V.str)) → Q (.ref t) H
theorem playing_str {z : Lgv} {v : V} (h : playing z v = true) : ∃ s, v = .str s ∧ s ∈ z.ss ∧ s ∉ z.gone := by
  unfold playing at h
  rw [Bool.and_eq_true] at h
  cases v with
  | str s =>
    refine ⟨s, rfl, List.contains_iff_mem.mp h.1, fun m => ?_⟩
    have h2 : (!z.gone.contains s) = true := h.2
    rw [List.contains_iff_mem.mpr m] at h2
    cases h2
  | _ => exact absurd h.1 Bool.false_ne_true
section
variable {P : Program} {w : World} {K : PySem.W.Frag} {mg : Str → Option Value} {base : Heap}
theorem sc_m_withdraw : C8.scC ["self", "side", "name", "home", "away", "state"] ["self", "side"] (defScope m_withdraw) = true := by decide +kernel
theorem sc_m_add_game : C8.scC ["self", "home", "away"] ["self", "home", "away"] (defScope m_add_game) = true := by decide +kernel
theorem sc_m_games : C8.scC ["self"] ["self"] (defScope m_games) = true := by decide +kernel
theorem sc_m_left : C8.scC ["self", "number", "game"] ["self"] (defScope m_left) = true := by decide +kernel
theorem sc_m_withdrawn : C8.scC ["self"] ["self"] (defScope m_withdrawn) = true := by decide +kernel
theorem c_m_games (T : TX K mg) : C8.Met P w K mg base 1 (lg K) "games" (spGames K) [] := by
  refine met T.cl T.m_games sc_m_games (fun _ _ _ _ _ _ us hl => match us, hl with | [_], _ => rfl) (fun vs H Q E h => ?_) (fun f cdv A outer s H vs Q E hr h => ?_)
  · obtain ⟨g, l, z, rfl, _⟩ := h
    rfl
  obtain ⟨g, l, z, rfl, hL, q⟩ := h
  refine ⟨_, (pss_one (ps_ret (pe_callTy call_tuple_of (by rfl) T.B.tuple (by decide +kernel) (pa_cons (pe_fld (pv 0) rfl) pa_nil)))), ?_⟩
  obtain ⟨dx, ts, tc, tr, tg, as, h1, h2, h3, h4, h5, h6⟩ := hL.ex
  exact ⟨_, rfl, g, lg K, dx, _, _, rfl, h1, T.cl, T.n_games, lf_games, l, _, rfl, .inl ⟨SqL.of h5, fun t ht => q _ t as (same_new ht _) upd_same (h6.same (same_new ht _))⟩⟩
theorem c_m_withdrawn (T : TX K mg) : C8.Met P w K mg base 1 (lg K) "withdrawn" (spGone K) [] := by
  refine met T.cl T.m_withdrawn sc_m_withdrawn (fun _ _ _ _ _ _ us hl => match us, hl with | [_], _ => rfl) (fun vs H Q E h => ?_) (fun f cdv A outer s H vs Q E hr h => ?_)
  · obtain ⟨g, l, z, rfl, _⟩ := h
    rfl
  obtain ⟨g, l, z, rfl, hL, q⟩ := h
  refine ⟨_, (pss_one (ps_ret (pe_fld (pv 0) rfl))), ?_⟩
  obtain ⟨dx, ts, tc, tr, tg, as, h1, h2, h3, h4, h5, h6⟩ := hL.ex
  exact ⟨_, rfl, g, lg K, dx, _, _, rfl, h1, T.cl, T.n_gone, lf_gone, q tg h4⟩
theorem c_m_left (T : TX K mg) : C8.Met P w K mg base 1 (lg K) "left" (spLeft K) [] := by
  refine met T.cl T.m_left sc_m_left (fun _ _ _ _ _ _ us hl => match us, hl with | [_], _ => rfl) (fun vs H Q E h => ?_) (fun f cdv A outer s H vs Q E hr h => ?_)
  · obtain ⟨g, l, z, rfl, _⟩ := h
    rfl
  obtain ⟨g, l, z, rfl, hL, q⟩ := h
  refine ⟨_, (pss_one (ps_ret (pe_callTy call_tuple_of (by rfl) T.B.tuple (by decide +kernel) (pa_cons (pe_lc (own := [("number", 1), ("game", 2)]) (g := (gTup K 2 (gCons (gName 1) (gCons (gName 2) gNil)))) (tt := _) (by rfl) (C8.fnScope_by sc_m_left).nd (pi_enum (by rfl) T.B.enumerate (pa_cons (pe_fld (pv 0) rfl) pa_nil)) (blkOk_by (own := [("number", 1), ("game", 2)]) (N := ["self", "number", "game"]) (sc := defScope m_left) (by decide +kernel)) (fun _ _ _ _ _ => pg_tup rfl (pgs_cons (pg_name (i := 1) (C8.fnScope_by sc_m_left).nd rfl (Or.inl rfl)) (pgs_cons (pg_name (i := 2) (C8.fnScope_by sc_m_left).nd rfl (Or.inl rfl)) pgs_nil))) (fun _ _ _ _ _ => (pts_one (pt_cmpR op_eq (pe_ix (ix_tupK (K := K) rfl) (pv 2) pe_int (fun _ _ => rfl)) pe_str (nomark _)))) (fun _ _ _ _ _ => (pv 1))) pa_nil)))), ?_⟩
  obtain ⟨dx, ts, tc, tr, tg, as, h1, h2, h3, h4, h5, h6⟩ := hL.ex
  refine ⟨_, rfl, g, lg K, dx, _, _, rfl, h1, T.cl, T.n_games, lf_games, l, _, rfl, SqL.of h5, fun D hD => lc_it walk_enum (fun i H' => Same H H' ∧ H' D = some (.lst ((((List.range i).filter (isLeft z.gs))).map fun n => V.int (n : Nat)))) ⟨same_new hD _, upd_same⟩ (fun i H' _ h => SqL.of (h.1 _ _ h5)) ?_ ?_⟩
  · rintro i x H1 H2 hi ⟨s1, e1⟩ ⟨tp, n, y, rfl, ht, rfl, hn, hy⟩
    obtain rfl := Option.some.inj hn
    have hi2 : i < as.length := by rwa [List.length_map] at hi
    obtain rfl : y = V.ref as[i] := by
      have hy2 : (as.map V.ref)[i]? = some y := hy
      rw [List.getElem?_map, List.getElem?_eq_getElem hi2] at hy2
      exact (Option.some.inj hy2).symm
    have hi3 : i < z.gs.length := by rw [← h6.len]; exact hi2
    have hg : z.gs[i]? = some z.gs[i] := List.getElem?_eq_getElem hi3
    obtain ⟨a, ha, hH⟩ := h6.get i hg
    have ea : as[i] = a := by
      rw [List.getElem?_eq_getElem hi2] at ha
      exact Option.some.inj ha
    rw [ea]
    have k := same_new ht (.tup [V.int (i : Nat), V.ref a])
    have D2 : D ≠ tp := ne_of_none e1 ht
    refine ⟨tp, _, rfl, SqT.of upd_same, rfl, _, _, rfl, _, _, rfl, rfl, rfl, ?_⟩
    refine ⟨_, rfl, a, _, 2, _, rfl, rfl, SqT.of (k _ _ (s1 _ _ hH)), rfl, rfl, _, rfl, ?_⟩
    have isl : isLeft z.gs i = decide (z.gs[i].2.2 = ("left" : Str)) := by unfold isLeft; rw [hg]
    rw [List.range_succ, List.filter_append, List.map_append]
    by_cases c : z.gs[i].2.2 = "left"
    · refine ifT (decide_eq_true (by rw [c])) ⟨_, rfl, _, by rw [upd_ne D2]; exact e1, ?_, same_upd (Same.trans s1 k) hD, ?_⟩
      · rw [List.length_map]
        have l1 := List.length_filter_le (isLeft z.gs) (List.range i)
        rw [List.length_range] at l1
        have := hL.small
        exact small1000 (by omega)
      · rw [upd_same, List.filter_cons, if_pos (by rw [isl]; exact decide_eq_true c)]
        rfl
    · refine ifF (decide_eq_false fun q => c (V.str.inj q)) ⟨Same.trans s1 k, ?_⟩
      rw [upd_ne D2, List.filter_cons, if_neg (by rw [isl, decide_eq_false c]; exact Bool.false_ne_true)]
      rw [show List.filter (isLeft z.gs) ([] : List Nat) = [] from rfl, List.map_nil, List.append_nil]
      exact e1
  · rintro H1 ⟨s1, e1⟩
    refine ⟨D, _, rfl, .inl ⟨SqL.of e1, fun t ht => q _ t (s1.trans (same_new ht _)) ?_⟩⟩
    rw [upd_same, List.length_map, h6.len]
    rfl
theorem c_m_add_game (T : TX K mg) : MetX P w K mg base 2 (lg K) "add_game" (spAdd K) := by
  refine metX T.cl T.m_add_game sc_m_add_game (fun _ _ _ _ _ _ us hl => match us, hl with | [_, _, _], _ => rfl) (fun vs H Q E h => ?_) (fun f cdv A outer s H vs Q E hr h => ?_)
  · obtain ⟨g, l, z, u, v, rfl, _⟩ := h
    rfl
  obtain ⟨g, l, z, u, v, rfl, hL, hu, hv, q1, q2, q3, q4, q5⟩ := h
  refine ⟨_, (pss_cons (ps_expr (pe_mtX (c_m__check_playing T) hr (by decide) (L2N.passes_call (L2N.takes_of rfl rfl rfl rfl) (fun _ _ _ _ h => h)) (pv 0) (pa_cons (pv 1) pa_nil)))
    (pss_cons (ps_expr (pe_mtX (c_m__check_playing T) hr (by decide) (L2N.passes_call (L2N.takes_of rfl rfl rfl rfl) (fun _ _ _ _ h => h)) (pv 0) (pa_cons (pv 2) pa_nil)))
    (pss_cons (ps_if (pt_cmpR op_eq (pv 1) (pv 2) (nomark _)) (pss_one (ps_raiseErr rfl T.e_BadValue T.g_BadValue hr (L2N.takes_of rfl rfl rfl rfl) (pa_cons pe_int pa_nil))) pss_nil)
    (pss_cons (ps_if (pt_cmpR op_ge (pe_callB call_len_seq (by rfl) T.B.len (by decide +kernel) (pa_cons (pe_fld (pv 0) rfl) pa_nil)) (C8.pe_gc (by rfl) T.MOST_GAMES) (nomark _)) (pss_one (ps_raiseErr rfl T.e_TooMany T.g_TooMany hr (L2N.takes_of rfl rfl rfl rfl) (pa_cons pe_str pa_nil))) pss_nil)
    (pss_cons (ps_expr (pe_bm PySem.F.plainAttrs_list PySem.F.slot_list_append PySem.F.type_list_append mt_append (pe_fld (pv 0) rfl) (pa_cons (pe_tup (pa_cons (pv 1) (pa_cons (pv 2) (pa_cons pe_str pa_nil)))) pa_nil)))
    (pss_one (ps_ret (pe_op op_sub (pe_callB call_len_seq (by rfl) T.B.len (by decide +kernel) (pa_cons (pe_fld (pv 0) rfl) pa_nil)) pe_int)))))))), ?_⟩
  have no : ∀ {m : Str}, m ≠ "_sides" → m ≠ "_scheme" → m ≠ "_rules" → m ≠ "_games" → m ≠ "_gone" → ∀ {a b c d e : V}, (LF a b c d e).lookup m = none := fun a1 a2 a3 a4 a5 => lf_no a1 a2 a3 a4 a5
  obtain ⟨dx, ts, tc, tr, tg, as, h1, h2, h3, h4, h5, h6⟩ := hL.ex
  refine ⟨_, rfl, g, dx, _, rfl, h1, no (by decide +kernel) (by decide +kernel) (by decide +kernel) (by decide +kernel) (by decide +kernel), _, rfl, g, l, z, u, rfl, hL, hu, fun pu => ?_, q1⟩
  refine ⟨_, rfl, g, dx, _, rfl, h1, no (by decide +kernel) (by decide +kernel) (by decide +kernel) (by decide +kernel) (by decide +kernel), _, rfl, g, l, z, v, rfl, hL, hv, fun pv => ?_, q2 pu⟩
  obtain ⟨a, rfl, a1, a2⟩ := playing_str pu
  obtain ⟨b, rfl, b1, b2⟩ := playing_str pv
  refine ⟨_, rfl, _, rfl, rfl, _, rfl, ite2 (fun c => ?_) (fun c => ?_)⟩
  · exact ⟨_, rfl, q3 pu pv (of_decide_eq_true c)⟩
  have nab : V.str a ≠ V.str b := fun e => c (decide_eq_true e)
  refine ⟨_, rfl, g, lg K, dx, _, _, rfl, h1, T.cl, T.n_games, lf_games, l, _, rfl, .inl (SqL.of h5), _, _, rfl, rfl, _, rfl, ?_⟩
  rw [List.length_map, h6.len]
  refine ite2 (fun c => ?_) (fun c => ?_)
  · have c2 : (80 : Int) ≤ (z.gs.length : Nat) := of_decide_eq_true c
    exact ⟨_, rfl, q4 pu pv nab (by omega)⟩
  · have c2 : ¬ (80 : Int) ≤ (z.gs.length : Nat) := of_decide_eq_false (Bool.eq_false_iff.mpr c)
    refine ⟨_, rfl, g, lg K, dx, _, _, rfl, h1, T.cl, T.n_games, lf_games, .inl ⟨rfl, _, SqL.of h5⟩, _, rfl, _, rfl, by show 3 ≤ sizeLine; decide, fun t ht => ?_⟩
    have k := same_new ht (.tup [.str a, .str b, .str "left"])
    refine ⟨l, _, _, rfl, rfl, k _ _ h5, by rw [List.length_map, h6.len]; exact small1000 (by omega), ?_⟩
    rw [show as.map V.ref ++ [V.ref t] = (as ++ [t]).map V.ref by rw [List.map_append]; rfl]
    have L2 := hL.put k (bs := as ++ [t]) (gs' := z.gs ++ [((a, b, "left") : G3)]) (GsAt.snoc (g := ((a, b, "left") : G3)) upd_same (h6.same k)) (by rw [List.length_append, List.length_singleton]; omega)
    have gl : g ≠ l := fun e => by rw [e, h5] at h1; cases h1
    refine ⟨_, rfl, g, lg K, dx, _, _, rfl, by rw [upd_ne gl]; exact k _ _ h1, T.cl, T.n_games, lf_games, l, _, rfl, .inl (SqL.of upd_same), _, _, rfl, rfl, ?_⟩
    rw [List.length_map, List.length_append, List.length_singleton, h6.len]
    show Q (V.int (((z.gs.length + 1 : Nat) : Int) - 1)) _
    rw [show (((z.gs.length + 1 : Nat) : Int) - 1) = (z.gs.length : Nat) by omega]
    exact q5 pu pv nab (by omega) a b rfl rfl _ L2 ((But.same k).trans But.refl.upd)
theorem b_m_withdraw (T : TX K mg) : MetX P w K mg base 2 (lg K) "withdraw" (spWd K) ∧ MetK P w K mg base 2 (lg K) "withdraw" "side" (spWd K) := by
  refine metXK T.cl T.m_withdraw sc_m_withdraw (fun _ _ _ _ _ _ us hl => match us, hl with | [_, _], _ => rfl) (fun _ _ _ _ _ _ _ _ => rfl) (fun vs H Q E h => ?_) (fun f cdv A outer s H vs Q E hr h => ?_)
  · obtain ⟨g, l, z, v, rfl, _⟩ := h
    rfl
  obtain ⟨g, l, z, v, rfl, hL, hv, q1, q2⟩ := h
  refine ⟨_, (pss_cons (ps_expr (pe_mtX (c_m__check_playing T) hr (by decide) (L2N.passes_call (L2N.takes_of rfl rfl rfl rfl) (fun _ _ _ _ h => h)) (pv 0) (pa_cons (pv 1) pa_nil)))
    (pss_cons (ps_fld (pv 0) (pe_callTy call_tuple_of (by rfl) T.B.tuple (by decide +kernel) (pa_cons (pe_lc (own := [("name", 2)]) (g := (gName 2)) (tt := _) (by rfl) (C8.fnScope_by sc_m_withdraw).nd (pi_tup (pe_fld (pv 0) rfl)) (blkOk_by (own := [("name", 2)]) (N := ["self", "side", "name", "home", "away", "state"]) (sc := defScope m_withdraw) (by decide +kernel)) (fun _ _ _ _ _ => pg_name (i := 2) (C8.fnScope_by sc_m_withdraw).nd rfl (Or.inl rfl)) (fun _ _ _ _ _ => (pts_one (PW.pt (pw_or (pt_cmpR op_eq (pv 2) (pv 1) (nomark _)) (pw_or1 (pt_cmpR (op_inK (K := K) rfl) (pv 2) (pe_fldK (K := K) rfl (pv 0) rfl) (by rfl))))))) (fun _ _ _ _ _ => (pv 2))) pa_nil)) rfl)
    (pss_one (ps_fld (pv 0) (pe_lc (own := [("home", 3), ("away", 4), ("state", 5)]) (g := (gTup K 3 (gCons (gName 3) (gCons (gName 4) (gCons (gName 5) gNil))))) (tt := tYes) (by rfl) (C8.fnScope_by sc_m_withdraw).nd (pi_list (pe_fld (pv 0) rfl)) (blkOk_by (own := [("home", 3), ("away", 4), ("state", 5)]) (N := ["self", "side", "name", "home", "away", "state"]) (sc := defScope m_withdraw) (by decide +kernel)) (fun _ _ _ _ _ => pg_tup rfl (pgs_cons (pg_name (i := 3) (C8.fnScope_by sc_m_withdraw).nd rfl (Or.inl rfl)) (pgs_cons (pg_name (i := 4) (C8.fnScope_by sc_m_withdraw).nd rfl (Or.inl rfl)) (pgs_cons (pg_name (i := 5) (C8.fnScope_by sc_m_withdraw).nd rfl (Or.inl rfl)) pgs_nil)))) (fun _ _ _ _ _ => pts_nil) (fun _ _ _ _ _ => (pe_tup (pa_cons (pv 3) (pa_cons (pv 4) (pa_cons (pe_ifExp (pt_cmpR (op_inK (K := K) rfl) (pv 1) (pe_tup (pa_cons (pv 3) (pa_cons (pv 4) pa_nil))) (by rfl)) pe_str (pv 5)) pa_nil)))))) rfl)))), ?_⟩
  obtain ⟨dx, ts, tc, tr, tg, as, h1, h2, h3, h4, h5, h6⟩ := hL.ex
  refine ⟨_, rfl, g, dx, _, rfl, h1, lf_no (by decide +kernel) (by decide +kernel) (by decide +kernel) (by decide +kernel) (by decide +kernel), _, rfl, g, l, z, v, rfl, hL, hv, fun pv => ?_, q1⟩
  obtain ⟨s, rfl, a1, a2⟩ := playing_str pv
  have keepN : ∀ n, (decide (n = s) || z.gone.contains n) = true ↔ (fun n => decide (n = s) || z.gone.contains n) n = true := fun n => Iff.rfl
  refine ⟨_, rfl, g, lg K, dx, _, _, rfl, h1, T.cl, T.n_sides, lf_sides, ts, rfl, ⟨_, SqT.of h2⟩, fun D hD => lc_tup (K := K) (a := ts) (xs := z.ss.map V.str) (fun i H' => Same H H' ∧ H' D = some (.lst (((z.ss.take i).filter fun n => decide (n = s) || z.gone.contains n).map V.str))) ⟨same_new hD _, upd_same⟩ (fun i H' _ h => SqT.of (h.1 _ _ h2)) ?_ ?_⟩
  · rintro i x H1 hi ⟨s1, e1⟩
    have hi2 : i < z.ss.length := by
      have q := (List.getElem?_eq_some_iff.mp hi).1
      rwa [List.length_map] at q
    obtain rfl : x = V.str z.ss[i] := by
      rw [List.getElem?_map, List.getElem?_eq_getElem hi2] at hi
      exact (Option.some.inj hi).symm
    have tk : z.ss.take (i + 1) = z.ss.take i ++ [z.ss[i]] := by rw [List.take_succ, List.getElem?_eq_getElem hi2]; rfl
    have yes : (decide (z.ss[i] = s) || z.gone.contains z.ss[i]) = true → ∃ acc, H1 D = some (.lst acc) ∧ acc.length < sizeLine ∧ (Same H (L2.upd H1 D (.lst (acc ++ [.str z.ss[i]]))) ∧ L2.upd H1 D (.lst (acc ++ [.str z.ss[i]])) D = some (.lst (((z.ss.take (i + 1)).filter fun n => decide (n = s) || z.gone.contains n).map V.str))) := fun kp => by
      refine ⟨_, e1, ?_, same_upd s1 hD, ?_⟩
      · rw [List.length_map]
        have l1 := List.length_filter_le (fun n => decide (n = s) || z.gone.contains n) (z.ss.take i)
        have l2 : (z.ss.take i).length = min i z.ss.length := List.length_take
        have := hL.len8
        exact small1000 (by omega)
      · rw [upd_same, tk, List.filter_append, List.map_append, List.filter_cons, if_pos kp]
        rfl
    refine ⟨rfl, _, rfl, _, rfl, rfl, _, rfl, ?_⟩
    by_cases c : z.ss[i] = s
    · exact ifT (decide_eq_true (by rw [c])) (ifT (c := true) rfl ⟨_, rfl, yes (by rw [decide_eq_true c]; rfl)⟩)
    · refine ifF (decide_eq_false fun q => c (V.str.inj q)) ⟨_, rfl, _, rfl, g, lg K, dx, _, _, rfl, s1 _ _ h1, T.cl, T.n_gone, lf_gone, tg, _, rfl, .inr (SqT.of (s1 _ _ h4)), rfl, flat_strs _, _, rfl, ?_⟩
      rw [show (if false = true then !inV (V.str z.ss[i]) (z.gone.map V.str) else inV (V.str z.ss[i]) (z.gone.map V.str)) = z.gone.contains z.ss[i] from inV_str _ _]
      cases e2 : z.gone.contains z.ss[i] with
      | true => exact ifT (c := true) rfl ⟨_, rfl, yes (by rw [e2, Bool.or_true])⟩
      | false =>
        refine ifF (c := false) rfl ⟨s1, ?_⟩
        rw [tk, List.filter_append, List.filter_cons, if_neg (by rw [e2, decide_eq_false c]; exact Bool.false_ne_true), List.filter_nil, List.append_nil]
        exact e1
  · rintro H1 ⟨s1, e1⟩
    rw [List.length_map, List.take_length, show (z.ss.filter fun n => decide (n = s) || z.gone.contains n) = goneW z s from rfl] at e1
    refine ⟨D, _, rfl, .inl ⟨SqL.of e1, fun tn htn => ?_⟩⟩
    have k1 := Same.trans s1 (same_new htn (.tup ((goneW z s).map V.str)))
    have htn0 : H tn = none := s1.free htn
    refine ⟨_, rfl, g, lg K, dx, _, rfl, k1 _ _ h1, T.cl, T.n_gone, by show 5 < 1000; decide, ?_⟩
    rw [LF_gone]
    have ne : ∀ {b : Addr} {o : HO}, H b = some o → (∀ C d f, o ≠ .ins C d f) → b ≠ g := fun {b o} hb no e => by
      rw [e, h1] at hb
      exact no _ _ _ (Option.some.inj hb).symm
    have gtn : tn ≠ g := fun e => by rw [e, h1] at htn0; cases htn0
    have g2 : (L2.upd (L2.upd H1 tn (.tup ((goneW z s).map V.str))) g (.ins (lg K) dx (LF (.ref ts) (.ref tc) (.ref tr) (.ref l) (.ref tn)))) g = some (.ins (lg K) dx (LF (.ref ts) (.ref tc) (.ref tr) (.ref l) (.ref tn))) := upd_same
    have t2 : (L2.upd (L2.upd H1 tn (.tup ((goneW z s).map V.str))) g (.ins (lg K) dx (LF (.ref ts) (.ref tc) (.ref tr) (.ref l) (.ref tn)))) tn = some (.tup ((goneW z s).map V.str)) := by rw [upd_ne gtn]; exact upd_same
    have b2 : But g H (L2.upd (L2.upd H1 tn (.tup ((goneW z s).map V.str))) g (.ins (lg K) dx (LF (.ref ts) (.ref tc) (.ref tr) (.ref l) (.ref tn)))) := (But.same k1).trans But.refl.upd
    generalize (L2.upd (L2.upd H1 tn (.tup ((goneW z s).map V.str))) g (.ins (lg K) dx (LF (.ref ts) (.ref tc) (.ref tr) (.ref l) (.ref tn)))) = H2 at g2 t2 b2 ⊢
    have l2 := b2 _ _ h5 (ne h5 fun _ _ _ z => nomatch z)
    have gs2 : GsAt H2 as z.gs := by
      have gen : ∀ {as : List Addr} {gs : List G3}, GsAt H as gs → GsAt H2 as gs := fun {as gs} => by
        induction as generalizing gs with
        | nil => cases gs with
          | nil => intro _; trivial
          | cons _ _ => intro h; exact h.elim
        | cons a r ih => cases gs with
          | nil => intro h; exact h.elim
          | cons x y => intro h; exact ⟨b2 _ _ h.1 (ne h.1 fun _ _ _ z => nomatch z), ih h.2⟩
      exact gen h6
    refine ⟨_, rfl, g, lg K, dx, _, _, rfl, g2, T.cl, T.n_games, lf_games, l, rfl, ⟨_, SqL.of l2⟩, fun D2 hD2 => lc_list (K := K) (a := l) (xs := as.map V.ref) (fun i H' => Same H2 H' ∧ ∃ bs : List Addr, bs.length = i ∧ H' D2 = some (.lst (bs.map V.ref)) ∧ GsAt H' bs ((z.gs.take i).map (offG s))) ⟨same_new hD2 _, [], rfl, upd_same, trivial⟩ (fun i H' _ h => SqL.of (h.1 _ _ l2)) ?_ ?_⟩
    · rintro i x H3 hi ⟨s3, bs, hbl, e3, gb⟩
      have hi2 : i < as.length := by
        have q := (List.getElem?_eq_some_iff.mp hi).1
        rwa [List.length_map] at q
      obtain rfl : x = V.ref as[i] := by
        rw [List.getElem?_map, List.getElem?_eq_getElem hi2] at hi
        exact (Option.some.inj hi).symm
      have hi3 : i < z.gs.length := by rw [← h6.len]; exact hi2
      have hg : z.gs[i]? = some z.gs[i] := List.getElem?_eq_getElem hi3
      obtain ⟨a, ha, hH⟩ := gs2.get i hg
      have ea : as[i] = a := by
        rw [List.getElem?_eq_getElem hi2] at ha
        exact Option.some.inj ha
      rw [ea]
      refine ⟨a, _, rfl, SqT.of (s3 _ _ hH), rfl, _, _, rfl, _, _, rfl, _, _, rfl, rfl, rfl, ?_⟩
      delta tYes
      dsimp only
      rw [if_pos rfl]
      refine ⟨_, rfl, _, rfl, _, rfl, _, rfl, _, rfl, by show 2 ≤ sizeLine; decide, fun q hq => ⟨q, ([z.gs[i].1, z.gs[i].2.1] : List Str).map V.str, rfl, .inr (SqT.of upd_same), rfl, flat_strs _, _, rfl, ?_⟩⟩
      rw [show (if false = true then !inV (V.str s) (([z.gs[i].1, z.gs[i].2.1] : List Str).map V.str) else inV (V.str s) (([z.gs[i].1, z.gs[i].2.1] : List Str).map V.str)) = ([z.gs[i].1, z.gs[i].2.1] : List Str).contains s from inV_str _ _]
      have kq := same_new hq (.tup [.str z.gs[i].1, .str z.gs[i].2.1])
      have fin : ∀ st : Str, st = (offG s z.gs[i]).2.2 → 3 ≤ sizeLine ∧ ∀ t, L2.upd H3 q (.tup [.str z.gs[i].1, .str z.gs[i].2.1]) t = none → ∃ acc, L2.upd (L2.upd H3 q (.tup [.str z.gs[i].1, .str z.gs[i].2.1])) t (.tup [.str z.gs[i].1, .str z.gs[i].2.1, .str st]) D2 = some (.lst acc) ∧ acc.length < sizeLine ∧
          (Same H2 (L2.upd (L2.upd (L2.upd H3 q (.tup [.str z.gs[i].1, .str z.gs[i].2.1])) t (.tup [.str z.gs[i].1, .str z.gs[i].2.1, .str st])) D2 (.lst (acc ++ [.ref t]))) ∧ ∃ bs : List Addr, bs.length = i + 1 ∧ L2.upd (L2.upd (L2.upd H3 q (.tup [.str z.gs[i].1, .str z.gs[i].2.1])) t (.tup [.str z.gs[i].1, .str z.gs[i].2.1, .str st])) D2 (.lst (acc ++ [.ref t])) D2 = some (.lst (bs.map V.ref)) ∧
            GsAt (L2.upd (L2.upd (L2.upd H3 q (.tup [.str z.gs[i].1, .str z.gs[i].2.1])) t (.tup [.str z.gs[i].1, .str z.gs[i].2.1, .str st])) D2 (.lst (acc ++ [.ref t]))) bs ((z.gs.take (i + 1)).map (offG s))) := fun st est => by
        refine ⟨by decide, fun t ht => ?_⟩
        have kt := same_new ht (.tup [.str z.gs[i].1, .str z.gs[i].2.1, .str st])
        have kk := Same.trans kq kt
        refine ⟨_, kk _ _ e3, by rw [List.length_map, hbl]; have := hL.small; exact small1000 (by omega), same_upd (Same.trans s3 kk) hD2, bs ++ [t], by rw [List.length_append, hbl]; rfl, by rw [upd_same, List.map_append]; rfl, ?_⟩
        refine GsAt.upd (kk _ _ e3) ?_
        rw [List.take_succ, hg, List.map_append]
        exact GsAt.snoc (g := offG s z.gs[i]) (by rw [upd_same, est]; rfl) (gb.same kk)
      by_cases c : ([z.gs[i].1, z.gs[i].2.1] : List Str).contains s = true
      · exact ifT c (fin "off" (by unfold offG; rw [if_pos c]))
      · exact ifF (Bool.eq_false_iff.mpr c) ⟨_, rfl, fin _ (by unfold offG; rw [if_neg c])⟩
    · rintro H3 ⟨s3, bs, hbl, e3, gb⟩
      rw [List.length_map, h6.len, List.take_length] at gb
      refine ⟨_, rfl, g, lg K, dx, _, rfl, s3 _ _ g2, T.cl, T.n_games, by show 5 < 1000; decide, ?_⟩
      rw [LF_games]
      have back : H D2 = none := by
        cases e : H D2 with
        | none => rfl
        | some o =>
          by_cases eg : D2 = g
          · rw [eg, g2] at hD2
            cases hD2
          · rw [b2 _ _ e eg] at hD2
            cases hD2
      have gD : D2 ≠ g := fun e => by rw [e, g2] at hD2; cases hD2
      have g3 := s3 _ _ g2
      have ne3 : ∀ {b : Addr} {o : HO}, H3 b = some o → (∀ C d f, o ≠ .ins C d f) → b ≠ g := fun {b o} hb no e => by
        rw [e, g3] at hb
        exact no _ _ _ (Option.some.inj hb).symm
      have up : ∀ {b : Addr} {o : HO}, H3 b = some o → (∀ C d f, o ≠ .ins C d f) → L2.upd H3 g (.ins (lg K) dx (LF (.ref ts) (.ref tc) (.ref tr) (.ref D2) (.ref tn))) b = some o := fun {b o} hb no => by
        rw [upd_ne (ne3 hb no)]
        exact hb
      have ol : ∀ {b : Addr} {o : HO}, H b = some o → (∀ C d f, o ≠ .ins C d f) → H3 b = some o := fun {b o} hb no => s3 _ _ (b2 _ _ hb (ne hb no))
      refine q2 pv s rfl _ D2 back ⟨⟨dx, ts, tc, tr, tn, bs, upd_same, up (ol h2 (fun _ _ _ z => nomatch z)) (fun _ _ _ z => nomatch z), up (ol h3 (fun _ _ _ z => nomatch z)) (fun _ _ _ z => nomatch z), up (s3 _ _ t2) (fun _ _ _ z => nomatch z), up e3 (fun _ _ _ z => nomatch z), ?_⟩, hL.names, fun n hn => (List.mem_filter.mp hn).1, by rw [List.length_map]; exact hL.small, hL.ok, hL.len8⟩ ((b2.trans (But.same s3)).trans But.refl.upd)
      have gen : ∀ {as : List Addr} {gs : List G3}, GsAt H3 as gs → GsAt (L2.upd H3 g (.ins (lg K) dx (LF (.ref ts) (.ref tc) (.ref tr) (.ref D2) (.ref tn)))) as gs := fun {as gs} => by
        induction as generalizing gs with
        | nil => cases gs with
          | nil => intro _; trivial
          | cons _ _ => intro h; exact h.elim
        | cons a r ih => cases gs with
          | nil => intro h; exact h.elim
          | cons x y => intro h; exact ⟨up h.1 (fun _ _ _ z => nomatch z), ih h.2⟩
      exact gen gb
theorem c_m_withdraw (T : TX K mg) : MetX P w K mg base 2 (lg K) "withdraw" (spWd K) := (b_m_withdraw T).1
theorem k_withdraw (T : TX K mg) : MetK P w K mg base 2 (lg K) "withdraw" "side" (spWd K) := (b_m_withdraw T).2
end
end My

namespace My
open PySem PySem.Spec PyProof.Rows L2 SX
/-! ### the law's comparing -/
def EqN (H : Hp) : Nat → V → V → Prop
  | 0, u, v => u = v ∧ atom v = true
  | n + 1, u, v => (u = v ∧ atom v = true) ∨ ∃ (a b : Addr) (xs ys : List V), u = .ref a ∧ v = .ref b ∧ ((H a = some (.tup xs) ∧ H b = some (.tup ys)) ∨ (H a = some (.lst xs) ∧ H b = some (.lst ys))) ∧ xs.length = ys.length ∧ xs.length ≤ 1000 ∧
      ∀ (i : Nat) (x y : V), xs[i]? = some x → ys[i]? = some y → EqN H n x y
theorem EqN.same {H H' : Hp} (k : Same H H') : ∀ {n : Nat} {u v : V}, EqN H n u v → EqN H' n u v
  | 0, _, _, h => h
  | n + 1, _, _, h => by
    rcases h with h | ⟨a, b, xs, ys, e1, e2, h, hl, h1, hx⟩
    · exact .inl h
    · exact .inr ⟨a, b, xs, ys, e1, e2, h.elim (fun z => .inl ⟨k _ _ z.1, k _ _ z.2⟩) (fun z => .inr ⟨k _ _ z.1, k _ _ z.2⟩), hl, h1, fun i x y p q => EqN.same k (hx i x y p q)⟩
theorem EqN.atom {H : Hp} {n : Nat} {v : V} (h : My.atom v = true) : EqN H n v v := by
  cases n with
  | zero => exact ⟨rfl, h⟩
  | succ n => exact .inl ⟨rfl, h⟩
theorem EqN.tup {H : Hp} {n : Nat} {a b : Addr} {xs ys : List V} (ha : H a = some (.tup xs)) (hb : H b = some (.tup ys)) (hl : xs.length = ys.length) (h1 : xs.length ≤ 1000) (hx : ∀ (i : Nat) (x y : V), xs[i]? = some x → ys[i]? = some y → EqN H n x y) : EqN H (n + 1) (.ref a) (.ref b) :=
  .inr ⟨a, b, xs, ys, rfl, rfl, .inl ⟨ha, hb⟩, hl, h1, hx⟩
def spSm : Nat → Sp
  | 0 => fun _ _ _ _ => False
  | n + 1 => fun vs H Q _ => ∃ u v, vs = [u, v] ∧ EqN H n u v ∧ ∀ H', Same H H' → Q (.bl true) H'
section
variable {P : Program} {w : World} {K : PySem.W.Frag} {mg : Str → Option Value} {base : Heap}
theorem sc__law_same : C8.scC ["actual", "due", "k"] ["actual", "due"] (defScope s__law_same) = true := by decide +kernel
theorem same_step {n : Nat} (T : TX K mg) (G : C8.Cal P w K mg base n "_law_same" (spSm n) []) : C8.Cal P w K mg base (n + 1) "_law_same" (spSm (n + 1)) [] := by
  refine cal T.h__law_same sc__law_same (fun _ _ _ _ _ _ us hl => match us, hl with | [_, _], _ => rfl) (fun vs H Q E h => ?_) (fun f cdv A outer s H vs Q E hr h => ?_)
  · obtain ⟨u, v, rfl, _⟩ := h
    rfl
  obtain ⟨u, v, rfl, hv, q⟩ := h
  refine ⟨_, (pss_cons (ps_if (PW.pt (pw_or (pt_val (pe_callB call_isi (by rfl) T.B.isinstance (by decide +kernel) (pa_cons (pv 1) (pa_cons (pe_bltn (v := .ty "tuple") (by rfl) T.B.tuple (by decide +kernel) rfl) pa_nil)))) (pw_or1 (pt_val (pe_callB call_isi (by rfl) T.B.isinstance (by decide +kernel) (pa_cons (pv 1) (pa_cons (pe_bltn (v := .ty "list") (by rfl) T.B.list (by decide +kernel) rfl) pa_nil))))))) (pss_cons (ps_if (PW.pt (pw_or (pt_cmpR op_ne (pe_callB call_isi (by rfl) T.B.isinstance (by decide +kernel) (pa_cons (pv 1) (pa_cons (pe_bltn (v := .ty "tuple") (by rfl) T.B.tuple (by decide +kernel) rfl) pa_nil))) (pe_callB call_isi (by rfl) T.B.isinstance (by decide +kernel) (pa_cons (pv 0) (pa_cons (pe_bltn (v := .ty "tuple") (by rfl) T.B.tuple (by decide +kernel) rfl) pa_nil))) (nomark _)) (pw_or1 (pt_cmpR op_ne (pe_callB call_isi (by rfl) T.B.isinstance (by decide +kernel) (pa_cons (pv 1) (pa_cons (pe_bltn (v := .ty "list") (by rfl) T.B.list (by decide +kernel) rfl) pa_nil))) (pe_callB call_isi (by rfl) T.B.isinstance (by decide +kernel) (pa_cons (pv 0) (pa_cons (pe_bltn (v := .ty "list") (by rfl) T.B.list (by decide +kernel) rfl) pa_nil))) (nomark _))))) (pss_one (ps_ret pe_bl)) pss_nil)
    (pss_one (ps_ret (pe_and (pe_cmpR op_eq (pe_callB call_len_seq (by rfl) T.B.len (by decide +kernel) (pa_cons (pv 0) pa_nil)) (pe_callB call_len_seq (by rfl) T.B.len (by decide +kernel) (pa_cons (pv 1) pa_nil)) (nomark _)) (pe_one (pe_callB (cr_all rfl) (by rfl) T.B.all (by decide +kernel) (pa_cons (pe_lc (own := [("k", 2)]) (g := (gName 2)) (tt := tYes) (by rfl) (C8.fnScope_by sc__law_same).nd (pi_range1 (by rfl) T.B.range (pa_cons (pe_callB call_len_seq (by rfl) T.B.len (by decide +kernel) (pa_cons (pv 1) pa_nil)) pa_nil)) (blkOk_by (own := [("k", 2)]) (N := ["actual", "due", "k"]) (sc := defScope s__law_same) (by decide +kernel)) (fun _ _ _ _ _ => pg_name (i := 2) (C8.fnScope_by sc__law_same).nd rfl (Or.inl rfl)) (fun _ _ _ _ _ => pts_nil) (fun _ _ _ _ _ => (C8.pe_c G hr (Nat.le_refl _) (by rfl) (pa_cons (pe_ix (ix_seqK (K := K) rfl) (pv 0) (pv 2) (fun _ _ => rfl)) (pa_cons (pe_ix (ix_seqK (K := K) rfl) (pv 1) (pv 2) (fun _ _ => rfl)) pa_nil))))) pa_nil))))))) pss_nil)
    (pss_cons (ps_if (pt_cmpR op_isN (pv 1) pe_non (nomark _)) (pss_one (ps_ret (pe_cmpR op_isN (pv 0) pe_non (nomark _)))) pss_nil)
    (pss_cons (ps_if (pt_val (pe_callB call_isi (by rfl) T.B.isinstance (by decide +kernel) (pa_cons (pv 1) (pa_cons (pe_bltn (v := .ty "str") (by rfl) T.B.str (by decide +kernel) rfl) pa_nil)))) (pss_one (ps_ret (pe_and (pe_callB call_isi (by rfl) T.B.isinstance (by decide +kernel) (pa_cons (pv 0) (pa_cons (pe_bltn (v := .ty "str") (by rfl) T.B.str (by decide +kernel) rfl) pa_nil))) (pe_one (pe_cmpR op_eq (pv 0) (pv 1) (nomark _)))))) pss_nil)
    (pss_cons (ps_if (pt_val (pe_callB call_isi (by rfl) T.B.isinstance (by decide +kernel) (pa_cons (pv 1) (pa_cons (pe_bltn (v := .ty "bool") (by rfl) T.B.bool (by decide +kernel) rfl) pa_nil)))) (pss_one (ps_ret (pe_and (pe_callB call_isi (by rfl) T.B.isinstance (by decide +kernel) (pa_cons (pv 0) (pa_cons (pe_bltn (v := .ty "bool") (by rfl) T.B.bool (by decide +kernel) rfl) pa_nil))) (pe_one (pe_cmpR op_eq (pv 0) (pv 1) (nomark _)))))) pss_nil)
    (pss_one (ps_ret (pe_and (pe_callB call_isi (by rfl) T.B.isinstance (by decide +kernel) (pa_cons (pv 0) (pa_cons (pe_bltn (v := .ty "int") (by rfl) T.B.int (by decide +kernel) rfl) pa_nil))) (pe_and (pe_not (pe_callB call_isi (by rfl) T.B.isinstance (by decide +kernel) (pa_cons (pv 0) (pa_cons (pe_bltn (v := .ty "bool") (by rfl) T.B.bool (by decide +kernel) rfl) pa_nil)))) (pe_one (pe_cmpR op_eq (pv 0) (pv 1) (nomark _))))))))))), ?_⟩
  have done : Q (.bl true) H := q H (Same.refl H)
  have cs : (u = v ∧ My.atom v = true) ∨ ∃ (m : Nat) (a b : Addr) (xs ys : List V), n = m + 1 ∧ u = .ref a ∧ v = .ref b ∧ ((H a = some (.tup xs) ∧ H b = some (.tup ys)) ∨ (H a = some (.lst xs) ∧ H b = some (.lst ys))) ∧ xs.length = ys.length ∧ xs.length ≤ 1000 ∧ ∀ (i : Nat) (x y : V), xs[i]? = some x → ys[i]? = some y → EqN H m x y := by
    cases n with
    | zero => exact .inl hv
    | succ m =>
      rcases hv with h | ⟨a, b, xs, ys, h1, h2, h3, h4, h5, h6⟩
      · exact .inl h
      · exact .inr ⟨m, a, b, xs, ys, rfl, h1, h2, h3, h4, h5, h6⟩
  rcases cs with ⟨rfl, ha⟩ | ⟨m, a, b, xs, ys, rfl, rfl, rfl, hb, hl, h1000, hx⟩
  · cases u with
    | non =>
      refine isiR (b := false) rfl (.base .non) (kit_ty (by decide +kernel)) ⟨false, rfl, iteF (isiR (b := false) rfl (.base .non) (kit_ty (by decide +kernel)) ⟨false, rfl, iteF ?_⟩)⟩
      refine ⟨_, rfl, rfl, _, rfl, ifT (decide_eq_true rfl) ⟨_, rfl, rfl, ?_⟩⟩
      show Q (.bl (decide (V.non = V.non))) H
      rw [decide_eq_true (rfl : V.non = V.non)]
      exact done
    | bl b =>
      refine isiR (b := false) rfl (.base (.bl _)) (kit_ty (by decide +kernel)) ⟨false, rfl, iteF (isiR (b := false) rfl (.base (.bl _)) (kit_ty (by decide +kernel)) ⟨false, rfl, iteF ?_⟩)⟩
      refine ⟨_, rfl, rfl, _, rfl, ifF (decide_eq_false fun z => nomatch z) ?_⟩
      refine isiR (b := false) rfl (.base (.bl _)) (kit_ty (by decide +kernel)) ⟨false, rfl, iteF ?_⟩
      refine isiR (b := true) rfl (.base (.bl _)) (kit_ty (by decide +kernel)) ⟨true, rfl, iteT ?_⟩
      refine isiR (b := true) rfl (.base (.bl _)) (kit_ty (by decide +kernel)) ⟨true, rfl, iteT ⟨_, rfl, _, rfl, rfl, ?_⟩⟩
      show Q (.bl (decide (V.bl b = V.bl b))) H
      rw [decide_eq_true (rfl : V.bl b = V.bl b)]
      exact done
    | int i =>
      refine isiR (b := false) rfl (.base (.int _)) (kit_ty (by decide +kernel)) ⟨false, rfl, iteF (isiR (b := false) rfl (.base (.int _)) (kit_ty (by decide +kernel)) ⟨false, rfl, iteF ?_⟩)⟩
      refine ⟨_, rfl, rfl, _, rfl, ifF (decide_eq_false fun z => nomatch z) ?_⟩
      refine isiR (b := false) rfl (.base (.int _)) (kit_ty (by decide +kernel)) ⟨false, rfl, iteF ?_⟩
      refine isiR (b := false) rfl (.base (.int _)) (kit_ty (by decide +kernel)) ⟨false, rfl, iteF ?_⟩
      refine isiR (b := true) rfl (.base (.int _)) (kit_ty (by decide +kernel)) ⟨true, rfl, iteT (isiR (b := false) rfl (.base (.int _)) (kit_ty (by decide +kernel)) ⟨false, rfl, true, rfl, iteT ⟨_, rfl, _, rfl, rfl, ?_⟩⟩)⟩
      show Q (.bl (decide (V.int i = V.int i))) H
      rw [decide_eq_true (rfl : V.int i = V.int i)]
      exact done
    | str x =>
      refine isiR (b := false) rfl (.base (.str _)) (kit_ty (by decide +kernel)) ⟨false, rfl, iteF (isiR (b := false) rfl (.base (.str _)) (kit_ty (by decide +kernel)) ⟨false, rfl, iteF ?_⟩)⟩
      refine ⟨_, rfl, rfl, _, rfl, ifF (decide_eq_false fun z => nomatch z) ?_⟩
      refine isiR (b := true) rfl (.base (.str _)) (kit_ty (by decide +kernel)) ⟨true, rfl, iteT ?_⟩
      refine isiR (b := true) rfl (.base (.str _)) (kit_ty (by decide +kernel)) ⟨true, rfl, iteT ⟨_, rfl, _, rfl, rfl, ?_⟩⟩
      show Q (.bl (decide (V.str x = V.str x))) H
      rw [decide_eq_true (rfl : V.str x = V.str x)]
      exact done
    | _ => cases ha
  · have nb : ∀ b : Bool, V.bl (!decide (V.bl b = V.bl b)) = V.bl false := fun b => by rw [decide_eq_true (rfl : V.bl b = V.bl b)]; rfl
    have hqa : SqL K H a xs ∨ SqT K H a xs := hb.elim (fun z => .inr (SqT.of z.1)) (fun z => .inl (SqL.of z.1))
    have hqb : SqL K H b ys ∨ SqT K H b ys := hb.elim (fun z => .inr (SqT.of z.2)) (fun z => .inl (SqL.of z.2))
    have ixa : ∀ H', Same H H' → ∀ (i : Nat) (hi : i < xs.length) (Q' : VK), Q' xs[i] H' → rIx K (.ref a) (.int (0 + (i : Int))) H' Q' := fun H' sm i hi Q' q' => by
      have at_ : atI xs (0 + (i : Int)) = some xs[i] := at_of (j := i) (by omega) (List.getElem?_eq_getElem hi)
      rcases hb with hb | hb
      · exact .inr (.inl ⟨a, xs, _, _, rfl, rfl, SqT.of (sm _ _ hb.1), at_, q'⟩)
      · exact .inl ⟨a, xs, _, _, rfl, rfl, SqL.of (sm _ _ hb.1), at_, q'⟩
    have ixb : ∀ H', Same H H' → ∀ (i : Nat) (hi : i < ys.length) (Q' : VK), Q' ys[i] H' → rIx K (.ref b) (.int (0 + (i : Int))) H' Q' := fun H' sm i hi Q' q' => by
      have at_ : atI ys (0 + (i : Int)) = some ys[i] := at_of (j := i) (by omega) (List.getElem?_eq_getElem hi)
      rcases hb with hb | hb
      · exact .inr (.inl ⟨b, ys, _, _, rfl, rfl, SqT.of (sm _ _ hb.2), at_, q'⟩)
      · exact .inl ⟨b, ys, _, _, rfl, rfl, SqL.of (sm _ _ hb.2), at_, q'⟩
    have el : decide (V.int (xs.length : Nat) = V.int (ys.length : Nat)) = true := decide_eq_true (by rw [hl])
    rcases hb with hb | hb
    · refine isiR (b := true) rfl (.base (.tup hb.2)) (kit_ty (by decide +kernel)) ⟨true, rfl, iteT (iteT ?_)⟩
      refine isiR (b := true) rfl (.base (.tup hb.2)) (kit_ty (by decide +kernel)) (isiR (b := true) rfl (.base (.tup hb.1)) (kit_ty (by decide +kernel)) ⟨rfl, false, nb _, iteF ?_⟩)
      refine isiR (b := false) rfl (.base (.tup hb.2)) (kit_ty (by decide +kernel)) (isiR (b := false) rfl (.base (.tup hb.1)) (kit_ty (by decide +kernel)) ⟨rfl, false, nb _, iteF ?_⟩)
      refine ⟨_, rfl, a, xs, rfl, hqa, _, rfl, b, ys, rfl, hqb, rfl, _, rfl, ifT el ?_⟩
      refine ⟨_, rfl, b, ys, rfl, hqb, (ys.length : Int), rfl, by omega, by omega, fun D hD => lc_range (lo := 0) (n := ys.length) (fun i H' => Same H H' ∧ H' D = some (.lst (List.replicate i (V.bl true)))) ⟨same_new hD _, upd_same⟩ (fun i H' hi ⟨s1, e1⟩ => ?_) (fun H' ⟨s1, e1⟩ => ?_)⟩
      · refine ⟨rfl, ?_⟩
        delta tYes
        dsimp only
        rw [if_pos rfl]
        have hi2 : i < xs.length := by omega
        refine ⟨_, rfl, _, rfl, ixa H' s1 i hi2 _ ⟨_, rfl, _, rfl, ixb H' s1 i hi _ ⟨xs[i], ys[i], rfl, (hx i _ _ (List.getElem?_eq_getElem hi2) (List.getElem?_eq_getElem hi)).same s1, fun H2 s2 => ?_⟩⟩⟩
        have e2 := s2 _ _ e1
        refine ⟨_, e2, by rw [List.length_replicate]; exact small1000 (by omega), same_upd (Same.trans s1 s2) hD, ?_⟩
        rw [upd_same, List.replicate_succ']
      · refine ⟨D, List.replicate ys.length true, rfl, SqL.of (by rw [e1, List.map_replicate]), ?_⟩
        show Q (.bl ((List.replicate ys.length true).all id)) H'
        rw [all_true]
        exact q H' s1
    · refine isiR (b := false) rfl (.base (.lst hb.2)) (kit_ty (by decide +kernel)) ⟨false, rfl, iteF (isiR (b := true) rfl (.base (.lst hb.2)) (kit_ty (by decide +kernel)) ⟨true, rfl, iteT ?_⟩)⟩
      refine isiR (b := false) rfl (.base (.lst hb.2)) (kit_ty (by decide +kernel)) (isiR (b := false) rfl (.base (.lst hb.1)) (kit_ty (by decide +kernel)) ⟨rfl, false, nb _, iteF ?_⟩)
      refine isiR (b := true) rfl (.base (.lst hb.2)) (kit_ty (by decide +kernel)) (isiR (b := true) rfl (.base (.lst hb.1)) (kit_ty (by decide +kernel)) ⟨rfl, false, nb _, iteF ?_⟩)
      refine ⟨_, rfl, a, xs, rfl, hqa, _, rfl, b, ys, rfl, hqb, rfl, _, rfl, ifT el ?_⟩
      refine ⟨_, rfl, b, ys, rfl, hqb, (ys.length : Int), rfl, by omega, by omega, fun D hD => lc_range (lo := 0) (n := ys.length) (fun i H' => Same H H' ∧ H' D = some (.lst (List.replicate i (V.bl true)))) ⟨same_new hD _, upd_same⟩ (fun i H' hi ⟨s1, e1⟩ => ?_) (fun H' ⟨s1, e1⟩ => ?_)⟩
      · refine ⟨rfl, ?_⟩
        delta tYes
        dsimp only
        rw [if_pos rfl]
        have hi2 : i < xs.length := by omega
        refine ⟨_, rfl, _, rfl, ixa H' s1 i hi2 _ ⟨_, rfl, _, rfl, ixb H' s1 i hi _ ⟨xs[i], ys[i], rfl, (hx i _ _ (List.getElem?_eq_getElem hi2) (List.getElem?_eq_getElem hi)).same s1, fun H2 s2 => ?_⟩⟩⟩
        have e2 := s2 _ _ e1
        refine ⟨_, e2, by rw [List.length_replicate]; exact small1000 (by omega), same_upd (Same.trans s1 s2) hD, ?_⟩
        rw [upd_same, List.replicate_succ']
      · refine ⟨D, List.replicate ys.length true, rfl, SqL.of (by rw [e1, List.map_replicate]), ?_⟩
        show Q (.bl ((List.replicate ys.length true).all id)) H'
        rw [all_true]
        exact q H' s1
theorem c_same (T : TX K mg) : ∀ n, C8.Cal P w K mg base n "_law_same" (spSm n) []
  | 0 => by
    obtain ⟨f, fd, F, g⟩ := T.h__law_same.ex
    exact ⟨f, fd, ["actual", "due"], [], ⟨fun _ _ _ _ h => h.elim, fun _ _ _ _ _ _ _ _ _ _ _ _ _ h => h.elim⟩, g, F.kp, F.bindsN fun _ _ _ _ _ _ us hl => match us, hl with | [_, _], _ => rfl, .nil⟩
  | n + 1 => same_step T (c_same T n)
end
end My

namespace My
open PySem PySem.Spec PyProof.Rows L2 SX
section
variable {X : Cx} {k j : Nat} {C : Addr} {m kw : Str} {sp : Sp} {E : XK} {apos pos kpos : Pos} {e o : Expr} {ta te : TE}
theorem pe_mtK {pl : Sem Bool} (c : MetK X.prog X.w X.K X.mg X.base k C m kw sp) (hr : Room j X.A) (hk : k ≤ j) (hx : Passes (L2N.CX X.prog X.w) X E) (he : PE X o ta) (hv : PE X e te)
    (ht : eval (.Call (.Attribute o m apos) [] [⟨some kw, e, kpos⟩] pos) X.env = (do
      let ov ← eval o X.env
      standAt apos.atName
      let (f, first) ← holding [ov] (getMethod ov m pl)
      callWith pos f first (backTo pos (starEach [] X.env)) (backToKw pos (keywordEach [⟨some kw, e, kpos⟩] X.env))) := by rfl) :
    PE X (.Call (.Attribute o m apos) [] [⟨some kw, e, kpos⟩] pos) (tMeth C m sp [] E ta (tCons te tNil)) := by
  obtain ⟨f, fd, p1, p2, hc, hm, F, b⟩ := c.ex
  refine ⟨fun pins s σ H Q I h => ?_⟩
  refine PySem.W.methodCall_KW (pl := pl) (thn (he.run pins s σ H _ I h) fun u s1 ⟨x, H1, I1, rx, a, dx, fs, ex, ea, l, q⟩ => ?_) ht
  subst ex
  obtain rfl : u = Value.ref a := rx
  refine getmeth_ok I1 ea hc hm l ?_
  refine PySem.W.callWith_KW0 (first := [.ref a]) (h₀ := X.base) I.ok.mod.kin hm.kp rfl (thn ((pk_cons (nm := some kw) (kpos := kpos) hv pk_nil).run pos pins s1 σ H1 _ I1 q) fun ws s2 ⟨zs, H2, I2, rz, q2⟩ => ⟨I2.kIn, ?_⟩)
  have hl := F.len _ _ _ _ q2
  obtain ⟨v, rfl⟩ : ∃ v, zs = [v] := by
    rw [List.append_nil] at hl
    match zs, hl with
    | [v], _ => exact ⟨v, rfl⟩
  obtain ⟨u, rfl, r1⟩ := rz.one
  show wpAny _ _ (call (.ref f) [.ref a] [(kw, u)]) _ _ _
  refine wpAny_call (codeAny_mono (F.run X.A X.stack s2 H2 ⟨[.ref a], [(kw, u)]⟩ [.ref a, u] [.ref a, v] Q E (hr.mono hk) I2.env0 (b s2 (.ref a) u) (.cons rfl (.cons r1 .nil)) q2) fun r s' hq => ?_)
  cases r with
  | error e => exact hx pins σ H2 s2 e s' I2 hq
  | ok fl =>
    cases fl with
    | ret u => exact I2.after hq
    | next => exact False.elim hq
    | brk => exact False.elim hq
    | cont => exact False.elim hq
end
theorem lf_m {m : Str} {a b c d e : V} (h : (["_sides", "_scheme", "_rules", "_games", "_gone"] : List Str).contains m = false) : (LF a b c d e).lookup m = none := by
  have n : ∀ x ∈ (["_sides", "_scheme", "_rules", "_games", "_gone"] : List Str), m ≠ x := fun x hx e => by
    rw [e, List.contains_iff_mem.mpr hx] at h
    cases h
  exact lf_no (n _ (by simp)) (n _ (by simp)) (n _ (by simp)) (n _ (by simp)) (n _ (by simp))
/-- what the law's calls do -/
def spCalled (K : PySem.W.Frag) : Sp := fun vs H Q E => ∃ (g l : Addr) (z : Lgv) (deed : Str) (u v : V), vs = [.ref g, .str deed, u, v] ∧ LgAt K H g l z ∧ Odd K H u ∧ (∀ H', Same H H' → Odd K H' v) ∧
  (deed = "enter" ∨ deed = "call_off" ∨ deed = "reopen" ∨ deed = "withdraw") ∧
  (deed ≠ "withdraw" → okGame z u = false → ∀ d, H d = none → E (.ref (He.ga K "BadGame")) (some d) (upd H d (.xd [("number", u)]))) ∧
  (deed = "enter" → okGame z u = true → strIn v (outs z.d) = false → ∀ H1 d, Same H H1 → H1 d = none → E (.ref (He.ga K "BadValue")) (some d) (upd H1 d (.xd [("at", .int 1)]))) ∧
  (deed = "enter" → okGame z u = true → ∀ (i : Nat) s, u = .int i → v = .str s → s ∈ outs z.d → ∀ H', LgAt K H' g l { z with gs := setSt z.gs i s } → But l H H' → Q .non H') ∧
  (deed = "call_off" → okGame z u = true → ∀ (i : Nat), u = .int i → ∀ H', LgAt K H' g l { z with gs := setSt z.gs i "off" } → But l H H' → Q .non H') ∧
  (deed = "reopen" → okGame z u = true → ∀ (i : Nat), u = .int i → ∀ H', LgAt K H' g l { z with gs := setSt z.gs i "left" } → But l H H' → Q .non H') ∧
  (deed = "withdraw" → playing z u = false → ∀ d, H d = none → E (.ref (He.ga K "BadSide")) (some d) (upd H d (.xd [("name", u)]))) ∧
  (deed = "withdraw" → playing z u = true → ∀ s, u = .str s → ∀ H' l', H l' = none → LgAt K H' g l' { z with gs := z.gs.map (offG s), gone := goneW z s } → But g H H' → Q .non H')
section
variable {P : Program} {w : World} {K : PySem.W.Frag} {mg : Str → Option Value} {base : Heap}
theorem sc__law_called : C8.scC ["league", "deed", "one", "two"] ["league", "deed", "one", "two"] (defScope s__law_called) = true := by decide +kernel
theorem c__law_called (T : TX K mg) : CalX P w K mg base 4 "_law_called" (spCalled K) := by
  refine calX T.h__law_called sc__law_called (fun _ _ _ _ _ _ us hl => match us, hl with | [_, _, _, _], _ => rfl) (fun vs H Q E h => ?_) (fun f cdv A outer s H vs Q E hr h => ?_)
  · obtain ⟨g, l, z, deed, u, v, rfl, _⟩ := h
    rfl
  obtain ⟨g, l, z, deed, u, v, rfl, hL, hu, hv, hd, q1, q2, q3, q4, q5, q6, q7⟩ := h
  refine ⟨_, (pss_cons (ps_if (pt_cmpR op_eq (pv 1) pe_str (nomark _)) (pss_one (ps_ret (pe_mtX (c_m_enter T) hr (by decide) (L2N.passes_call (L2N.takes_of rfl rfl rfl rfl) (fun _ _ _ _ h => h)) (pv 0) (pa_cons (pv 2) (pa_cons (pv 3) pa_nil))))) pss_nil)
    (pss_cons (ps_if (pt_cmpR op_eq (pv 1) pe_str (nomark _)) (pss_one (ps_ret (pe_mtX (c_m_call_off T) hr (by decide) (L2N.passes_call (L2N.takes_of rfl rfl rfl rfl) (fun _ _ _ _ h => h)) (pv 0) (pa_cons (pv 2) pa_nil)))) pss_nil)
    (pss_cons (ps_if (pt_cmpR op_eq (pv 1) pe_str (nomark _)) (pss_one (ps_ret (pe_mtK (k_reopen T) hr (by decide) (L2N.passes_call (L2N.takes_of rfl rfl rfl rfl) (fun _ _ _ _ h => h)) (pv 0) (pv 2)))) pss_nil)
    (pss_one (ps_ret (pe_mtK (k_withdraw T) hr (by decide) (L2N.passes_call (L2N.takes_of rfl rfl rfl rfl) (fun _ _ _ _ h => h)) (pv 0) (pv 2))))))), ?_⟩
  obtain ⟨dx, ts, tc, tr, tg, as, h1, h2, h3, h4, h5, h6⟩ := hL.ex
  have ne : ∀ {x y : Str}, x ≠ y → decide (V.str x = V.str y) = false := fun h => decide_eq_false fun e => h (V.str.inj e)
  rcases hd with rfl | rfl | rfl | rfl
  · exact ⟨_, rfl, rfl, _, rfl, ifT (decide_eq_true rfl) ⟨_, rfl, g, dx, _, rfl, h1, lf_m (by decide +kernel), _, rfl, _, rfl, g, l, z, u, v, rfl, hL, hu, hv, q1 (by decide +kernel), q2 rfl, q3 rfl⟩⟩
  · exact ⟨_, rfl, rfl, _, rfl, ifF (ne (by decide +kernel)) ⟨_, rfl, rfl, _, rfl, ifT (decide_eq_true rfl) ⟨_, rfl, g, dx, _, rfl, h1, lf_m (by decide +kernel), _, rfl, g, l, z, u, rfl, hL, hu, q1 (by decide +kernel), q4 rfl⟩⟩⟩
  · exact ⟨_, rfl, rfl, _, rfl, ifF (ne (by decide +kernel)) ⟨_, rfl, rfl, _, rfl, ifF (ne (by decide +kernel)) ⟨_, rfl, rfl, _, rfl, ifT (decide_eq_true rfl) ⟨_, rfl, g, dx, _, rfl, h1, lf_m (by decide +kernel), _, rfl, g, l, z, u, rfl, hL, hu, q1 (by decide +kernel), q5 rfl⟩⟩⟩⟩
  · exact ⟨_, rfl, rfl, _, rfl, ifF (ne (by decide +kernel)) ⟨_, rfl, rfl, _, rfl, ifF (ne (by decide +kernel)) ⟨_, rfl, rfl, _, rfl, ifF (ne (by decide +kernel)) ⟨_, rfl, g, dx, _, rfl, h1, lf_m (by decide +kernel), _, rfl, g, l, z, u, rfl, hL, hu, q6 rfl, q7 rfl⟩⟩⟩⟩
end
end My

namespace My
open PySem PySem.Spec PyProof.Rows L2 SX
section
variable {X : Cx} {k j : Nat} {x : Str} {sp : Sp} {W : WX} {p pos : Pos} {e : Expr} {es : List Expr} {t : TA}
theorem pe_cX (c : CalX X.prog X.w X.K X.mg X.base k x sp) (hr : Room j X.A) (hk : k ≤ j) (hg : Gl X x) (tk : L2N.Takes X W) (ha : PA X (e :: es) t)
    (hdb : (x == ("__debug__" : Str)) = false := by decide) (he : starEach (e :: es) X.env = (false, eval e X.env) :: starEach es X.env := by rfl) (hpl : (backTo pos (starEach es X.env)).any (·.1) = false := by rfl) :
    PE X (.Call (.Name x p) (e :: es) [] pos) (tCallS sp (WE W) t) := by
  obtain ⟨f, fd, ps, F, hm, kp, b⟩ := c.ex
  exact pe_callS F (hr.mono hk) hg hm kp b (fun σ => L2N.passAt tk σ) ha hdb he hpl
end
theorem takesF {X : Cx} : L2N.Takes X (fun _ _ _ _ => False) := fun u s' ⟨_, _, _, _, _, _, _, _, _, _, _, _, _, _, _, _, w⟩ => w.elim
/-- what is due, by the league -/
def dueOf (z : Lgv) (deed : Str) (u v : V) : Str × V :=
  if deed = "withdraw" then (if playing z u = true then ("done", .int 0) else ("side", u))
  else if okGame z u = true then (if deed = "enter" ∧ strIn v (outs z.d) = false then ("value", .int 1) else ("done", .int 0)) else ("game", u)
def natOf : V → Nat
  | .int i => i.toNat
  | _ => 0
def strOf : V → Str
  | .str s => s
  | _ => Str.empty
/-- the league behind a deed -/
def nextZ (z : Lgv) (deed : Str) (u v : V) : Lgv :=
  if deed = "withdraw" then { z with gs := z.gs.map (offG (strOf u)), gone := goneW z (strOf u) }
  else { z with gs := setSt z.gs (natOf u) (if deed = "enter" then strOf v else if deed = "call_off" then "off" else "left") }
def But2 (g l : Addr) (H H' : Hp) : Prop := ∀ b o, H b = some o → b ≠ g → b ≠ l → H' b = some o
def spOutcome (K : PySem.W.Frag) : Sp := fun vs H Q _ => ∃ (g l : Addr) (z : Lgv) (deed : Str) (u v : V), vs = [.ref g, .str deed, u, v] ∧ LgAt K H g l z ∧ Odd K H u ∧ (∀ H', Same H H' → Odd K H' v) ∧
  (deed = "enter" ∨ deed = "call_off" ∨ deed = "reopen" ∨ deed = "withdraw") ∧
  ∀ (H' : Hp) (t l' : Addr), H' t = some (.tup [.str (dueOf z deed u v).1, (dueOf z deed u v).2]) → ((dueOf z deed u v).1 ≠ "done" → Same H H') →
    ((dueOf z deed u v).1 = "done" → LgAt K H' g l' (nextZ z deed u v) ∧ But2 g l H H' ∧ (l' = l ∨ H l' = none)) → Q (.ref t) H'
section
variable {P : Program} {w : World} {K : PySem.W.Frag} {mg : Str → Option Value} {base : Heap}
theorem sc__law_outcome : C8.scC ["league", "deed", "one", "two", "e"] ["league", "deed", "one", "two"] (defScope s__law_outcome) = true := by decide +kernel
theorem c__law_outcome (T : TX K mg) : C8.Cal P w K mg base 5 "_law_outcome" (spOutcome K) [] := by
  refine cal T.h__law_outcome sc__law_outcome (fun _ _ _ _ _ _ us hl => match us, hl with | [_, _, _, _], _ => rfl) (fun vs H Q E h => ?_) (fun f cdv A outer s H vs Q E hr h => ?_)
  · obtain ⟨g, l, z, deed, u, v, rfl, _⟩ := h
    rfl
  obtain ⟨g, l, z, deed, u, v, rfl, hL, hu, hv, hd, q⟩ := h
  refine ⟨_, (pss_cons (ps_try_hds rfl rfl takesF (fun W pn xe tk _ => (pss_one (ps_if (pt_cmpR op_notN (pe_cX (c__law_called T) hr (by decide) (by rfl) tk (pa_cons (pv 0) (pa_cons (pv 1) (pa_cons (pv 2) (pa_cons (pv 3) pa_nil))))) pe_non (nomark _)) (pss_one (ps_ret (pe_tup (pa_cons pe_str (pa_cons pe_int pa_nil))))) pss_nil)))
   (Hds.named (i := 4) (C8.fnScope_by sc__law_outcome).nd rfl rfl ⟨rfl, by decide, .inl T.g_BadGame⟩ (fun a oe cls d pn hz hf => (pss_one (ps_ret (pe_tup (pa_cons pe_str (pa_cons (pe_byErr T.e_BadGame hz.zc hf (pv 4)) pa_nil))))))
    (Hds.named (i := 4) (C8.fnScope_by sc__law_outcome).nd rfl rfl ⟨rfl, by decide, .inl T.g_BadValue⟩ (fun a oe cls d pn hz hf => (pss_one (ps_ret (pe_tup (pa_cons pe_str (pa_cons (pe_byErr T.e_BadValue hz.zc hf (pv 4)) pa_nil))))))
    (Hds.named (i := 4) (C8.fnScope_by sc__law_outcome).nd rfl rfl ⟨rfl, by decide, .inl T.g_BadSide⟩ (fun a oe cls d pn hz hf => (pss_one (ps_ret (pe_tup (pa_cons pe_str (pa_cons (pe_byErr T.e_BadSide hz.zc hf (pv 4)) pa_nil))))))
    (Hds.plain ⟨rfl, by decide, .inl T.g_LeagueError⟩ (fun a oe cls d pn hz hf => (pss_one (ps_ret (pe_tup (pa_cons pe_str (pa_cons pe_int pa_nil))))))
    Hds.nil)))))
    (pss_one (ps_ret (pe_tup (pa_cons pe_str (pa_cons pe_int pa_nil)))))), ?_⟩
  have nw : ∀ {x y : Str}, x ≠ y → ∀ {P : Prop}, x = y → P := fun h _ e => absurd e h
  have fin : ∀ (w : Str) (x : V), dueOf z deed u v = (w, x) → w ≠ "done" → ∀ H' t, Same H H' → H' t = some (.tup [.str w, x]) → Q (.ref t) H' := fun w x e hn H' t s ht => by
    refine q H' t l ?_ ?_ ?_
    · rw [e]; exact ht
    · intro _; exact s
    · intro z; rw [e] at z; exact absurd z hn
  have fin2 : dueOf z deed u v = (("done", V.int 0) : Str × V) → ∀ H' l', LgAt K H' g l' (nextZ z deed u v) → But2 g l H H' → (l' = l ∨ H l' = none) → ∀ t, H' t = none → Q (.ref t) (upd H' t (.tup [.str "done", .int 0])) := fun e H' l' hL' b hl t ht => by
    refine q _ t l' ?_ ?_ ?_
    · rw [e]; exact upd_same
    · intro z; rw [e] at z; exact absurd rfl z
    · intro _
      exact ⟨hL'.same (same_new ht _), fun c o hc n1 n2 => by rw [upd_ne (ne_of_none (b c o hc n1 n2) ht)]; exact b c o hc n1 n2, hl⟩
  refine ⟨_, rfl, _, rfl, _, rfl, _, rfl, g, l, z, deed, u, v, rfl, hL, hu, hv, hd, ?_, ?_, ?_, ?_, ?_, ?_, ?_⟩
  · -- no game
    intro hw ho d hd
    refine ⟨_, T.x_BadGame_BadGame, fun _ a ha => ?_, fun c => nomatch c⟩
    have s1 := same_new hd (.xd [("number", u)])
    refine ⟨_, rfl, rfl, rfl, d, u, rfl, upd_same, by show 2 ≤ sizeLine; decide, fun t ht => ?_⟩
    refine fin "game" u ?_ (by decide +kernel) _ t (Same.trans s1 (same_new ht _)) upd_same
    unfold dueOf
    rw [if_neg hw, if_neg (by rw [ho]; exact Bool.false_ne_true)]
  · intro hw ho hs H1 d s0 hd
    refine ⟨_, T.x_BadValue_BadGame, fun c => (nomatch c), fun _ => ⟨_, T.x_BadValue_BadValue, fun _ a ha => ?_, fun c => nomatch c⟩⟩
    have s1 := same_new hd (.xd [("at", .int 1)])
    refine ⟨_, rfl, rfl, rfl, d, _, rfl, upd_same, by show 2 ≤ sizeLine; decide, fun t ht => ?_⟩
    refine fin "value" (.int 1) ?_ (by decide +kernel) _ t (Same.trans s0 (Same.trans s1 (same_new ht _))) upd_same
    unfold dueOf
    rw [if_neg (by rw [hw]; decide +kernel), if_pos ho, if_pos ⟨hw, hs⟩]
  · intro hw ho i s hu' hv' hs H' hL' b
    subst hu' hv'
    refine ⟨rfl, _, rfl, ifF (by rw [decide_eq_true rfl]; rfl) ⟨by show 2 ≤ sizeLine; decide, fun t ht => fin2 ?_ H' l ?_ (fun c o hc _ n2 => b c o hc n2) (.inl rfl) t ht⟩⟩
    · unfold dueOf
      rw [if_neg (by rw [hw]; decide +kernel), if_pos ho, if_neg]
      intro e
      have e2 : (outs z.d).contains s = false := e.2
      rw [List.contains_iff_mem.mpr hs] at e2
      cases e2
    · unfold nextZ
      rw [if_neg (by rw [hw]; decide +kernel), if_pos hw]
      exact hL'
  · intro hw ho i hu' H' hL' b
    subst hu'
    refine ⟨rfl, _, rfl, ifF (by rw [decide_eq_true rfl]; rfl) ⟨by show 2 ≤ sizeLine; decide, fun t ht => fin2 ?_ H' l ?_ (fun c o hc _ n2 => b c o hc n2) (.inl rfl) t ht⟩⟩
    · unfold dueOf
      rw [if_neg (by rw [hw]; decide +kernel), if_pos ho, if_neg (fun e => absurd e.1 (by rw [hw]; decide +kernel))]
    · unfold nextZ
      rw [if_neg (by rw [hw]; decide +kernel), if_neg (by rw [hw]; decide +kernel), if_pos hw]
      exact hL'
  · intro hw ho i hu' H' hL' b
    subst hu'
    refine ⟨rfl, _, rfl, ifF (by rw [decide_eq_true rfl]; rfl) ⟨by show 2 ≤ sizeLine; decide, fun t ht => fin2 ?_ H' l ?_ (fun c o hc _ n2 => b c o hc n2) (.inl rfl) t ht⟩⟩
    · unfold dueOf
      rw [if_neg (by rw [hw]; decide +kernel), if_pos ho, if_neg (fun e => absurd e.1 (by rw [hw]; decide +kernel))]
    · unfold nextZ
      rw [if_neg (by rw [hw]; decide +kernel), if_neg (by rw [hw]; decide +kernel), if_neg (by rw [hw]; decide +kernel)]
      exact hL'
  · intro hw hp d hd
    refine ⟨_, T.x_BadSide_BadGame, fun c => (nomatch c), fun _ => ⟨_, T.x_BadSide_BadValue, fun c => (nomatch c), fun _ => ⟨_, T.x_BadSide_BadSide, fun _ a ha => ?_, fun c => nomatch c⟩⟩⟩
    have s1 := same_new hd (.xd [("name", u)])
    refine ⟨_, rfl, rfl, rfl, d, u, rfl, upd_same, by show 2 ≤ sizeLine; decide, fun t ht => ?_⟩
    refine fin "side" u ?_ (by decide +kernel) _ t (Same.trans s1 (same_new ht _)) upd_same
    unfold dueOf
    rw [if_pos hw, if_neg (by rw [hp]; exact Bool.false_ne_true)]
  · intro hw hp s hu' H' l' hl' hL' b
    subst hu'
    refine ⟨rfl, _, rfl, ifF (by rw [decide_eq_true rfl]; rfl) ⟨by show 2 ≤ sizeLine; decide, fun t ht => fin2 ?_ H' l' ?_ (fun c o hc n1 _ => b c o hc n1) (.inr hl') t ht⟩⟩
    · unfold dueOf
      rw [if_pos hw, if_pos hp]
    · unfold nextZ
      rw [if_pos hw]
      exact hL'
end
end My

namespace My
open PySem PySem.Spec PyProof.Rows L2 SX
def isS : V → Bool
  | .str _ => true
  | _ => false
def isBl : V → Bool
  | .bl _ => true
  | _ => false
theorem playing_s {z : Lgv} {s : Str} : playing z (.str s) = (z.ss.contains s && !z.gone.contains s) := rfl
theorem isS_eq {H : Hp} {v : V} (hd : Dat1 H v) : isT (kd H v) "str" = isS v := by
  rcases hd with ha | ⟨a, xs, rfl, ha | ha⟩
  · cases v with
    | non => rfl
    | bl b => rfl
    | int b => rfl
    | str b => rfl
    | _ => cases ha
  · show isT (match H a with | some (.tup _) => "tuple" | some (.lst _) => "list" | _ => "object") "str" = false
    rw [ha]; rfl
  · show isT (match H a with | some (.tup _) => "tuple" | some (.lst _) => "list" | _ => "object") "str" = false
    rw [ha]; rfl
theorem isB_eq {H : Hp} {v : V} (hd : Dat1 H v) : isT (kd H v) "bool" = isBl v := by
  rcases hd with ha | ⟨a, xs, rfl, ha | ha⟩
  · cases v with
    | non => rfl
    | bl b => rfl
    | int b => rfl
    | str b => rfl
    | _ => cases ha
  · show isT (match H a with | some (.tup _) => "tuple" | some (.lst _) => "list" | _ => "object") "bool" = false
    rw [ha]; rfl
  · show isT (match H a with | some (.tup _) => "tuple" | some (.lst _) => "list" | _ => "object") "bool" = false
    rw [ha]; rfl
theorem isI2_eq {H : Hp} {v : V} (hd : Dat1 H v) : isT (kd H v) "int" = (isI v || isBl v) := by
  rcases hd with ha | ⟨a, xs, rfl, ha | ha⟩
  · cases v with
    | non => rfl
    | bl b => rfl
    | int b => rfl
    | str b => rfl
    | _ => cases ha
  · show isT (match H a with | some (.tup _) => "tuple" | some (.lst _) => "list" | _ => "object") "int" = false
    rw [ha]; rfl
  · show isT (match H a with | some (.tup _) => "tuple" | some (.lst _) => "list" | _ => "object") "int" = false
    rw [ha]; rfl
/-! ### the law's own row of states -/
def IsAt (H : Hp) : List Addr → List G3 → Prop
  | [], [] => True
  | a :: as, g :: gs => H a = some (.lst [.str g.1, .str g.2.1, .str g.2.2]) ∧ IsAt H as gs
  | _, _ => False
theorem IsAt.same {H H' : Hp} (k : Same H H') : ∀ {as : List Addr} {gs : List G3}, IsAt H as gs → IsAt H' as gs
  | [], [], _ => trivial
  | _ :: _, _ :: _, ⟨h, r⟩ => ⟨k _ _ h, r.same k⟩
  | [], _ :: _, h => h.elim
  | _ :: _, [], h => h.elim
theorem IsAt.len {H : Hp} : ∀ {as : List Addr} {gs : List G3}, IsAt H as gs → as.length = gs.length
  | [], [], _ => rfl
  | _ :: _, _ :: _, ⟨_, r⟩ => congrArg (· + 1) r.len
  | [], _ :: _, h => h.elim
  | _ :: _, [], h => h.elim
theorem IsAt.get {H : Hp} : ∀ {as : List Addr} {gs : List G3} (i : Nat) {g : G3}, IsAt H as gs → gs[i]? = some g → ∃ a, as[i]? = some a ∧ H a = some (.lst [.str g.1, .str g.2.1, .str g.2.2])
  | a :: _, _ :: _, 0, g, ⟨h, _⟩, e => by
    rw [List.getElem?_cons_zero] at e
    rw [← Option.some.inj e]
    exact ⟨a, rfl, h⟩
  | _ :: _, _ :: _, i + 1, g, ⟨_, r⟩, e => by
    rw [List.getElem?_cons_succ] at e ⊢
    exact r.get i e
  | [], [], i, g, _, e => by simp at e
  | [], _ :: _, _, _, h, _ => h.elim
  | _ :: _, [], _, _, h, _ => h.elim
structure StAt (H : Hp) (pS Ls tS Lg Lo : Addr) (is : List Addr) (z : Lgv) : Prop where
  st : H pS = some (.tup [.ref Ls, .ref tS, .ref Lg, .ref Lo])
  sides : H Ls = some (.lst (z.ss.map V.str))
  scm : H tS = some (.tup [.int z.w, z.d, .int z.lo])
  games : H Lg = some (.lst (is.map V.ref))
  inner : IsAt H is z.gs
  go : ∃ go : List Str, H Lo = some (.lst (go.map V.str)) ∧ z.gone = (z.ss.filter fun n => go.contains n) ∧ (∀ s ∈ go, s ∈ z.ss) ∧ go.Nodup
  nd : (Ls :: Lg :: Lo :: is).Nodup
theorem StAt.same {H H' : Hp} {pS Ls tS Lg Lo : Addr} {is : List Addr} {z : Lgv} (h : StAt H pS Ls tS Lg Lo is z) (k : Same H H') : StAt H' pS Ls tS Lg Lo is z := by
  obtain ⟨go, g1, g2⟩ := h.go
  exact ⟨k _ _ h.st, k _ _ h.sides, k _ _ h.scm, k _ _ h.games, h.inner.same k, ⟨go, k _ _ g1, g2⟩, h.nd⟩
theorem gone_eq {ss go gone : List Str} (e : gone = (ss.filter fun n => go.contains n)) (sub : ∀ s ∈ go, s ∈ ss) (s : Str) : gone.contains s = go.contains s := by
  rw [e, Bool.eq_iff_iff, List.contains_iff_mem, List.mem_filter, List.contains_iff_mem]
  exact ⟨fun h => h.2, fun h => ⟨sub s h, h⟩⟩
def spDue (K : PySem.W.Frag) : Sp := fun vs H Q _ => ∃ (pS Ls tS Lg Lo : Addr) (is : List Addr) (z : Lgv) (deed : Str) (u v : V), vs = [.ref pS, .str deed, u, v] ∧ StAt H pS Ls tS Lg Lo is z ∧ (∀ s ∈ z.ss, IsName s) ∧ z.gs.length ≤ 80 ∧ Odd K H u ∧ Odd K H v ∧
  ∀ (H' : Hp) (t : Addr), Same H H' → H' t = some (.tup [.str (dueOf z deed u v).1, (dueOf z deed u v).2]) → Q (.ref t) H'
section
variable {P : Program} {w : World} {K : PySem.W.Frag} {mg : Str → Option Value} {base : Heap}
theorem sc__law_due : C8.scC ["state", "deed", "one", "two", "sides", "scheme", "games", "gone"] ["state", "deed", "one", "two"] (defScope s__law_due) = true := by decide +kernel
theorem c__law_due (T : TX K mg) : C8.Cal P w K mg base 1 "_law_due" (spDue K) [] := by
  refine cal T.h__law_due sc__law_due (fun _ _ _ _ _ _ us hl => match us, hl with | [_, _, _, _], _ => rfl) (fun vs H Q E h => ?_) (fun f cdv A outer s H vs Q E hr h => ?_)
  · obtain ⟨pS, Ls, tS, Lg, Lo, is, z, deed, u, v, rfl, _⟩ := h
    rfl
  obtain ⟨pS, Ls, tS, Lg, Lo, is, z, deed, u, v, rfl, hS, hn, h80, hu, hv, q⟩ := h
  refine ⟨_, (pss_cons (ps_asg (pv 0) (pg_tup rfl (pgs_cons (pg_name (i := 4) (C8.fnScope_by sc__law_due).nd rfl (Or.inl rfl)) (pgs_cons (pg_name (i := 5) (C8.fnScope_by sc__law_due).nd rfl (Or.inl rfl)) (pgs_cons (pg_name (i := 6) (C8.fnScope_by sc__law_due).nd rfl (Or.inl rfl)) (pgs_cons (pg_name (i := 7) (C8.fnScope_by sc__law_due).nd rfl (Or.inl rfl)) pgs_nil))))))
    (C8.pss_cut (ps_if (pt_cmpR op_eq (pv 1) pe_str (nomark _)) (C8.pss_cut (ps_if (PW.pt (pw_and (pt_val (pe_callB call_isi (by rfl) T.B.isinstance (by decide +kernel) (pa_cons (pv 2) (pa_cons (pe_bltn (v := .ty "str") (by rfl) T.B.str (by decide +kernel) rfl) pa_nil)))) (pw_and (pt_cmpR op_in_seq (pv 2) (pv 4) (by rfl)) (pw_and1 (pt_cmpR op_notIn_seq (pv 2) (pv 7) (by rfl)))))) (pss_one (ps_ret (pe_tup (pa_cons pe_str (pa_cons pe_int pa_nil))))) pss_nil)
    (pss_one (ps_ret (pe_tup (pa_cons pe_str (pa_cons (pv 2) pa_nil)))))) pss_nil)
    (C8.pss_cut (ps_if (PW.pt (pw_or (pt_val (pe_callB call_isi (by rfl) T.B.isinstance (by decide +kernel) (pa_cons (pv 2) (pa_cons (pe_bltn (v := .ty "bool") (by rfl) T.B.bool (by decide +kernel) rfl) pa_nil)))) (pw_or (pt_not (pt_val (pe_callB call_isi (by rfl) T.B.isinstance (by decide +kernel) (pa_cons (pv 2) (pa_cons (pe_bltn (v := .ty "int") (by rfl) T.B.int (by decide +kernel) rfl) pa_nil))))) (pw_or1 (pt_not (pt_chain op_le op_lt pe_int (pv 2) (pe_callB call_len_seq (by rfl) T.B.len (by decide +kernel) (pa_cons (pv 6) pa_nil)))))))) (pss_one (ps_ret (pe_tup (pa_cons pe_str (pa_cons (pv 2) pa_nil))))) pss_nil)
    (C8.pss_cut (ps_if (PW.pt (pw_or (pt_cmpR op_in_seq (pe_ix ix_list (pe_ix ix_list (pv 6) (pv 2) (fun _ _ => rfl)) pe_int (fun _ _ => rfl)) (pv 7) (by rfl)) (pw_or1 (pt_cmpR op_in_seq (pe_ix ix_list (pe_ix ix_list (pv 6) (pv 2) (fun _ _ => rfl)) pe_int (fun _ _ => rfl)) (pv 7) (by rfl))))) (pss_one (ps_ret (pe_tup (pa_cons pe_str (pa_cons (pv 2) pa_nil))))) pss_nil)
    (C8.pss_cut (ps_if (pt_cmpR op_ne (pv 1) pe_str (nomark _)) (pss_one (ps_ret (pe_tup (pa_cons pe_str (pa_cons pe_int pa_nil))))) pss_nil)
    (C8.pss_cut (ps_if (PW.pt (pw_or (pt_not (pt_val (pe_callB call_isi (by rfl) T.B.isinstance (by decide +kernel) (pa_cons (pv 3) (pa_cons (pe_bltn (v := .ty "str") (by rfl) T.B.str (by decide +kernel) rfl) pa_nil))))) (pw_or (pt_cmpR op_notIn_seq (pv 3) (pe_lst (pa_cons pe_str (pa_cons pe_str (pa_cons pe_str pa_nil)))) (by rfl)) (pw_or1 (PW.pt (pw_and (pt_cmpR op_eq (pv 3) pe_str (nomark _)) (pw_and1 (pt_cmpR op_isN (pe_ix ix_tup (pv 5) pe_int (fun _ _ => rfl)) pe_non (nomark _))))))))) (pss_one (ps_ret (pe_tup (pa_cons pe_str (pa_cons pe_int pa_nil))))) pss_nil)
    (pss_one (ps_ret (pe_tup (pa_cons pe_str (pa_cons pe_int pa_nil))))))))))), ?_⟩
  obtain ⟨go, hgo, ego, sub, ndg⟩ := hS.go
  have fin : ∀ (w : Str) (x : V), dueOf z deed u v = (w, x) → ∀ H', Same H H' → 2 ≤ sizeLine ∧ ∀ t, H' t = none → Q (.ref t) (upd H' t (.tup [.str w, x])) := fun w x e H' s => ⟨by decide, fun t ht => by
    refine q _ t (Same.trans s (same_new ht _)) ?_
    rw [e]
    exact upd_same⟩
  refine ⟨_, rfl, pS, _, rfl, SqT.of hS.st, rfl, _, _, rfl, _, _, rfl, _, _, rfl, _, _, rfl, rfl, ?_⟩
  refine ⟨fun σ' H' => deed ≠ "withdraw" ∧ σ' = [some (.ref pS), some (.str deed), some u, some v, some (.ref Ls), some (.ref tS), some (.ref Lg), some (.ref Lo)] ∧ H = H', ⟨_, rfl, rfl, _, rfl, ?_⟩, ?_⟩
  · by_cases hw : deed = "withdraw"
    · refine ifT (decide_eq_true (by rw [hw])) ?_
      have due : dueOf z deed u v = (if playing z u = true then (("done", V.int 0) : Str × V) else ("side", u)) := by unfold dueOf; rw [if_pos hw]
      refine ⟨fun σ' H' => playing z u = false ∧ σ' = [some (.ref pS), some (.str deed), some u, some v, some (.ref Ls), some (.ref tS), some (.ref Lg), some (.ref Lo)] ∧ H = H', ?_, ?_⟩
      · refine isiD rfl hu.dat (by decide) ⟨_, rfl, ?_⟩
        rw [isS_eq hu.dat]
        cases u with
        | str s =>
          refine ifT (c := true) rfl ⟨_, rfl, _, rfl, Ls, _, rfl, .inl (SqL.of hS.sides), rfl, flat_strs _, _, rfl, ?_⟩
          rw [show (if false = true then !inV (V.str s) (z.ss.map V.str) else inV (V.str s) (z.ss.map V.str)) = z.ss.contains s from inV_str _ _]
          cases e1 : z.ss.contains s with
          | false => exact ifF (c := false) rfl ⟨by rw [playing_s, e1]; rfl, rfl, rfl⟩
          | true =>
            refine ifT (c := true) rfl ⟨_, rfl, _, rfl, Lo, _, rfl, .inl (SqL.of hgo), rfl, flat_strs _, _, rfl, ?_⟩
            rw [show (if true = true then !inV (V.str s) (go.map V.str) else inV (V.str s) (go.map V.str)) = !go.contains s from by rw [if_pos rfl, inV_str]]
            have ec := gone_eq ego sub s
            cases e2 : go.contains s with
            | true => exact ifF (c := !true) rfl ⟨by rw [playing_s, e1, ec, e2]; rfl, rfl, rfl⟩
            | false =>
              refine ifT (c := !false) rfl ?_
              have pf : playing z (.str s) = true := by rw [playing_s, e1, ec, e2]; rfl
              rw [pf, if_pos rfl] at due
              exact fin _ _ due H (Same.refl H)
        | _ => exact ifF (c := false) rfl ⟨rfl, rfl, rfl⟩
      · rintro σ' H' ⟨pf, rfl, rfl⟩
        rw [pf, if_neg Bool.false_ne_true] at due
        exact ⟨_, rfl, fin _ _ due H (Same.refl H)⟩
    · exact ifF (decide_eq_false fun e => hw (V.str.inj e)) ⟨hw, rfl, rfl⟩
  · rintro σ' H' ⟨hw, rfl, rfl⟩
    have dg : okGame z u = false → dueOf z deed u v = (("game", u) : Str × V) := fun e => by unfold dueOf; rw [if_neg hw, if_neg (by rw [e]; exact Bool.false_ne_true)]
    refine ⟨fun σ' H' => (∃ i : Nat, u = .int i ∧ i < z.gs.length) ∧ σ' = [some (.ref pS), some (.str deed), some u, some v, some (.ref Ls), some (.ref tS), some (.ref Lg), some (.ref Lo)] ∧ H = H', ?_, ?_⟩
    · refine isiD rfl hu.dat (by decide) ⟨_, rfl, ?_⟩
      rw [isB_eq hu.dat]
      cases u with
      | int i =>
        refine ifF (c := false) rfl (isiD rfl hu.dat (by decide) ⟨_, rfl, ?_⟩)
        rw [isI2_eq hu.dat]
        refine ifF (c := !(true || false)) rfl ?_
        refine ⟨_, rfl, _, _, rfl, rfl, _, rfl, ite2 (fun c0 => ?_) (fun c0 => ?_)⟩
        · have i0 : 0 ≤ i := of_decide_eq_true c0
          refine ⟨_, rfl, Lg, _, rfl, .inl (SqL.of hS.games), _, _, rfl, rfl, _, rfl, ?_⟩
          rw [List.length_map, hS.inner.len]
          by_cases hi : i < (z.gs.length : Nat)
          · rw [show decide (i < ((z.gs.length : Nat) : Int)) = true from decide_eq_true hi]
            exact ifF (c := !true) rfl ⟨⟨i.toNat, by rw [Int.toNat_of_nonneg i0], by omega⟩, rfl, rfl⟩
          · rw [show decide (i < ((z.gs.length : Nat) : Int)) = false from decide_eq_false hi]
            refine ifT (c := !false) rfl ⟨_, rfl, fin _ _ (dg ?_) H (Same.refl H)⟩
            show (decide ((0 : Int) ≤ i) && (match z.gs[i.toNat]? with | some g => !z.gone.contains g.1 && !z.gone.contains g.2.1 | none => false)) = false
            rw [List.getElem?_eq_none (by omega)]
            exact Bool.and_false _
        · refine ⟨_, rfl, ifT (c := !false) rfl ⟨_, rfl, fin _ _ (dg ?_) H (Same.refl H)⟩⟩
          show (decide ((0 : Int) ≤ i) && _) = false
          rw [Bool.eq_false_iff.mpr c0]
          rfl
      | bl b => exact ifT (c := true) rfl (ifT (c := true) rfl ⟨_, rfl, fin _ _ (dg rfl) H (Same.refl H)⟩)
      | _ =>
        refine ifF (c := false) rfl (isiD rfl hu.dat (by decide) ⟨_, rfl, ?_⟩)
        rw [isI2_eq hu.dat]
        exact ifT (c := !(false || false)) rfl (ifT (c := true) rfl ⟨_, rfl, fin _ _ (dg rfl) H (Same.refl H)⟩)
    rintro σ' H' ⟨⟨n, rfl, hi⟩, rfl, rfl⟩
    have hg : z.gs[n]? = some z.gs[n] := List.getElem?_eq_getElem hi
    obtain ⟨a, ha, hH⟩ := hS.inner.get n hg
    have okE : okGame z (.int (n : Nat)) = (!go.contains z.gs[n].1 && !go.contains z.gs[n].2.1) := by
      show (decide ((0 : Int) ≤ (n : Nat)) && (match z.gs[((n : Nat) : Int).toNat]? with | some g => !z.gone.contains g.1 && !z.gone.contains g.2.1 | none => false)) = _
      rw [decide_eq_true (by omega), Int.toNat_natCast, hg]
      show (true && (!z.gone.contains z.gs[n].1 && !z.gone.contains z.gs[n].2.1)) = _
      rw [gone_eq ego sub, gone_eq ego sub, Bool.true_and]
    have inG : ∀ s, (if false = true then !inV (V.str s) (go.map V.str) else inV (V.str s) (go.map V.str)) = go.contains s := fun s => inV_str s go
    refine ⟨fun σ' H' => okGame z (.int (n : Nat)) = true ∧ σ' = [some (.ref pS), some (.str deed), some (.int (n : Nat)), some v, some (.ref Ls), some (.ref tS), some (.ref Lg), some (.ref Lo)] ∧ H = H', ?_, ?_⟩
    · have at1 : atI (is.map V.ref) ((n : Nat) : Int) = some (.ref a) := atI_nat (by rw [List.getElem?_map, ha]; rfl)
      refine ⟨_, rfl, _, rfl, Lg, _, _, _, rfl, rfl, SqL.of hS.games, at1, a, _, 0, _, rfl, rfl, SqL.of hH, rfl, _, rfl, Lo, _, rfl, .inl (SqL.of hgo), rfl, flat_strs _, _, rfl, ?_⟩
      rw [inG]
      cases e1 : go.contains z.gs[n].1 with
      | true => exact ifT (c := true) rfl (ifT (c := true) rfl ⟨_, rfl, fin _ _ (dg (by rw [okE, e1]; rfl)) H (Same.refl H)⟩)
      | false =>
        refine ifF (c := false) rfl ⟨_, rfl, _, rfl, Lg, _, _, _, rfl, rfl, SqL.of hS.games, at1, a, _, 1, _, rfl, rfl, SqL.of hH, rfl, _, rfl, Lo, _, rfl, .inl (SqL.of hgo), rfl, flat_strs _, _, rfl, ?_⟩
        rw [inG]
        cases e2 : go.contains z.gs[n].2.1 with
        | true => exact ifT (c := true) rfl ⟨_, rfl, fin _ _ (dg (by rw [okE, e1, e2]; rfl)) H (Same.refl H)⟩
        | false => exact ifF (c := false) rfl ⟨by rw [okE, e1, e2]; rfl, rfl, rfl⟩
    rintro σ' H' ⟨ok, rfl, rfl⟩
    refine ⟨fun σ' H' => deed = "enter" ∧ σ' = [some (.ref pS), some (.str deed), some (.int (n : Nat)), some v, some (.ref Ls), some (.ref tS), some (.ref Lg), some (.ref Lo)] ∧ H = H', ⟨_, rfl, rfl, _, rfl, ?_⟩, ?_⟩
    · by_cases he : deed = "enter"
      · exact ifF (by rw [he, decide_eq_true rfl]; rfl) ⟨he, rfl, rfl⟩
      · refine ifT (by rw [decide_eq_false (fun e => he (V.str.inj e))]; rfl) (fin _ _ ?_ H (Same.refl H))
        unfold dueOf
        rw [if_neg hw, if_pos ok, if_neg (fun e => he e.1)]
    rintro σ' H' ⟨he, rfl, rfl⟩
    have dv : strIn v (outs z.d) = false → dueOf z deed (.int (n : Nat)) v = (("value", V.int 1) : Str × V) := fun e => by unfold dueOf; rw [if_neg hw, if_pos ok, if_pos ⟨he, e⟩]
    have dd : strIn v (outs z.d) = true → dueOf z deed (.int (n : Nat)) v = (("done", V.int 0) : Str × V) := fun e => by unfold dueOf; rw [if_neg hw, if_pos ok, if_neg (fun z => absurd z.2 (by rw [e]; exact Bool.noConfusion))]
    refine ⟨fun σ' H' => strIn v (outs z.d) = true ∧ σ' = [some (.ref pS), some (.str deed), some (.int (n : Nat)), some v, some (.ref Ls), some (.ref tS), some (.ref Lg), some (.ref Lo)] ∧ Same H H', ?_, ?_⟩
    · refine isiD rfl hv.dat (by decide) ⟨_, rfl, ?_⟩
      rw [isS_eq hv.dat]
      cases v with
      | str s =>
        refine ifF (c := !true) rfl ⟨_, rfl, by show 3 ≤ sizeLine; decide, fun q hq => ⟨q, threeO.map V.str, rfl, .inl (SqL.of upd_same), rfl, flat_strs _, _, rfl, ?_⟩⟩
        have k := same_new hq (.lst (threeO.map V.str))
        rw [show (if true = true then !inV (V.str s) (threeO.map V.str) else inV (V.str s) (threeO.map V.str)) = !threeO.contains s from by rw [if_pos rfl, inV_str]]
        have o3 : outs z.d = threeO.filter (kept z.d) := (kept_outs z.d).symm
        have so : strIn (.str s) (outs z.d) = (threeO.contains s && kept z.d s) := by
          show (outs z.d).contains s = _
          rw [o3, Bool.eq_iff_iff, List.contains_iff_mem, List.mem_filter, Bool.and_eq_true, List.contains_iff_mem]
        cases e1 : threeO.contains s with
        | false => exact ifT (c := !false) rfl (ifT (c := true) rfl (fin _ _ (dv (by rw [so, e1]; rfl)) _ k))
        | true =>
          refine ifF (c := !true) rfl ⟨_, rfl, rfl, _, rfl, ?_⟩
          by_cases es : s = "draw"
          · refine ifT (decide_eq_true (by rw [es])) ⟨_, rfl, tS, _, 1, _, rfl, rfl, SqT.of (k _ _ hS.scm), rfl, rfl, _, rfl, ?_⟩
            cases ed : decide (z.d = V.non) with
            | true => exact ifT (c := true) rfl (fin _ _ (dv (by rw [so, e1]; unfold kept; rw [ed, es]; rfl)) _ k)
            | false => exact ifF (c := false) rfl ⟨by rw [so, e1]; unfold kept; rw [ed]; rfl, rfl, k⟩
          · exact ifF (decide_eq_false fun e => es (V.str.inj e)) (ifF (c := false) rfl ⟨by rw [so, e1]; unfold kept; rw [decide_eq_false es]; cases decide (z.d = V.non) <;> rfl, rfl, k⟩)
      | _ => exact ifT (c := !false) rfl (ifT (c := true) rfl (fin _ _ (dv rfl) H (Same.refl H)))
    · rintro σ' H' ⟨e, rfl, k⟩
      exact fin _ _ (dd e) H' k
end
end My

namespace My
open PySem PySem.Spec PyProof.Rows L2 SX
theorem sub_lenS : ∀ {l m : List Str}, l.Nodup → (∀ x ∈ l, x ∈ m) → l.length ≤ m.length
  | [], _, _, _ => Nat.zero_le _
  | x :: r, m, nd, h => by
    obtain ⟨n1, n2⟩ := List.nodup_cons.mp nd
    have hx := h x (List.mem_cons_self ..)
    have i := sub_lenS (m := m.erase x) n2 fun y hy => by
      have ne : y ≠ x := fun e => n1 (by rw [← e]; exact hy)
      rw [List.mem_erase_of_ne ne]
      exact h y (List.mem_cons_of_mem _ hy)
    rw [List.length_erase_of_mem hx] at i
    have p : 0 < m.length := List.length_pos_of_mem hx
    rw [List.length_cons]
    omega
theorem IsAt.out {H : Hp} {a : Addr} {o : HO} : ∀ {is : List Addr} {gs : List G3}, a ∉ is → IsAt H is gs → IsAt (L2.upd H a o) is gs
  | [], [], _, _ => trivial
  | b :: r, g :: s, n, ⟨h, t⟩ => ⟨by rw [upd_ne (fun e => n (by rw [e]; exact List.mem_cons_self ..))]; exact h, IsAt.out (fun m => n (List.mem_cons_of_mem _ m)) t⟩
  | [], _ :: _, _, h => h.elim
  | _ :: _, [], _, h => h.elim
theorem IsAt.put {H : Hp} {a : Addr} {g' : G3} : ∀ {is : List Addr} {gs : List G3} {n : Nat}, is.Nodup → IsAt H is gs → is[n]? = some a → IsAt (L2.upd H a (.lst [.str g'.1, .str g'.2.1, .str g'.2.2])) is (gs.set n g')
  | [], [], _, _, _, h => by simp at h
  | b :: r, g :: s, 0, nd, ⟨h, t⟩, e => by
    rw [List.getElem?_cons_zero] at e
    obtain rfl := Option.some.inj e
    exact ⟨upd_same, t.out (List.nodup_cons.mp nd).1⟩
  | b :: r, g :: s, n + 1, nd, ⟨h, t⟩, e => by
    rw [List.getElem?_cons_succ] at e
    obtain ⟨n1, n2⟩ := List.nodup_cons.mp nd
    have ne : b ≠ a := fun q => n1 (by rw [q]; exact List.mem_of_getElem? e)
    exact ⟨by rw [upd_ne ne]; exact h, IsAt.put n2 t e⟩
  | [], _ :: _, _, _, h, _ => h.elim
  | _ :: _, [], _, _, h, _ => h.elim
theorem IsAt.mem {H : Hp} {a : Addr} : ∀ {is : List Addr} {gs : List G3}, IsAt H is gs → a ∈ is → ∃ xs, H a = some (.lst xs)
  | [], [], _, m => (nomatch m)
  | b :: r, g :: s, ⟨h, t⟩, m => by
    rcases List.mem_cons.mp m with rfl | m
    · exact ⟨_, h⟩
    · exact t.mem m
  | [], _ :: _, h, _ => h.elim
  | _ :: _, [], h, _ => h.elim
/-- only the row's own lists may differ -/
def But3 (Lo : Addr) (is : List Addr) (H H' : Hp) : Prop := ∀ b o, H b = some o → b ≠ Lo → b ∉ is → H' b = some o
theorem StAt.step {H H' : Hp} {pS Ls tS Lg Lo : Addr} {is : List Addr} {z : Lgv} (h : StAt H pS Ls tS Lg Lo is z) (k : But3 Lo is H H') {gs' : List G3} {gone' go' : List Str} (hi : IsAt H' is gs') (hg : H' Lo = some (.lst (go'.map V.str))) (e : gone' = (z.ss.filter fun n => go'.contains n)) (sub : ∀ s ∈ go', s ∈ z.ss) (nd : go'.Nodup) :
    StAt H' pS Ls tS Lg Lo is { z with gs := gs', gone := gone' } := by
  obtain ⟨go, g1, _⟩ := h.go
  have n0 := h.nd
  obtain ⟨n1, n2⟩ := List.nodup_cons.mp n0
  obtain ⟨n3, n4⟩ := List.nodup_cons.mp n2
  obtain ⟨n5, n6⟩ := List.nodup_cons.mp n4
  have tupk : ∀ {b : Addr} {xs : List V}, H b = some (.tup xs) → H' b = some (.tup xs) := fun {b xs} hb => k b _ hb (fun e => by rw [e, g1] at hb; cases hb) fun m => by
    obtain ⟨ys, hy⟩ := h.inner.mem m
    rw [hb] at hy
    cases hy
  refine ⟨tupk h.st, k _ _ h.sides (fun e => n1 (by rw [e]; simp)) (fun m => n1 (by simp [m])), tupk h.scm, k _ _ h.games (fun e => n3 (by rw [e]; simp)) (fun m => n3 (by simp [m])), hi, ⟨go', hg, e, sub, nd⟩, n0⟩
def offTo (s : Str) : Nat → List G3 → List G3
  | 0, gs => gs
  | _ + 1, [] => []
  | i + 1, g :: r => offG s g :: offTo s i r
theorem offTo_all (s : Str) : ∀ gs : List G3, offTo s gs.length gs = gs.map (offG s)
  | [] => rfl
  | g :: r => by
    show offG s g :: offTo s r.length r = _
    rw [offTo_all s r]
    rfl
theorem offTo_at (s : Str) : ∀ (i : Nat) (gs : List G3), (offTo s i gs)[i]? = gs[i]?
  | 0, gs => rfl
  | i + 1, [] => rfl
  | i + 1, g :: r => by
    show (offG s g :: offTo s i r)[i + 1]? = _
    rw [List.getElem?_cons_succ, List.getElem?_cons_succ]
    exact offTo_at s i r
theorem offTo_succ (s : Str) : ∀ (i : Nat) (gs : List G3) {g : G3}, gs[i]? = some g → offTo s (i + 1) gs = (offTo s i gs).set i (offG s g)
  | 0, g :: r, g', h => by
    rw [List.getElem?_cons_zero] at h
    obtain rfl := Option.some.inj h
    rfl
  | i + 1, g :: r, g', h => by
    rw [List.getElem?_cons_succ] at h
    show offG s g :: offTo s (i + 1) r = (offG s g :: offTo s i r).set (i + 1) (offG s g')
    rw [offTo_succ s i r h]
    rfl
  | _, [], _, h => by simp at h
theorem offTo_len (s : Str) : ∀ (i : Nat) (gs : List G3), (offTo s i gs).length = gs.length
  | 0, _ => rfl
  | _ + 1, [] => rfl
  | i + 1, g :: r => congrArg (· + 1) (offTo_len s i r)
def spDone (K : PySem.W.Frag) : Sp := fun vs H Q _ => ∃ (pS Ls tS Lg Lo : Addr) (is : List Addr) (z : Lgv) (deed : Str) (u v : V), vs = [.ref pS, .str deed, u, v] ∧ StAt H pS Ls tS Lg Lo is z ∧ z.ss.length ≤ 8 ∧ z.gs.length ≤ 80 ∧ (deed = "enter" ∨ deed = "call_off" ∨ deed = "reopen" ∨ deed = "withdraw") ∧ (dueOf z deed u v).1 = "done" ∧
  ∀ (H' : Hp), StAt H' pS Ls tS Lg Lo is (nextZ z deed u v) → But3 Lo is H H' → Q .non H'
section
variable {P : Program} {w : World} {K : PySem.W.Frag} {mg : Str → Option Value} {base : Heap}
theorem sc__law_done : C8.scC ["state", "deed", "one", "two", "sides", "scheme", "games", "gone", "game"] ["state", "deed", "one", "two"] (defScope s__law_done) = true := by decide +kernel
theorem c__law_done (T : TX K mg) : C8.Cal P w K mg base 1 "_law_done" (spDone K) [] := by
  refine cal T.h__law_done sc__law_done (fun _ _ _ _ _ _ us hl => match us, hl with | [_, _, _, _], _ => rfl) (fun vs H Q E h => ?_) (fun f cdv A outer s H vs Q E hr h => ?_)
  · obtain ⟨pS, Ls, tS, Lg, Lo, is, z, deed, u, v, rfl, _⟩ := h
    rfl
  obtain ⟨pS, Ls, tS, Lg, Lo, is, z, deed, u, v, rfl, hS, h8, h80, hd, dn, q⟩ := h
  refine ⟨_, (pss_cons (ps_asg (pv 0) (pg_tup rfl (pgs_cons (pg_name (i := 4) (C8.fnScope_by sc__law_done).nd rfl (Or.inl rfl)) (pgs_cons (pg_name (i := 5) (C8.fnScope_by sc__law_done).nd rfl (Or.inl rfl)) (pgs_cons (pg_name (i := 6) (C8.fnScope_by sc__law_done).nd rfl (Or.inl rfl)) (pgs_cons (pg_name (i := 7) (C8.fnScope_by sc__law_done).nd rfl (Or.inl rfl)) pgs_nil))))))
    (pss_one (ps_if (pt_cmpR op_eq (pv 1) pe_str (nomark _)) (pss_cons (ps_expr (pe_bm PySem.F.plainAttrs_list PySem.F.slot_list_append PySem.F.type_list_append mt_append (pv 7) (pa_cons (pv 2) pa_nil)))
    (pss_one (ps_for PassesOwn.never rfl (pi_list (pv 6)) (pg_name (i := 8) (C8.fnScope_by sc__law_done).nd rfl (Or.inl rfl)) (pss_one (ps_if (pt_cmpR op_in_seq (pv 2) (pe_slice sl_list (pv 8) po_none (po_some pe_int)) (by rfl)) (pss_one (ps_asg pe_str (pg_sub (pv 8) pe_int set_list))) pss_nil))))) (pss_one (ps_asg (pe_dget (hu_of hr) (pe_disp (pps_cons pe_str (pv 3) (pps_cons pe_str pe_str (pps_cons pe_str pe_str pps_nil))) (by rfl) (by rfl) (fun z => by cases z) (by decide)) (pv 1) (fun _ _ => rfl)) (pg_sub (pe_ix ix_list (pv 6) (pv 2) (fun _ _ => rfl)) pe_int set_list)))))), ?_⟩
  obtain ⟨go, hgo, ego, sub, ndg⟩ := hS.go
  have n0 := hS.nd
  obtain ⟨n1, n2⟩ := List.nodup_cons.mp n0
  obtain ⟨n3, n4⟩ := List.nodup_cons.mp n2
  obtain ⟨n5, n6⟩ := List.nodup_cons.mp n4
  refine ⟨_, rfl, pS, _, rfl, SqT.of hS.st, rfl, _, _, rfl, _, _, rfl, _, _, rfl, _, _, rfl, rfl, ?_⟩
  refine ⟨_, rfl, rfl, _, rfl, ?_⟩
  by_cases hw : deed = "withdraw"
  · refine ifT (decide_eq_true (by rw [hw])) ?_
    have pf : playing z u = true := by
      unfold dueOf at dn
      rw [if_pos hw] at dn
      by_cases c : playing z u = true
      · exact c
      · rw [if_neg c] at dn
        exact absurd (show ("side" : Str) = "done" from dn) (by decide +kernel)
    obtain ⟨s, rfl, s1, s2⟩ := playing_str pf
    have sgo : s ∉ go := fun m => s2 (by rw [ego]; exact List.mem_filter.mpr ⟨s1, List.contains_iff_mem.mpr m⟩)
    have lgo : go.length ≤ 8 := Nat.le_trans (sub_lenS ndg sub) h8
    refine ⟨_, rfl, .inl ⟨rfl, _, SqL.of hgo⟩, _, rfl, Lo, _, _, rfl, rfl, hgo, by rw [List.length_map]; exact small1000 (by omega), ?_⟩
    rw [show go.map V.str ++ [V.str s] = (go ++ [s]).map V.str by rw [List.map_append]; rfl]
    have Lg_Lo : Lg ≠ Lo := fun e => n3 (by rw [e]; simp)
    have Lg_is : Lg ∉ is := fun m => n3 (by simp [m])
    refine ⟨_, rfl, Lg, rfl, ⟨_, SqL.of (by rw [upd_ne Lg_Lo]; exact hS.games)⟩, for_list (K := K) (a := Lg) (xs := is.map V.ref) (fun i σ' H' => (∃ x, σ' = [some (.ref pS), some (.str deed), some (.str s), some v, some (.ref Ls), some (.ref tS), some (.ref Lg), some (.ref Lo), x]) ∧ IsAt H' is (offTo s i z.gs) ∧ H' Lo = some (.lst ((go ++ [s]).map V.str)) ∧ But3 Lo is H H')
      ⟨⟨none, rfl⟩, hS.inner.out n5, upd_same, fun b o hb n _ => by rw [upd_ne n]; exact hb⟩ (fun i σ' H' _ h => SqL.of (h.2.2.2 _ _ hS.games Lg_Lo Lg_is)) ?_ ?_⟩
    · rintro i y σ' H1 hi ⟨⟨x, rfl⟩, hI, hL1, hB⟩
      have hi2 : i < is.length := by
        have q := (List.getElem?_eq_some_iff.mp hi).1
        rwa [List.length_map] at q
      obtain rfl : y = V.ref is[i] := by
        rw [List.getElem?_map, List.getElem?_eq_getElem hi2] at hi
        exact (Option.some.inj hi).symm
      have hi3 : i < z.gs.length := by rw [← hS.inner.len]; exact hi2
      have hg : z.gs[i]? = some z.gs[i] := List.getElem?_eq_getElem hi3
      obtain ⟨a, ha, hH⟩ := hI.get i (by rw [offTo_at]; exact hg)
      have ea : is[i] = a := by
        rw [List.getElem?_eq_getElem hi2] at ha
        exact Option.some.inj ha
      rw [ea]
      have am : a ∈ is := by rw [← ea]; exact List.getElem_mem ..
      refine ⟨_, rfl, _, rfl, _, rfl, a, _, rfl, SqL.of hH, fun q hq => ?_⟩
      have kq := same_new hq (.lst (cutV [.str z.gs[i].1, .str z.gs[i].2.1, .str z.gs[i].2.2] none (some 2)))
      refine ⟨q, ([z.gs[i].1, z.gs[i].2.1] : List Str).map V.str, rfl, .inl (SqL.of upd_same), rfl, flat_strs _, _, rfl, ?_⟩
      rw [show (if false = true then !inV (V.str s) (([z.gs[i].1, z.gs[i].2.1] : List Str).map V.str) else inV (V.str s) (([z.gs[i].1, z.gs[i].2.1] : List Str).map V.str)) = ([z.gs[i].1, z.gs[i].2.1] : List Str).contains s from inV_str _ _]
      have q_a : q ≠ a := fun e => by rw [e, hH] at hq; cases hq
      by_cases c : ([z.gs[i].1, z.gs[i].2.1] : List Str).contains s = true
      · refine ifT c ⟨_, rfl, a, _, 2, 2, rfl, rfl, kq _ _ hH, rfl, ⟨_, rfl⟩, ?_, ?_, ?_⟩
        · rw [offTo_succ s i z.gs hg]
          exact (IsAt.put (g' := offG s z.gs[i]) n6 (hI.same kq) ha) |> fun h => by
            have e : (offG s z.gs[i]) = ((z.gs[i].1, z.gs[i].2.1, ("off" : Str)) : G3) := by unfold offG; rw [if_pos c]
            rw [e] at h ⊢
            exact h
        · have ne : Lo ≠ a := fun e => n5 (by rw [e]; exact am)
          rw [upd_ne ne]
          exact kq _ _ hL1
        · intro b o hb nb1 nb2
          rw [upd_ne (fun e => nb2 (by rw [e]; exact am))]
          exact kq _ _ (hB b o hb nb1 nb2)
      · refine ifF (Bool.eq_false_iff.mpr c) ⟨⟨_, rfl⟩, ?_, kq _ _ hL1, fun b o hb nb1 nb2 => kq _ _ (hB b o hb nb1 nb2)⟩
        rw [offTo_succ s i z.gs hg]
        have e : offG s z.gs[i] = z.gs[i] := by unfold offG; rw [if_neg c]
        have e2 : (offTo s i z.gs).set i (offG s z.gs[i]) = offTo s i z.gs := by
          rw [e]
          refine List.ext_getElem? fun m => ?_
          rw [List.getElem?_set]
          split
          · rename_i em
            subst em
            rw [offTo_at, hg]
            split
            · rfl
            · rename_i no
              rw [offTo_len] at no
              exact absurd hi3 no
          · rfl
        rw [e2]
        exact hI.same kq
    · rintro σ' H1 ⟨⟨x, rfl⟩, hI, hL1, hB⟩
      rw [List.length_map, hS.inner.len, offTo_all] at hI
      refine q H1 ?_ hB
      unfold nextZ
      rw [if_pos hw]
      refine hS.step hB hI hL1 ?_ ?_ ?_
      · unfold goneW
        refine List.filter_congr fun n hn => ?_
        show (decide (n = s) || z.gone.contains n) = (go ++ [s]).contains n
        rw [gone_eq ego sub, Bool.eq_iff_iff, Bool.or_eq_true, decide_eq_true_iff, List.contains_iff_mem, List.contains_iff_mem, List.mem_append, List.mem_singleton]
        exact ⟨fun h => h.elim .inr .inl, fun h => h.elim .inr .inl⟩
      · intro n hn
        rcases List.mem_append.mp hn with hn | hn
        · exact sub n hn
        · rw [List.mem_singleton.mp hn]; exact s1
      · rw [List.nodup_append]
        refine ⟨ndg, by simp, fun x hx y hy e => sgo ?_⟩
        rw [← List.mem_singleton.mp hy, ← e]
        exact hx
  · refine ifF (decide_eq_false fun e => hw (V.str.inj e)) ?_
    have ok : okGame z u = true := by
      unfold dueOf at dn
      rw [if_neg hw] at dn
      by_cases c : okGame z u = true
      · exact c
      · rw [if_neg c] at dn
        exact absurd (show ("game" : Str) = "done" from dn) (by decide +kernel)
    obtain ⟨n, rfl, hn⟩ := okGame_int ok
    have hg : z.gs[n]? = some z.gs[n] := List.getElem?_eq_getElem hn
    obtain ⟨a, ha, hH⟩ := hS.inner.get n hg
    have am : a ∈ is := List.mem_of_getElem? ha
    have fin : ∀ (kvs : List (Key × V)) (st : Str) (p : Addr), H p = none → nextZ z deed (.int (n : Nat)) v = { z with gs := setSt z.gs n st } →
        Q .non (L2.upd (L2.upd (L2.upd H p (.dK [])) p (.dK kvs)) a (.lst [.str z.gs[n].1, .str z.gs[n].2.1, .str st])) := fun kvs st p hp e => by
      have k1 : Same H (L2.upd (L2.upd H p (.dK [])) p (.dK kvs)) := same_upd (same_new hp _) hp
      have B : But3 Lo is H (L2.upd (L2.upd (L2.upd H p (.dK [])) p (.dK kvs)) a (.lst [.str z.gs[n].1, .str z.gs[n].2.1, .str st])) := fun b o hb _ n2 => by
        rw [upd_ne (fun e => n2 (by rw [e]; exact am))]
        exact k1 _ _ hb
      refine q _ ?_ B
      rw [e]
      have ne : Lo ≠ a := fun e => n5 (by rw [e]; exact am)
      have se : setSt z.gs n st = z.gs.set n (z.gs[n].1, z.gs[n].2.1, st) := by unfold setSt; rw [hg]
      have R := hS.step B (gs' := setSt z.gs n st) (gone' := z.gone) (go' := go) (by rw [se]; exact IsAt.put (g' := (z.gs[n].1, z.gs[n].2.1, st)) n6 (hS.inner.same k1) ha) (by rw [upd_ne ne]; exact k1 _ _ hgo) ego sub ndg
      exact R
    have at1 : atI (is.map V.ref) ((n : Nat) : Int) = some (.ref a) := atI_nat (by rw [List.getElem?_map, ha]; rfl)
    have store : ∀ (kvs : List (Key × V)) (p : Addr), H p = none → SqL K (L2.upd (L2.upd H p (.dK [])) p (.dK kvs)) Lg (is.map V.ref) ∧ (L2.upd (L2.upd H p (.dK [])) p (.dK kvs)) a = some (.lst [.str z.gs[n].1, .str z.gs[n].2.1, .str z.gs[n].2.2]) := fun kvs p hp => by
      have k1 : Same H (L2.upd (L2.upd H p (.dK [])) p (.dK kvs)) := same_upd (same_new hp _) hp
      exact ⟨SqL.of (k1 _ _ hS.games), k1 _ _ hH⟩
    rcases hd with rfl | rfl | rfl | rfl
    · obtain ⟨s, rfl⟩ : ∃ s, v = .str s := by
        unfold dueOf at dn
        rw [if_neg hw, if_pos ok] at dn
        cases v with
        | str s => exact ⟨s, rfl⟩
        | _ =>
          rw [if_pos ⟨rfl, rfl⟩] at dn
          exact absurd (show ("value" : Str) = "done" from dn) (by decide +kernel)
      refine fun p hp => ⟨_, rfl, upd_same, [(.inr "enter", .str s), (.inr "call_off", .str "off"), (.inr "reopen", .str "left")], rfl, by show 3 ≤ 15; decide, _, rfl, p, .str s, rfl, .inl ⟨_, .inr "enter", .inl upd_same, rfl, by kernel_rfl⟩, _, rfl, _, rfl, Lg, _, _, _, rfl, rfl, (store _ p hp).1, at1, a, _, 2, 2, rfl, rfl, (store _ p hp).2, rfl, fin _ s p hp ?_⟩
      unfold nextZ
      rw [if_neg hw, if_pos rfl]
      rfl
    · refine fun p hp => ⟨_, rfl, upd_same, [(.inr "enter", v), (.inr "call_off", .str "off"), (.inr "reopen", .str "left")], rfl, by show 3 ≤ 15; decide, _, rfl, p, .str "off", rfl, .inl ⟨_, .inr "call_off", .inl upd_same, rfl, by kernel_rfl⟩, _, rfl, _, rfl, Lg, _, _, _, rfl, rfl, (store _ p hp).1, at1, a, _, 2, 2, rfl, rfl, (store _ p hp).2, rfl, fin _ "off" p hp ?_⟩
      unfold nextZ
      rw [if_neg hw, if_neg (by decide +kernel), if_pos rfl]
      rfl
    · refine fun p hp => ⟨_, rfl, upd_same, [(.inr "enter", v), (.inr "call_off", .str "off"), (.inr "reopen", .str "left")], rfl, by show 3 ≤ 15; decide, _, rfl, p, .str "left", rfl, .inl ⟨_, .inr "reopen", .inl upd_same, rfl, by kernel_rfl⟩, _, rfl, _, rfl, Lg, _, _, _, rfl, rfl, (store _ p hp).1, at1, a, _, 2, 2, rfl, rfl, (store _ p hp).2, rfl, fin _ "left" p hp ?_⟩
      unfold nextZ
      rw [if_neg hw, if_neg (by decide +kernel), if_neg (by decide +kernel)]
      rfl
    · exact absurd rfl hw
end
end My

namespace My
open PySem PySem.Spec PyProof.Rows L2 SX
def rTupK (K : PySem.W.Frag) : List V → Hp → VK → Prop := fun xs H Q => ∃ p ys, xs = [.ref p] ∧ ((SqL K H p ys ∧ ∀ l, H l = none → Q (.ref l) (L2.upd H l (.tup ys))) ∨ (SqT K H p ys ∧ Q (.ref p) H))
theorem call_tupleK {X : Cx} {K : PySem.W.Frag} (h : X.K = K) : CallR X (.type "tuple") (rTupK K) := by rw [← h]; exact call_tuple_of
theorem eq_flat {H : Hp} {n : Nat} {a b : Addr} {xs : List V} (ha : H a = some (.tup xs)) (hb : H b = some (.tup xs)) (h1 : xs.length ≤ 1000) (hx : ∀ x ∈ xs, atom x = true) : EqN H (n + 1) (.ref a) (.ref b) :=
  EqN.tup ha hb rfl h1 fun i x y e1 e2 => by
    rw [e1] at e2
    obtain rfl := Option.some.inj e2
    exact EqN.atom (hx x (List.mem_of_getElem? e1))
theorem GsAt.at {H : Hp} : ∀ {as : List Addr} {gs : List G3} {i : Nat} {a : Addr}, GsAt H as gs → as[i]? = some a → ∃ g, gs[i]? = some g ∧ H a = some (.tup [.str g.1, .str g.2.1, .str g.2.2])
  | b :: _, g :: _, 0, a, ⟨h, _⟩, e => by
    rw [List.getElem?_cons_zero] at e
    rw [← Option.some.inj e]
    exact ⟨g, rfl, h⟩
  | _ :: _, _ :: _, i + 1, a, ⟨_, r⟩, e => by
    rw [List.getElem?_cons_succ] at e ⊢
    exact r.at e
  | [], [], i, a, _, e => by simp at e
  | [], _ :: _, _, _, h, _ => h.elim
  | _ :: _, [], _, _, h, _ => h.elim
theorem eq_games {H : Hp} {a b : Addr} {as bs : List Addr} {gs : List G3} (ha : H a = some (.tup (as.map V.ref))) (hb : H b = some (.tup (bs.map V.ref))) (ga : GsAt H as gs) (gb : GsAt H bs gs) (h80 : gs.length ≤ 80) : EqN H 2 (.ref a) (.ref b) := by
  refine EqN.tup ha hb (by rw [List.length_map, List.length_map, ga.len, gb.len]) (by rw [List.length_map, ga.len]; omega) fun i x y e1 e2 => ?_
  rw [List.getElem?_map] at e1 e2
  cases ea : as[i]? with
  | none => rw [ea] at e1; cases e1
  | some p =>
    cases eb : bs[i]? with
    | none => rw [eb] at e2; cases e2
    | some q =>
      rw [ea] at e1
      rw [eb] at e2
      obtain rfl := Option.some.inj e1
      obtain rfl := Option.some.inj e2
      obtain ⟨g1, h1, h2⟩ := ga.at ea
      obtain ⟨g2, h3, h4⟩ := gb.at eb
      rw [h1] at h3
      obtain rfl := Option.some.inj h3
      exact eq_flat h2 h4 (by show 3 ≤ 1000; decide) fun x hx => by
        simp only [List.mem_cons, List.not_mem_nil, or_false] at hx
        rcases hx with rfl | rfl | rfl <;> rfl
def spRight (K : PySem.W.Frag) : Sp := fun vs H Q _ => ∃ (g l pS Ls tS Lg Lo : Addr) (is : List Addr) (z : Lgv), vs = [.ref g, .ref pS] ∧ LgAt K H g l z ∧ StAt H pS Ls tS Lg Lo is z ∧ ∀ H', Same H H' → Q (.bl true) H'
section
variable {P : Program} {w : World} {K : PySem.W.Frag} {mg : Str → Option Value} {base : Heap}
theorem sc__law_state_right : C8.scC ["league", "state", "sides", "scheme", "games", "gone", "game", "k", "side"] ["league", "state"] (defScope s__law_state_right) = true := by decide +kernel
theorem c__law_state_right (T : TX K mg) : C8.Cal P w K mg base 4 "_law_state_right" (spRight K) [] := by
  refine cal T.h__law_state_right sc__law_state_right (fun _ _ _ _ _ _ us hl => match us, hl with | [_, _], _ => rfl) (fun vs H Q E h => ?_) (fun f cdv A outer s H vs Q E hr h => ?_)
  · obtain ⟨g, l, pS, Ls, tS, Lg, Lo, is, z, rfl, _⟩ := h
    rfl
  obtain ⟨g, l, pS, Ls, tS, Lg, Lo, is, z, rfl, hL, hS, q⟩ := h
  refine ⟨_, (pss_cons (ps_asg (pv 1) (pg_tup rfl (pgs_cons (pg_name (i := 2) (C8.fnScope_by sc__law_state_right).nd rfl (Or.inl rfl)) (pgs_cons (pg_name (i := 3) (C8.fnScope_by sc__law_state_right).nd rfl (Or.inl rfl)) (pgs_cons (pg_name (i := 4) (C8.fnScope_by sc__law_state_right).nd rfl (Or.inr rfl)) (pgs_cons (pg_name (i := 5) (C8.fnScope_by sc__law_state_right).nd rfl (Or.inr rfl)) pgs_nil))))))
    (pss_cons (ps_if (pt_not (pt_val (C8.pe_c (c_same T 3) hr (by decide) (by rfl) (pa_cons (C8.pe_mt0 (c_m_games T) hr (by decide) (pv 0)) (pa_cons (pe_callTy call_tuple_of (by rfl) T.B.tuple (by decide +kernel) (pa_cons (pe_lc (own := [("game", 6)]) (g := (gName 6)) (tt := tYes) (by rfl) (C8.fnScope_by sc__law_state_right).nd (pi_list (pv 4)) (blkOk_by (own := [("game", 6)]) (N := ["league", "state", "sides", "scheme", "games", "gone", "game", "k", "side"]) (sc := defScope s__law_state_right) (by decide +kernel)) (fun _ _ _ _ _ => pg_name (i := 6) (C8.fnScope_by sc__law_state_right).nd rfl (Or.inl rfl)) (fun _ _ _ _ _ => pts_nil) (fun _ _ _ _ _ => (pe_callTy (call_tupleK (K := K) rfl) (by rfl) T.B.tuple (by decide +kernel) (pa_cons (pv 6) pa_nil)))) pa_nil)) pa_nil))))) (pss_one (ps_ret pe_bl)) pss_nil)
    (pss_cons (ps_if (pt_not (pt_val (C8.pe_c (c_same T 3) hr (by decide) (by rfl) (pa_cons (C8.pe_mt0 (c_m_left T) hr (by decide) (pv 0)) (pa_cons (pe_callTy call_tuple_of (by rfl) T.B.tuple (by decide +kernel) (pa_cons (pe_lc (own := [("k", 7)]) (g := (gName 7)) (tt := _) (by rfl) (C8.fnScope_by sc__law_state_right).nd (pi_range1 (by rfl) T.B.range (pa_cons (pe_callB call_len_seq (by rfl) T.B.len (by decide +kernel) (pa_cons (pv 4) pa_nil)) pa_nil)) (blkOk_by (own := [("k", 7)]) (N := ["league", "state", "sides", "scheme", "games", "gone", "game", "k", "side"]) (sc := defScope s__law_state_right) (by decide +kernel)) (fun _ _ _ _ _ => pg_name (i := 7) (C8.fnScope_by sc__law_state_right).nd rfl (Or.inl rfl)) (fun _ _ _ _ _ => (pts_one (pt_cmpR op_eq (pe_ix (ix_listK (K := K) rfl) (pe_ix (ix_listK (K := K) rfl) (pv 4) (pv 7) (fun _ _ => rfl)) pe_int (fun _ _ => rfl)) pe_str (nomark _)))) (fun _ _ _ _ _ => (pv 7))) pa_nil)) pa_nil))))) (pss_one (ps_ret pe_bl)) pss_nil)
    (pss_one (ps_ret (C8.pe_c (c_same T 3) hr (by decide) (by rfl) (pa_cons (C8.pe_mt0 (c_m_withdrawn T) hr (by decide) (pv 0)) (pa_cons (pe_callTy call_tuple_of (by rfl) T.B.tuple (by decide +kernel) (pa_cons (pe_lc (own := [("side", 8)]) (g := (gName 8)) (tt := _) (by rfl) (C8.fnScope_by sc__law_state_right).nd (pi_list (pv 2)) (blkOk_by (own := [("side", 8)]) (N := ["league", "state", "sides", "scheme", "games", "gone", "game", "k", "side"]) (sc := defScope s__law_state_right) (by decide +kernel)) (fun _ _ _ _ _ => pg_name (i := 8) (C8.fnScope_by sc__law_state_right).nd rfl (Or.inl rfl)) (fun _ _ _ _ _ => (pts_one (pt_cmpR (op_inK (K := K) rfl) (pv 8) (pv 5) (by rfl)))) (fun _ _ _ _ _ => (pv 8))) pa_nil)) pa_nil)))))))), ?_⟩
  obtain ⟨go, hgo, ego, sub, ndg⟩ := hS.go
  obtain ⟨dx, ts, tc, tr, tg, as, h1, h2, h3, h4, h5, h6⟩ := hL.ex
  refine ⟨_, rfl, pS, _, rfl, SqT.of hS.st, rfl, _, _, rfl, _, _, rfl, _, _, rfl, _, _, rfl, rfl, ?_⟩
  -- games
  refine ⟨_, rfl, g, dx, _, rfl, h1, lf_m (by decide +kernel), g, l, z, rfl, hL, fun H1 t as1 s1 ht1 hg1 => ?_⟩
  refine ⟨_, rfl, Lg, rfl, ⟨_, SqL.of (s1 _ _ hS.games)⟩, fun D hD => lc_list (K := K) (a := Lg) (xs := is.map V.ref) (fun i H' => Same H1 H' ∧ ∃ bs : List Addr, bs.length = i ∧ H' D = some (.lst (bs.map V.ref)) ∧ GsAt H' bs (z.gs.take i)) ⟨same_new hD _, [], rfl, upd_same, trivial⟩ (fun i H' _ h => SqL.of (h.1 _ _ (s1 _ _ hS.games))) ?_ ?_⟩
  · rintro i x H2 hi ⟨s2, bs, hbl, e2, gb⟩
    have hi2 : i < is.length := by
      have q := (List.getElem?_eq_some_iff.mp hi).1
      rwa [List.length_map] at q
    obtain rfl : x = V.ref is[i] := by
      rw [List.getElem?_map, List.getElem?_eq_getElem hi2] at hi
      exact (Option.some.inj hi).symm
    have hi3 : i < z.gs.length := by rw [← hS.inner.len]; exact hi2
    have hg : z.gs[i]? = some z.gs[i] := List.getElem?_eq_getElem hi3
    obtain ⟨a, ha, hH⟩ := hS.inner.get i hg
    have ea : is[i] = a := by
      rw [List.getElem?_eq_getElem hi2] at ha
      exact Option.some.inj ha
    rw [ea]
    refine ⟨rfl, ?_⟩
    delta tYes
    dsimp only
    rw [if_pos rfl]
    refine ⟨_, rfl, a, _, rfl, .inl ⟨SqL.of (s2 _ _ (s1 _ _ hH)), fun tn htn => ?_⟩⟩
    have k := same_new htn (.tup [.str z.gs[i].1, .str z.gs[i].2.1, .str z.gs[i].2.2])
    refine ⟨_, k _ _ e2, by rw [List.length_map, hbl]; have := hL.small; exact small1000 (by omega), same_upd (Same.trans s2 k) hD, bs ++ [tn], by rw [List.length_append, hbl]; rfl, by rw [upd_same, List.map_append]; rfl, ?_⟩
    refine GsAt.upd (k _ _ e2) ?_
    rw [List.take_succ, hg]
    exact GsAt.snoc (g := z.gs[i]) upd_same (gb.same k)
  rintro H2 ⟨s2, bs, hbl, e2, gb⟩
  rw [List.length_map, hS.inner.len, List.take_length] at gb
  refine ⟨D, _, rfl, .inl ⟨SqL.of e2, fun t2 ht2 => ?_⟩⟩
  have k2 := same_new ht2 (.tup (bs.map V.ref))
  refine ⟨.ref t, .ref t2, rfl, eq_games (k2 _ _ (s2 _ _ ht1)) upd_same (hg1.same (Same.trans s2 k2)) (gb.same k2) hL.small, fun H3 s3 => ⟨true, rfl, ifF (c := !true) rfl ?_⟩⟩
  have S3 := Same.trans s1 (Same.trans s2 (Same.trans k2 s3))
  -- left
  have hL3 := hL.same S3
  have hS3 := hS.same S3
  clear hD e2 gb k2 s3 ht2 hbl s2 hg1 ht1 s1
  refine ⟨_, rfl, g, dx, _, rfl, S3 _ _ h1, lf_m (by decide +kernel), g, l, z, rfl, hL3, fun H4 t s4 ht4 => ?_⟩
  have S4 := Same.trans S3 s4
  refine ⟨_, rfl, Lg, _, rfl, .inl (SqL.of (S4 _ _ hS.games)), _, rfl, by rw [List.length_map, hS.inner.len]; have := hL.small; omega, by rw [List.length_map, hS.inner.len]; have := hL.small; omega, ?_⟩
  rw [List.length_map, hS.inner.len, Int.toNat_natCast]
  refine fun D2 hD2 => lc_range (lo := 0) (n := z.gs.length) (fun i H' => Same H4 H' ∧ H' D2 = some (.lst (((List.range i).filter (isLeft z.gs)).map fun n => V.int (n : Nat)))) ⟨same_new hD2 _, upd_same⟩ ?_ ?_
  · rintro i H5 hi ⟨s5, e5⟩
    have hg : z.gs[i]? = some z.gs[i] := List.getElem?_eq_getElem hi
    obtain ⟨a, ha, hH⟩ := hS.inner.get i hg
    have S5 := Same.trans S4 s5
    refine ⟨rfl, _, rfl, _, rfl, Lg, _, _, .ref a, rfl, rfl, SqL.of (S5 _ _ hS.games), at_of (j := i) (by omega) (by rw [List.getElem?_map, ha]; rfl), a, _, 2, _, rfl, rfl, SqL.of (S5 _ _ hH), rfl, rfl, _, rfl, ?_⟩
    have isl : isLeft z.gs i = decide (z.gs[i].2.2 = ("left" : Str)) := by unfold isLeft; rw [hg]
    by_cases c : z.gs[i].2.2 = "left"
    · refine ifT (decide_eq_true (by rw [c])) ⟨_, rfl, _, e5, ?_, same_upd s5 hD2, ?_⟩
      · rw [List.length_map]
        have l1 := List.length_filter_le (isLeft z.gs) (List.range i)
        rw [List.length_range] at l1
        have := hL.small
        exact small1000 (by omega)
      · rw [upd_same, Int.zero_add, List.range_succ, List.filter_append, List.map_append, List.filter_cons, if_pos (by rw [isl]; exact decide_eq_true c)]
        rfl
    · refine ifF (decide_eq_false fun q => c (V.str.inj q)) ⟨s5, ?_⟩
      rw [List.range_succ, List.filter_append, List.map_append, List.filter_cons, if_neg (by rw [isl, decide_eq_false c]; exact Bool.false_ne_true)]
      rw [show List.filter (isLeft z.gs) ([] : List Nat) = [] from rfl, List.map_nil, List.append_nil]
      exact e5
  rintro H5 ⟨s5, e5⟩
  refine ⟨D2, _, rfl, .inl ⟨SqL.of e5, fun t5 ht5 => ?_⟩⟩
  have k5 := same_new ht5 (.tup (((List.range z.gs.length).filter (isLeft z.gs)).map fun n => V.int (n : Nat)))
  refine ⟨.ref t, .ref t5, rfl, eq_flat (k5 _ _ (s5 _ _ ht4)) upd_same ?_ ?_, fun H6 s6 => ⟨true, rfl, ifF (c := !true) rfl ?_⟩⟩
  · rw [List.length_map]
    have l1 := List.length_filter_le (isLeft z.gs) (List.range z.gs.length)
    rw [List.length_range] at l1
    have := hL.small
    show (leftNs z.gs).length ≤ 1000
    unfold leftNs
    omega
  · intro x hx
    obtain ⟨n, _, rfl⟩ := List.mem_map.mp hx
    rfl
  have S6 := Same.trans S4 (Same.trans s5 (Same.trans k5 s6))
  clear hD2 e5 k5 s6 ht5 s5 ht4 s4
  -- withdrawn
  refine ⟨_, rfl, g, dx, _, rfl, S6 _ _ h1, lf_m (by decide +kernel), g, l, z, rfl, hL.same S6, fun t ht => ?_⟩
  refine ⟨_, rfl, Ls, rfl, ⟨_, SqL.of (S6 _ _ hS.sides)⟩, fun D hD => lc_list (K := K) (a := Ls) (xs := z.ss.map V.str) (fun i H' => Same H6 H' ∧ H' D = some (.lst (((z.ss.take i).filter fun n => go.contains n).map V.str))) ⟨same_new hD _, upd_same⟩ (fun i H' _ h => SqL.of (h.1 _ _ (S6 _ _ hS.sides))) ?_ ?_⟩
  · rintro i x H7 hi ⟨s7, e7⟩
    have hi2 : i < z.ss.length := by
      have q := (List.getElem?_eq_some_iff.mp hi).1
      rwa [List.length_map] at q
    obtain rfl : x = V.str z.ss[i] := by
      rw [List.getElem?_map, List.getElem?_eq_getElem hi2] at hi
      exact (Option.some.inj hi).symm
    have tk : z.ss.take (i + 1) = z.ss.take i ++ [z.ss[i]] := by rw [List.take_succ, List.getElem?_eq_getElem hi2]; rfl
    refine ⟨rfl, _, rfl, _, rfl, Lo, _, rfl, .inl (SqL.of (s7 _ _ (S6 _ _ hgo))), rfl, flat_strs _, _, rfl, ?_⟩
    rw [show (if false = true then !inV (V.str z.ss[i]) (go.map V.str) else inV (V.str z.ss[i]) (go.map V.str)) = go.contains z.ss[i] from inV_str _ _, tk, List.filter_append, List.map_append]
    cases c : go.contains z.ss[i] with
    | true =>
      refine ifT (c := true) rfl ⟨_, rfl, _, e7, ?_, same_upd s7 hD, ?_⟩
      · rw [List.length_map]
        have l1 := List.length_filter_le (fun n => go.contains n) (z.ss.take i)
        have l2 : (z.ss.take i).length = min i z.ss.length := List.length_take
        have := hL.len8
        exact small1000 (by omega)
      · rw [upd_same, List.filter_cons, if_pos c]
        rfl
    | false =>
      refine ifF (c := false) rfl ⟨s7, ?_⟩
      rw [List.filter_cons, if_neg (by rw [c]; exact Bool.false_ne_true), List.filter_nil, List.map_nil, List.append_nil]
      exact e7
  rintro H7 ⟨s7, e7⟩
  rw [List.length_map, List.take_length, ← ego] at e7
  refine ⟨D, _, rfl, .inl ⟨SqL.of e7, fun t7 ht7 => ?_⟩⟩
  have k7 := same_new ht7 (.tup (z.gone.map V.str))
  refine ⟨.ref t, .ref t7, rfl, eq_flat (k7 _ _ (s7 _ _ ht)) upd_same ?_ ?_, fun H8 s8 => q H8 (Same.trans S6 (Same.trans s7 (Same.trans k7 s8)))⟩
  · rw [List.length_map, ego]
    have l1 := List.length_filter_le (fun n => go.contains n) z.ss
    have := hL.len8
    omega
  · intro x hx
    obtain ⟨n, _, rfl⟩ := List.mem_map.mp hx
    rfl
end
end My

namespace My
open PySem PySem.Spec PyProof.Rows L2 SX
def okAt (x : V) : Prop := atom x = true ∧ ∀ s, x = .str s → PyData.strOk s = true
/-- an atom, or a list or tuple of at most one -/
def Smp (H : Hp) (v : V) : Prop := atom v = true ∨ ∃ (a : Addr) (xs : List V), v = .ref a ∧ (H a = some (.tup xs) ∨ H a = some (.lst xs)) ∧ xs.length ≤ 1 ∧ ∀ x ∈ xs, okAt x
theorem Smp.same {H H' : Hp} {v : V} (k : Same H H') (h : Smp H v) : Smp H' v := h.elim .inl fun ⟨a, xs, e, h1, h2⟩ => .inr ⟨a, xs, e, h1.elim (fun z => .inl (k _ _ z)) (fun z => .inr (k _ _ z)), h2⟩
theorem Smp.but {H H' : Hp} {a l : Addr} {v : V} (f : FlowL H a l) (k : But a H H') (h : Smp H v) : Smp H' v := by
  rcases h with h | ⟨b, xs, e, h1, h2, h3⟩
  · exact .inl h
  · obtain ⟨ns, i, x, c, m, o, f1, _⟩ := f
    have ne : b ≠ a := fun e => by
      rw [e, f1] at h1
      rcases h1 with z | z
      · cases z
      · have q := HO.lst.inj (Option.some.inj z)
        rw [← q] at h2
        exact absurd (show 6 ≤ 1 from h2) (by decide)
    exact .inr ⟨b, xs, e, h1.elim (fun z => .inl (k _ _ z ne)) (fun z => .inr (k _ _ z ne)), h2, h3⟩
theorem Smp.eq {H : Hp} {v : V} (h : Smp H v) : EqN H 1 v v := by
  rcases h with h | ⟨a, xs, rfl, h1, h2, h3⟩
  · exact EqN.atom h
  · refine .inr ⟨a, a, xs, xs, rfl, rfl, h1.elim (fun z => .inl ⟨z, z⟩) (fun z => .inr ⟨z, z⟩), rfl, by omega, fun i x y e1 e2 => ?_⟩
    rw [e1] at e2
    obtain rfl := Option.some.inj e2
    exact EqN.atom (h3 x (List.mem_of_getElem? e1)).1
theorem dp_at {K : PySem.W.Frag} {H : Hp} {x : V} (h : okAt x) : ∃ d, Dp K H x d ∧ d.canLay0 = true ∧ d.depth = 0 := by
  obtain ⟨h1, h2⟩ := h
  cases x with
  | non => exact ⟨_, .non, rfl, rfl⟩
  | bl b => exact ⟨_, .bl b, rfl, rfl⟩
  | int i => exact ⟨_, .int i, rfl, rfl⟩
  | str s => exact ⟨_, .str s, h2 s rfl, rfl⟩
  | _ => cases h1
theorem Smp.odd {K : PySem.W.Frag} {H : Hp} {v : V} (h : Smp H v) : Odd K H v := by
  rcases h with h | ⟨a, xs, rfl, h1, h2, h3⟩
  · exact .inl h
  · have all : ∃ ds, DpAll K H xs ds ∧ PyData.canLayAll0 ds = true ∧ PyData.depthAll ds = 0 := by
      cases xs with
      | nil => exact ⟨[], .nil, rfl, rfl⟩
      | cons x r =>
        cases r with
        | cons _ _ => simp only [List.length_cons] at h2; omega
        | nil =>
          obtain ⟨d, d1, d2, d3⟩ := dp_at (K := K) (H := H) (h3 x (List.mem_cons_self ..))
          refine ⟨[d], .cons d1 .nil, ?_, ?_⟩
          · show (d.canLay0 && PyData.canLayAll0 []) = true
            rw [d2]
            rfl
          · show max d.depth 0 = 0
            rw [d3]
            rfl
    obtain ⟨ds, e1, e2, e3⟩ := all
    refine .inr ?_
    rcases h1 with h1 | h1
    · refine ⟨a, xs, .tuple ds, rfl, .inl h1, .tup (SqT.of h1) e1, ?_⟩
      unfold SeqAt.shaped
      rw [Bool.and_eq_true]
      refine ⟨e2, decide_eq_true ?_⟩
      show PyData.depthAll ds + 1 ≤ 64
      rw [e3]
      decide
    · refine ⟨a, xs, .list ds, rfl, .inr h1, .lst (SqL.of h1) e1, ?_⟩
      unfold SeqAt.shaped
      rw [Bool.and_eq_true]
      refine ⟨e2, decide_eq_true ?_⟩
      show PyData.depthAll ds + 1 ≤ 64
      rw [e3]
      decide
theorem StAt.but {H H' : Hp} {a l pS Ls tS Lg Lo : Addr} {is : List Addr} {z : Lgv} (h : StAt H pS Ls tS Lg Lo is z) (f : FlowL H a l) (na : a ∉ Ls :: Lg :: Lo :: is) (k : But a H H') : StAt H' pS Ls tS Lg Lo is z := by
  obtain ⟨go, g1, g2⟩ := h.go
  have tupk : ∀ {b : Addr} {xs : List V}, H b = some (.tup xs) → H' b = some (.tup xs) := fun {b xs} hb => k b _ hb fun e => by
    obtain ⟨ns, i, x, c, m, o, f1, _⟩ := f
    rw [e, f1] at hb
    cases hb
  have mem : ∀ {b : Addr} {o : HO}, b ∈ Ls :: Lg :: Lo :: is → H b = some o → H' b = some o := fun {b o} m hb => k b o hb fun e => na (by rw [← e]; exact m)
  have inn : ∀ {is' : List Addr} {gs : List G3}, (∀ b ∈ is', b ∈ is) → IsAt H is' gs → IsAt H' is' gs := by
    intro is'
    induction is' with
    | nil =>
      intro gs _ hi
      cases gs with
      | nil => trivial
      | cons _ _ => exact hi.elim
    | cons b r ih =>
      intro gs hm hi
      cases gs with
      | nil => exact hi.elim
      | cons g s => exact ⟨mem (by have := hm b (List.mem_cons_self ..); simp [this]) hi.1, ih (fun c hc => hm c (List.mem_cons_of_mem _ hc)) hi.2⟩
  exact ⟨tupk h.st, mem (by simp) h.sides, tupk h.scm, mem (by simp) h.games, inn (fun _ m => m) h.inner, ⟨go, mem (by simp) g1, g2⟩, h.nd⟩
theorem small_log (n : Nat) (h : n ≤ 1000) : ((n : Nat) : Int).natAbs.log2 < 1920 := by
  rw [Int.natAbs_natCast]
  by_cases e : n = 0
  · rw [e]; decide
  · exact (Nat.log2_lt e).mpr (Nat.lt_of_le_of_lt h (Nat.lt_of_lt_of_le (by decide : 1000 < 2 ^ 10) (Nat.pow_le_pow_right (by decide) (by decide))))
theorem pick_smp {K : PySem.W.Frag} {H : Hp} {a l q : Addr} {ys : List V} {Q : VK} (f : FlowL H a l) (hq : H q = some (.lst ys)) (nq : q ≠ a) (p0 : 0 < ys.length) (p1 : ys.length < 100000) (hs : ∀ x ∈ ys, Smp H x) (k : ∀ H' x, FlowL H' a l → But a H H' → x ∈ ys → Smp H' x → Q x H') : spPickL K [.ref a, .ref q] H Q C8.E0 :=
  ⟨a, l, q, ys, rfl, f, SqL.of hq, fun H' b => SqL.of (b _ _ hq nq), p0, p1, fun H' x f' b' hx => k H' x f' b' hx ((hs x hx).but f b')⟩
def four (d : Str) : Prop := d = "enter" ∨ d = "call_off" ∨ d = "reopen" ∨ d = "withdraw"
def spDeed : Sp := fun vs H Q _ => ∃ (a l pS Ls tS Lg Lo : Addr) (is : List Addr) (z : Lgv), vs = [.ref a, .ref pS] ∧ FlowL H a l ∧ StAt H pS Ls tS Lg Lo is z ∧ a ∉ Ls :: Lg :: Lo :: is ∧ (∀ s ∈ z.ss, IsName s) ∧ 2 ≤ z.ss.length ∧ z.ss.length ≤ 8 ∧ 1 ≤ z.gs.length ∧ z.gs.length ≤ 80 ∧
  ∀ (H' : Hp) (t : Addr) (d : Str) (u v : V), FlowL H' a l → But a H H' → H' t = some (.tup [.str d, u, v]) → four d → Smp H' u → Smp H' v → Q (.ref t) H'
section
variable {P : Program} {w : World} {K : PySem.W.Frag} {mg : Str → Option Value} {base : Heap}
theorem sc__law_deed : C8.scC ["flow", "state", "sides", "scheme", "games", "gone", "one", "two", "kind", "far", "odd", "deed", "wrong"] ["flow", "state"] (defScope s__law_deed) = true := by decide +kernel
theorem c__law_deed (T : TX K mg) : C8.Cal P w K mg base 4 "_law_deed" spDeed [] := by
  refine cal T.h__law_deed sc__law_deed (fun _ _ _ _ _ _ us hl => match us, hl with | [_, _], _ => rfl) (fun vs H Q E h => ?_) (fun f cdv A outer s H vs Q E hr h => ?_)
  · obtain ⟨a, l, pS, Ls, tS, Lg, Lo, is, z, rfl, _⟩ := h
    rfl
  obtain ⟨a, l, pS, Ls, tS, Lg, Lo, is, z, rfl, hf, hS, na, hn, h2, h8, g1, g80, q⟩ := h
  refine ⟨_, (pss_cons (ps_asg (pv 1) (pg_tup rfl (pgs_cons (pg_name (i := 2) (C8.fnScope_by sc__law_deed).nd rfl (Or.inl rfl)) (pgs_cons (pg_name (i := 3) (C8.fnScope_by sc__law_deed).nd rfl (Or.inl rfl)) (pgs_cons (pg_name (i := 4) (C8.fnScope_by sc__law_deed).nd rfl (Or.inl rfl)) (pgs_cons (pg_name (i := 5) (C8.fnScope_by sc__law_deed).nd rfl (Or.inl rfl)) pgs_nil))))))
    (pss_cons (ps_set (i := 6) (C8.fnScope_by sc__law_deed).nd rfl (Or.inl rfl) (C8.pe_c (c__law_draw T) hr (by decide) (by rfl) (pa_cons (pv 0) (pa_cons (pe_callB call_len_seq (by rfl) T.B.len (by decide +kernel) (pa_cons (pv 4) pa_nil)) pa_nil))))
    (pss_cons (ps_set (i := 7) (C8.fnScope_by sc__law_deed).nd rfl (Or.inl rfl) (C8.pe_c (c__law_pick T) hr (by decide) (by rfl) (pa_cons (pv 0) (pa_cons (pe_lst (pa_cons pe_str (pa_cons pe_str (pa_cons pe_str (pa_cons pe_str (pa_cons pe_str pa_nil)))))) pa_nil))))
    (pss_cons (ps_set (i := 8) (C8.fnScope_by sc__law_deed).nd rfl (Or.inl rfl) (C8.pe_c (c__law_draw T) hr (by decide) (by rfl) (pa_cons (pv 0) (pa_cons pe_int pa_nil))))
    (C8.pss_cut (ps_if (pt_cmpR op_eq (pv 8) pe_int (nomark _)) (pss_one (ps_ret (pe_tup (pa_cons pe_str (pa_cons (C8.pe_c (c__law_pick T) hr (by decide) (by rfl) (pa_cons (pv 0) (pa_cons (pe_op op_cat (pv 2) (pe_lst (pa_cons pe_non (pa_cons pe_bl (pa_cons pe_str (pa_cons pe_int (pa_cons (pe_tup (pa_cons (pe_ix ix_list (pv 2) pe_int (fun _ _ => rfl)) pa_nil)) (pa_cons (pe_upper (pe_ix ix_list (pv 2) pe_int (fun _ _ => rfl))) (pa_cons (pe_lst (pa_cons (pe_ix ix_list (pv 2) (pe_un un_neg pe_int) (fun _ _ => rfl)) pa_nil)) pa_nil))))))))) pa_nil))) (pa_cons pe_int pa_nil)))))) pss_nil)
    (C8.pss_cut (ps_if (pt_cmpR op_lt (pv 8) pe_int (nomark _)) (pss_cons (ps_set (i := 9) (C8.fnScope_by sc__law_deed).nd rfl (Or.inl rfl) (pe_op op_add (pe_callB call_len_seq (by rfl) T.B.len (by decide +kernel) (pa_cons (pv 4) pa_nil)) (C8.pe_c (c__law_draw T) hr (by decide) (by rfl) (pa_cons (pv 0) (pa_cons (pe_op op_pow pe_int pe_int) pa_nil)))))
    (C8.pss_cut (ps_set (i := 10) (C8.fnScope_by sc__law_deed).nd rfl (Or.inl rfl) (pe_lst (pa_cons (pe_un un_neg pe_int) (pa_cons (pe_callB call_len_seq (by rfl) T.B.len (by decide +kernel) (pa_cons (pv 4) pa_nil)) (pa_cons (pv 9) (pa_cons pe_non (pa_cons (pe_callTy call_str_int (by rfl) T.B.str (by decide +kernel) (pa_cons (pv 6) pa_nil)) (pa_cons (pe_tup (pa_cons (pv 6) pa_nil)) (pa_cons (pe_lst (pa_cons (pv 6) pa_nil)) (pa_cons pe_str (pa_cons (pe_tup pa_nil) (pa_cons pe_bl (pa_cons pe_bl (pa_cons (pv 6) pa_nil))))))))))))))
    (pss_cons (ps_set (i := 11) (C8.fnScope_by sc__law_deed).nd rfl (Or.inl rfl) (C8.pe_c (c__law_pick T) hr (by decide) (by rfl) (pa_cons (pv 0) (pa_cons (pe_lst (pa_cons pe_str (pa_cons pe_str (pa_cons pe_str (pa_cons pe_str pa_nil))))) pa_nil))))
    (pss_cons (ps_set (i := 12) (C8.fnScope_by sc__law_deed).nd rfl (Or.inl rfl) (pe_lst (pa_cons (pv 7) (pa_cons pe_non (pa_cons pe_str (pa_cons pe_str (pa_cons pe_int pa_nil)))))))
    (C8.pss_cut (ps_if (pt_cmpR op_ne (pv 11) pe_str (nomark _)) (pss_one (ps_set (i := 10) (C8.fnScope_by sc__law_deed).nd rfl (Or.inl rfl) (pe_slice sl_list (pv 10) po_none (po_some (pe_un un_neg pe_int))))) pss_nil)
    (pss_one (ps_ret (pe_tup (pa_cons (pv 11) (pa_cons (C8.pe_c (c__law_pick T) hr (by decide) (by rfl) (pa_cons (pv 0) (pa_cons (pv 10) pa_nil))) (pa_cons (C8.pe_c (c__law_pick T) hr (by decide) (by rfl) (pa_cons (pv 0) (pa_cons (pv 12) pa_nil))) pa_nil))))))))))) pss_nil)
    (C8.pss_cut (ps_if (pt_cmpR op_eq (pv 8) pe_int (nomark _)) (C8.pss_cut (ps_set (i := 10) (C8.fnScope_by sc__law_deed).nd rfl (Or.inl rfl) (pe_lst (pa_cons pe_str (pa_cons pe_str (pa_cons pe_str (pa_cons pe_str (pa_cons pe_str (pa_cons pe_non (pa_cons pe_int (pa_cons (pe_tup (pa_cons pe_str pa_nil)) (pa_cons (pe_lst (pa_cons pe_str pa_nil)) (pa_cons pe_str (pa_cons pe_str (pa_cons (pe_tup pa_nil) (pa_cons (pe_un un_neg pe_int) (pa_cons pe_bl pa_nil))))))))))))))))
    (pss_one (ps_ret (pe_tup (pa_cons pe_str (pa_cons (pv 6) (pa_cons (C8.pe_c (c__law_pick T) hr (by decide) (by rfl) (pa_cons (pv 0) (pa_cons (pv 10) pa_nil))) pa_nil))))))) pss_nil)
    (C8.pss_cut (ps_if (pt_cmpR op_lt (pv 8) pe_int (nomark _)) (pss_one (ps_ret (pe_tup (pa_cons (pe_ix ix_list (pe_lst (pa_cons pe_str (pa_cons pe_str pa_nil))) (pe_op op_sub (pv 8) pe_int) (fun _ _ => rfl)) (pa_cons (pv 6) (pa_cons pe_int pa_nil)))))) pss_nil)
    (pss_one (ps_ret (pe_tup (pa_cons pe_str (pa_cons (pv 6) (pa_cons (pv 7) pa_nil)))))))))))))), ?_⟩
  have fin : ∀ (H1 : Hp) (d : Str) (u v : V), FlowL H1 a l → But a H H1 → four d → Smp H1 u → Smp H1 v → 3 ≤ sizeLine ∧ ∀ t, H1 t = none → Q (.ref t) (L2.upd H1 t (.tup [.str d, u, v])) := fun H1 d u v f b hd hu hv => ⟨by decide, fun t ht =>
    q _ t d u v (f.keep (same_new ht _)) (b.trans (But.same (same_new ht _))) upd_same hd (hu.same (same_new ht _)) (hv.same (same_new ht _))⟩
  refine ⟨_, rfl, pS, _, rfl, SqT.of hS.st, rfl, _, _, rfl, _, _, rfl, _, _, rfl, _, _, rfl, rfl, ?_⟩
  refine ⟨_, rfl, _, rfl, Lg, _, rfl, .inl (SqL.of hS.games), a, l, _, rfl, hf, small400 ?_, fun H1 r1 f1 b1 r10 r11 => ?_⟩
  · rw [List.length_map, hS.inner.len]
    exact Nat.lt_of_le_of_lt (show ((z.gs.length : Nat) : Int).natAbs ≤ 80 by omega) (by decide)
  rw [List.length_map, hS.inner.len] at r11
  have r12 : r1 < (z.gs.length : Nat) := by
    unfold mx at r11
    split at r11 <;> omega
  obtain ⟨n, rfl⟩ : ∃ n : Nat, r1 = n := ⟨r1.toNat, by omega⟩
  have hS1 := hS.but hf na b1
  -- two
  refine ⟨_, rfl, by show 5 ≤ sizeLine; decide, fun p1 hp1 => ?_⟩
  have k1 := same_new hp1 (.lst ((["home", "draw", "away", "home", "away"] : List Str).map V.str))
  refine pick_smp (ys := (["home", "draw", "away", "home", "away"] : List Str).map V.str) (f1.keep k1) upd_same (f1.neq hp1).1 (by decide) (by show 5 < 100000; decide) (fun x hx => ?_) (fun H2 x f2 b2 hx sx => ?_)
  · obtain ⟨s, _, rfl⟩ := List.mem_map.mp hx
    exact .inl rfl
  obtain ⟨two, _, rfl⟩ := List.mem_map.mp hx
  clear hx sx
  have B2 := (b1.trans (But.same k1)).trans b2
  have hS2 := (hS1.same k1).but (f1.keep k1) na b2
  clear b2 k1 hp1
  -- kind
  refine ⟨_, rfl, a, l, 12, rfl, f2, small400 (by decide), fun H3 kk f3 b3 kk0 kk1 => ?_⟩
  have kk12 : kk < 12 := kk1
  have hS3 := hS2.but f2 na b3
  have B3 := B2.trans b3
  clear b3 hS2 B2 hS1
  refine ⟨fun σ' H' => kk ≠ 0 ∧ (∃ x1 x2 x3 x4, σ' = [some (.ref a), some (.ref pS), some (.ref Ls), some (.ref tS), some (.ref Lg), some (.ref Lo), some (.int (n : Nat)), some (.str two), some (.int kk), x1, x2, x3, x4]) ∧ H3 = H', ⟨_, rfl, rfl, _, rfl, ?_⟩, ?_⟩
  · refine ite2 (fun c => ?_) (fun c => ⟨fun e => c (decide_eq_true (by rw [e])), ⟨_, _, _, _, rfl⟩, rfl⟩)
    obtain ⟨s0, r0, e0⟩ : ∃ s0 r0, z.ss = s0 :: r0 := by
      cases e : z.ss with
      | nil => rw [e] at h2; simp only [List.length_nil] at h2; omega
      | cons x r => exact ⟨x, r, rfl⟩
    have hne : z.ss ≠ [] := by rw [e0]; exact List.cons_ne_nil _ _
    have at0 : atI (z.ss.map V.str) 0 = some (.str s0) := at_of (j := 0) rfl (by rw [e0]; rfl)
    have atl : atI (z.ss.map V.str) (-1) = some (.str (z.ss.getLast hne)) := by
      have e := List.dropLast_concat_getLast hne
      have e2 : z.ss.map V.str = z.ss.dropLast.map V.str ++ [V.str (z.ss.getLast hne)] := by
        conv => lhs; rw [← e]
        rw [List.map_append]
        rfl
      rw [e2]
      exact atI_last _ _
    have n0 : IsName s0 := hn s0 (by rw [e0]; exact List.mem_cons_self ..)
    have nl : IsName (z.ss.getLast hne) := hn _ (List.getLast_mem hne)
    refine ⟨_, rfl, _, rfl, _, rfl, Ls, _, 0, _, rfl, rfl, SqL.of hS3.sides, at0, by show 1 ≤ sizeLine; decide, fun t1 ht1 => ?_⟩
    have k1 := same_new ht1 (.tup [.str s0])
    refine ⟨_, rfl, Ls, _, 0, _, rfl, rfl, SqL.of (k1 _ _ hS3.sides), at0, ⟨_, rfl⟩, s0, rfl, rfl, Nat.le_trans n0.len.2 (by decide), ?_⟩
    refine ⟨_, rfl, _, rfl, Ls, _, _, _, rfl, rfl, SqL.of (k1 _ _ hS3.sides), atl, by show 1 ≤ sizeLine; decide, fun t2 ht2 => ⟨by show 7 ≤ sizeLine; decide, fun t3 ht3 => ?_⟩⟩
    have k2 := same_new ht2 (.lst [.str (z.ss.getLast hne)])
    have k3 := same_new ht3 (.lst [.non, .bl true, .str "", .int 5, .ref t1, .str (Txt.upper s0), .ref t2])
    refine ⟨Ls, t3, _, _, rfl, rfl, (Same.trans k1 (Same.trans k2 k3)) _ _ hS3.sides, upd_same, by rw [List.length_map]; exact Nat.le_trans (show z.ss.length + 7 ≤ 20 by omega) (by decide), fun t4 ht4 => ?_⟩
    have k4 := same_new ht4 (.lst (z.ss.map V.str ++ [.non, .bl true, .str "", .int 5, .ref t1, .str (Txt.upper s0), .ref t2]))
    have kk := Same.trans k1 (Same.trans k2 (Same.trans k3 k4))
    have f4 := f3.keep kk
    have m1 : Smp (L2.upd (L2.upd (L2.upd (L2.upd H3 t1 (.tup [.str s0])) t2 (.lst [.str (z.ss.getLast hne)])) t3 (.lst [.non, .bl true, .str "", .int 5, .ref t1, .str (Txt.upper s0), .ref t2])) t4 (.lst (z.ss.map V.str ++ [.non, .bl true, .str "", .int 5, .ref t1, .str (Txt.upper s0), .ref t2]))) (.ref t1) :=
      .inr ⟨t1, _, rfl, .inl ((Same.trans k2 (Same.trans k3 k4)) _ _ upd_same), by show 1 ≤ 1; decide, fun x hx => by rw [List.mem_singleton.mp hx]; exact ⟨rfl, fun s e => by rw [← V.str.inj e]; exact name_ok n0⟩⟩
    have m2 : Smp (L2.upd (L2.upd (L2.upd (L2.upd H3 t1 (.tup [.str s0])) t2 (.lst [.str (z.ss.getLast hne)])) t3 (.lst [.non, .bl true, .str "", .int 5, .ref t1, .str (Txt.upper s0), .ref t2])) t4 (.lst (z.ss.map V.str ++ [.non, .bl true, .str "", .int 5, .ref t1, .str (Txt.upper s0), .ref t2]))) (.ref t2) :=
      .inr ⟨t2, _, rfl, .inr ((Same.trans k3 k4) _ _ upd_same), by show 1 ≤ 1; decide, fun x hx => by rw [List.mem_singleton.mp hx]; exact ⟨rfl, fun s e => by rw [← V.str.inj e]; exact name_ok nl⟩⟩
    refine pick_smp f4 upd_same (f3.neq ((Same.trans k1 (Same.trans k2 k3)).free ht4)).1 (by rw [List.length_append]; show 0 < _ + 7; omega) (by rw [List.length_append, List.length_map]; show z.ss.length + 7 < 100000; omega) (fun x hx => ?_) (fun H5 x f5 b5 hx sx => ?_)
    · rcases List.mem_append.mp hx with hx | hx
      · obtain ⟨s, _, rfl⟩ := List.mem_map.mp hx
        exact .inl rfl
      · simp only [List.mem_cons, List.not_mem_nil, or_false] at hx
        rcases hx with rfl | rfl | rfl | rfl | rfl | rfl | rfl
        · exact .inl rfl
        · exact .inl rfl
        · exact .inl rfl
        · exact .inl rfl
        · exact m1
        · exact .inl rfl
        · exact m2
    · exact fin H5 "withdraw" x (.int 0) f5 (B3.trans ((But.same kk).trans b5)) (.inr (.inr (.inr rfl))) sx (.inl rfl)
  rintro σ' H' ⟨kn0, ⟨x1, x2, x3, x4, rfl⟩, rfl⟩
  refine ⟨fun σ' H' => 3 ≤ kk ∧ (∃ x1 x2 x3 x4, σ' = [some (.ref a), some (.ref pS), some (.ref Ls), some (.ref tS), some (.ref Lg), some (.ref Lo), some (.int (n : Nat)), some (.str two), some (.int kk), x1, x2, x3, x4]) ∧ H3 = H', ⟨_, rfl, _, _, rfl, rfl, _, rfl, ?_⟩, ?_⟩
  · refine ite2 (fun c => ?_) (fun c => ⟨by have := of_decide_eq_false (Bool.eq_false_iff.mpr c); omega, ⟨_, _, _, _, rfl⟩, rfl⟩)
    refine ⟨_, rfl, Lg, _, rfl, .inl (SqL.of hS3.games), _, rfl, _, _, rfl, rfl, ⟨by decide, by decide, by decide⟩, a, l, _, rfl, f3, small400 (by decide +kernel), fun H4 r4 f4 b4 _ _ => ?_⟩
    have hS4 := hS3.but f3 na b4
    have B4 := B3.trans b4
    refine ⟨_, _, rfl, rfl, ?_⟩
    refine ⟨fun σ' H' => ∃ (t4 : Addr) (ys : List V) (x1 x3 x4 : Option V), σ' = [some (.ref a), some (.ref pS), some (.ref Ls), some (.ref tS), some (.ref Lg), some (.ref Lo), some (.int (n : Nat)), some (.str two), some (.int kk), x1, some (.ref t4), x3, x4] ∧ H' t4 = some (.lst ys) ∧ (∀ x ∈ ys, Smp H' x) ∧ ys.length = 12 ∧ FlowL H' a l ∧ But a H H' ∧ t4 ≠ a, ?_, ?_⟩
    · refine ⟨_, rfl, _, rfl, Lg, _, rfl, .inl (SqL.of hS4.games), _, rfl, _, rfl, _, rfl, small_log n (by omega), ?_⟩
      refine ⟨_, rfl, by show 1 ≤ sizeLine; decide, fun t1 ht1 => ⟨_, rfl, by show 1 ≤ sizeLine; decide, fun t2 ht2 => ⟨by show 0 ≤ sizeLine; decide, fun t3 ht3 => ⟨_, rfl, by show 12 ≤ sizeLine; decide, fun t4 ht4 => ?_⟩⟩⟩⟩
      have k1 := same_new ht1 (.tup [.int (n : Nat)])
      have k2 := same_new ht2 (.lst [.int (n : Nat)])
      have k3 := same_new ht3 (.tup [])
      have k123 := Same.trans k1 (Same.trans k2 k3)
      refine ⟨t4, _, _, _, _, rfl, upd_same, fun x hx => Smp.same (same_new ht4 _) ?_, rfl, f4.keep (Same.trans k123 (same_new ht4 _)), B4.trans (But.same (Same.trans k123 (same_new ht4 _))), (f4.neq (k123.free ht4)).1⟩
      simp only [List.mem_cons, List.not_mem_nil, or_false] at hx
      rcases hx with rfl | rfl | rfl | rfl | rfl | rfl | rfl | rfl | rfl | rfl | rfl | rfl
      · exact .inl rfl
      · exact .inl rfl
      · exact .inl rfl
      · exact .inl rfl
      · exact .inl rfl
      · exact .inr ⟨t1, _, rfl, .inl ((Same.trans k2 k3) _ _ upd_same), by show 1 ≤ 1; decide, fun x hx => by rw [List.mem_singleton.mp hx]; exact ⟨rfl, fun s e => nomatch e⟩⟩
      · exact .inr ⟨t2, _, rfl, .inr (k3 _ _ upd_same), by show 1 ≤ 1; decide, fun x hx => by rw [List.mem_singleton.mp hx]; exact ⟨rfl, fun s e => nomatch e⟩⟩
      · exact .inl rfl
      · exact .inr ⟨t3, _, rfl, .inl upd_same, by show 0 ≤ 1; decide, fun x hx => nomatch hx⟩
      · exact .inl rfl
      · exact .inl rfl
      · exact .inl rfl
    rintro σ' H5 ⟨t4, ys, y1, y3, y4, rfl, e5, sm5, l5, f5, B5, n4⟩
    -- deed
    refine ⟨_, rfl, by show 4 ≤ sizeLine; decide, fun p2 hp2 => ?_⟩
    have kp := same_new hp2 (.lst ((["enter", "enter", "call_off", "reopen"] : List Str).map V.str))
    refine pick_smp (ys := (["enter", "enter", "call_off", "reopen"] : List Str).map V.str) (f5.keep kp) upd_same (f5.neq hp2).1 (by decide) (by show 4 < 100000; decide) (fun x hx => ?_) (fun H6 x f6 b6 hx _ => ?_)
    · obtain ⟨s, _, rfl⟩ := List.mem_map.mp hx
      exact .inl rfl
    obtain ⟨deed, hdeed, rfl⟩ := List.mem_map.mp hx
    have f4d : four deed := by
      simp only [List.mem_cons, List.not_mem_nil, or_false] at hdeed
      rcases hdeed with rfl | rfl | rfl | rfl
      · exact .inl rfl
      · exact .inl rfl
      · exact .inr (.inl rfl)
      · exact .inr (.inr (.inl rfl))
    have e6 := b6 _ _ (kp _ _ e5) n4
    have sm6 : ∀ x ∈ ys, Smp H6 x := fun x hx => ((sm5 x hx).same kp).but (f5.keep kp) b6
    have B6 := (B5.trans (But.same kp)).trans b6
    clear b6 kp hp2 sm5 e5 B5 hx
    -- wrong
    refine ⟨_, rfl, by show 5 ≤ sizeLine; decide, fun p3 hp3 => ?_⟩
    have kw := same_new hp3 (.lst [.str two, .non, .str "", .str "left", .int 5])
    have n3 := (f6.neq hp3).1
    have f7 := f6.keep kw
    have e7 := kw _ _ e6
    have w7 : (L2.upd H6 p3 (.lst [.str two, .non, .str "", .str "left", .int 5])) p3 = some (.lst [.str two, .non, .str "", .str "left", .int 5]) := upd_same
    have sm7 : ∀ x ∈ ys, Smp (L2.upd H6 p3 (.lst [.str two, .non, .str "", .str "left", .int 5])) x := fun x hx => (sm6 x hx).same kw
    have B7 := B6.trans (But.same (a := a) kw)
    generalize (L2.upd H6 p3 (.lst [.str two, .non, .str "", .str "left", .int 5])) = H7 at f7 e7 w7 sm7 B7 ⊢
    clear kw e6 sm6 B6 f6 hp3
    refine ⟨fun σ' H' => ∃ (t8 : Addr) (zs : List V), σ' = [some (.ref a), some (.ref pS), some (.ref Ls), some (.ref tS), some (.ref Lg), some (.ref Lo), some (.int (n : Nat)), some (.str two), some (.int kk), y1, some (.ref t8), some (.str deed), some (.ref p3)] ∧ H' t8 = some (.lst zs) ∧ (∀ x ∈ zs, Smp H' x) ∧ 0 < zs.length ∧ zs.length ≤ 12 ∧ FlowL H' a l ∧ But a H H' ∧ t8 ≠ a ∧ H' p3 = some (.lst [.str two, .non, .str "", .str "left", .int 5]), ⟨_, rfl, rfl, _, rfl, ?_⟩, ?_⟩
    · by_cases ed : deed = "enter"
      · exact ifF (by rw [ed, decide_eq_true rfl]; rfl) ⟨t4, ys, rfl, e7, sm7, by omega, by omega, f7, B7, n4, w7⟩
      · refine ifT (by rw [decide_eq_false (fun e => ed (V.str.inj e))]; rfl) ⟨_, rfl, _, rfl, _, rfl, t4, _, rfl, SqL.of e7, fun t8 ht8 => ?_⟩
        have k8 := same_new ht8 (.lst (cutV ys none (some (-1))))
        have lc : (cutV ys none (some (-1))).length = 11 := by
          unfold cutV
          rw [List.length_take, List.length_drop, l5]
          decide
        exact ⟨t8, _, rfl, upd_same, fun x hx => (sm7 x (mem_cutV hx)).same k8, by omega, by omega, f7.keep k8, B7.trans (But.same k8), (f7.neq ht8).1, k8 _ _ w7⟩
    rintro σ' H8 ⟨t8, zs, rfl, e8, sm8, z0, z12, f8, B8, n8, w8⟩
    refine ⟨_, rfl, _, rfl, _, rfl, ?_⟩
    refine pick_smp f8 e8 n8 z0 (by omega) sm8 (fun H9 u f9 b9 _ su => ?_)
    refine ⟨_, rfl, _, rfl, ?_⟩
    refine pick_smp f9 (b9 _ _ w8 n3) n3 (by show 0 < 5; decide) (by show 5 < 100000; decide) (fun x hx => ?_) (fun H10 v f10 b10 _ sv => fin H10 deed u v f10 ((B8.trans b9).trans b10) f4d (su.but f9 b10) sv)
    simp only [List.mem_cons, List.not_mem_nil, or_false] at hx
    rcases hx with rfl | rfl | rfl | rfl | rfl <;> exact .inl rfl
  rintro σ' H' ⟨kn3, ⟨x1, x2, x3, x4, rfl⟩, rfl⟩
  refine ⟨fun σ' H' => 4 ≤ kk ∧ (∃ x1 x2 x3 x4, σ' = [some (.ref a), some (.ref pS), some (.ref Ls), some (.ref tS), some (.ref Lg), some (.ref Lo), some (.int (n : Nat)), some (.str two), some (.int kk), x1, x2, x3, x4]) ∧ H3 = H', ⟨_, rfl, rfl, _, rfl, ?_⟩, ?_⟩
  · refine ite2 (fun c => ?_) (fun c => ⟨by have c2 : kk ≠ 3 := fun e => c (decide_eq_true (by rw [e]));  omega, ⟨_, _, _, _, rfl⟩, rfl⟩)
    refine ⟨fun σ' H' => ∃ (t4 : Addr) (ys : List V) (x1 x3 x4 : Option V), σ' = [some (.ref a), some (.ref pS), some (.ref Ls), some (.ref tS), some (.ref Lg), some (.ref Lo), some (.int (n : Nat)), some (.str two), some (.int kk), x1, some (.ref t4), x3, x4] ∧ H' t4 = some (.lst ys) ∧ (∀ x ∈ ys, Smp H' x) ∧ ys.length = 14 ∧ FlowL H' a l ∧ But a H H' ∧ t4 ≠ a, ?_, ?_⟩
    · refine ⟨by show 1 ≤ sizeLine; decide, fun t1 ht1 => ⟨by show 1 ≤ sizeLine; decide, fun t2 ht2 => ⟨by show 0 ≤ sizeLine; decide, fun t3 ht3 => ⟨_, rfl, by show 14 ≤ sizeLine; decide, fun t4 ht4 => ?_⟩⟩⟩⟩
      have k1 := same_new ht1 (.tup [.str "home"])
      have k2 := same_new ht2 (.lst [.str "away"])
      have k3 := same_new ht3 (.tup [])
      have k123 := Same.trans k1 (Same.trans k2 k3)
      refine ⟨t4, _, _, _, _, rfl, upd_same, fun x hx => Smp.same (same_new ht4 _) ?_, rfl, f3.keep (Same.trans k123 (same_new ht4 _)), B3.trans (But.same (Same.trans k123 (same_new ht4 _))), (f3.neq (k123.free ht4)).1⟩
      simp only [List.mem_cons, List.not_mem_nil, or_false] at hx
      rcases hx with rfl | rfl | rfl | rfl | rfl | rfl | rfl | rfl | rfl | rfl | rfl | rfl | rfl | rfl
      · exact .inl rfl
      · exact .inl rfl
      · exact .inl rfl
      · exact .inl rfl
      · exact .inl rfl
      · exact .inl rfl
      · exact .inl rfl
      · exact .inr ⟨t1, _, rfl, .inl ((Same.trans k2 k3) _ _ upd_same), by show 1 ≤ 1; decide, fun x hx => by rw [List.mem_singleton.mp hx]; exact ⟨rfl, fun s e => by rw [← V.str.inj e]; decide +kernel⟩⟩
      · exact .inr ⟨t2, _, rfl, .inr (k3 _ _ upd_same), by show 1 ≤ 1; decide, fun x hx => by rw [List.mem_singleton.mp hx]; exact ⟨rfl, fun s e => by rw [← V.str.inj e]; decide +kernel⟩⟩
      · exact .inl rfl
      · exact .inl rfl
      · exact .inr ⟨t3, _, rfl, .inl upd_same, by show 0 ≤ 1; decide, fun x hx => nomatch hx⟩
      · exact .inl rfl
      · exact .inl rfl
    rintro σ' H5 ⟨t4, ys, y1, y3, y4, rfl, e5, sm5, l5, f5, B5, n4⟩
    refine ⟨_, rfl, _, rfl, _, rfl, ?_⟩
    exact pick_smp f5 e5 n4 (by omega) (by omega) sm5 (fun H6 v f6 b6 _ sv => fin H6 "enter" (.int (n : Nat)) v f6 (B5.trans b6) (.inl rfl) (.inl rfl) sv)
  rintro σ' H' ⟨kn4, ⟨x1, x2, x3, x4, rfl⟩, rfl⟩
  refine ⟨fun σ' H' => (∃ x1 x2 x3 x4, σ' = [some (.ref a), some (.ref pS), some (.ref Ls), some (.ref tS), some (.ref Lg), some (.ref Lo), some (.int (n : Nat)), some (.str two), some (.int kk), x1, x2, x3, x4]) ∧ H3 = H', ⟨_, rfl, _, _, rfl, rfl, _, rfl, ?_⟩, ?_⟩
  · refine ite2 (fun c => ?_) (fun c => ⟨⟨_, _, _, _, rfl⟩, rfl⟩)
    have c6 : kk < 6 := of_decide_eq_true c
    refine ⟨by show 2 ≤ sizeLine; decide, fun t1 ht1 => ?_⟩
    have k1 := same_new ht1 (.lst [.str "call_off", .str "reopen"])
    by_cases e4 : kk = 4
    · refine ⟨_, rfl, _, _, rfl, rfl, t1, _, _, .str "call_off", rfl, rfl, SqL.of upd_same, at_of (j := 0) (by omega) rfl, ?_⟩
      exact ⟨_, rfl, fin _ "call_off" (.int (n : Nat)) (.int 0) (f3.keep k1) (B3.trans (But.same k1)) (.inr (.inl rfl)) (.inl rfl) (.inl rfl)⟩
    · refine ⟨_, rfl, _, _, rfl, rfl, t1, _, _, .str "reopen", rfl, rfl, SqL.of upd_same, at_of (j := 1) (by omega) rfl, ?_⟩
      exact ⟨_, rfl, fin _ "reopen" (.int (n : Nat)) (.int 0) (f3.keep k1) (B3.trans (But.same k1)) (.inr (.inr (.inl rfl))) (.inl rfl) (.inl rfl)⟩
  rintro σ' H' ⟨⟨x1, x2, x3, x4, rfl⟩, rfl⟩
  exact ⟨_, rfl, _, rfl, fin H3 "enter" (.int (n : Nat)) (.str two) f3 B3 (.inl rfl) (.inl rfl) (.inl rfl)⟩
end
end My

namespace My
open PySem PySem.Spec PyProof.Rows L2 SX
theorem IsAt.keep {H H' : Hp} : ∀ {is : List Addr} {gs : List G3}, (∀ b ∈ is, ∀ o, H b = some o → H' b = some o) → IsAt H is gs → IsAt H' is gs
  | [], [], _, _ => trivial
  | b :: r, g :: s, k, ⟨h, t⟩ => ⟨k b (List.mem_cons_self ..) _ h, IsAt.keep (fun c hc => k c (List.mem_cons_of_mem _ hc)) t⟩
  | [], _ :: _, _, h => h.elim
  | _ :: _, [], _, h => h.elim
theorem IsAt.snoc {H : Hp} {a : Addr} {g : G3} (ha : H a = some (.lst [.str g.1, .str g.2.1, .str g.2.2])) : ∀ {as : List Addr} {gs : List G3}, IsAt H as gs → IsAt H (as ++ [a]) (gs ++ [g])
  | [], [], _ => ⟨ha, trivial⟩
  | _ :: _, _ :: _, ⟨h, r⟩ => ⟨h, r.snoc ha⟩
  | [], _ :: _, h => h.elim
  | _ :: _, [], h => h.elim
theorem emod_ne {h r n : Int} (h0 : 0 ≤ h) (h1 : h < n) (r0 : 0 ≤ r) (r1 : r + 1 < n) : (h + 1 + r) % n ≠ h := by
  intro e
  by_cases c : h + 1 + r < n
  · rw [Int.emod_eq_of_lt (by omega) c] at e
    omega
  · rw [← Int.sub_emod_right, Int.emod_eq_of_lt (by omega) (by omega)] at e
    omega
theorem GsAt.keep {H H' : Hp} (k : ∀ b o, H b = some o → (∀ xs, o ≠ .lst xs) → H' b = some o) : ∀ {as : List Addr} {gs : List G3}, GsAt H as gs → GsAt H' as gs
  | [], [], _ => trivial
  | _ :: _, _ :: _, ⟨h, r⟩ => ⟨k _ _ h (fun _ z => nomatch z), r.keep k⟩
  | [], _ :: _, h => h.elim
  | _ :: _, [], h => h.elim
/-- what is no list is kept, and l -/
theorem LgAt.fr {K : PySem.W.Frag} {H H' : Hp} {g l : Addr} {z : Lgv} (h : LgAt K H g l z) (k : ∀ b o, H b = some o → (∀ xs, o ≠ .lst xs) → H' b = some o) (kl : ∀ o, H l = some o → H' l = some o) : LgAt K H' g l z := by
  obtain ⟨dx, ts, tc, tr, tg, as, h1, h2, h3, h4, h5, h6⟩ := h.ex
  exact ⟨⟨dx, ts, tc, tr, tg, as, k _ _ h1 (fun _ z => nomatch z), k _ _ h2 (fun _ z => nomatch z), k _ _ h3 (fun _ z => nomatch z), k _ _ h4 (fun _ z => nomatch z), kl _ h5, h6.keep k⟩, h.names, h.goneOk, h.small, h.ok, h.len8⟩
theorem FlowL.fr {H H' : Hp} {a l : Addr} (h : FlowL H a l) (ka : ∀ o, H a = some o → H' a = some o) (kl : ∀ o, H l = some o → H' l = some o) : FlowL H' a l := by
  obtain ⟨ns, i, x, c, m, o, h1, h2, h3⟩ := h
  exact ⟨ns, i, x, c, m, o, ka _ h1, kl _ h2, h3⟩
theorem FlowL.isL {H : Hp} {a l : Addr} (h : FlowL H a l) : (∃ xs, H a = some (.lst xs)) ∧ ∃ xs, H l = some (.lst xs) := by
  obtain ⟨ns, i, x, c, m, o, h1, h2, h3⟩ := h
  exact ⟨⟨_, h1⟩, ⟨_, h2⟩⟩
/-- a draw keeps what is no list -/
theorem but_no {H H' : Hp} {a l : Addr} (f : FlowL H a l) (k : But a H H') : ∀ b o, H b = some o → (∀ xs, o ≠ .lst xs) → H' b = some o := fun b o hb no => k b o hb fun e => by
  obtain ⟨⟨xs, h⟩, _⟩ := f.isL
  rw [e, h] at hb
  exact no _ (Option.some.inj hb).symm
theorem nextZ_ss (z : Lgv) (d : Str) (u v : V) : (nextZ z d u v).ss = z.ss ∧ (nextZ z d u v).gs.length = z.gs.length := by
  unfold nextZ
  split
  · exact ⟨rfl, by rw [List.length_map]⟩
  · exact ⟨rfl, by rw [setSt_len]⟩
theorem StAt.fr {H H' : Hp} {pS Ls tS Lg Lo : Addr} {is : List Addr} {z : Lgv} (h : StAt H pS Ls tS Lg Lo is z) (kt : ∀ b xs, H b = some (.tup xs) → H' b = some (.tup xs)) (kl : ∀ b ∈ Ls :: Lg :: Lo :: is, ∀ o, H b = some o → H' b = some o) : StAt H' pS Ls tS Lg Lo is z := by
  obtain ⟨go, g1, g2⟩ := h.go
  exact ⟨kt _ _ h.st, kl _ (by simp) _ h.sides, kt _ _ h.scm, kl _ (by simp) _ h.games, h.inner.keep (fun b hb => kl b (by simp [hb])), ⟨go, kl _ (by simp) _ g1, g2⟩, h.nd⟩
theorem StAt.lst {H : Hp} {pS Ls tS Lg Lo : Addr} {is : List Addr} {z : Lgv} (h : StAt H pS Ls tS Lg Lo is z) : ∀ b ∈ Ls :: Lg :: Lo :: is, ∃ xs, H b = some (.lst xs) := fun b hb => by
  obtain ⟨go, g1, g2⟩ := h.go
  simp only [List.mem_cons] at hb
  rcases hb with rfl | rfl | rfl | hb
  · exact ⟨_, h.sides⟩
  · exact ⟨_, h.games⟩
  · exact ⟨_, g1⟩
  · exact h.inner.mem hb
theorem LgAt.isL {K : PySem.W.Frag} {H : Hp} {g l : Addr} {z : Lgv} (h : LgAt K H g l z) : (∃ dx fs, H g = some (.ins (lg K) dx fs)) ∧ ∃ xs, H l = some (.lst xs) := by
  obtain ⟨dx, ts, tc, tr, tg, as, h1, h2, h3, h4, h5, h6⟩ := h.ex
  exact ⟨⟨_, _, h1⟩, ⟨_, h5⟩⟩
theorem due_smp {H : Hp} {z : Lgv} {d : Str} {u v : V} (h : Smp H u) : Smp H (dueOf z d u v).2 := by
  unfold dueOf
  split
  · split
    · exact .inl rfl
    · exact h
  · split
    · split
      · exact .inl rfl
      · exact .inl rfl
    · exact h
theorem due_done {z : Lgv} {d : Str} {u v : V} (h : (dueOf z d u v).1 = "done") : (dueOf z d u v).2 = .int 0 := by
  unfold dueOf at h ⊢
  split at h
  · rename_i c
    split at h
    · rename_i c2
      rw [if_pos c, if_pos c2]
    · exact absurd (show ("side" : Str) = "done" from h) (by decide +kernel)
  · rename_i c
    split at h
    · rename_i c2
      split at h
      · exact absurd (show ("value" : Str) = "done" from h) (by decide +kernel)
      · rename_i c3
        rw [if_neg c, if_pos c2, if_neg c3]
    · exact absurd (show ("game" : Str) = "done" from h) (by decide +kernel)
/-- the law's world -/
structure Wd (K : PySem.W.Frag) (H : Hp) (a l0 g l pS Ls tS Lg Lo : Addr) (is : List Addr) (z : Lgv) : Prop where
  fl : FlowL H a l0
  lg : LgAt K H g l z
  st : StAt H pS Ls tS Lg Lo is z
  nd : (a :: l0 :: l :: Ls :: Lg :: Lo :: is).Nodup
  s2 : 2 ≤ z.ss.length
  g1 : 1 ≤ z.gs.length
theorem Wd.same {K : PySem.W.Frag} {H H' : Hp} {a l0 g l pS Ls tS Lg Lo : Addr} {is : List Addr} {z : Lgv} (h : Wd K H a l0 g l pS Ls tS Lg Lo is z) (k : Same H H') : Wd K H' a l0 g l pS Ls tS Lg Lo is z :=
  ⟨h.fl.keep k, h.lg.same k, h.st.same k, h.nd, h.s2, h.g1⟩
theorem Wd.all {K : PySem.W.Frag} {H : Hp} {a l0 g l pS Ls tS Lg Lo : Addr} {is : List Addr} {z : Lgv} (h : Wd K H a l0 g l pS Ls tS Lg Lo is z) : ∀ b ∈ a :: l0 :: l :: Ls :: Lg :: Lo :: is, ∃ xs, H b = some (.lst xs) := fun b hb => by
  rcases List.mem_cons.mp hb with rfl | hb
  · exact h.fl.isL.1
  rcases List.mem_cons.mp hb with rfl | hb
  · exact h.fl.isL.2
  rcases List.mem_cons.mp hb with rfl | hb
  · exact h.lg.isL.2
  · exact h.st.lst b hb
/-- the flow moves on -/
theorem Wd.but {K : PySem.W.Frag} {H H' : Hp} {a l0 g l pS Ls tS Lg Lo : Addr} {is : List Addr} {z : Lgv} (h : Wd K H a l0 g l pS Ls tS Lg Lo is z) (f : FlowL H' a l0) (k : But a H H') : Wd K H' a l0 g l pS Ls tS Lg Lo is z := by
  have n := (List.nodup_cons.mp h.nd).1
  exact ⟨f, h.lg.fr (but_no h.fl k) (fun o e => k _ _ e (fun x => n (by simp [← x]))), h.st.fr (fun b xs e => but_no h.fl k _ _ e (fun _ z => nomatch z)) (fun b hb o e => k _ _ e (fun x => n (by rw [← x]; exact List.mem_cons_of_mem _ (List.mem_cons_of_mem _ hb)))), h.nd, h.s2, h.g1⟩
/-- the league takes its deed, then the state does -/
theorem Wd.deed {K : PySem.W.Frag} {H H1 H2 : Hp} {a l0 g l l' pS Ls tS Lg Lo : Addr} {is : List Addr} {z : Lgv} {d : Str} {u v : V} (h : Wd K H a l0 g l pS Ls tS Lg Lo is z) (hl : LgAt K H1 g l' (nextZ z d u v)) (k1 : But2 g l H H1) (fr : l' = l ∨ H l' = none) (hs : StAt H2 pS Ls tS Lg Lo is (nextZ z d u v)) (k2 : But3 Lo is H1 H2) : Wd K H2 a l0 g l' pS Ls tS Lg Lo is (nextZ z d u v) := by
  have nd' : (a :: l0 :: l' :: Ls :: Lg :: Lo :: is).Nodup := by
    rcases fr with rfl | e
    · exact h.nd
    · have ne : ∀ b ∈ a :: l0 :: l :: Ls :: Lg :: Lo :: is, b ≠ l' := fun b hb x => by
        obtain ⟨xs, hx⟩ := h.all b hb
        rw [x, e] at hx
        cases hx
      obtain ⟨p1, p2⟩ := List.nodup_cons.mp h.nd
      obtain ⟨p3, p4⟩ := List.nodup_cons.mp p2
      obtain ⟨p5, p6⟩ := List.nodup_cons.mp p4
      refine List.nodup_cons.mpr ⟨fun m => ?_, List.nodup_cons.mpr ⟨fun m => ?_, List.nodup_cons.mpr ⟨fun m => ?_, p6⟩⟩⟩
      · rcases List.mem_cons.mp m with m | m
        · exact p1 (by rw [m]; simp)
        rcases List.mem_cons.mp m with m | m
        · exact ne a (by simp) m
        · exact p1 (List.mem_cons_of_mem _ (List.mem_cons_of_mem _ m))
      · rcases List.mem_cons.mp m with m | m
        · exact ne l0 (by simp) m
        · exact p3 (List.mem_cons_of_mem _ m)
      · exact ne l' (List.mem_cons_of_mem _ (List.mem_cons_of_mem _ (List.mem_cons_of_mem _ m))) rfl
  obtain ⟨dx, fs, hg⟩ := h.lg.isL.1
  have ng : ∀ b ∈ a :: l0 :: l :: Ls :: Lg :: Lo :: is, b ≠ g := fun b hb x => by
    obtain ⟨xs, hx⟩ := h.all b hb
    rw [x, hg] at hx
    cases hx
  have q1 := (List.nodup_cons.mp h.nd).1
  have q2 := (List.nodup_cons.mp (List.nodup_cons.mp h.nd).2).1
  have q3 := (List.nodup_cons.mp (List.nodup_cons.mp (List.nodup_cons.mp nd').2).2).1
  obtain ⟨s1, s2⟩ := nextZ_ss z d u v
  have L1 : ∀ b, b = Lo ∨ b ∈ is → ∃ xs, H1 b = some (.lst xs) := fun b hb => by
    have hb' : b ∈ Ls :: Lg :: Lo :: is := by rcases hb with rfl | hb <;> simp_all
    obtain ⟨xs, hx⟩ := h.st.lst b hb'
    refine ⟨xs, k1 _ _ hx (ng b (by simp only [List.mem_cons] at hb' ⊢; exact .inr (.inr (.inr hb')))) (fun x => ?_)⟩
    exact (List.nodup_cons.mp (List.nodup_cons.mp (List.nodup_cons.mp h.nd).2).2).1 (by rw [← x]; exact hb')
  have k3 : ∀ b o, H1 b = some o → (∀ xs, o ≠ .lst xs) → H2 b = some o := fun b o e no => k2 b o e
    (fun x => by obtain ⟨xs, hx⟩ := L1 b (.inl x); rw [hx] at e; exact no _ (Option.some.inj e).symm)
    (fun x => by obtain ⟨xs, hx⟩ := L1 b (.inr x); rw [hx] at e; exact no _ (Option.some.inj e).symm)
  refine ⟨h.fl.fr (fun o e => ?_) (fun o e => ?_), hl.fr k3 (fun o e => k2 _ _ e (fun x => q3 (by rw [x]; simp)) (fun x => q3 (by simp [x]))), hs, nd', by rw [s1]; exact h.s2, by rw [s2]; exact h.g1⟩
  · exact k2 _ _ (k1 _ _ e (ng a (by simp)) (fun x => q1 (by simp [x]))) (fun x => q1 (by simp [x])) (fun x => q1 (by simp [x]))
  · exact k2 _ _ (k1 _ _ e (ng l0 (by simp)) (fun x => q2 (by simp [x]))) (fun x => q2 (by simp [x])) (fun x => q2 (by simp [x]))
/-- the state's own things outlive the league's deed -/
theorem Wd.st2 {K : PySem.W.Frag} {H H1 : Hp} {a l0 g l pS Ls tS Lg Lo : Addr} {is : List Addr} {z : Lgv} (h : Wd K H a l0 g l pS Ls tS Lg Lo is z) (k1 : But2 g l H H1) : StAt H1 pS Ls tS Lg Lo is z ∧ ∀ b xs, H b = some (.tup xs) → H1 b = some (.tup xs) := by
  obtain ⟨dx, fs, hg⟩ := h.lg.isL.1
  obtain ⟨xl, hl⟩ := h.lg.isL.2
  have kt : ∀ b xs, H b = some (.tup xs) → H1 b = some (.tup xs) := fun b xs e => k1 _ _ e (fun x => by rw [x, hg] at e; cases e) (fun x => by rw [x, hl] at e; cases e)
  have q := (List.nodup_cons.mp (List.nodup_cons.mp (List.nodup_cons.mp h.nd).2).2).1
  exact ⟨h.st.fr kt fun b hb o e => k1 _ _ e (fun x => by obtain ⟨xs, hx⟩ := h.st.lst b hb; rw [x, hg] at hx; cases hx) (fun x => q (by rw [← x]; exact hb)), kt⟩
section
variable {P : Program} {w : World} {K : PySem.W.Frag} {mg : Str → Option Value} {base : Heap}
def spLaw (K : PySem.W.Frag) : Sp := fun vs H Q _ => ∃ (a : Addr) (ns : List Int), vs = [.ref a] ∧ SqL K H a (ns.map V.int) ∧ ns.length ≤ 63 ∧ ∀ H', Q (.bl true) H'
theorem sc_law : C8.scC ["script", "flow", "sides", "scheme", "league", "games", "k", "home", "away", "state", "deed", "one", "two", "due"] ["script"] (defScope s_law) = true := by decide +kernel
theorem ok_law (T : TX K mg) {f : Addr} {fd : FuncData} (F : FunD K "law" "law" (defArgs s_law) (defBody s_law) (defScope s_law) [] [] f fd) : FnOk P w K mg base CX0 7 f fd ["script"] (spLaw K) := by
  refine F.ok (CX := CX0) (C8.fnScope_by sc_law) (fun vs H Q E h => ?_) (fun cdv A outer s H vs Q E hr h => ?_)
  · obtain ⟨a, ns, rfl, _⟩ := h
    rfl
  obtain ⟨sc, ns, rfl, hSc, h63, q⟩ := h
  refine ⟨_, PSs.nox ((pss_cons (ps_set (i := 1) (C8.fnScope_by sc_law).nd rfl (Or.inl rfl) (C8.pe_c (c__law_flow T) hr (by decide) (by rfl) (pa_cons (pv 0) pa_nil)))
    (pss_cons (ps_set (i := 2) (C8.fnScope_by sc_law).nd rfl (Or.inl rfl) (C8.pe_c (c__law_sides T) hr (by decide) (by rfl) (pa_cons (pv 1) (pa_cons (pe_op op_add pe_int (C8.pe_c (c__law_draw T) hr (by decide) (by rfl) (pa_cons (pv 1) (pa_cons pe_int pa_nil)))) pa_nil))))
    (pss_cons (ps_set (i := 3) (C8.fnScope_by sc_law).nd rfl (Or.inl rfl) (C8.pe_c (c__law_scheme T) hr (by decide) (by rfl) (pa_cons (pv 1) pa_nil)))
    (pss_cons (ps_set (i := 4) (C8.fnScope_by sc_law).nd rfl (Or.inl rfl) (C8.pe_mk (c_m_init T) hr (by decide) (by rfl) (pa_cons (pv 2) (pa_cons (pv 3) (pa_cons (C8.pe_c (c__law_rules T) hr (by decide) (by rfl) (pa_cons (pv 1) pa_nil)) pa_nil)))))
    (pss_cons (ps_set (i := 5) (C8.fnScope_by sc_law).nd rfl (Or.inl rfl) (pe_lst pa_nil))
    (pss_cons (ps_for PassesOwn.never rfl (pi_range1 (by rfl) T.B.range (pa_cons (pe_op op_add pe_int (C8.pe_c (c__law_draw T) hr (by decide) (by rfl) (pa_cons (pv 1) (pa_cons pe_int pa_nil)))) pa_nil)) (pg_name (i := 6) (C8.fnScope_by sc_law).nd rfl (Or.inl rfl)) (pss_cons (ps_set (i := 7) (C8.fnScope_by sc_law).nd rfl (Or.inl rfl) (C8.pe_c (c__law_draw T) hr (by decide) (by rfl) (pa_cons (pv 1) (pa_cons (pe_callB call_len_seq (by rfl) T.B.len (by decide +kernel) (pa_cons (pv 2) pa_nil)) pa_nil))))
    (pss_cons (ps_set (i := 8) (C8.fnScope_by sc_law).nd rfl (Or.inl rfl) (pe_op op_mod (pe_op op_add (pe_op op_add (pv 7) pe_int) (C8.pe_c (c__law_draw T) hr (by decide) (by rfl) (pa_cons (pv 1) (pa_cons (pe_op op_sub (pe_callB call_len_seq (by rfl) T.B.len (by decide +kernel) (pa_cons (pv 2) pa_nil)) pe_int) pa_nil)))) (pe_callB call_len_seq (by rfl) T.B.len (by decide +kernel) (pa_cons (pv 2) pa_nil))))
    (pss_cons (ps_expr (pe_bm PySem.F.plainAttrs_list PySem.F.slot_list_append PySem.F.type_list_append mt_append (pv 5) (pa_cons (pe_lst (pa_cons (pe_ix ix_list (pv 2) (pv 7) (fun _ _ => rfl)) (pa_cons (pe_ix ix_list (pv 2) (pv 8) (fun _ _ => rfl)) (pa_cons pe_str pa_nil)))) pa_nil)))
    (pss_one (ps_expr (pe_mtX (c_m_add_game T) hr (by decide) passFalse (pv 4) (pa_cons (pe_ix ix_list (pv 2) (pv 7) (fun _ _ => rfl)) (pa_cons (pe_ix ix_list (pv 2) (pv 8) (fun _ _ => rfl)) pa_nil)))))))))
    (pss_cons (ps_set (i := 9) (C8.fnScope_by sc_law).nd rfl (Or.inl rfl) (pe_tup (pa_cons (pv 2) (pa_cons (pv 3) (pa_cons (pv 5) (pa_cons (pe_lst pa_nil) pa_nil))))))
    (pss_cons (ps_for PassesOwn.never rfl (pi_range1 (by rfl) T.B.range (pa_cons (pe_op op_add pe_int (C8.pe_c (c__law_draw T) hr (by decide) (by rfl) (pa_cons (pv 1) (pa_cons pe_int pa_nil)))) pa_nil)) (pg_name (i := 6) (C8.fnScope_by sc_law).nd rfl (Or.inl rfl)) (pss_cons (ps_asg (C8.pe_c (c__law_deed T) hr (by decide) (by rfl) (pa_cons (pv 1) (pa_cons (pv 9) pa_nil))) (pg_tup rfl (pgs_cons (pg_name (i := 10) (C8.fnScope_by sc_law).nd rfl (Or.inl rfl)) (pgs_cons (pg_name (i := 11) (C8.fnScope_by sc_law).nd rfl (Or.inl rfl)) (pgs_cons (pg_name (i := 12) (C8.fnScope_by sc_law).nd rfl (Or.inl rfl)) pgs_nil)))))
    (pss_cons (ps_set (i := 13) (C8.fnScope_by sc_law).nd rfl (Or.inl rfl) (C8.pe_c (c__law_due T) hr (by decide) (by rfl) (pa_cons (pv 9) (pa_cons (pv 10) (pa_cons (pv 11) (pa_cons (pv 12) pa_nil))))))
    (C8.pss_cut (ps_if (pt_not (pt_val (C8.pe_c (c_same T 3) hr (by decide) (by rfl) (pa_cons (C8.pe_c (c__law_outcome T) hr (by decide) (by rfl) (pa_cons (pv 4) (pa_cons (pv 10) (pa_cons (pv 11) (pa_cons (pv 12) pa_nil))))) (pa_cons (pv 13) pa_nil))))) (pss_one (ps_ret pe_bl)) pss_nil)
    (C8.pss_cut (ps_if (pt_cmpR op_eq (pe_ix ix_tup (pv 13) pe_int (fun _ _ => rfl)) pe_str (nomark _)) (pss_one (ps_expr (C8.pe_c (c__law_done T) hr (by decide) (by rfl) (pa_cons (pv 9) (pa_cons (pv 10) (pa_cons (pv 11) (pa_cons (pv 12) pa_nil))))))) pss_nil)
    (pss_one (ps_if (pt_not (pt_val (C8.pe_c (c__law_state_right T) hr (by decide) (by rfl) (pa_cons (pv 4) (pa_cons (pv 9) pa_nil))))) (pss_one (ps_ret pe_bl)) pss_nil)))))))
    (pss_one (ps_ret pe_bl))))))))))), ?_⟩
  refine ⟨_, rfl, sc, ns, rfl, hSc, h63, fun H1 a l0 _ f1 s1 => ?_⟩
  refine ⟨_, rfl, _, rfl, a, l0, 5, rfl, f1, small400 (by decide), fun H2 r f2 b2 r0 r1 => ?_⟩
  have r5 : r < 5 := r1
  obtain ⟨m, rfl⟩ : ∃ m : Nat, r = m := ⟨r.toNat, by omega⟩
  refine ⟨_, _, rfl, rfl, a, l0, 2 + m, by show [V.ref a, V.int (2 + (m : Int))] = [V.ref a, V.int ((2 + m : Nat) : Int)]; rw [Int.natCast_add]; rfl, by omega, f2, fun H3 Ls ss hLs f3 b3 eLs lss hn nd => ?_⟩
  have nLs := f2.neq hLs
  clear b2 r0 r1 s1 b3 hLs
  refine ⟨_, rfl, a, l0, rfl, f3, fun H4 x f4 b4 gd => ?_⟩
  obtain ⟨tS, w1, d1, lo, rfl, eS, sok⟩ := gd
  have eLs4 := b4 _ _ eLs nLs.1
  clear b4 eLs f3
  refine ⟨_, rfl, _, rfl, _, rfl, a, l0, rfl, f4, fun H5 rp rs hrp f5 b5 er rok => ?_⟩
  have eLs5 := b5 _ _ eLs4 nLs.1
  have eS5 := but_no f4 b5 _ _ eS (fun _ z => nomatch z)
  clear b5 eLs4 eS f4 hrp
  refine fun g dx hg hdx gdx => ?_
  have oldg : ∀ {b : Addr} {o : HO}, H5 b = some o → L2.upd (L2.upd H5 dx (.own g)) g (.ins (lg K) dx []) b = some o ∧ b ≠ g := fun {b o} hb => by
    have n1 : b ≠ g := fun e => by rw [e, hg] at hb; cases hb
    have n2 : b ≠ dx := fun e => by rw [e, hdx] at hb; cases hb
    exact ⟨by rw [upd_ne n1, upd_ne n2]; exact hb, n1⟩
  refine ⟨g, Ls, tS, rp, dx, ss, rs, w1, d1, lo, rfl, upd_same, (oldg eLs5).1, by omega, by omega, hn, nd, (oldg eS5).1, sok, (oldg er).1, rok, fun H6 ts tr l tg B6 g6 _ _ nl _ lg' e1 e2 e3 e4 => ⟨rfl, ?_⟩⟩
  have S6 : Same H5 H6 := fun b o hb => B6 b o (oldg hb).1 (oldg hb).2
  have l5 : H5 l = none := by
    cases e : H5 l with
    | none => rfl
    | some o =>
      have nl2 : L2.upd (L2.upd H5 dx (.own g)) g (.ins (lg K) dx []) l = none := nl
      rw [(oldg e).1] at nl2
      cases nl2
  have nla := f5.neq l5
  have nlLs : l ≠ Ls := fun e => by rw [e, eLs5] at l5; cases l5
  have f6 := f5.keep S6
  have eLs6 := S6 _ _ eLs5
  have eS6 := S6 _ _ eS5
  have L6 : LgAt K H6 g l ⟨ss, w1, d1, lo, [], []⟩ := ⟨⟨dx, ts, tS, tr, tg, [], g6, e1, eS6, e4, e3, trivial⟩, hn, (fun s hs => nomatch hs), by show 0 ≤ 80; decide, sok, by show ss.length ≤ 8; omega⟩
  clear B6 oldg hg hdx gdx g6 nl e1 e2 e4 S6 l5 er eLs5 eS5
  -- games = []
  refine ⟨by show 0 ≤ sizeLine; decide, fun Lg hLg => ?_⟩
  have kg := same_new hLg (.lst [])
  have nLga := f6.neq hLg
  have nLgl : Lg ≠ l := fun e => by rw [e, e3] at hLg; cases hLg
  have nLgLs : Lg ≠ Ls := fun e => by rw [e, eLs6] at hLg; cases hLg
  have f7 := f6.keep kg
  have L7 := L6.same kg
  have eLs7 := kg _ _ eLs6
  have eS7 := kg _ _ eS6
  have eLg7 : (L2.upd H6 Lg (.lst [])) Lg = some (.lst []) := upd_same
  generalize (L2.upd H6 Lg (.lst [])) = H7 at f7 L7 eLs7 eS7 eLg7 kg ⊢
  clear kg e3 hLg f6 L6 eLs6 eS6
  refine ⟨_, rfl, a, l0, 10, rfl, f7, small400 (by decide), fun H8 r8 f8 b8 r80 r81 => ?_⟩
  have r810 : r8 < 10 := r81
  have L8 := L7.fr (but_no f7 b8) (fun o h => b8 _ _ h nla.1)
  have eLs8 := b8 _ _ eLs7 nLs.1
  have eS8 := but_no f7 b8 _ _ eS7 (fun _ z => nomatch z)
  have eLg8 := b8 _ _ eLg7 nLga.1
  clear b8 L7 eLs7 eS7 eLg7 f7
  refine ⟨_, _, rfl, rfl, _, rfl, by omega, by omega, ?_⟩
  obtain ⟨n, hnn⟩ : ∃ n : Nat, (1 + r8).toNat = n := ⟨_, rfl⟩
  rw [hnn]
  refine for_range (lo := 0) (n := n) (fun i σ' H' => (∃ x6 x7 x8, σ' = [some (.ref sc), some (.ref a), some (.ref Ls), some (.ref tS), some (.ref g), some (.ref Lg), x6, x7, x8, none, none, none, none, none]) ∧ ∃ (gs : List G3) (is : List Addr), gs.length = i ∧ FlowL H' a l0 ∧ LgAt K H' g l ⟨ss, w1, d1, lo, gs, []⟩ ∧ H' Ls = some (.lst (ss.map V.str)) ∧ H' tS = some (.tup [.int w1, d1, .int lo]) ∧ H' Lg = some (.lst (is.map V.ref)) ∧ IsAt H' is gs ∧ (a :: l0 :: l :: Ls :: Lg :: is).Nodup)
    ⟨⟨_, _, _, rfl⟩, [], [], rfl, f8, L8, eLs8, eS8, eLg8, trivial, by simp only [List.nodup_cons, List.mem_cons, List.not_mem_nil, or_false, not_or, List.nodup_nil, not_false_eq_true, and_true]; exact ⟨⟨Ne.symm f8.ne, Ne.symm nla.1, Ne.symm nLs.1, Ne.symm nLga.1⟩, ⟨Ne.symm nla.2, Ne.symm nLs.2, Ne.symm nLga.2⟩, ⟨nlLs, Ne.symm nLgl⟩, Ne.symm nLgLs⟩⟩ ?_ ?_
  · rintro i σ' Ha hi ⟨⟨x6, x7, x8, rfl⟩, gs, is, hgl, fa, La, eLsa, eSa, eLga, hI, nd7⟩
    have lss' : ss.length = 2 + m := lss
    have iLe : i < 11 := by omega
    refine ⟨_, rfl, _, rfl, Ls, _, rfl, .inl (SqL.of eLsa), a, l0, _, rfl, fa, small400 (by rw [List.length_map, lss']; omega), fun Hb rh fb bb rh0 rh1 => ?_⟩
    have nl' : (l ≠ a ∧ l ≠ l0) := nla
    rw [List.length_map, lss', show mx ((2 + m : Nat) : Int) = ((2 + m : Nat) : Int) from by unfold mx; split <;> omega] at rh1
    have eLsb := bb _ _ eLsa nLs.1
    have eSb := but_no fa bb _ _ eSa (fun _ z => nomatch z)
    have eLgb := bb _ _ eLga nLga.1
    have Lb := La.fr (but_no fa bb) (fun o h => bb _ _ h nla.1)
    have nis : ∀ b ∈ is, b ≠ a := fun b hb e => by
      have h1 := (List.nodup_cons.mp nd7).1
      exact h1 (by rw [← e]; simp [hb])
    have hIb := hI.keep (fun b hb o h => bb _ _ h (nis b hb))
    clear bb eLsa eSa eLga La hI fa
    obtain ⟨hm, rfl⟩ : ∃ hm : Nat, rh = hm := ⟨rh.toNat, by omega⟩
    refine ⟨_, rfl, _, _, rfl, rfl, _, rfl, _, rfl, Ls, _, rfl, .inl (SqL.of eLsb), _, _, rfl, rfl, a, l0, _, rfl, fb, small400 (by rw [List.length_map, lss']; omega), fun Hc rd fc bc rd0 rd1 => ?_⟩
    rw [List.length_map, lss'] at rd1
    have rd2 : rd < ((2 + m : Nat) : Int) := by unfold mx at rd1; split at rd1 <;> omega
    have eLsc := bc _ _ eLsb nLs.1
    have eSc := but_no fb bc _ _ eSb (fun _ z => nomatch z)
    have eLgc := bc _ _ eLgb nLga.1
    have Lc := Lb.fr (but_no fb bc) (fun o h => bc _ _ h nla.1)
    have hIc := hIb.keep (fun b hb o h => bc _ _ h (nis b hb))
    clear bc eLsb eSb eLgb Lb hIb fb
    refine ⟨_, _, rfl, rfl, _, rfl, Ls, _, rfl, .inl (SqL.of eLsc), ?_⟩
    refine ⟨_, _, rfl, rfl, by rw [List.length_map, lss']; omega, ?_⟩
    rw [List.length_map, lss']
    obtain ⟨am, ea⟩ : ∃ am : Nat, ((hm : Int) + 1 + rd) % ((2 + m : Nat) : Int) = am := ⟨(((hm : Int) + 1 + rd) % ((2 + m : Nat) : Int)).toNat, (Int.toNat_of_nonneg (Int.emod_nonneg _ (by omega))).symm⟩
    show gName 8 (.int (((hm : Int) + 1 + rd) % ((2 + m : Nat) : Int))) _ _ _
    rw [ea]
    have am1 : am < 2 + m := by have := Int.emod_lt_of_pos ((hm : Int) + 1 + rd) (show (0 : Int) < ((2 + m : Nat) : Int) by omega); omega
    have hm1 : hm < 2 + m := by omega
    have ham : hm ≠ am := fun e => emod_ne (h := hm) (r := rd) (n := ((2 + m : Nat) : Int)) (by omega) (by omega) rd0 (by unfold mx at rd1; split at rd1 <;> omega) (by rw [ea, e])
    obtain ⟨sh, esh⟩ : ∃ s, ss[hm]? = some s := ⟨_, List.getElem?_eq_getElem (by omega)⟩
    obtain ⟨sa, esa⟩ : ∃ s, ss[am]? = some s := ⟨_, List.getElem?_eq_getElem (by omega)⟩
    have hsa : sh ≠ sa := fun e => ham ((List.getElem?_inj (i := hm) (j := am) (by omega) nd).mp (by rw [esh, esa, e]))
    have ath : atI (ss.map V.str) ((hm : Nat) : Int) = some (.str sh) := atI_nat (by rw [List.getElem?_map, esh]; rfl)
    have ata : atI (ss.map V.str) ((am : Nat) : Int) = some (.str sa) := atI_nat (by rw [List.getElem?_map, esa]; rfl)
    have mh : sh ∈ ss := List.mem_of_getElem? esh
    have ma : sa ∈ ss := List.mem_of_getElem? esa
    have pl : ∀ s, s ∈ ss → playing ⟨ss, w1, d1, lo, gs, []⟩ (.str s) = true := fun s hs => by
      rw [playing_s, show (Lgv.ss ⟨ss, w1, d1, lo, gs, []⟩).contains s = true from List.contains_iff_mem.mpr hs]
      rfl
    refine ⟨_, rfl, .inl ⟨rfl, _, SqL.of eLgc⟩, _, rfl, _, rfl, Ls, _, _, _, rfl, rfl, SqL.of eLsc, ath, _, rfl, _, rfl, Ls, _, _, _, rfl, rfl, SqL.of eLsc, ata, by show 3 ≤ sizeLine; decide, fun li hli => ?_⟩
    obtain ⟨⟨xa, ha⟩, ⟨xl, hl0⟩⟩ := fc.isL
    obtain ⟨cdx, cts, ctc, ctr, ctg, cas, c1, c2, c3, c4, c5, c6⟩ := Lc.ex
    have nil : ∀ b, b ∈ a :: l0 :: l :: Ls :: Lg :: is → b ≠ li := fun b hb e => by
      rw [e] at hb
      simp only [List.mem_cons] at hb
      rcases hb with rfl | rfl | rfl | rfl | rfl | hb
      · rw [ha] at hli; cases hli
      · rw [hl0] at hli; cases hli
      · rw [c5] at hli; cases hli
      · rw [eLsc] at hli; cases hli
      · rw [eLgc] at hli; cases hli
      · obtain ⟨xs, hx⟩ := hIc.mem hb
        rw [hx] at hli; cases hli
    have nLgli : Lg ≠ li := nil Lg (by simp)
    have six : is.length = i := by rw [hIc.len, hgl]
    refine ⟨Lg, is.map V.ref, _, rfl, rfl, by rw [upd_ne nLgli]; exact eLgc, by rw [List.length_map, six]; exact small1000 (by omega), ?_⟩
    have kx : ∀ b o, Hc b = some o → b ≠ Lg → L2.upd (L2.upd Hc li (.lst [.str sh, .str sa, .str "left"])) Lg (.lst (is.map V.ref ++ [.ref li])) b = some o := fun b o hb n1 => by
      rw [upd_ne n1, upd_ne (ne_of_none hb hli)]; exact hb
    have nd8 := nd7
    simp only [List.nodup_cons, List.mem_cons, not_or] at nd8
    obtain ⟨⟨n11, n12, n13, n14, n15⟩, ⟨n21, n22, n23, n24⟩, ⟨n31, n32, n33⟩, ⟨n41, n42⟩, n51, n61⟩ := nd8
    have eg : L2.upd (L2.upd Hc li (.lst [.str sh, .str sa, .str "left"])) Lg (.lst (is.map V.ref ++ [.ref li])) Lg = some (.lst ((is ++ [li]).map V.ref)) := by rw [upd_same, List.map_append]; rfl
    have eli : L2.upd (L2.upd Hc li (.lst [.str sh, .str sa, .str "left"])) Lg (.lst (is.map V.ref ++ [.ref li])) li = some (.lst [.str sh, .str sa, .str "left"]) := by rw [upd_ne (Ne.symm nLgli), upd_same]
    have noL : ∀ b o, Hc b = some o → (∀ xs, o ≠ .lst xs) → b ≠ Lg := fun b o hb no e => by
      rw [e, eLgc] at hb
      exact no _ (Option.some.inj hb).symm
    generalize L2.upd (L2.upd Hc li (.lst [.str sh, .str sa, .str "left"])) Lg (.lst (is.map V.ref ++ [.ref li])) = Hd at kx eg eli ⊢
    have Ld := Lc.fr (fun b o hb no => kx b o hb (noL b o hb no)) (fun o h => kx l o h n32)
    refine ⟨_, rfl, g, cdx, _, rfl, kx g _ c1 (noL g _ c1 (fun _ z => nomatch z)), lf_m (by decide +kernel), _, rfl, _, rfl, Ls, _, _, _, rfl, rfl, SqL.of (kx Ls _ eLsc n41), ath, _, rfl, _, rfl, Ls, _, _, _, rfl, rfl, SqL.of (kx Ls _ eLsc n41), ata, g, l, _, .str sh, .str sa, rfl, Ld, .inl rfl, .inl rfl, fun c => absurd (pl sh mh) (by rw [c]; decide), fun _ c => absurd (pl sa ma) (by rw [c]; decide), fun _ _ e => absurd (V.str.inj e) hsa, fun _ _ _ c => absurd c (by show ¬ 80 ≤ gs.length; omega), fun _ _ _ _ u v eu ev He Le be => ?_⟩
    obtain rfl := V.str.inj eu
    obtain rfl := V.str.inj ev
    refine ⟨⟨_, _, _, rfl⟩, gs ++ [((sh, sa, "left") : G3)], is ++ [li], by rw [List.length_append, hgl]; rfl, (fc.fr (fun o h => be _ _ (kx _ _ h n14) n12) (fun o h => be _ _ (kx _ _ h n23) n21)), Le, be _ _ (kx _ _ eLsc n41) (Ne.symm n31), be _ _ (kx _ _ eSc (noL _ _ eSc (fun _ z => nomatch z))) ?_, be _ _ eg (Ne.symm n32), IsAt.snoc (g := ((sh, sa, "left") : G3)) (be _ _ eli (Ne.symm (nil l (by simp)))) (hIc.keep (fun b hb o h => be _ _ (kx _ _ h (fun e => n51 (by rw [← e]; exact hb))) (fun e => n33 (by rw [← e]; exact hb)))), ?_⟩
    · intro e
      rw [e, c5] at eSc
      cases eSc
    · refine List.nodup_append.mpr ⟨nd7, by simp, fun x hx y hy e => nil x hx ?_⟩
      rw [e]
      exact List.mem_singleton.mp hy
  · rintro σ' Ha ⟨⟨x6, x7, x8, rfl⟩, gs, is, hgl, fa, La, eLsa, eSa, eLga, hI, nd7⟩
    refine ⟨_, rfl, _, rfl, _, rfl, by show 0 ≤ sizeLine; decide, fun Lo hLo => ?_⟩
    refine ⟨by show 4 ≤ sizeLine; decide, fun pS hpS => ?_⟩
    have ks := Same.trans (same_new hLo (.lst [])) (same_new hpS (.tup [.ref Ls, .ref tS, .ref Lg, .ref Lo]))
    have W0 : Wd K (L2.upd (L2.upd Ha Lo (.lst [])) pS (.tup [.ref Ls, .ref tS, .ref Lg, .ref Lo])) a l0 g l pS Ls tS Lg Lo is ⟨ss, w1, d1, lo, gs, []⟩ := by
      have all : ∀ b ∈ a :: l0 :: l :: Ls :: Lg :: is, b ≠ Lo := fun b hb e => by
        obtain ⟨⟨xa, ha⟩, ⟨xl, hl0⟩⟩ := fa.isL
        obtain ⟨xq, hq⟩ := La.isL.2
        rw [e] at hb
        simp only [List.mem_cons] at hb
        rcases hb with rfl | rfl | rfl | rfl | rfl | hb
        · rw [ha] at hLo; cases hLo
        · rw [hl0] at hLo; cases hLo
        · rw [hq] at hLo; cases hLo
        · rw [eLsa] at hLo; cases hLo
        · rw [eLga] at hLo; cases hLo
        · obtain ⟨xs, hx⟩ := hI.mem hb
          rw [hx] at hLo; cases hLo
      have nd9 : (a :: l0 :: l :: Ls :: Lg :: Lo :: is).Nodup := by
        have x1 := all a (by simp)
        have x2 := all l0 (by simp)
        have x3 := all l (by simp)
        have x4 := all Ls (by simp)
        have x5 := all Lg (by simp)
        have x6 : Lo ∉ is := fun hb => all Lo (by simp [hb]) rfl
        have nd8 := nd7
        simp only [List.nodup_cons, List.mem_cons, not_or] at nd8 ⊢
        obtain ⟨⟨n11, n12, n13, n14, n15⟩, ⟨n21, n22, n23, n24⟩, ⟨n31, n32, n33⟩, ⟨n41, n42⟩, n51, n61⟩ := nd8
        exact ⟨⟨n11, n12, n13, n14, x1, n15⟩, ⟨n21, n22, n23, x2, n24⟩, ⟨n31, n32, x3, n33⟩, ⟨n41, x4, n42⟩, ⟨x5, n51⟩, x6, n61⟩
      have nd10 := (List.nodup_cons.mp (List.nodup_cons.mp (List.nodup_cons.mp nd9).2).2).2
      exact ⟨fa.keep ks, La.same ks, ⟨upd_same, ks _ _ eLsa, ks _ _ eSa, ks _ _ eLga, hI.same ks, ⟨[], same_new hpS _ _ _ upd_same, by simp, (fun _ h => nomatch h), List.nodup_nil⟩, nd10⟩, nd9, by show 2 ≤ ss.length; omega, by show 1 ≤ gs.length; omega⟩
    generalize L2.upd (L2.upd Ha Lo (.lst [])) pS (.tup [.ref Ls, .ref tS, .ref Lg, .ref Lo]) = Hb at W0 ⊢
    clear ks hLo hpS eLga eSa eLsa La fa hI nd7
    refine ⟨_, rfl, a, l0, 20, rfl, W0.fl, small400 (by decide), fun H9 r9 f9 b9 r90 r91 => ?_⟩
    have r910 : r9 < 20 := r91
    have W1 := W0.but f9 b9
    refine ⟨_, _, rfl, rfl, _, rfl, by omega, by omega, ?_⟩
    obtain ⟨n2, hn2⟩ : ∃ n : Nat, (6 + r9).toNat = n := ⟨_, rfl⟩
    rw [hn2]
    clear W0 f9 b9 r90 r91
    refine for_range (lo := 0) (n := n2) (fun i σ' H' => (∃ x6 x7 x8 x10 x11 x12 x13, σ' = [some (.ref sc), some (.ref a), some (.ref Ls), some (.ref tS), some (.ref g), some (.ref Lg), x6, x7, x8, some (.ref pS), x10, x11, x12, x13]) ∧ ∃ (l : Addr) (z : Lgv), Wd K H' a l0 g l pS Ls tS Lg Lo is z)
      ⟨⟨_, _, _, _, _, _, _, rfl⟩, l, _, W1⟩ ?_ ?_
    · rintro i σ' Hx hi ⟨⟨y6, y7, y8, y10, y11, y12, y13, rfl⟩, l, z, W⟩
      have na : a ∉ Ls :: Lg :: Lo :: is := fun m => (List.nodup_cons.mp W.nd).1 (List.mem_cons_of_mem _ (List.mem_cons_of_mem _ m))
      refine ⟨_, rfl, _, rfl, a, l0, pS, Ls, tS, Lg, Lo, is, z, rfl, W.fl, W.st, na, W.lg.names, W.s2, W.lg.len8, W.g1, W.lg.small, fun Hb t d u v fb bb et hd su sv => ?_⟩
      have Wb := W.but fb bb
      clear W bb fb
      refine ⟨t, _, rfl, SqT.of et, rfl, _, _, rfl, _, _, rfl, _, _, rfl, rfl, ?_⟩
      refine ⟨_, rfl, _, rfl, _, rfl, _, rfl, pS, Ls, tS, Lg, Lo, is, z, d, u, v, rfl, Wb.st, Wb.lg.names, Wb.lg.small, su.odd, sv.odd, fun Hc t1 kc et1 => ?_⟩
      have Wc := Wb.same kc
      have suc := su.same kc
      have svc := sv.same kc
      clear Wb su sv et kc
      refine ⟨fun σ' H' => σ' = [some (.ref sc), some (.ref a), some (.ref Ls), some (.ref tS), some (.ref g), some (.ref Lg), some (.int (0 + (i : Int))), y7, y8, some (.ref pS), some (.str d), some u, some v, some (.ref t1)] ∧ H' t1 = some (.tup [.str (dueOf z d u v).1, (dueOf z d u v).2]) ∧ ∃ l' : Addr, ((dueOf z d u v).1 ≠ "done" → Wd K H' a l0 g l pS Ls tS Lg Lo is z) ∧ ((dueOf z d u v).1 = "done" → LgAt K H' g l' (nextZ z d u v) ∧ But2 g l Hc H' ∧ (l' = l ∨ Hc l' = none)), ?_, ?_⟩
      · refine ⟨_, rfl, _, rfl, _, rfl, _, rfl, g, l, z, d, u, v, rfl, Wc.lg, suc.odd, fun H' k => (svc.same k).odd, hd, fun Hd t2 l' et2 n1 n2 => ?_⟩
        have k1 : Hd t1 = some (.tup [.str (dueOf z d u v).1, (dueOf z d u v).2]) := by
          by_cases c : (dueOf z d u v).1 = "done"
          · exact (Wc.st2 (n2 c).2.1).2 _ _ et1
          · exact n1 c _ _ et1
        have sm : Smp Hd (dueOf z d u v).2 := by
          by_cases c : (dueOf z d u v).1 = "done"
          · rw [due_done c]; exact .inl rfl
          · exact due_smp (suc.same (n1 c))
        refine ⟨_, rfl, _, _, rfl, EqN.tup et2 k1 rfl (by show 2 ≤ 1000; decide) (fun j x y hx hy => ?_), fun He ke => ?_⟩
        · rw [hx] at hy
          obtain rfl := Option.some.inj hy
          match j, hx with
          | 0, hx => obtain rfl := Option.some.inj hx; exact EqN.atom rfl
          | 1, hx => obtain rfl := Option.some.inj hx; exact sm.eq
          | j + 2, hx => cases hx
        · refine ⟨true, rfl, ifF (c := !true) rfl ⟨rfl, ke _ _ k1, l', fun c => Wc.same (Same.trans (n1 c) ke), fun c => ?_⟩⟩
          obtain ⟨p1, p2, p3⟩ := n2 c
          exact ⟨p1.same ke, fun b o h x y => ke _ _ (p2 b o h x y), p3⟩
      · rintro σ' He ⟨rfl, ke1, l', n1, n2⟩
        refine ⟨fun σ' H' => σ' = [some (.ref sc), some (.ref a), some (.ref Ls), some (.ref tS), some (.ref g), some (.ref Lg), some (.int (0 + (i : Int))), y7, y8, some (.ref pS), some (.str d), some u, some v, some (.ref t1)] ∧ ∃ (l : Addr) (z : Lgv), Wd K H' a l0 g l pS Ls tS Lg Lo is z, ?_, ?_⟩
        · refine ⟨_, rfl, t1, _, _, _, rfl, rfl, SqT.of ke1, at_of (j := 0) rfl rfl, rfl, ?_⟩
          by_cases c : (dueOf z d u v).1 = "done"
          · obtain ⟨p1, p2, p3⟩ := n2 c
            refine ⟨_, rfl, ifT (decide_eq_true (by rw [c])) ⟨_, rfl, _, rfl, _, rfl, _, rfl, pS, Ls, tS, Lg, Lo, is, z, d, u, v, rfl, (Wc.st2 p2).1, Wc.lg.len8, Wc.lg.small, hd, c, fun Hf sf bf => ⟨rfl, l', _, Wc.deed p1 p2 p3 sf bf⟩⟩⟩
          · exact ⟨_, rfl, ifF (decide_eq_false fun e => c (V.str.inj e)) ⟨rfl, l, z, n1 c⟩⟩
        · rintro σ' Hf ⟨rfl, l2, z2, W2⟩
          exact ⟨_, rfl, _, rfl, g, l2, pS, Ls, tS, Lg, Lo, is, z2, rfl, W2.lg, W2.st, fun Hg kg => ⟨true, rfl, ifF (c := !true) rfl ⟨⟨_, _, _, _, _, _, _, rfl⟩, l2, z2, W2.same kg⟩⟩⟩
    · rintro σ' Hx ⟨⟨y6, y7, y8, y10, y11, y12, y13, rfl⟩, l, z, W⟩
      exact q _
end
end My

namespace My
open PySem PySem.Spec PyProof.Rows L2
/-! ### what the head's heap says of the error classes -/
def clsB (K : PySem.W.Frag) (C : Addr) : Bool := match K.lookup C with
  | some ⟨.type "type", _, .cls cd, sl⟩ => (match cd.mro, sl.toList with
    | .ref C2 :: bm, [_, _, _, _, some (.builtin n), _] => decide (C2 = C) && (decide (n = "Exception.__new__") && (!cd.hasDel && (cd.hasDict && PySem.MyX.refsE bm)))
    | _, _ => false)
  | _ => false
theorem clsB_ok {K : PySem.W.Frag} {C : Addr} (q : clsB K C = true) : ∃ nm q N bs bm sn sub ab col dd k0 k1 k2 k3 k5, K.lookup C = some (excClassObj nm q C N bs bm true sn sub ab col dd k0 k1 k2 k3 k5 "Exception.__new__") ∧ PySem.MyX.refsE bm = true := by
  unfold clsB at q
  split at q
  · rename_i dd cd sl ho
    split at q
    · rename_i C2 bm k0 k1 k2 k3 n k5 hm hs
      obtain ⟨q1, q⟩ := He.ba q
      obtain ⟨q2, q⟩ := He.ba q
      obtain ⟨q3, q⟩ := He.ba q
      obtain ⟨q4, q5⟩ := He.ba q
      have e1 := of_decide_eq_true q1
      have e2 := of_decide_eq_true q2
      subst e1 e2
      obtain ⟨nm, bs, mro, ns, qn, hd, sn, sub, ab, col, del⟩ := cd
      dsimp only at hm q3 q4
      have e3 : del = false := by cases del with
        | false => rfl
        | true => cases q3
      subst hm e3 q4
      have hsl : sl = #[k0, k1, k2, k3, some (.builtin "Exception.__new__"), k5] := by
        obtain ⟨l⟩ := sl
        simp only at hs
        rw [hs]
      subst hsl
      exact ⟨nm, qn, ns, bs, bm, sn, sub, ab, col, dd, k0, k1, k2, k3, k5, ho, q5⟩
    · cases q
  · cases q
def errB (K : PySem.W.Frag) (C fI : Addr) (n : Str) : Bool := clsB K C && (He.eqO (PySem.W.findIn K (.ref C) "__setattr__") (some (some (.builtin "object.__setattr__"))) && (He.eqO (PySem.W.findIn K (.ref C) "__getattribute__") (some (some (.builtin "BaseException.__getattribute__"))) &&
  (He.eqO (PySem.W.findIn K (.ref C) "__getattr__") (some none) && (He.eqO (PySem.W.findIn K (.ref C) n) (some none) && (He.eqO (PySem.W.findIn K (.ref C) "__init__") (some (some (.ref fI))) && (decide (PySem.W.typeIn K (.ref fI) = some (.type "function")) && (PySem.W.keepIn K (.ref C) &&
  (decide (PySem.W.subIn K (.ref C) (.type "BaseException") = some true) && (decide (PySem.W.typeIn K (.ref C) = some (.type "type")) && PySem.W.hasDictIn K C)))))))))
def excB (K : PySem.W.Frag) (D : Addr) : Bool := He.eqO (PySem.W.findIn K (.ref D) "__class__") (some (some (.builtin "object.__class__"))) && (He.eqO (PySem.W.specialIn K (.builtin "object.__class__") "__get__") (some (some (.builtin "getset_descriptor.__get__"))) &&
  (decide (PySem.W.takesIn K (.builtin "object.__class__") = some true) && decide (PySem.W.mroIn K D (.type "object") = some true)))
def er (K : PySem.W.Frag) (n : Str) (a : Str) : Bool := errB K (He.ga K n) (He.ma K (He.ga K n) "__init__") a
def ex (K : PySem.W.Frag) : Bool := (er K "BadValue" "at" && (er K "BadGame" "number" && (er K "BadSide" "name" && (er K "TooMany" "word" && (He.tupB K "OUTCOMES" [.str "home", .str "draw", .str "away"] && He.tupB K "RULES" [.str "points", .str "wins", .str "away", .str "among"])))))
theorem errC_of {K : PySem.W.Frag} {C fI : Addr} {n : Str} (h : errB K C fI n = true) (nn : n ≠ "self" ∧ (n == ("__debug__" : Str)) = false)
    (fn : ∃ (oc : Value) (od : Option Addr) (kV doc pm : Value) (an : Option Addr) (cdv ct : Value) (osl : Array (Option Value)) (ql : Str) (p1 p2 q1 q2 q3 q4 : Pos),
      K.lookup fI = some ⟨oc, od, .func (PySem.W.fnOf "__init__" ql (PySem.MyX.iA n p1 p2) (PySem.MyX.iB n q1 q2 q3 q4) (PySem.MyX.iS n) .none kV doc pm an cdv ct), osl⟩ ∧ PySem.W.codeIn K cdv ql = true ∧
        ∀ u v : Value, bindArgs (PySem.W.fnOf "__init__" ql (PySem.MyX.iA n p1 p2) (PySem.MyX.iB n q1 q2 q3 q4) (PySem.MyX.iS n) .none kV doc pm an cdv ct) ⟨[u, v], []⟩ = pure [(PySem.Str.ofString "self", u), (n, v)]) : PySem.MyX.ErrC K C fI n := by
  unfold errB at h
  obtain ⟨c0, h⟩ := He.ba h
  obtain ⟨c1, h⟩ := He.ba h
  obtain ⟨c2, h⟩ := He.ba h
  obtain ⟨c3, h⟩ := He.ba h
  obtain ⟨c4, h⟩ := He.ba h
  obtain ⟨c5, h⟩ := He.ba h
  obtain ⟨c6, h⟩ := He.ba h
  obtain ⟨c7, h⟩ := He.ba h
  obtain ⟨c8, h⟩ := He.ba h
  obtain ⟨c9, c10⟩ := He.ba h
  exact ⟨clsB_ok c0, He.eqO_ok c1, He.eqO_ok c2, He.eqO_ok c3, He.eqO_ok c4, He.eqO_ok c5, of_decide_eq_true c6, c7, of_decide_eq_true c8, of_decide_eq_true c9, c10, nn, fn⟩
/-! ### the Hook: facts by names, and a Bool of one's own -/
def obsX (n : Nat) (fa : List He.Fa) (fn : List He.DefD) (ex : PySem.W.Frag → Bool) (g : Addr → Option Obj) : Bool × He.AlD := (ex (He.frG g (He.asD g n)), He.obsD fa fn (He.frG g (He.asD g n)))
def hookX (n : Nat) (fa : List He.Fa) (fn : List He.DefD) (ex : PySem.W.Frag → Bool) : PySem.W.Hook where
  α := Bool × He.AlD
  obs := fun s => obsX n fa fn ex s.heap.get?
  val := fun _ => (true, He.valD fn)
  says := fun _ h => ∃ K : PySem.W.Frag, K.In h ∧ ex K = true ∧ He.SaysD fa fn K
  of := fun _ _ e => ⟨_, He.frG_in, congrArg Prod.fst e, congrArg Prod.snd e⟩
  keeps := fun _ _ _ ⟨K, hK, c⟩ k => ⟨K, PySem.W.Frag.In.keeps hK k, c⟩
theorem obsX_eq {n : Nat} {fa : List He.Fa} {fn : List He.DefD} {ex : PySem.W.Frag → Bool} {g : Addr → Option Obj} {s : Shared} (h : ∀ a, g a = s.heap.get? a) : obsX n fa fn ex g = (hookX n fa fn ex).obs s := by
  have e : g = s.heap.get? := funext h
  rw [e] <;> rfl
def d__wall : He.DefD := ⟨("_wall", none), "_wall", "_wall", defArgs s__wall, defBody s__wall, defScope s__wall, [], []⟩
def d_is_sequence : He.DefD := ⟨("is_sequence", none), "is_sequence", "is_sequence", defArgs s_is_sequence, defBody s_is_sequence, defScope s_is_sequence, [], []⟩
def d_is_integer : He.DefD := ⟨("is_integer", none), "is_integer", "is_integer", defArgs s_is_integer, defBody s_is_integer, defScope s_is_integer, [], []⟩
def d_is_number : He.DefD := ⟨("is_number", none), "is_number", "is_number", defArgs s_is_number, defBody s_is_number, defScope s_is_number, [], []⟩
def d_is_word : He.DefD := ⟨("is_word", none), "is_word", "is_word", defArgs s_is_word, defBody s_is_word, defScope s_is_word, [], []⟩
def d_is_name : He.DefD := ⟨("is_name", none), "is_name", "is_name", defArgs s_is_name, defBody s_is_name, defScope s_is_name, [], []⟩
def d_are_names : He.DefD := ⟨("are_names", none), "are_names", "are_names", defArgs s_are_names, defBody s_are_names, defScope s_are_names, [], []⟩
def d_outcomes_of : He.DefD := ⟨("outcomes_of", none), "outcomes_of", "outcomes_of", defArgs s_outcomes_of, defBody s_outcomes_of, defScope s_outcomes_of, [], []⟩
def d__are_sides : He.DefD := ⟨("_are_sides", none), "_are_sides", "_are_sides", defArgs s__are_sides, defBody s__are_sides, defScope s__are_sides, [], []⟩
def d__is_scheme : He.DefD := ⟨("_is_scheme", none), "_is_scheme", "_is_scheme", defArgs s__is_scheme, defBody s__is_scheme, defScope s__is_scheme, [], []⟩
def d__is_mark : He.DefD := ⟨("_is_mark", none), "_is_mark", "_is_mark", defArgs s__is_mark, defBody s__is_mark, defScope s__is_mark, [], []⟩
def d__are_rules : He.DefD := ⟨("_are_rules", none), "_are_rules", "_are_rules", defArgs s__are_rules, defBody s__are_rules, defScope s__are_rules, [], []⟩
def d__law_flow : He.DefD := ⟨("_law_flow", none), "_law_flow", "_law_flow", defArgs s__law_flow, defBody s__law_flow, defScope s__law_flow, [], []⟩
def d__law_load : He.DefD := ⟨("_law_load", none), "_law_load", "_law_load", defArgs s__law_load, defBody s__law_load, defScope s__law_load, [], []⟩
def d__law_draw : He.DefD := ⟨("_law_draw", none), "_law_draw", "_law_draw", defArgs s__law_draw, defBody s__law_draw, defScope s__law_draw, [], []⟩
def d__law_pick : He.DefD := ⟨("_law_pick", none), "_law_pick", "_law_pick", defArgs s__law_pick, defBody s__law_pick, defScope s__law_pick, [], []⟩
def d__law_letter : He.DefD := ⟨("_law_letter", none), "_law_letter", "_law_letter", defArgs s__law_letter, defBody s__law_letter, defScope s__law_letter, [], []⟩
def d__law_name : He.DefD := ⟨("_law_name", none), "_law_name", "_law_name", defArgs s__law_name, defBody s__law_name, defScope s__law_name, [], []⟩
def d__law_near : He.DefD := ⟨("_law_near", none), "_law_near", "_law_near", defArgs s__law_near, defBody s__law_near, defScope s__law_near, [], []⟩
def d__law_sides : He.DefD := ⟨("_law_sides", none), "_law_sides", "_law_sides", defArgs s__law_sides, defBody s__law_sides, defScope s__law_sides, [], []⟩
def d__law_scheme : He.DefD := ⟨("_law_scheme", none), "_law_scheme", "_law_scheme", defArgs s__law_scheme, defBody s__law_scheme, defScope s__law_scheme, [], []⟩
def d__law_rules : He.DefD := ⟨("_law_rules", none), "_law_rules", "_law_rules", defArgs s__law_rules, defBody s__law_rules, defScope s__law_rules, [], []⟩
def d__law_same : He.DefD := ⟨("_law_same", none), "_law_same", "_law_same", defArgs s__law_same, defBody s__law_same, defScope s__law_same, [], []⟩
def d__law_called : He.DefD := ⟨("_law_called", none), "_law_called", "_law_called", defArgs s__law_called, defBody s__law_called, defScope s__law_called, [], []⟩
def d__law_outcome : He.DefD := ⟨("_law_outcome", none), "_law_outcome", "_law_outcome", defArgs s__law_outcome, defBody s__law_outcome, defScope s__law_outcome, [], []⟩
def d__law_due : He.DefD := ⟨("_law_due", none), "_law_due", "_law_due", defArgs s__law_due, defBody s__law_due, defScope s__law_due, [], []⟩
def d__law_done : He.DefD := ⟨("_law_done", none), "_law_done", "_law_done", defArgs s__law_done, defBody s__law_done, defScope s__law_done, [], []⟩
def d__law_state_right : He.DefD := ⟨("_law_state_right", none), "_law_state_right", "_law_state_right", defArgs s__law_state_right, defBody s__law_state_right, defScope s__law_state_right, [], []⟩
def d__law_deed : He.DefD := ⟨("_law_deed", none), "_law_deed", "_law_deed", defArgs s__law_deed, defBody s__law_deed, defScope s__law_deed, [], []⟩
def d_law : He.DefD := ⟨("law", none), "law", "law", defArgs s_law, defBody s_law, defScope s_law, [], []⟩
def dm_init : He.DefD := ⟨("League", some "__init__"), "__init__", "League.__init__", defArgs m_init, defBody m_init, defScope m_init, [], []⟩
def dm_eq : He.DefD := ⟨("League", some "__eq__"), "__eq__", "League.__eq__", defArgs m_eq, defBody m_eq, defScope m_eq, [], []⟩
def dm_sides : He.DefD := ⟨("League", some "sides"), "sides", "League.sides", defArgs m_sides, defBody m_sides, defScope m_sides, [], []⟩
def dm_scheme : He.DefD := ⟨("League", some "scheme"), "scheme", "League.scheme", defArgs m_scheme, defBody m_scheme, defScope m_scheme, [], []⟩
def dm_rules : He.DefD := ⟨("League", some "rules"), "rules", "League.rules", defArgs m_rules, defBody m_rules, defScope m_rules, [], []⟩
def dm_games : He.DefD := ⟨("League", some "games"), "games", "League.games", defArgs m_games, defBody m_games, defScope m_games, [], []⟩
def dm_left : He.DefD := ⟨("League", some "left"), "left", "League.left", defArgs m_left, defBody m_left, defScope m_left, [], []⟩
def dm_withdrawn : He.DefD := ⟨("League", some "withdrawn"), "withdrawn", "League.withdrawn", defArgs m_withdrawn, defBody m_withdrawn, defScope m_withdrawn, [], []⟩
def dm_copy : He.DefD := ⟨("League", some "copy"), "copy", "League.copy", defArgs m_copy, defBody m_copy, defScope m_copy, [], []⟩
def dm_add_game : He.DefD := ⟨("League", some "add_game"), "add_game", "League.add_game", defArgs m_add_game, defBody m_add_game, defScope m_add_game, [], []⟩
def dm_enter : He.DefD := ⟨("League", some "enter"), "enter", "League.enter", defArgs m_enter, defBody m_enter, defScope m_enter, [], []⟩
def dm_call_off : He.DefD := ⟨("League", some "call_off"), "call_off", "League.call_off", defArgs m_call_off, defBody m_call_off, defScope m_call_off, [], []⟩
def dm_reopen : He.DefD := ⟨("League", some "reopen"), "reopen", "League.reopen", defArgs m_reopen, defBody m_reopen, defScope m_reopen, [], []⟩
def dm_withdraw : He.DefD := ⟨("League", some "withdraw"), "withdraw", "League.withdraw", defArgs m_withdraw, defBody m_withdraw, defScope m_withdraw, [], []⟩
def dm__check_playing : He.DefD := ⟨("League", some "_check_playing"), "_check_playing", "League._check_playing", defArgs m__check_playing, defBody m__check_playing, defScope m__check_playing, [], []⟩
def dm__check_game : He.DefD := ⟨("League", some "_check_game"), "_check_game", "League._check_game", defArgs m__check_game, defBody m__check_game, defScope m__check_game, [], []⟩
def dm__set_state : He.DefD := ⟨("League", some "_set_state"), "_set_state", "League._set_state", defArgs m__set_state, defBody m__set_state, defScope m__set_state, [], []⟩
def e_BadValue : He.DefD := ⟨("BadValue", some "__init__"), "__init__", "BadValue.__init__", defArgs s_BadValue, defBody s_BadValue, defScope s_BadValue, [], []⟩
def e_BadGame : He.DefD := ⟨("BadGame", some "__init__"), "__init__", "BadGame.__init__", defArgs s_BadGame, defBody s_BadGame, defScope s_BadGame, [], []⟩
def e_BadSide : He.DefD := ⟨("BadSide", some "__init__"), "__init__", "BadSide.__init__", defArgs s_BadSide, defBody s_BadSide, defScope s_BadSide, [], []⟩
def e_TooMany : He.DefD := ⟨("TooMany", some "__init__"), "__init__", "TooMany.__init__", defArgs s_TooMany, defBody s_TooMany, defScope s_TooMany, [], []⟩
def fn : List He.DefD := [d__wall, d_is_sequence, d_is_integer, d_is_number, d_is_word, d_is_name, d_are_names, d_outcomes_of, d__are_sides, d__is_scheme, d__is_mark, d__are_rules, d__law_flow, d__law_load, d__law_draw, d__law_pick, d__law_letter, d__law_name, d__law_near, d__law_sides, d__law_scheme, d__law_rules, d__law_same, d__law_called, d__law_outcome, d__law_due, d__law_done, d__law_state_right, d__law_deed, d_law, dm_init, dm_eq, dm_sides, dm_scheme, dm_rules, dm_games, dm_left, dm_withdrawn, dm_copy, dm_add_game, dm_enter, dm_call_off, dm_reopen, dm_withdraw, dm__check_playing, dm__check_game, dm__set_state, e_BadValue, e_BadGame, e_BadSide, e_TooMany]
def fa : List He.Fa := [.glo "_wall", .glo "is_sequence", .glo "is_integer", .glo "is_number", .glo "is_word", .glo "is_name", .glo "are_names", .glo "outcomes_of", .glo "_are_sides", .glo "_is_scheme", .glo "_is_mark", .glo "_are_rules", .glo "_law_flow", .glo "_law_load", .glo "_law_draw", .glo "_law_pick", .glo "_law_letter", .glo "_law_name", .glo "_law_near", .glo "_law_sides", .glo "_law_scheme", .glo "_law_rules", .glo "_law_same", .glo "_law_called", .glo "_law_outcome", .glo "_law_due", .glo "_law_done", .glo "_law_state_right", .glo "_law_deed", .glo "law", .glo "BadValue", .glo "BadGame", .glo "BadSide", .glo "TooMany", .glo "LeagueError", .free "int", .free "len", .free "list", .free "abs", .free "max", .free "range", .free "isinstance", .free "all", .free "tuple", .free "str", .free "bool", .free "set", .free "enumerate", .str "LETTERS" "abcdefghijklmnopqrstuvwxyz", .int "LONGEST_NAME" 8, .glo "OUTCOMES", .glo "RULES", .int "FEWEST_SIDES" 2, .int "MOST_SIDES" 8, .int "MOST_GAMES" 80, .int "MOST_POINTS" 100, .exm "BadValue" "BadValue" true, .exm "BadValue" "BadGame" false, .exm "BadValue" "BadSide" false, .exm "BadValue" "TooMany" false, .exm "BadValue" "LeagueError" true, .exm "BadGame" "BadValue" false, .exm "BadGame" "BadGame" true, .exm "BadGame" "BadSide" false, .exm "BadGame" "TooMany" false, .exm "BadGame" "LeagueError" true, .exm "BadSide" "BadValue" false, .exm "BadSide" "BadGame" false, .exm "BadSide" "BadSide" true, .exm "BadSide" "TooMany" false, .exm "BadSide" "LeagueError" true, .exm "TooMany" "BadValue" false, .exm "TooMany" "BadGame" false, .exm "TooMany" "BadSide" false, .exm "TooMany" "TooMany" true, .exm "TooMany" "LeagueError" true, .cls "League", .glo "League", .mkr "League", .noat "League" "_sides", .noat "League" "_scheme", .noat "League" "_rules", .noat "League" "_games", .noat "League" "_gone", .meth "League" "__eq__", .meth "League" "sides", .meth "League" "scheme", .meth "League" "rules", .meth "League" "games", .meth "League" "left", .meth "League" "withdrawn", .meth "League" "copy", .meth "League" "add_game", .meth "League" "enter", .meth "League" "call_off", .meth "League" "reopen", .meth "League" "withdraw", .meth "League" "_check_playing", .meth "League" "_check_game", .meth "League" "_set_state"]
abbrev R : PySem.W.OpenRow := PySem.W.OpenLaw.row PySem.Challenge.rw_stillmay_k03_results_entered
abbrev hk : PySem.W.Hook := hookX 5 fa fn ex
def ob (s : PySem.W.SharedT) : Bool × He.AlD := obsX 5 fa fn ex (HandSHeadRun.getT s)
theorem ob_eq (s : PySem.W.SharedT) : ob s = hk.obs s.abs := obsX_eq (HandSHeadRun.getT_eq s)
def loose : List Str := (["_wall", "LeagueError", "BadValue", "BadGame", "BadSide", "TooMany", "LETTERS", "LONGEST_NAME", "OUTCOMES", "is_sequence", "is_integer", "is_number"] : List Str) ++ (["is_word", "is_name", "are_names", "outcomes_of", "RULES", "FEWEST_SIDES", "MOST_SIDES", "MOST_GAMES", "MOST_POINTS", "League", "_are_sides", "_is_scheme"] : List Str) ++ (["_is_mark", "_are_rules", "_law_flow", "_law_load", "_law_draw", "_law_pick", "_law_letter", "_law_name", "_law_near", "_law_sides", "_law_scheme", "_law_rules"] : List Str) ++ (["_law_same", "_law_called", "_law_outcome", "_law_due", "_law_done", "_law_state_right", "_law_deed"] : List Str)
theorem run (w : World) : HandSHeadRun.RunEq R (PySem.W.view R.prog [47]) hk ob 9000 loose w := by
  intro os
  kernel_rfl
theorem ci_LETTERS {K : PySem.W.Frag} {h : Heap} {mg : Str → Option Value} (X : K.In h) (G : h.Ns mainGlobals mg) (c : He.SaysD fa fn K) : ∃ u, mg "LETTERS" = some u ∧ RelV (.str "abcdefghijklmnopqrstuvwxyz") u := by
  obtain ⟨t, e⟩ := He.str_ok X G (c.fact 48 (f := .str "LETTERS" "abcdefghijklmnopqrstuvwxyz") rfl)
  exact ⟨_, e, t, rfl⟩
theorem ci_LONGEST_NAME {K : PySem.W.Frag} {h : Heap} {mg : Str → Option Value} (X : K.In h) (G : h.Ns mainGlobals mg) (c : He.SaysD fa fn K) : ∃ u, mg "LONGEST_NAME" = some u ∧ RelV (.int 8) u := by
  obtain ⟨t, e⟩ := He.int_ok X G (c.fact 49 (f := .int "LONGEST_NAME" 8) rfl)
  exact ⟨_, e, t, rfl⟩
theorem ci_FEWEST_SIDES {K : PySem.W.Frag} {h : Heap} {mg : Str → Option Value} (X : K.In h) (G : h.Ns mainGlobals mg) (c : He.SaysD fa fn K) : ∃ u, mg "FEWEST_SIDES" = some u ∧ RelV (.int 2) u := by
  obtain ⟨t, e⟩ := He.int_ok X G (c.fact 52 (f := .int "FEWEST_SIDES" 2) rfl)
  exact ⟨_, e, t, rfl⟩
theorem ci_MOST_SIDES {K : PySem.W.Frag} {h : Heap} {mg : Str → Option Value} (X : K.In h) (G : h.Ns mainGlobals mg) (c : He.SaysD fa fn K) : ∃ u, mg "MOST_SIDES" = some u ∧ RelV (.int 8) u := by
  obtain ⟨t, e⟩ := He.int_ok X G (c.fact 53 (f := .int "MOST_SIDES" 8) rfl)
  exact ⟨_, e, t, rfl⟩
theorem ci_MOST_GAMES {K : PySem.W.Frag} {h : Heap} {mg : Str → Option Value} (X : K.In h) (G : h.Ns mainGlobals mg) (c : He.SaysD fa fn K) : ∃ u, mg "MOST_GAMES" = some u ∧ RelV (.int 80) u := by
  obtain ⟨t, e⟩ := He.int_ok X G (c.fact 54 (f := .int "MOST_GAMES" 80) rfl)
  exact ⟨_, e, t, rfl⟩
theorem ci_MOST_POINTS {K : PySem.W.Frag} {h : Heap} {mg : Str → Option Value} (X : K.In h) (G : h.Ns mainGlobals mg) (c : He.SaysD fa fn K) : ∃ u, mg "MOST_POINTS" = some u ∧ RelV (.int 100) u := by
  obtain ⟨t, e⟩ := He.int_ok X G (c.fact 55 (f := .int "MOST_POINTS" 100) rfl)
  exact ⟨_, e, t, rfl⟩
theorem te_BadValue {K : PySem.W.Frag} (x : ex K = true) (c : He.SaysD fa fn K) : PySem.MyX.ErrC K (He.ga K "BadValue") (He.ma K (He.ga K "BadValue") "__init__") "at" := by
  obtain ⟨f0, F0⟩ := c.def_ 47 (d := e_BadValue) rfl
  obtain ⟨oc, od, dV, kV, doc, pm, an, cdv, ct, osl, _, lk, hcd, hd, _⟩ := F0.ex
  refine errC_of (He.ba x).1 ⟨by decide, by decide⟩ ?_
  have ed : dV = .none := by
    rcases hd with ⟨_, e⟩ | ⟨e, _⟩
    · exact e
    · exact absurd rfl e
  subst ed
  subst_vars
  exact ⟨oc, od, kV, doc, pm, an, cdv, ct, osl, _, _, _, _, _, _, _, lk, hcd, fun _ _ => rfl⟩
theorem te_BadGame {K : PySem.W.Frag} (x : ex K = true) (c : He.SaysD fa fn K) : PySem.MyX.ErrC K (He.ga K "BadGame") (He.ma K (He.ga K "BadGame") "__init__") "number" := by
  obtain ⟨f0, F0⟩ := c.def_ 48 (d := e_BadGame) rfl
  obtain ⟨oc, od, dV, kV, doc, pm, an, cdv, ct, osl, _, lk, hcd, hd, _⟩ := F0.ex
  refine errC_of (He.ba (He.ba x).2).1 ⟨by decide, by decide⟩ ?_
  have ed : dV = .none := by
    rcases hd with ⟨_, e⟩ | ⟨e, _⟩
    · exact e
    · exact absurd rfl e
  subst ed
  subst_vars
  exact ⟨oc, od, kV, doc, pm, an, cdv, ct, osl, _, _, _, _, _, _, _, lk, hcd, fun _ _ => rfl⟩
theorem te_BadSide {K : PySem.W.Frag} (x : ex K = true) (c : He.SaysD fa fn K) : PySem.MyX.ErrC K (He.ga K "BadSide") (He.ma K (He.ga K "BadSide") "__init__") "name" := by
  obtain ⟨f0, F0⟩ := c.def_ 49 (d := e_BadSide) rfl
  obtain ⟨oc, od, dV, kV, doc, pm, an, cdv, ct, osl, _, lk, hcd, hd, _⟩ := F0.ex
  refine errC_of (He.ba (He.ba (He.ba x).2).2).1 ⟨by decide, by decide⟩ ?_
  have ed : dV = .none := by
    rcases hd with ⟨_, e⟩ | ⟨e, _⟩
    · exact e
    · exact absurd rfl e
  subst ed
  subst_vars
  exact ⟨oc, od, kV, doc, pm, an, cdv, ct, osl, _, _, _, _, _, _, _, lk, hcd, fun _ _ => rfl⟩
theorem te_TooMany {K : PySem.W.Frag} (x : ex K = true) (c : He.SaysD fa fn K) : PySem.MyX.ErrC K (He.ga K "TooMany") (He.ma K (He.ga K "TooMany") "__init__") "word" := by
  obtain ⟨f0, F0⟩ := c.def_ 50 (d := e_TooMany) rfl
  obtain ⟨oc, od, dV, kV, doc, pm, an, cdv, ct, osl, _, lk, hcd, hd, _⟩ := F0.ex
  refine errC_of (He.ba (He.ba (He.ba (He.ba x).2).2).2).1 ⟨by decide, by decide⟩ ?_
  have ed : dV = .none := by
    rcases hd with ⟨_, e⟩ | ⟨e, _⟩
    · exact e
    · exact absurd rfl e
  subst ed
  subst_vars
  exact ⟨oc, od, kV, doc, pm, an, cdv, ct, osl, _, _, _, _, _, _, _, lk, hcd, fun _ _ => rfl⟩
theorem th__wall {K : PySem.W.Frag} {h : Heap} {mg : Str → Option Value} (X : K.In h) (G : h.Ns mainGlobals mg) (c : He.SaysD fa fn K) : Have K mg "_wall" s__wall := by
  obtain ⟨fd, F⟩ := c.def_ 0 (d := d__wall) rfl
  exact ⟨_, fd, F, He.glo_ok X G (c.fact 0 (f := .glo "_wall") rfl)⟩
theorem th_is_sequence {K : PySem.W.Frag} {h : Heap} {mg : Str → Option Value} (X : K.In h) (G : h.Ns mainGlobals mg) (c : He.SaysD fa fn K) : Have K mg "is_sequence" s_is_sequence := by
  obtain ⟨fd, F⟩ := c.def_ 1 (d := d_is_sequence) rfl
  exact ⟨_, fd, F, He.glo_ok X G (c.fact 1 (f := .glo "is_sequence") rfl)⟩
theorem th_is_integer {K : PySem.W.Frag} {h : Heap} {mg : Str → Option Value} (X : K.In h) (G : h.Ns mainGlobals mg) (c : He.SaysD fa fn K) : Have K mg "is_integer" s_is_integer := by
  obtain ⟨fd, F⟩ := c.def_ 2 (d := d_is_integer) rfl
  exact ⟨_, fd, F, He.glo_ok X G (c.fact 2 (f := .glo "is_integer") rfl)⟩
theorem th_is_number {K : PySem.W.Frag} {h : Heap} {mg : Str → Option Value} (X : K.In h) (G : h.Ns mainGlobals mg) (c : He.SaysD fa fn K) : Have K mg "is_number" s_is_number := by
  obtain ⟨fd, F⟩ := c.def_ 3 (d := d_is_number) rfl
  exact ⟨_, fd, F, He.glo_ok X G (c.fact 3 (f := .glo "is_number") rfl)⟩
theorem th_is_word {K : PySem.W.Frag} {h : Heap} {mg : Str → Option Value} (X : K.In h) (G : h.Ns mainGlobals mg) (c : He.SaysD fa fn K) : Have K mg "is_word" s_is_word := by
  obtain ⟨fd, F⟩ := c.def_ 4 (d := d_is_word) rfl
  exact ⟨_, fd, F, He.glo_ok X G (c.fact 4 (f := .glo "is_word") rfl)⟩
theorem th_is_name {K : PySem.W.Frag} {h : Heap} {mg : Str → Option Value} (X : K.In h) (G : h.Ns mainGlobals mg) (c : He.SaysD fa fn K) : Have K mg "is_name" s_is_name := by
  obtain ⟨fd, F⟩ := c.def_ 5 (d := d_is_name) rfl
  exact ⟨_, fd, F, He.glo_ok X G (c.fact 5 (f := .glo "is_name") rfl)⟩
theorem th_are_names {K : PySem.W.Frag} {h : Heap} {mg : Str → Option Value} (X : K.In h) (G : h.Ns mainGlobals mg) (c : He.SaysD fa fn K) : Have K mg "are_names" s_are_names := by
  obtain ⟨fd, F⟩ := c.def_ 6 (d := d_are_names) rfl
  exact ⟨_, fd, F, He.glo_ok X G (c.fact 6 (f := .glo "are_names") rfl)⟩
theorem th_outcomes_of {K : PySem.W.Frag} {h : Heap} {mg : Str → Option Value} (X : K.In h) (G : h.Ns mainGlobals mg) (c : He.SaysD fa fn K) : Have K mg "outcomes_of" s_outcomes_of := by
  obtain ⟨fd, F⟩ := c.def_ 7 (d := d_outcomes_of) rfl
  exact ⟨_, fd, F, He.glo_ok X G (c.fact 7 (f := .glo "outcomes_of") rfl)⟩
theorem th__are_sides {K : PySem.W.Frag} {h : Heap} {mg : Str → Option Value} (X : K.In h) (G : h.Ns mainGlobals mg) (c : He.SaysD fa fn K) : Have K mg "_are_sides" s__are_sides := by
  obtain ⟨fd, F⟩ := c.def_ 8 (d := d__are_sides) rfl
  exact ⟨_, fd, F, He.glo_ok X G (c.fact 8 (f := .glo "_are_sides") rfl)⟩
theorem th__is_scheme {K : PySem.W.Frag} {h : Heap} {mg : Str → Option Value} (X : K.In h) (G : h.Ns mainGlobals mg) (c : He.SaysD fa fn K) : Have K mg "_is_scheme" s__is_scheme := by
  obtain ⟨fd, F⟩ := c.def_ 9 (d := d__is_scheme) rfl
  exact ⟨_, fd, F, He.glo_ok X G (c.fact 9 (f := .glo "_is_scheme") rfl)⟩
theorem th__is_mark {K : PySem.W.Frag} {h : Heap} {mg : Str → Option Value} (X : K.In h) (G : h.Ns mainGlobals mg) (c : He.SaysD fa fn K) : Have K mg "_is_mark" s__is_mark := by
  obtain ⟨fd, F⟩ := c.def_ 10 (d := d__is_mark) rfl
  exact ⟨_, fd, F, He.glo_ok X G (c.fact 10 (f := .glo "_is_mark") rfl)⟩
theorem th__are_rules {K : PySem.W.Frag} {h : Heap} {mg : Str → Option Value} (X : K.In h) (G : h.Ns mainGlobals mg) (c : He.SaysD fa fn K) : Have K mg "_are_rules" s__are_rules := by
  obtain ⟨fd, F⟩ := c.def_ 11 (d := d__are_rules) rfl
  exact ⟨_, fd, F, He.glo_ok X G (c.fact 11 (f := .glo "_are_rules") rfl)⟩
theorem th__law_flow {K : PySem.W.Frag} {h : Heap} {mg : Str → Option Value} (X : K.In h) (G : h.Ns mainGlobals mg) (c : He.SaysD fa fn K) : Have K mg "_law_flow" s__law_flow := by
  obtain ⟨fd, F⟩ := c.def_ 12 (d := d__law_flow) rfl
  exact ⟨_, fd, F, He.glo_ok X G (c.fact 12 (f := .glo "_law_flow") rfl)⟩
theorem th__law_load {K : PySem.W.Frag} {h : Heap} {mg : Str → Option Value} (X : K.In h) (G : h.Ns mainGlobals mg) (c : He.SaysD fa fn K) : Have K mg "_law_load" s__law_load := by
  obtain ⟨fd, F⟩ := c.def_ 13 (d := d__law_load) rfl
  exact ⟨_, fd, F, He.glo_ok X G (c.fact 13 (f := .glo "_law_load") rfl)⟩
theorem th__law_draw {K : PySem.W.Frag} {h : Heap} {mg : Str → Option Value} (X : K.In h) (G : h.Ns mainGlobals mg) (c : He.SaysD fa fn K) : Have K mg "_law_draw" s__law_draw := by
  obtain ⟨fd, F⟩ := c.def_ 14 (d := d__law_draw) rfl
  exact ⟨_, fd, F, He.glo_ok X G (c.fact 14 (f := .glo "_law_draw") rfl)⟩
theorem th__law_pick {K : PySem.W.Frag} {h : Heap} {mg : Str → Option Value} (X : K.In h) (G : h.Ns mainGlobals mg) (c : He.SaysD fa fn K) : Have K mg "_law_pick" s__law_pick := by
  obtain ⟨fd, F⟩ := c.def_ 15 (d := d__law_pick) rfl
  exact ⟨_, fd, F, He.glo_ok X G (c.fact 15 (f := .glo "_law_pick") rfl)⟩
theorem th__law_letter {K : PySem.W.Frag} {h : Heap} {mg : Str → Option Value} (X : K.In h) (G : h.Ns mainGlobals mg) (c : He.SaysD fa fn K) : Have K mg "_law_letter" s__law_letter := by
  obtain ⟨fd, F⟩ := c.def_ 16 (d := d__law_letter) rfl
  exact ⟨_, fd, F, He.glo_ok X G (c.fact 16 (f := .glo "_law_letter") rfl)⟩
theorem th__law_name {K : PySem.W.Frag} {h : Heap} {mg : Str → Option Value} (X : K.In h) (G : h.Ns mainGlobals mg) (c : He.SaysD fa fn K) : Have K mg "_law_name" s__law_name := by
  obtain ⟨fd, F⟩ := c.def_ 17 (d := d__law_name) rfl
  exact ⟨_, fd, F, He.glo_ok X G (c.fact 17 (f := .glo "_law_name") rfl)⟩
theorem th__law_near {K : PySem.W.Frag} {h : Heap} {mg : Str → Option Value} (X : K.In h) (G : h.Ns mainGlobals mg) (c : He.SaysD fa fn K) : Have K mg "_law_near" s__law_near := by
  obtain ⟨fd, F⟩ := c.def_ 18 (d := d__law_near) rfl
  exact ⟨_, fd, F, He.glo_ok X G (c.fact 18 (f := .glo "_law_near") rfl)⟩
theorem th__law_sides {K : PySem.W.Frag} {h : Heap} {mg : Str → Option Value} (X : K.In h) (G : h.Ns mainGlobals mg) (c : He.SaysD fa fn K) : Have K mg "_law_sides" s__law_sides := by
  obtain ⟨fd, F⟩ := c.def_ 19 (d := d__law_sides) rfl
  exact ⟨_, fd, F, He.glo_ok X G (c.fact 19 (f := .glo "_law_sides") rfl)⟩
theorem th__law_scheme {K : PySem.W.Frag} {h : Heap} {mg : Str → Option Value} (X : K.In h) (G : h.Ns mainGlobals mg) (c : He.SaysD fa fn K) : Have K mg "_law_scheme" s__law_scheme := by
  obtain ⟨fd, F⟩ := c.def_ 20 (d := d__law_scheme) rfl
  exact ⟨_, fd, F, He.glo_ok X G (c.fact 20 (f := .glo "_law_scheme") rfl)⟩
theorem th__law_rules {K : PySem.W.Frag} {h : Heap} {mg : Str → Option Value} (X : K.In h) (G : h.Ns mainGlobals mg) (c : He.SaysD fa fn K) : Have K mg "_law_rules" s__law_rules := by
  obtain ⟨fd, F⟩ := c.def_ 21 (d := d__law_rules) rfl
  exact ⟨_, fd, F, He.glo_ok X G (c.fact 21 (f := .glo "_law_rules") rfl)⟩
theorem th__law_same {K : PySem.W.Frag} {h : Heap} {mg : Str → Option Value} (X : K.In h) (G : h.Ns mainGlobals mg) (c : He.SaysD fa fn K) : Have K mg "_law_same" s__law_same := by
  obtain ⟨fd, F⟩ := c.def_ 22 (d := d__law_same) rfl
  exact ⟨_, fd, F, He.glo_ok X G (c.fact 22 (f := .glo "_law_same") rfl)⟩
theorem th__law_called {K : PySem.W.Frag} {h : Heap} {mg : Str → Option Value} (X : K.In h) (G : h.Ns mainGlobals mg) (c : He.SaysD fa fn K) : Have K mg "_law_called" s__law_called := by
  obtain ⟨fd, F⟩ := c.def_ 23 (d := d__law_called) rfl
  exact ⟨_, fd, F, He.glo_ok X G (c.fact 23 (f := .glo "_law_called") rfl)⟩
theorem th__law_outcome {K : PySem.W.Frag} {h : Heap} {mg : Str → Option Value} (X : K.In h) (G : h.Ns mainGlobals mg) (c : He.SaysD fa fn K) : Have K mg "_law_outcome" s__law_outcome := by
  obtain ⟨fd, F⟩ := c.def_ 24 (d := d__law_outcome) rfl
  exact ⟨_, fd, F, He.glo_ok X G (c.fact 24 (f := .glo "_law_outcome") rfl)⟩
theorem th__law_due {K : PySem.W.Frag} {h : Heap} {mg : Str → Option Value} (X : K.In h) (G : h.Ns mainGlobals mg) (c : He.SaysD fa fn K) : Have K mg "_law_due" s__law_due := by
  obtain ⟨fd, F⟩ := c.def_ 25 (d := d__law_due) rfl
  exact ⟨_, fd, F, He.glo_ok X G (c.fact 25 (f := .glo "_law_due") rfl)⟩
theorem th__law_done {K : PySem.W.Frag} {h : Heap} {mg : Str → Option Value} (X : K.In h) (G : h.Ns mainGlobals mg) (c : He.SaysD fa fn K) : Have K mg "_law_done" s__law_done := by
  obtain ⟨fd, F⟩ := c.def_ 26 (d := d__law_done) rfl
  exact ⟨_, fd, F, He.glo_ok X G (c.fact 26 (f := .glo "_law_done") rfl)⟩
theorem th__law_state_right {K : PySem.W.Frag} {h : Heap} {mg : Str → Option Value} (X : K.In h) (G : h.Ns mainGlobals mg) (c : He.SaysD fa fn K) : Have K mg "_law_state_right" s__law_state_right := by
  obtain ⟨fd, F⟩ := c.def_ 27 (d := d__law_state_right) rfl
  exact ⟨_, fd, F, He.glo_ok X G (c.fact 27 (f := .glo "_law_state_right") rfl)⟩
theorem th__law_deed {K : PySem.W.Frag} {h : Heap} {mg : Str → Option Value} (X : K.In h) (G : h.Ns mainGlobals mg) (c : He.SaysD fa fn K) : Have K mg "_law_deed" s__law_deed := by
  obtain ⟨fd, F⟩ := c.def_ 28 (d := d__law_deed) rfl
  exact ⟨_, fd, F, He.glo_ok X G (c.fact 28 (f := .glo "_law_deed") rfl)⟩
theorem th_law {K : PySem.W.Frag} {h : Heap} {mg : Str → Option Value} (X : K.In h) (G : h.Ns mainGlobals mg) (c : He.SaysD fa fn K) : Have K mg "law" s_law := by
  obtain ⟨fd, F⟩ := c.def_ 29 (d := d_law) rfl
  exact ⟨_, fd, F, He.glo_ok X G (c.fact 29 (f := .glo "law") rfl)⟩
theorem tm_init {K : PySem.W.Frag} (c : He.SaysD fa fn K) : ∃ f fd, FunD K "__init__" "League.__init__" (defArgs m_init) (defBody m_init) (defScope m_init) [] [] f fd ∧ Mk K (lg K) f := by
  obtain ⟨fd, F⟩ := c.def_ 30 (d := dm_init) rfl
  exact ⟨_, fd, F, He.mkr_ok (c.fact 78 (f := .mkr "League") rfl)⟩
theorem tm_eq {K : PySem.W.Frag} (c : He.SaysD fa fn K) : HaveM K (lg K) "__eq__" "League.__eq__" m_eq := by
  obtain ⟨fd, F⟩ := c.def_ 31 (d := dm_eq) rfl
  exact ⟨_, fd, F, He.meth_ok (c.fact 84 (f := .meth "League" "__eq__") rfl)⟩
theorem tm_sides {K : PySem.W.Frag} (c : He.SaysD fa fn K) : HaveM K (lg K) "sides" "League.sides" m_sides := by
  obtain ⟨fd, F⟩ := c.def_ 32 (d := dm_sides) rfl
  exact ⟨_, fd, F, He.meth_ok (c.fact 85 (f := .meth "League" "sides") rfl)⟩
theorem tm_scheme {K : PySem.W.Frag} (c : He.SaysD fa fn K) : HaveM K (lg K) "scheme" "League.scheme" m_scheme := by
  obtain ⟨fd, F⟩ := c.def_ 33 (d := dm_scheme) rfl
  exact ⟨_, fd, F, He.meth_ok (c.fact 86 (f := .meth "League" "scheme") rfl)⟩
theorem tm_rules {K : PySem.W.Frag} (c : He.SaysD fa fn K) : HaveM K (lg K) "rules" "League.rules" m_rules := by
  obtain ⟨fd, F⟩ := c.def_ 34 (d := dm_rules) rfl
  exact ⟨_, fd, F, He.meth_ok (c.fact 87 (f := .meth "League" "rules") rfl)⟩
theorem tm_games {K : PySem.W.Frag} (c : He.SaysD fa fn K) : HaveM K (lg K) "games" "League.games" m_games := by
  obtain ⟨fd, F⟩ := c.def_ 35 (d := dm_games) rfl
  exact ⟨_, fd, F, He.meth_ok (c.fact 88 (f := .meth "League" "games") rfl)⟩
theorem tm_left {K : PySem.W.Frag} (c : He.SaysD fa fn K) : HaveM K (lg K) "left" "League.left" m_left := by
  obtain ⟨fd, F⟩ := c.def_ 36 (d := dm_left) rfl
  exact ⟨_, fd, F, He.meth_ok (c.fact 89 (f := .meth "League" "left") rfl)⟩
theorem tm_withdrawn {K : PySem.W.Frag} (c : He.SaysD fa fn K) : HaveM K (lg K) "withdrawn" "League.withdrawn" m_withdrawn := by
  obtain ⟨fd, F⟩ := c.def_ 37 (d := dm_withdrawn) rfl
  exact ⟨_, fd, F, He.meth_ok (c.fact 90 (f := .meth "League" "withdrawn") rfl)⟩
theorem tm_copy {K : PySem.W.Frag} (c : He.SaysD fa fn K) : HaveM K (lg K) "copy" "League.copy" m_copy := by
  obtain ⟨fd, F⟩ := c.def_ 38 (d := dm_copy) rfl
  exact ⟨_, fd, F, He.meth_ok (c.fact 91 (f := .meth "League" "copy") rfl)⟩
theorem tm_add_game {K : PySem.W.Frag} (c : He.SaysD fa fn K) : HaveM K (lg K) "add_game" "League.add_game" m_add_game := by
  obtain ⟨fd, F⟩ := c.def_ 39 (d := dm_add_game) rfl
  exact ⟨_, fd, F, He.meth_ok (c.fact 92 (f := .meth "League" "add_game") rfl)⟩
theorem tm_enter {K : PySem.W.Frag} (c : He.SaysD fa fn K) : HaveM K (lg K) "enter" "League.enter" m_enter := by
  obtain ⟨fd, F⟩ := c.def_ 40 (d := dm_enter) rfl
  exact ⟨_, fd, F, He.meth_ok (c.fact 93 (f := .meth "League" "enter") rfl)⟩
theorem tm_call_off {K : PySem.W.Frag} (c : He.SaysD fa fn K) : HaveM K (lg K) "call_off" "League.call_off" m_call_off := by
  obtain ⟨fd, F⟩ := c.def_ 41 (d := dm_call_off) rfl
  exact ⟨_, fd, F, He.meth_ok (c.fact 94 (f := .meth "League" "call_off") rfl)⟩
theorem tm_reopen {K : PySem.W.Frag} (c : He.SaysD fa fn K) : HaveM K (lg K) "reopen" "League.reopen" m_reopen := by
  obtain ⟨fd, F⟩ := c.def_ 42 (d := dm_reopen) rfl
  exact ⟨_, fd, F, He.meth_ok (c.fact 95 (f := .meth "League" "reopen") rfl)⟩
theorem tm_withdraw {K : PySem.W.Frag} (c : He.SaysD fa fn K) : HaveM K (lg K) "withdraw" "League.withdraw" m_withdraw := by
  obtain ⟨fd, F⟩ := c.def_ 43 (d := dm_withdraw) rfl
  exact ⟨_, fd, F, He.meth_ok (c.fact 96 (f := .meth "League" "withdraw") rfl)⟩
theorem tm__check_playing {K : PySem.W.Frag} (c : He.SaysD fa fn K) : HaveM K (lg K) "_check_playing" "League._check_playing" m__check_playing := by
  obtain ⟨fd, F⟩ := c.def_ 44 (d := dm__check_playing) rfl
  exact ⟨_, fd, F, He.meth_ok (c.fact 97 (f := .meth "League" "_check_playing") rfl)⟩
theorem tm__check_game {K : PySem.W.Frag} (c : He.SaysD fa fn K) : HaveM K (lg K) "_check_game" "League._check_game" m__check_game := by
  obtain ⟨fd, F⟩ := c.def_ 45 (d := dm__check_game) rfl
  exact ⟨_, fd, F, He.meth_ok (c.fact 98 (f := .meth "League" "_check_game") rfl)⟩
theorem tm__set_state {K : PySem.W.Frag} (c : He.SaysD fa fn K) : HaveM K (lg K) "_set_state" "League._set_state" m__set_state := by
  obtain ⟨fd, F⟩ := c.def_ 46 (d := dm__set_state) rfl
  exact ⟨_, fd, F, He.meth_ok (c.fact 99 (f := .meth "League" "_set_state") rfl)⟩
theorem tx {K : PySem.W.Frag} {h : Heap} {mg : Str → Option Value} (X : K.In h) (G : h.Ns mainGlobals mg) (x : ex K = true) (c : He.SaysD fa fn K) : TX K mg where
  B := { int := He.free_ok X G (c.fact 35 (f := .free "int") rfl), len := He.free_ok X G (c.fact 36 (f := .free "len") rfl), list := He.free_ok X G (c.fact 37 (f := .free "list") rfl), abs := He.free_ok X G (c.fact 38 (f := .free "abs") rfl), max := He.free_ok X G (c.fact 39 (f := .free "max") rfl), range := He.free_ok X G (c.fact 40 (f := .free "range") rfl), isinstance := He.free_ok X G (c.fact 41 (f := .free "isinstance") rfl), all := He.free_ok X G (c.fact 42 (f := .free "all") rfl), tuple := He.free_ok X G (c.fact 43 (f := .free "tuple") rfl), str := He.free_ok X G (c.fact 44 (f := .free "str") rfl), bool := He.free_ok X G (c.fact 45 (f := .free "bool") rfl), set := He.free_ok X G (c.fact 46 (f := .free "set") rfl), enumerate := He.free_ok X G (c.fact 47 (f := .free "enumerate") rfl) }
  h__wall := th__wall X G c
  h_is_sequence := th_is_sequence X G c
  h_is_integer := th_is_integer X G c
  h_is_number := th_is_number X G c
  h_is_word := th_is_word X G c
  h_is_name := th_is_name X G c
  h_are_names := th_are_names X G c
  h_outcomes_of := th_outcomes_of X G c
  h__are_sides := th__are_sides X G c
  h__is_scheme := th__is_scheme X G c
  h__is_mark := th__is_mark X G c
  h__are_rules := th__are_rules X G c
  h__law_flow := th__law_flow X G c
  h__law_load := th__law_load X G c
  h__law_draw := th__law_draw X G c
  h__law_pick := th__law_pick X G c
  h__law_letter := th__law_letter X G c
  h__law_name := th__law_name X G c
  h__law_near := th__law_near X G c
  h__law_sides := th__law_sides X G c
  h__law_scheme := th__law_scheme X G c
  h__law_rules := th__law_rules X G c
  h__law_same := th__law_same X G c
  h__law_called := th__law_called X G c
  h__law_outcome := th__law_outcome X G c
  h__law_due := th__law_due X G c
  h__law_done := th__law_done X G c
  h__law_state_right := th__law_state_right X G c
  h__law_deed := th__law_deed X G c
  h_law := th_law X G c
  LETTERS := ci_LETTERS X G c
  LONGEST_NAME := ci_LONGEST_NAME X G c
  OUTCOMES := He.glo_ok X G (c.fact 50 (f := .glo "OUTCOMES") rfl)
  tOUTCOMES := fun H => He.tupB_ok (He.ba (He.ba (He.ba (He.ba (He.ba x).2).2).2).2).1 H
  RULES := He.glo_ok X G (c.fact 51 (f := .glo "RULES") rfl)
  tRULES := fun H => He.tupB_ok (He.ba (He.ba (He.ba (He.ba (He.ba x).2).2).2).2).2 H
  FEWEST_SIDES := ci_FEWEST_SIDES X G c
  MOST_SIDES := ci_MOST_SIDES X G c
  MOST_GAMES := ci_MOST_GAMES X G c
  MOST_POINTS := ci_MOST_POINTS X G c
  e_BadValue := te_BadValue x c
  g_BadValue := He.glo_ok X G (c.fact 30 (f := .glo "BadValue") rfl)
  e_BadGame := te_BadGame x c
  g_BadGame := He.glo_ok X G (c.fact 31 (f := .glo "BadGame") rfl)
  e_BadSide := te_BadSide x c
  g_BadSide := He.glo_ok X G (c.fact 32 (f := .glo "BadSide") rfl)
  e_TooMany := te_TooMany x c
  g_TooMany := He.glo_ok X G (c.fact 33 (f := .glo "TooMany") rfl)
  g_LeagueError := He.glo_ok X G (c.fact 34 (f := .glo "LeagueError") rfl)
  x_BadValue_BadValue := He.exm_ok (c.fact 56 (f := .exm "BadValue" "BadValue" true) rfl)
  x_BadValue_BadGame := He.exm_ok (c.fact 57 (f := .exm "BadValue" "BadGame" false) rfl)
  x_BadValue_BadSide := He.exm_ok (c.fact 58 (f := .exm "BadValue" "BadSide" false) rfl)
  x_BadValue_TooMany := He.exm_ok (c.fact 59 (f := .exm "BadValue" "TooMany" false) rfl)
  x_BadValue_LeagueError := He.exm_ok (c.fact 60 (f := .exm "BadValue" "LeagueError" true) rfl)
  x_BadGame_BadValue := He.exm_ok (c.fact 61 (f := .exm "BadGame" "BadValue" false) rfl)
  x_BadGame_BadGame := He.exm_ok (c.fact 62 (f := .exm "BadGame" "BadGame" true) rfl)
  x_BadGame_BadSide := He.exm_ok (c.fact 63 (f := .exm "BadGame" "BadSide" false) rfl)
  x_BadGame_TooMany := He.exm_ok (c.fact 64 (f := .exm "BadGame" "TooMany" false) rfl)
  x_BadGame_LeagueError := He.exm_ok (c.fact 65 (f := .exm "BadGame" "LeagueError" true) rfl)
  x_BadSide_BadValue := He.exm_ok (c.fact 66 (f := .exm "BadSide" "BadValue" false) rfl)
  x_BadSide_BadGame := He.exm_ok (c.fact 67 (f := .exm "BadSide" "BadGame" false) rfl)
  x_BadSide_BadSide := He.exm_ok (c.fact 68 (f := .exm "BadSide" "BadSide" true) rfl)
  x_BadSide_TooMany := He.exm_ok (c.fact 69 (f := .exm "BadSide" "TooMany" false) rfl)
  x_BadSide_LeagueError := He.exm_ok (c.fact 70 (f := .exm "BadSide" "LeagueError" true) rfl)
  x_TooMany_BadValue := He.exm_ok (c.fact 71 (f := .exm "TooMany" "BadValue" false) rfl)
  x_TooMany_BadGame := He.exm_ok (c.fact 72 (f := .exm "TooMany" "BadGame" false) rfl)
  x_TooMany_BadSide := He.exm_ok (c.fact 73 (f := .exm "TooMany" "BadSide" false) rfl)
  x_TooMany_TooMany := He.exm_ok (c.fact 74 (f := .exm "TooMany" "TooMany" true) rfl)
  x_TooMany_LeagueError := He.exm_ok (c.fact 75 (f := .exm "TooMany" "LeagueError" true) rfl)
  cl := He.cls_ok (c.fact 76 (f := .cls "League") rfl)
  mgL := He.glo_ok X G (c.fact 77 (f := .glo "League") rfl)
  mkL := tm_init c
  n_sides := He.noat_ok (c.fact 79 (f := .noat "League" "_sides") rfl)
  n_scheme := He.noat_ok (c.fact 80 (f := .noat "League" "_scheme") rfl)
  n_rules := He.noat_ok (c.fact 81 (f := .noat "League" "_rules") rfl)
  n_games := He.noat_ok (c.fact 82 (f := .noat "League" "_games") rfl)
  n_gone := He.noat_ok (c.fact 83 (f := .noat "League" "_gone") rfl)
  m_eq := tm_eq c
  m_sides := tm_sides c
  m_scheme := tm_scheme c
  m_rules := tm_rules c
  m_games := tm_games c
  m_left := tm_left c
  m_withdrawn := tm_withdrawn c
  m_copy := tm_copy c
  m_add_game := tm_add_game c
  m_enter := tm_enter c
  m_call_off := tm_call_off c
  m_reopen := tm_reopen c
  m_withdraw := tm_withdraw c
  m__check_playing := tm__check_playing c
  m__check_game := tm__check_game c
  m__set_state := tm__set_state c
theorem facts {P : Program} {w : World} {K : PySem.W.Frag} {h : Heap} {mg : Str → Option Value} {f : Addr} (X : K.In h) (G : h.Ns mainGlobals mg) (hfa : mg ("law" : Str) = some (.ref f)) (x : ex K = true) (c : He.SaysD fa fn K) :
    ∃ fd : FuncData, (∀ (s : Shared) (v : Value), BindsTo s fd ⟨[v], []⟩ [("script", v)]) ∧ ∀ base : Heap, K.In base → base.Ns mainGlobals mg → FnOk P w K mg base CX0 7 f fd ["script"] (spLaw K) := by
  obtain ⟨fd, F⟩ := c.def_ 29 (d := d_law) rfl
  have e := hfa.symm.trans (He.glo_ok X G (c.fact 29 (f := .glo "law") rfl))
  cases e
  have b := FunD.bindsA (ps := ["script"]) F fun _ _ _ _ _ _ us hl => match us, hl with | [_], _ => rfl
  exact ⟨fd, fun s v => b s [v] rfl, fun base _ _ => ok_law (tx X G x c) F⟩
end My
open PySem PySem.W PySem.Calls PyProof.Rows
theorem PySem.Challenge.cw_stillmay_k03_results_entered_holds : PySem.Challenge.rw_stillmay_k03_results_entered.Holds := by
  w_on; o_law
  refine HandSHeadRun.head_any (r := OpenLaw.row PySem.Challenge.rw_stillmay_k03_results_entered) (q := view (OpenLaw.row PySem.Challenge.rw_stillmay_k03_results_entered).prog [47]) (H := My.hk) (ob := My.ob) (M := 9000) (loose := My.loose) (d := HandSHeadRun.topDef (OpenLaw.row PySem.Challenge.rw_stillmay_k03_results_entered).prog 47) (kwd := []) My.ob_eq
    (by kernel_rfl) (fun s => by kernel_rfl) My.run (by kernel_rfl) (by kernel_rfl) (by kernel_rfl) (by rfl) (by first | assumption | decide +kernel) (by decide +kernel) ⟨rfl, rfl, rfl, rfl, rfl, by decide +kernel⟩ ?hw ?hc
  case hw => w_witness2
  case hc =>
    refine L2.walk_ofE (l := PySem.Challenge.rw_stillmay_k03_results_entered) (n := 63) (k := 7) (x := "script") (CX := L2.CX0) rfl (by decide) (by kernel_rfl) ⟨rfl, by decide, by decide⟩ ?F (fun _ _ _ _ z => z)
    intro w mg fa h Y G hmg0
    obtain ⟨K, KX, x, c⟩ := Y
    have hmg : mg ("law" : PySem.Str) = some (.ref fa) := by
      have e : (HandSHeadRun.topDef (OpenLaw.row PySem.Challenge.rw_stillmay_k03_results_entered).prog 47).name = ("law" : PySem.Str) := by kernel_rfl
      rw [← e]
      exact hmg0
    obtain ⟨fd, hb, hF⟩ := My.facts (P := (PySem.Challenge.rw_stillmay_k03_results_entered).prog) (w := w) KX G hmg x c
    exact ⟨K, fd, My.spLaw K, KX, hb, fun H a ns hl _ hS => ⟨a, ns, rfl, hS, hl, fun _ => rfl⟩, hF⟩

