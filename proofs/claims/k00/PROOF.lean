import PyProof.Rows.All
import Wide.All
import OpenK.AllK
import Wide.FinOn
import PyProof.EqAt
import PyProof.EqKinds
import PyProof.TupleCall
import HandS.Base
import HandS.Call
import HandS.List
import HandS.Comp
import HandS.Ends
import HandS.Exc
import HandS.ExcOwn
import HandS.TryMany
import HandS.ExcCtx
import HandS.Hot
import HandS.HotCalls
import HandS.ExcIs
import HandS.ExcField
import HandS.IsInst
import HandS.ForMost
import HandS.Wide
import HandS.Defaults
import HandS.Flow
import PySem.Challenge.RW_stillmay_k00_errors
import KE.KStateDown
import HandS.Head0
import HandS.Head1
import HandS.Head2
import HandS.HeadEnd
import HandS.HeadHook1
import HandS.HeadHook2
set_option Elab.async false
set_option linter.all false
set_option maxRecDepth 100000
set_option maxHeartbeats 0
set_option exponentiation.threshold 500
namespace PySem
namespace MyX
open PySem.W PySem.Calls PyProof.Rows PySem.HandSPX Builtin Builtin.ObjectAttr
/-! ### own error classes over Exception, with an init that keeps one argument -/
abbrev eTail : List Value := [.type "Exception", .type "BaseException", .type "object"]
def refsE : List Value → Bool
  | .ref _ :: r => refsE r
  | l => l == eTail
theorem refsE_cases : ∀ l : List Value, refsE l = true → (∃ c r, l = .ref c :: r ∧ refsE r = true) ∨ l = eTail
  | [], e => .inr (beq_iff_eq.mp e)
  | .ref c :: r, e => .inl ⟨c, r, rfl, e⟩
  | .none :: _, e => .inr (beq_iff_eq.mp e)
  | .ellipsis :: _, e => .inr (beq_iff_eq.mp e)
  | .notImplemented :: _, e => .inr (beq_iff_eq.mp e)
  | .bool _ :: _, e => .inr (beq_iff_eq.mp e)
  | .int _ _ :: _, e => .inr (beq_iff_eq.mp e)
  | .float _ _ :: _, e => .inr (beq_iff_eq.mp e)
  | .str _ _ :: _, e => .inr (beq_iff_eq.mp e)
  | .bytes _ _ :: _, e => .inr (beq_iff_eq.mp e)
  | .type _ :: _, e => .inr (beq_iff_eq.mp e)
  | .builtin _ :: _, e => .inr (beq_iff_eq.mp e)
theorem refsE_pass (self : Value) : ∀ l : List Value, refsE l = true → refuseLoop self "__setattr__" l = pure () := by
  intro l
  induction l with
  | nil => intro e; exact absurd e (by decide)
  | cons a r ih =>
    intro e
    rcases refsE_cases (a :: r) e with ⟨c, r', q, h⟩ | q
    · obtain ⟨rfl, rfl⟩ := List.cons.inj q
      rw [refuseLoop_ref]; exact ih h
    · rw [q]; exact F.store_Exception.passes self
theorem refsE_contains (X : String) : ∀ l : List Value, refsE l = true → l.contains (.type X) = eTail.contains (.type X) := by
  intro l
  induction l with
  | nil => intro e; exact absurd e (by decide)
  | cons a r ih =>
    intro e
    rcases refsE_cases (a :: r) e with ⟨c, r', q, h⟩ | q
    · obtain ⟨rfl, rfl⟩ := List.cons.inj q
      rw [List.contains_cons, ih h]; rfl
    · rw [q]
theorem refsE_ne {l : List Value} (e : refsE l = true) : l.isEmpty = false := by
  cases l with
  | nil => exact absurd e (by decide)
  | cons _ _ => rfl
section
variable {prog : Program} {w : World} {A : Around} {E : Value → Shared → Prop} {R : Result → Shared → Prop} {hp : Heap} {g : Array GenState} {d : Drawn} {t : Nat} {os : OsState}
theorem exc_osaE {K : W.Frag} {name : Str} {tk : Tok} {v : Value} {x C : Addr} {fv : Array Value} {cd : ClassData}
    (X : K.In hp) (hx : hp.get? x = some { cls := .ref C, data := .fields fv }) (hcd : W.clsIn K C = some cd) (hm : refsE cd.mro = true) (hh : cd.hasDict = true) (ha : W.findIn K (.ref C) name = some none)
    (hq : ∀ h' tk' dx, (∀ b o, b ≠ x → hp.get? b = some o → h'.get? b = some o) → hp.objs.size ≤ dx → dx ≠ x → h'.get? x = some { cls := .ref C, dict := some dx, data := .fields fv } →
      h'.Ns1 dx (fun y => if y = name then some v else none) → R (.ok (.ret .none)) ⟨h', g, d, tk', os⟩) :
    codeAny (model prog w) A (.call (.builtin "object.__setattr__") ⟨[.ref x, .str name tk, v], []⟩) R ⟨hp, g, d, t, os⟩ := by
  have I : W.InstAt hp x { cls := .ref C, data := .fields fv } C none := ⟨hx, rfl, rfl, trivial⟩
  have SF := F.store_object
  have ne := refsE_ne hm
  have hob : cd.mro.contains (.type "object") = true := (refsE_contains "object" _ hm).trans (by decide +kernel)
  have hxs : x ≠ hp.objs.size := Nat.ne_of_lt (Heap.lt_size hx)
  have sub : W.Looks (model prog w) hp (isInstance (.ref x) (.type "object")) true := I.type.andThen (W.looks_mroIn X (by unfold W.mroIn; rw [hcd, Option.bind_some, if_neg (by rw [ne]; decide), hob]))
  refine codeAny_call_builtin SF.slot.plain SF.entry (@W.check_slot (model prog w) _ _ ⟨hp, g, d, t, os⟩ "object.__setattr__" "object" "__setattr__" (.ref x) [.str name tk, v] [] _ SF.kind SF.split sub (SF.args (.ref x) (.str name tk) v) ?_)
  have hmr : W.Looks (model prog w) hp (mroOf (.ref C)) cd.mro := (W.looks_clsIn X hcd).andThen .now
  have L3 : W.Looks (model prog w) hp (storeTaker? none) none := .now
  have hcls : W.Looks (model prog w) hp (classData C) cd := W.looks_clsIn X hcd
  rw [W.osa_eq, refuse_eq]
  refine wpAny_bind (wpAny_bind (I.type.at (wpAny_bind (hmr.at ?_))))
  rw [refsE_pass _ _ hm]
  refine wpAny_pure (wpAny_bind (I.type.at (wpAny_bind ((W.looks_findIn X ha).at (wpAny_bind (L3.at ?_))))))
  show wpAny _ _ (storeInOwnDict (.ref x) (.ref C) (.str name tk) name v false) _ _ _
  obtain ⟨nm, bs, mro, ns, qn, hd, sn, sb, ab, col, del⟩ := cd
  dsimp only at hh
  subst hh
  unfold storeInOwnDict ownDictForStores
  repeat (first | with_reducible refine store_in_new ?_ ?_ | with_reducible refine wpAny_loadPart_at hx ?_ | with_reducible refine hcls.at ?_ | wp_step)
  · exact ⟨_, #[], _, (Heap.get?_update_ne _ _ _ _ hxs.symm).trans (Heap.get?_push_at rfl rfl), rfl, fun e he => absurd he (by simp), fun _ => rfl⟩
  · intro h' tk' hn' hs
    have hx₁ : (hp.push { cls := .type "dict", data := .dict #[] }).get? x = some { cls := .ref C, data := .fields fv } := Heap.get?_push_of_some _ hx
    refine hq h' tk' hp.objs.size (fun b o hb ho => ?_) (Nat.le_refl _) hxs.symm ?_ hn'
    · exact (hs.2 b (Nat.ne_of_lt (Heap.lt_size ho))).trans ((Heap.get?_update_ne _ _ _ _ hb).trans (Heap.get?_push_of_some _ ho))
    · exact (hs.2 x hxs).trans (Heap.get?_update_self _ hx₁ rfl)
end
/-! the text of such an init -/
def iA (n : Str) (p1 p2 : Pos) : Arguments := { posonlyargs := [], args := [{ arg := "self", annotation := none, pos := p1 }, { arg := n, annotation := none, pos := p2 }], vararg := none, kwonlyargs := [], kw_defaults := [], kwarg := none, defaults := [] }
def iB (n : Str) (q1 q2 q3 q4 : Pos) : List Stmt := [.Assign [.Attribute (.Name "self" q1) n q2] (.Name n q3) q4]
def iS (n : Str) : Scope := { kind := .function, names := [(PySem.Str.ofString "self", .local), (n, .local)], isGenerator := false, isCoroutine := false, more := [] }
/-- what the written part says of such a class at C, of its init at fI -/
structure ErrC (K : Frag) (C fI : Addr) (n : Str) : Prop where
  cls : ∃ nm q N bs bm sn sub ab col dd k0 k1 k2 k3 k5, K.lookup C = some (excClassObj nm q C N bs bm true sn sub ab col dd k0 k1 k2 k3 k5 "Exception.__new__") ∧ refsE bm = true
  sa : findIn K (.ref C) "__setattr__" = some (some (.builtin "object.__setattr__"))
  ga : findIn K (.ref C) "__getattribute__" = some (some (.builtin "BaseException.__getattribute__"))
  gg : findIn K (.ref C) "__getattr__" = some none
  noN : findIn K (.ref C) n = some none
  iC : findIn K (.ref C) "__init__" = some (some (.ref fI))
  tC : typeIn K (.ref fI) = some (.type "function")
  kC : keepIn K (.ref C) = true
  exC : subIn K (.ref C) (.type "BaseException") = some true
  tyC : typeIn K (.ref C) = some (.type "type")
  hdC : hasDictIn K C = true
  nn : n ≠ "self" ∧ (n == ("__debug__" : Str)) = false
  fn : ∃ (oc : Value) (od : Option Addr) (kV doc pm : Value) (an : Option Addr) (cdv ct : Value) (osl : Array (Option Value)) (ql : Str) (p1 p2 q1 q2 q3 q4 : Pos),
    K.lookup fI = some ⟨oc, od, .func (fnOf "__init__" ql (iA n p1 p2) (iB n q1 q2 q3 q4) (iS n) .none kV doc pm an cdv ct), osl⟩ ∧ codeIn K cdv ql = true ∧
      ∀ u v : Value, bindArgs (fnOf "__init__" ql (iA n p1 p2) (iB n q1 q2 q3 q4) (iS n) .none kV doc pm an cdv ct) ⟨[u, v], []⟩ = pure [(PySem.Str.ofString "self", u), (n, v)]
theorem kept_but {K : Frag} {h h' : Heap} {x : Addr} (X : K.In h) (hx : K.lookup x = none) (k : ∀ b o, b ≠ x → h.get? b = some o → h'.get? b = some o) : K.In h' := fun a o e =>
  k a o (fun z => by rw [z, hx] at e; cases e) (X a o e)
theorem ldC {M : Model} {s : Shared} {name : Str} {scope : Scope} {L a : Addr} {cd : Value} {m : Str → Option Value} {x : Str} {pos : Pos} {v : Value} {Q : Value → Shared → Prop} {A : Around} {E : Value → Shared → Prop} (hn : s.heap.Ns L m) (hv : m x = some v) (h : Q v s)
    (hd : (x == ("__debug__" : Str)) = false) (hl : (envOfC name scope L a cd).kindOf x = some .local) (hk : scope.kind = .function := by rfl) :
    wpAny M A (eval (.Name x pos) (envOfC name scope L a cd)) Q E s := wpAny_Name (wpAny_loadName_local hk hl hn hv h) hd
/-- what init leaves of a fresh exception at x -/
structure InitEnd (h h' : Heap) (x C dx t1 : Addr) (n : Str) (v : Value) : Prop where
  keep : ∀ b o, b ≠ x → h.get? b = some o → h'.get? b = some o
  obj : h'.get? x = some { cls := .ref C, dict := some dx, data := .fields #[.ref t1, .none, .none, .none, .bool false, .none] }
  dbig : h.objs.size ≤ dx
  dne : dx ≠ x
  ns : h'.Ns1 dx (fun y => if y = n then some v else none)
structure OwnMade (h h' : Heap) (e C d : Addr) (n : Str) (v : Value) : Prop where
  keep : ∀ b o, h.get? b = some o → h'.get? b = some o
  new : h.objs.size ≤ e
  obj : ∃ oe vs, h'.get? e = some oe ∧ oe.cls = .ref C ∧ oe.dict = some d ∧ oe.data = .fields vs ∧ vs[1]? = some .none ∧ vs[2]? = some .none
  dbig : h.objs.size ≤ d
  dne : d ≠ e
  ns : h'.Ns1 d (fun y => if y = n then some v else none)
theorem lk_self {n : Str} (h : n ≠ "self") : (iS n).names.lookup ("self" : Str) = some .local := by
  show List.lookup ("self" : Str) [(PySem.Str.ofString "self", NameKind.local), (n, NameKind.local)] = some .local
  rfl
theorem lk_n {n : Str} : (iS n).names.lookup n = some .local := by
  show List.lookup n [(PySem.Str.ofString "self", NameKind.local), (n, NameKind.local)] = some .local
  rw [List.lookup_cons]
  cases n == PySem.Str.ofString "self" with
  | true => rfl
  | false => rw [List.lookup_cons_self]
section
variable {prog : Program} {w : World} {A : Around} {E : Value → Shared → Prop} {R : Result → Shared → Prop} {s : Shared} {K : Frag} {C fI : Addr} {n : Str}
theorem err_init (T : ErrC K C fI n) {x t0 : Addr} {v : Value} (X : K.In s.heap) (hlim : s.heap.NoLimit) (hx : s.heap.get? x = some (excO C t0)) (hnx : K.lookup x = none) (hroom : A.depth < recursionLimit)
    (hq : ∀ h' tk dx, InitEnd s.heap h' x C dx t0 n v → R (.ok (.ret .none)) { s with heap := h', toks := tk }) :
    codeAny (model prog w) A (.call (.ref fI) ⟨[.ref x, v], []⟩) R s := by
  obtain ⟨oc, od, kV, doc, pm, an, cdv, ct, osl, ql, p1, p2, q1, q2, q3, q4, ho, hcd, hbd⟩ := T.fn
  obtain ⟨nm, q, N, bs, bm, sn, sub, ab, col, dd, k0, k1, k2, k3, k5, hC, hbm⟩ := T.cls
  have hcl : clsIn K C = some { name := nm, bases := bs, mro := .ref C :: bm, ns := N, qualname := q, hasDict := true, slotNames := sn, subclasses := sub, abstract := ab, collection := col, hasDel := false } := by unfold clsIn; rw [hC] <;> rfl
  refine Att.call_fn (binds := [(PySem.Str.ofString "self", .ref x), (n, v)]) X hlim ho hcd hroom (BindsTo.of_eq (hbd _ _)) ?_ (fun s₁ IC => ?_) rfl rfl rfl
  · rw [List.all_cons, List.all_cons, List.all_nil]
    show (((iS n).names.lookup ("self" : Str) == some NameKind.local || (iS n).names.lookup ("self" : Str) == some NameKind.cell) && (((iS n).names.lookup n == some NameKind.local || (iS n).names.lookup n == some NameKind.cell) && true)) = true
    rw [lk_self T.nn.1, lk_n]
    rfl
  obtain ⟨h₁, tk₁, rfl⟩ := IC.toInCall.same
  have k : ∀ b o, s.heap.get? b = some o → h₁.get? b = some o := IC.toInCall.keep
  have hn := IC.toInCall.ns
  have hxL : s.heap.objs.size ≠ x := Nat.ne_of_gt (Heap.lt_size hx)
  have X₁ : K.In h₁ := X.keeps k
  have hx₁ := k _ _ hx
  have kself : (envOfC ql (iS n) s.heap.objs.size fI cdv).kindOf ("self" : Str) = some .local := lk_self T.nn.1
  have kn : (envOfC ql (iS n) s.heap.objs.size fI cdv).kindOf n = some .local := lk_n
  have nd : (["self", n] : List Str).Nodup := List.nodup_cons.mpr ⟨fun hm => T.nn.1 (List.mem_singleton.mp hm).symm, by simp⟩
  -- self.n = n
  show wpAny _ _ (execs _ _) _ _ _
  refine wpAny_execs_cons (plainObj_wpAny_Assign_Attribute ?_)
  refine ldC (v := v) hn (L2.bindL_get (P := ["self", n]) (vs := [.ref x, v]) (i := 1) nd rfl rfl kn) (ldC (v := .ref x) hn (L2.bindL_get (P := ["self", n]) (vs := [.ref x, v]) (i := 0) nd rfl rfl kself) ?_ (by decide) kself) T.nn.2 kn
  refine set_plain X₁ (ox := excO C t0) (od := none) ⟨hx₁, rfl, rfl, trivial⟩ T.sa ?_
  refine exc_osaE X₁ hx₁ hcl (show refsE (.ref C :: bm) = true from hbm) rfl T.noN (fun h₃ tk₃ dx k₃ dn dne hx₃ hn₃ => ?_)
  show wpAny _ _ (execs _ _) _ _ _
  have z : s.heap.objs.size < h₁.objs.size := hn.lt
  exact wpAny_execs_nil (hq h₃ tk₃ dx ⟨fun b o hb e => k₃ b o hb (k b o e), hx₃, Nat.le_of_lt (Nat.lt_of_lt_of_le z dn), dne, hn₃⟩)
theorem one_size (v : Value) : [v].length ≤ sizeLine := by
  rw [sizeLine_eq]
  exact (by decide : 1 ≤ 16777216)
theorem err_made (T : ErrC K C fI n) {v : Value} (X : K.In s.heap) (hlim : s.heap.NoLimit) (hroom : A.depth + 1 < recursionLimit)
    (hq : ∀ h' tk e d, OwnMade s.heap h' e C d n v → R (.ok (.ret (.ref e))) { s with heap := h', toks := tk }) :
    codeAny (model prog w) A (.call (.ref C) ⟨[v], []⟩) R s := by
  obtain ⟨nm, q, N, bs, bm, sn, sub, ab, col, dd, k0, k1, k2, k3, k5, hC, hbm⟩ := T.cls
  obtain ⟨hp, g, dr, tk, os⟩ := s
  have k : ∀ b o, hp.get? b = some o → ((hp.push (kdv_tup [v])).push (excO C hp.objs.size)).get? b = some o := fun b o e => Heap.get?_push_of_some _ (Heap.get?_push_of_some _ e)
  have hget : ((hp.push (kdv_tup [v])).push (excO C hp.objs.size)).get? (hp.objs.size + 1) = some (excO C hp.objs.size) := by heap_get
  have hnx : K.lookup (hp.objs.size + 1) = none := by
    cases e : K.lookup (hp.objs.size + 1) with
    | none => rfl
    | some o =>
      have z : hp.get? (hp.objs.size + 1) = some o := X _ _ e
      exact absurd (Nat.lt_of_succ_lt (Heap.lt_size z)) (Nat.lt_irrefl _)
  refine call_own F.excBase_Exception (fun X => refsE_contains X bm hbm) (X _ _ hC) (looks_findIn X T.iC) (fun self => bind_fn X self T.tC) (one_size v) ?_
  refine err_init (s := ⟨(hp.push (kdv_tup [v])).push (excO C hp.objs.size), g, dr, tk, os⟩) T (X.keeps k) (hlim.keeps k) hget hnx ?_ fun h' tk' dx ⟨k', hx, dn, dne, hns⟩ => ?_
  · show A.depth + 1 < recursionLimit
    exact hroom
  · have old : ∀ b o, hp.get? b = some o → h'.get? b = some o := fun b o e => k' b o (Nat.ne_of_lt (Nat.lt_succ_of_lt (Heap.lt_size e))) (k b o e)
    have z : hp.objs.size + 1 + 1 ≤ dx := by
      first
        | (simpa only [Heap.size_push] using dn)
        | exact dn
        | (have q := dn; rw [Heap.size_push, Heap.size_push] at q; exact q)
    exact ⟨rfl, hq h' tk' (hp.objs.size + 1) dx ⟨old, Nat.le_succ _, ⟨_, _, hx, rfl, rfl, rfl, rfl, rfl⟩, Nat.le_trans (Nat.le_trans (Nat.le_succ _) (Nat.le_succ _)) z, dne, hns⟩⟩
end
end MyX
end PySem
namespace L2
open PySem PySem.Spec PyProof.Rows
theorem relO_err {n : Str} {v : V} {v' : Value} (r : RelV v v') (f : Str) : RelO (List.lookup f [(n, v)]) (if f = n then some v' else none) := by
  by_cases hw : f = n
  · subst hw
    rw [if_pos rfl]
    have q : List.lookup f [(f, v)] = some v := by simp [List.lookup]
    rw [q]
    exact r
  · rw [if_neg hw]
    have qw : (f == n) = false := by simpa using hw
    have q2 : List.lookup f [(n, v)] = none := by simp [List.lookup, qw]
    rw [q2]
    trivial
section
variable {X : Cx} {C fI : Addr} {n : Str}
/-- C(e) -/
def tMkErr (C : Addr) (n : Str) (ta : TA) : St → Hp → XK → Prop := fun σ H Q => ta σ H fun vs H1 => ∃ v, vs = [v] ∧ ∀ d, H1 d = none → Q (.ref C) (some d) (upd H1 d (.xd [(n, v)]))
theorem pmk_err {cn : Str} {a : Expr} {ta : TA} {p pos : Pos} {k : Nat} (T : PySem.MyX.ErrC X.K C fI n) (hm : X.mg cn = some (.ref C)) (hr : Room k X.A) (ha : PA X [a] ta) (hg : Gl X cn := by rfl)
    (hdb : (cn == ("__debug__" : Str)) = false := by decide)
    (he : starEach (a :: []) X.env = (false, eval a X.env) :: starEach [] X.env := by rfl) (hpl : (backTo pos (starEach [] X.env)).any (·.1) = false := by rfl) :
    L2N.PMk X (.Call (.Name cn p) [a] [] pos) (tMkErr C n ta) := by
  intro pins s σ H Q I h
  refine wpAny_Call_Name_kw (ld_glob I hg hm ?_ hdb)
  refine PySem.W.callWith_K (h₀ := X.base) I.ok.mod.kin T.kC (thn (ha.run pos pins s σ H _ I h) fun us s1 hh => ?_) he hpl
  obtain ⟨vs, H1, I1, r1, v, ev, q1⟩ := hh
  subst ev
  refine ⟨I1.kIn, ?_⟩
  cases r1 with
  | cons rv rn =>
    rename_i v' us'
    cases rn
    show wpAny _ _ (call (.ref C) [v']) _ _ _
    have hlim := I1.nolimit
    obtain ⟨hp, g, dr, tk, os⟩ := s1
    refine wpAny_call (PySem.MyX.err_made T I1.kIn hlim (by have := hr.dp; omega) fun h' tk' e d M => ?_)
    show L2N.MkP X pins σ Q (.ref e) ⟨h', g, dr, tk', os⟩
    obtain ⟨oe, fv, hoe, hc, hd, hdat, h1, h2⟩ := M.obj
    have hns := M.ns
    obtain ⟨G', g1, g2⟩ := restrict h' fun b => decide (b ≠ e)
    have gk : ∀ b, b ≠ e → G'.get? b = h'.get? b := fun b hb => g1 b (decide_eq_true hb)
    have ge : G'.get? e = none := g2 e (by simp)
    have old : ∀ b o, hp.get? b = some o → G'.get? b = some o := fun b o q => (gk b (Nat.ne_of_lt (Nat.lt_of_lt_of_le (Heap.lt_size q) M.new))).trans (M.keep b o q)
    have ob : ObjOk X.prog X.w (upd H1 d (.xd [(n, v)])) G' d (.xd [(n, v)]) :=
      ⟨_, hns.at (fun o q => (gk d M.dne).trans q), fun f => relO_err rv f⟩
    have J : Inv X pins σ (upd H1 d (.xd [(n, v)])) ⟨G', g, dr, tk', os⟩ := I1.laid (t' := tk') old M.dbig ob
    refine ⟨e, oe, fv, ⟨G', g, dr, tk', os⟩, _, .ref C, some d, rfl, J, fun b o q => ?_, ge, hoe, ⟨hc, hd, fun vs' e' => ?_⟩, hdat, h1, ?_, rfl, I1.bare, raises_own T.exC T.tyC, q1 d (I1.hok.fresh M.dbig)⟩
    · by_cases hb : b = e
      · have q' : G'.get? b = some o := q
        rw [hb, ge] at q'; cases q'
      · exact (gk b hb).symm.trans q
    · rw [hdat] at e'
      injection e' with e2
      rw [← e2]
      exact h2
    · rw [upd_ne (Ne.symm M.dne)]
      exact I1.hok.fresh M.new
/-- raise C(e) -/
def tRaiseErr (C : Addr) (n : Str) (W : WX) (ta : TA) : TS := fun _ σ H => tMkErr C n ta σ H fun cls d H' => W cls d σ H'
theorem ps_raiseErr {cn : Str} {a : Expr} {ta : TA} {W : WX} {p pos pos2 : Pos} {k : Nat} (hc : X.calm = true) (T : PySem.MyX.ErrC X.K C fI n) (hm : X.mg cn = some (.ref C)) (hr : Room k X.A) (tk : L2N.Takes X W) (ha : PA X [a] ta) (hg : Gl X cn := by rfl)
    (hdb : (cn == ("__debug__" : Str)) = false := by decide)
    (he : starEach (a :: []) X.env = (false, eval a X.env) :: starEach [] X.env := by rfl) (hpl : (backTo pos (starEach [] X.env)).any (·.1) = false := by rfl) :
    PS X (.Raise (some (.Call (.Name cn p) [a] [] pos)) none pos2) (tRaiseErr C n W ta) := L2N.ps_raise hc tk (pmk_err T hm hr ha hg hdb he hpl)
/-- e.n, e the exception that the suite holds (at a; its class cls, its dict d) -/
def tByErr (n : Str) (C : Addr) (a : Addr) (cls : Value) (d : Option Addr) (te : TE) : TE := fun σ H Q => te σ H fun x H1 => x = .ref a ∧ cls = .ref C ∧ ∃ (dd : Addr) (v : V), d = some dd ∧ H1 dd = some (.xd [(n, v)]) ∧ Q v H1
theorem pe_byErr {a : Addr} {oe : Obj} {cls : Value} {d : Option Addr} {pn : List (Addr × Obj)} {e : Expr} {te : TE} {pos : Pos} (T : PySem.MyX.ErrC X.K C fI n) (hz : Zc cls d oe) (hf : ∃ vs, oe.data = .fields vs) (he : PE (X.suite a ((a, oe) :: pn)) e te)
    (hb : attributeBase e n X.env (eval e X.env) = eval e X.env := by rfl) :
    PE (X.suite a ((a, oe) :: pn)) (.Attribute e n pos) (tByErr n C a cls d te) := by
  refine ⟨fun pins s σ H Q I h => ?_⟩
  refine attr_of hb (thn (he.run pins s σ H _ I h) fun u s1 hh => ?_)
  obtain ⟨x, H1, I1, rx, ex, ec, dd, v, ed, ea, q⟩ := hh
  subst ex
  obtain rfl : u = Value.ref a := rx
  subst ec
  subst ed
  obtain ⟨ha, _⟩ := I1.pin (a, oe) (List.mem_append_left _ List.mem_cons_self)
  obtain ⟨vs, hd⟩ := hf
  have hx : ObjOk X.prog X.w H1 s1.heap dd (.xd [(n, v)]) := I1.hok dd _ ea
  obtain ⟨mA, hns, hr⟩ := hx
  obtain ⟨od, ho, hl⟩ := lookIn_ns hns
  have l : List.lookup n [(n, v)] = some v := by simp [List.lookup]
  obtain ⟨u, hu, ru⟩ := RelO.some_of (v := v) (o := mA n) (by rw [← l]; exact hr n)
  have J : PySem.W.InstAt s1.heap a oe C (some od) := ⟨ha, hz.1, by unfold PySem.W.notCls; rw [hd] <;> rfl, by rw [hz.2]; exact ho⟩
  exact HandSPX.exc_get I1.kIn J T.ga T.gg T.exC (PySem.W.findObj_own T.hdC T.noN rfl (by rw [hl, hu])) (handed_of ru) ⟨v, H1, I1.tok _, ru, q⟩
end
end L2

namespace L2
open PySem PySem.Spec PyProof.Rows
/-! ### several except clauses, each with a name or without -/
abbrev SuT : Type := Addr → Value → Option Addr → TS
def goneD (i : Nat) (D : Ends) : Ends := { nx := fun s h => D.nx (s.set i none) h, rt := D.rt, bk := fun s h => D.bk (s.set i none) h, ct := fun s h => D.ct (s.set i none) h }
def wHds (K : PySem.W.Frag) (Wout : WX) (D : Ends) : List (Value × Option Nat × SuT) → WX
  | [] => Wout
  | (c, none, ts) :: r => fun cls d σ H => ∃ b, PySem.W.exmOne K cls c = some b ∧ (b = true → ∀ a, H a = none → ts a cls d D σ H) ∧ (b = false → wHds K Wout D r cls d σ H)
  | (c, some i, ts) :: r => fun cls d σ H => ∃ b, PySem.W.exmOne K cls c = some b ∧ (b = true → ∀ a, H a = none → ts a cls d (goneD i D) (σ.set i (some (.ref a))) H) ∧ (b = false → wHds K Wout D r cls d σ H)
/-- the suites are read where the caught object is known to have no context -/
abbrev SuOk (X : Cx) (ss : List Stmt) (ts : SuT) : Prop := ∀ (a : Addr) (oe : Obj) (cls : Value) (d : Option Addr) (pn : List (Addr × Obj)), L2N.Zn cls d oe → (∃ vs, oe.data = .fields vs) → PSs (X.suite a ((a, oe) :: pn)) ss (ts a cls d)
inductive Hds (X : Cx) : List ExceptHandler → List (Value × Option Nat × SuT) → Prop
  | nil : Hds X [] []
  | plain {x : Str} {c : Value} {ts : SuT} {b₀ : Stmt} {suite : List Stmt} {np pos' : Pos} {hds : List ExceptHandler} {l : List (Value × Option Nat × SuT)} (hc : Names X x c) (hsu : SuOk X (b₀ :: suite) ts) (r : Hds X hds l) :
      Hds X (.ExceptHandler (some (.Name x np)) none (b₀ :: suite) pos' :: hds) ((c, none, ts) :: l)
  | named {x n : Str} {c : Value} {i : Nat} {ts : SuT} {b₀ : Stmt} {suite : List Stmt} {np pos' : Pos} {hds : List ExceptHandler} {l : List (Value × Option Nat × SuT)} (hN : X.N.Nodup) (hi : X.N[i]? = some n) (hln : X.env.kindOf n = some .local)
      (hc : Names X x c) (hsu : SuOk X (b₀ :: suite) ts) (r : Hds X hds l) :
      Hds X (.ExceptHandler (some (.Name x np)) (some n) (b₀ :: suite) pos' :: hds) ((c, some i, ts) :: l)
/-- the error at a has come down to X's own frame and stands in s; sI: the state without it -/
structure Down (X : Cx) (pins : List (Addr × Obj)) (σ : St) (H : Hp) (B : Heap) (a : Addr) (cls : Value) (d : Option Addr) (sI s : Shared) : Prop where
  was : Inv X pins σ H sI
  nb : ∀ b o, sI.heap.get? b = some o → b ∉ frs X.stack → B.get? b = some o
  up : sI.heap.UpToSlots s.heap
  os : s.os = sI.os
  bare : AllBare s.gens
  free : H a = none
  fly : HandSPX.FlyingZ B (X.env :: X.outer) a (L2N.Zn cls d) s.heap
section
variable {X : Cx} {pins : List (Addr × Obj)} {σ : St} {H : Hp} {B : Heap} {a : Addr} {cls : Value} {d : Option Addr} {sI s : Shared}
theorem Down.inv (K : Down X pins σ H B a cls d sI s) : Inv X pins σ H s := K.was.landed K.nb K.fly.1 K.up K.os K.bare
theorem Down.apart (K : Down X pins σ H B a cls d sI s) (hf : X.env.frame = some X.env.locals) : a ≠ X.env.locals ∧ a ∉ X.fs := by
  have no : a ∉ frs (X.env :: X.outer) := fun hm => by
    obtain ⟨oe, vs, e1, _, e3⟩ := K.fly.there
    obtain ⟨_, o', e2, nf⟩ := K.fly.2.2.1.mem hm
    rw [e1] at e2
    cases e2
    exact nf _ e3
  refine ⟨fun z => no ?_, fun hm => no ?_⟩
  · exact List.mem_filterMap.mpr ⟨X.env, List.mem_cons_self, by rw [hf, z]⟩
  · obtain ⟨e, he, q⟩ := List.mem_filterMap.mp hm
    exact List.mem_filterMap.mpr ⟨e, List.mem_cons_of_mem _ he, q⟩
/-- the same at a heap where only the flight has been set -/
theorem Down.next (K : Down X pins σ H B a cls d sI s) {h' : Heap} (fl : HandSPX.FlyingZ B (X.env :: X.outer) a (L2N.Zn cls d) h') (up : s.heap.UpToSlots h') : Down X pins σ H B a cls d sI { s with heap := h' } :=
  ⟨K.was, K.nb, K.up.trans up, K.os, K.bare, K.free, fl⟩
/-- the context of a suite, as soon as the object is looked at -/
theorem Down.at (K : Down X pins σ H B a cls d sI s) (hf : X.env.frame = some X.env.locals) : ∃ oe, L2N.Zn cls d oe ∧ (∃ vs, oe.data = .fields vs) ∧ s.heap.get? a = some oe ∧ Inv (X.suite a ((a, oe) :: (X.pn ++ pins))) [] σ H s := by
  obtain ⟨oe, vs, e1, e2, e3⟩ := K.fly.there
  obtain ⟨n1, n2⟩ := K.apart hf
  exact ⟨oe, e2, ⟨vs, e3⟩, e1, K.inv.suite e1 e3 K.free n1 n2⟩
theorem Down.look (K : Down X pins σ H B a cls d sI s) (hf : X.env.frame = some X.env.locals) {x : Str} {c : Value} {np : Pos} {b : Bool} {E : Value → Shared → Prop} {Q : Bool → Shared → Prop} (hc : Names X x c) (hb : PySem.W.exmOne X.K cls c = some b) (q : Q b s) :
    wpAny (model X.prog X.w) (X.A.mark (some (.ref a))) (eval (.Name x np) X.env) (fun v s1 => wpAny (model X.prog X.w) (X.A.mark (some (.ref a))) (excMatches (.ref a) v) Q E s1) E s := by
  obtain ⟨oe, z, _, e1, S⟩ := K.at hf
  have LT : PySem.W.Looks (model X.prog X.w) s.heap (typeOf (.ref a)) cls := fun A Q E s' k q => wpAny_typeOf_ref (k _ _ e1) (by rw [z.1]; exact q)
  have m : wpAny (model X.prog X.w) (X.A.mark (some (.ref a))) (excMatches (.ref a) c) Q E s := (PySem.W.exm_one (M := model X.prog X.w) K.inv.kIn LT hb).here q
  obtain ⟨hg, hdb, hm | ⟨hm, hv, hnn⟩⟩ := hc
  · exact ld_glob (X := X.suite a ((a, oe) :: (X.pn ++ pins))) S hg hm m hdb
  · exact ld_blt (X := X.suite a ((a, oe) :: (X.pn ++ pins))) S hg hm hv m hnn hdb
/-- no clause has taken it: it flies on -/
theorem Down.pass (K : Down X pins σ H B a cls d sI s) (hs : X.stack = X.env :: X.outer) (hf : X.env.frame = some X.env.locals) {Wout : WX} (tk : L2N.Takes X Wout) (w : Wout cls d σ H) {Q : Flow → Shared → Prop} :
    wpAny (model X.prog X.w) X.A (handleBy (.ref a) X.env []) Q X.xe s := by
  obtain ⟨_, _, _, oe, vs, T, oT, ts, he, _, hd, h1, _⟩ := id K.fly
  refine wpAny_handleBy_nil ?_
  unfold PySem.passOn
  refine wpAny_bind (wpAny_field he hd h1 ?_)
  rw [if_neg (show ¬ ((Value.ref T == Value.none) = true) from by simp)]
  have on : wpAny (model X.prog X.w) X.A (setFlight (.ref a) X.env.frame) (fun _ s4 => wpAny (model X.prog X.w) X.A (throw (.ref a) : Sem Flow) Q X.xe s4) X.xe s := by
    rw [hf]
    refine HandSPX.setFlight_upZ K.fly fun h4 held up4 => wpAny_throw (tk _ _ ?_)
    exact ⟨a, B, sI, pins, σ, H, cls, d, rfl, K.was, K.nb, K.up.trans up4, .inr (.inr (by rw [hs]; exact held)), K.free, K.os, K.bare, w⟩
  first
    | exact wpAny_bind (wpAny_pure (wpAny_bind on))
    | exact wpAny_bind on
/-- what a suite leaves, where the clause's name goes behind it -/
theorem sp_gone {oe : Obj} {i : Nat} {n : Str} {pos : Pos} {D : Ends} {f : Flow} {s6 : Shared} (ok : X.Ok) (hN : X.N.Nodup) (hi : X.N[i]? = some n) (hl : X.env.kindOf n = some .local) (hsp : SP (X.suite a ((a, oe) :: (X.pn ++ pins))) [] (goneD i D) f s6) :
    wpAny (model X.prog X.w) X.A (do bindName X.env n .none; unbindBehindTheSuite X.env n pos) (fun _ s7 => SP X pins D f s7) X.xe s6 := by
  cases f with
  | ret u =>
    obtain ⟨v, t, H6, S6, r, q⟩ := hsp
    exact gone_ok (S6.unsuite ok) hN hi hl fun _ J => ⟨v, _, H6, J, r, q⟩
  | next =>
    obtain ⟨t, H6, S6, q⟩ := hsp
    exact gone_ok (S6.unsuite ok) hN hi hl fun _ J => ⟨_, H6, J, q⟩
  | brk =>
    obtain ⟨t, H6, S6, q⟩ := hsp
    exact gone_ok (S6.unsuite ok) hN hi hl fun _ J => ⟨_, H6, J, q⟩
  | cont =>
    obtain ⟨t, H6, S6, q⟩ := hsp
    exact gone_ok (S6.unsuite ok) hN hi hl fun _ J => ⟨_, H6, J, q⟩
theorem sp_out {oe : Obj} {D : Ends} {f : Flow} {s6 : Shared} (ok : X.Ok) (hsp : SP (X.suite a ((a, oe) :: (X.pn ++ pins))) [] D f s6) : SP X pins D f s6 := by
  cases f with
  | ret u =>
    obtain ⟨v, t, H6, S6, r, q⟩ := hsp
    exact ⟨v, t, H6, S6.unsuite ok, r, q⟩
  | next =>
    obtain ⟨t, H6, S6, q⟩ := hsp
    exact ⟨t, H6, S6.unsuite ok, q⟩
  | brk =>
    obtain ⟨t, H6, S6, q⟩ := hsp
    exact ⟨t, H6, S6.unsuite ok, q⟩
  | cont =>
    obtain ⟨t, H6, S6, q⟩ := hsp
    exact ⟨t, H6, S6.unsuite ok, q⟩
theorem sp_try {xe : Value → Shared → Prop} {D : Ends} {f : Flow} {s1 : Shared} (ok : X.Ok) (hsp : SP (X.tr (X.pn ++ pins) xe) [] D f s1) : SP X pins D f s1 := by
  cases f with
  | ret u =>
    obtain ⟨v, t, H6, S6, r, q⟩ := hsp
    exact ⟨v, t, H6, S6.ofTry ok, r, q⟩
  | next =>
    obtain ⟨t, H6, S6, q⟩ := hsp
    exact ⟨t, H6, S6.ofTry ok, q⟩
  | brk =>
    obtain ⟨t, H6, S6, q⟩ := hsp
    exact ⟨t, H6, S6.ofTry ok, q⟩
  | cont =>
    obtain ⟨t, H6, S6, q⟩ := hsp
    exact ⟨t, H6, S6.ofTry ok, q⟩
/-- the clauses from some one on -/
theorem Hds.go {Wout : WX} {D : Ends} (hs : X.stack = X.env :: X.outer) (hf : X.env.frame = some X.env.locals) (tk : L2N.Takes X Wout) (K : Down X pins σ H B a cls d sI s) {hds : List ExceptHandler} {l : List (Value × Option Nat × SuT)} (hk : Hds X hds l) :
    wHds X.K Wout D l cls d σ H → wpAny (model X.prog X.w) X.A (handleBy (.ref a) X.env hds) (SP X pins D) X.xe s := by
  have ok := K.inv.ok
  induction hk with
  | nil => exact fun w => K.pass hs hf tk w
  | @plain x c ts b₀ suite np pos' hds2 l2 hc hsu r ih =>
    rintro ⟨b, hb, yes, no⟩
    refine wpAny_handleBy_cons (codeAny_handlers_test (K.look hf hc hb ?_)) (by intro q; cases q)
    cases b with
    | false => exact ih (no rfl)
    | true =>
      refine codeAny_handlers_suite (HandSPX.lands_againZ K.fly fun h4 fl4 up4 => ?_)
      obtain ⟨oe, z, hv, _, S⟩ := (K.next fl4 up4).at hf
      exact wpAny_mono ((hsu a oe cls d (X.pn ++ pins) z hv).run [] _ _ _ _ S (yes rfl a K.free)) (fun f s6 hsp => sp_out ok hsp) fun _ _ z => z.elim
  | @named x n c i ts b₀ suite np pos' hds2 l2 hN hi hl hc hsu r ih =>
    rintro ⟨b, hb, yes, no⟩
    refine wpAny_handleBy_cons (codeAny_handlers_test (K.look hf hc hb ?_)) (by intro q; cases q)
    cases b with
    | false => exact ih (no rfl)
    | true =>
      refine codeAny_handlers_suite_as (HandSPX.lands_againZ K.fly fun h4 fl4 up4 => ?_)
      obtain ⟨oe, z, hv, _, S⟩ := (K.next fl4 up4).at hf
      refine store_ok (X := X.suite a ((a, oe) :: (X.pn ++ pins))) (v := .ref a) S hN hi (.inl hl) rfl (fun s5 S5 => ?_) (.inr hl)
      exact wpAny_mono ((hsu a oe cls d (X.pn ++ pins) z hv).run [] s5 _ _ _ S5 (yes rfl a K.free)) (fun f s6 hsp => sp_gone ok hN hi hl hsp) fun _ _ z => z.elim
end
section
variable {X : Cx} {body : List Stmt} {h₀ : ExceptHandler} {hds : List ExceptHandler} {l : List (Value × Option Nat × SuT)} {pos : Pos} {tb : WX → TS} {Wout : WX}
theorem ps_try_hds (hs : X.stack = X.env :: X.outer) (hf : X.env.frame = some X.env.locals) (tk : L2N.Takes X Wout)
    (hb : ∀ (W : WX) (pn : List (Addr × Obj)) (xe : Value → Shared → Prop), L2N.Takes (X.tr pn xe) W → PassesOwn (model X.prog X.w) X.A X.env xe → PSs (X.tr pn xe) body (tb W))
    (hh : Hds X (h₀ :: hds) l) : PS X (.Try body (h₀ :: hds) [] [] pos) (fun D σ H => tb (wHds X.K Wout D l) D σ H) := by
  refine ⟨fun pins s σ H D I h => ?_⟩
  have ok := I.ok
  refine wpAny_Try_except ?_
  have took : ∀ (xe : Value → Shared → Prop), (∀ u s', L2N.XE (X.tr (X.pn ++ pins) xe) (wHds X.K Wout D l) u s' →
      wpAny (model X.prog X.w) X.A (noteFrame u X.env) (fun _ s2 => wpAny (model X.prog X.w) X.A (setFlight u none) (fun _ s3 => wpAny (model X.prog X.w) X.A (handleBy u X.env (h₀ :: hds)) (SP X pins D) X.xe s3) X.xe s2) X.xe s') := fun xe u s' xx => ?_
  · refine wpAny_mono ((hb (wHds X.K Wout D l) (X.pn ++ pins) _ (took _) PassesOwn.looking).run [] s σ H D (I.toTry _) h) (fun f s1 hsp => ?_) (fun e s1 he => he)
    have q : SP X pins D f s1 := sp_try ok hsp
    cases f with
    | next => exact wpAny_execs_nil q
    | brk => exact q
    | cont => exact q
    | ret u => exact q
  · obtain ⟨a, B, sI, pins', σ', H', cls, d, rfl, J', nb, up, sky, na, os, ag, w⟩ := xx
    have sky' : Sky B (X.env :: X.outer) a (L2N.Zn cls d) X.env.locals s'.heap := by rw [← hs]; exact sky
    show wpAny (model X.prog X.w) X.A (noteFrame (.ref a) X.env) _ _ _
    refine L2N.Sky.land L2N.Zn.steady (by rw [ok.frames, hs]) hf sky' fun h3 fl3 up3 => ?_
    exact hh.go hs hf tk (s := { s' with heap := h3 }) ⟨J'.ofTry ok, nb, up.trans up3, os, ag, na, fl3⟩ w
end
end L2
/-! ### isinstance of a caught error that has its own dict -/
namespace PySem.W
open PySem PySem.Spec PySem.Calls PyProof.Rows
section
variable {prog : Program} {w : World} {A : Around} {E : Value → Shared → Prop} {s : Shared} {K : Frag} {x D : Addr} {ox : Obj} {od : Option Obj}
theorem findObj_dataD {C : Addr} {name : Str} {a g : Value} (hc : (clsIn K C).isSome = true) (ha : findIn K (.ref C) name = some (some a)) (hg : specialIn K a "__get__" = some (some g)) (ht : takesIn K a = some true) : findObj K C od name = some (.bind g a) := by
  obtain ⟨cd, hc⟩ := Option.isSome_iff_exists.mp hc
  unfold findObj
  rw [hc, Option.bind_some, ha, Option.bind_some]
  simp [hg, ht]
theorem kin_classD {Q : Option Value → Shared → Prop} (hga : findIn K (.ref D) "__getattribute__" = some (some (.builtin "BaseException.__getattribute__"))) (hgt : findIn K (.ref D) "__getattr__" = some none) (hsub : subIn K (.ref D) (.type "BaseException") = some true)
    (hdct : hasDictIn K D = true) (ha : findIn K (.ref D) "__class__" = some (some (.builtin "object.__class__")))
    (hn : specialIn K (.builtin "object.__class__") "__get__" = some (some (.builtin "getset_descriptor.__get__"))) (htk : takesIn K (.builtin "object.__class__") = some true) (hm : mroIn K D (.type "object") = some true)
    (X : K.In s.heap) (I : InstAt s.heap x ox D od) (h : Q (some (.ref D)) { s with toks := s.toks + 1 }) : wpAny (model prog w) A (getAttr? (.ref x) "__class__") Q E s := by
  have hf : findObj K D od "__class__" = some (.bind (.builtin "getset_descriptor.__get__") (.builtin "object.__class__")) := findObj_dataD (by obtain ⟨cd, hc, _⟩ := any_some hdct; rw [hc]; rfl) ha hn htk
  obtain ⟨hp, g, d, t, os⟩ := s
  have L0 := I.type (M := model prog w)
  have L1 := looks_findIn (M := model prog w) X hga
  have L2 := looks_findIn (M := model prog w) X hgt
  have L3 := looks_find (M := model prog w) X I hf
  have sub : Looks (model prog w) hp (isInstance (.ref x) (.type "BaseException")) true := L0.andThen (looks_subIn X hsub)
  have hx0 : (false && onTheHeap (Value.builtin "BaseException.__getattribute__")) = false := rfl
  have hx2 : (Value.builtin "BaseException.__getattribute__" == Value.builtin "object.__getattribute__") = false := by decide +kernel
  have hx1 : (onTheHeap (Value.ref D) && Value.builtin "BaseException.__getattribute__" == Value.builtin "object.__getattribute__") = false := by rw [hx2]; rfl
  unfold getAttr? getAttrBy? getAttrBy
  refine wpAny_bind (wpAny_mkText (wpAny_bind (wpAny_attempt (wpAny_holding (wpAny_bind (L0.at (wpAny_bind (L1.at ?_))))))))
  show wpAny _ _ (if (onTheHeap (Value.ref D) && Value.builtin "BaseException.__getattribute__" == Value.builtin "object.__getattribute__") = true then _ else _) _ _ _
  rw [hx1, if_neg Bool.false_ne_true]
  unfold getAttrByItsOwn hookBefore
  refine wpAny_bind ?_
  rw [if_pos (show onTheHeap (Value.ref D) = true from rfl)]
  refine L2.at ?_
  refine wpAny_bind (wpAny_attempt (wpAny_holding ?_))
  unfold callGetattribute
  rw [hx0, if_neg Bool.false_ne_true]
  unfold boundAndCalled
  rw [PySem.F.excAttr_ValueError.ga.bind (.ref x)]
  refine wpAny_bind (wpAny_pure ?_)
  show wpAny _ _ (call (.builtin "BaseException.__getattribute__") [.ref x, .str "__class__" t]) _ _ _
  refine wpAny_call (codeAny_call_builtin PySem.F.excAttr_ValueError.ga.plain PySem.F.entry_bexc_ga ?_)
  refine @check_slot (model prog w) _ _ ⟨hp, g, d, t + 1, os⟩ "BaseException.__getattribute__" "BaseException" "__getattribute__" (.ref x) [.str "__class__" t] [] _ (by decide +kernel) (by decide +kernel) sub (PySem.F.args_bexc_ga (.ref x) (.str "__class__" t)) ?_
  unfold Builtin.«object.__getattribute__»
  refine wpAny_bind (wpAny_of_eq (a := ((Value.ref x : Value), [Value.str "__class__" t])) (by first | rfl | (simp only [slotArgs]; rfl)) ?_)
  refine wpAny_bind (wpAny_pure (wpAny_bind (L0.at (wpAny_bind (L3.at ?_)))))
  show wpAny _ _ (holding [Value.builtin "object.__class__"] (call (.builtin "getset_descriptor.__get__") [.builtin "object.__class__", .ref x, .ref D]) >>= ret) _ _ _
  refine wpAny_bind (wpAny_holding (wpAny_call (class_get (s := ⟨hp, g, d, t + 1, os⟩) (ox := ox) (od := od) X I hm ?_)))
  refine wpAny_pure ?_
  show wpAny _ _ (handedOut (.ref D)) _ _ _
  rw [handedOut_of (v := .ref D) rfl]
  first
    | exact wpAny_pure (wpAny_pure h)
    | exact wpAny_pure h
    | exact wpAny_pure (wpAny_bind (wpAny_pure (wpAny_pure h)))
theorem kitx_excD (hga : findIn K (.ref D) "__getattribute__" = some (some (.builtin "BaseException.__getattribute__"))) (hgt : findIn K (.ref D) "__getattr__" = some none) (hsub : subIn K (.ref D) (.type "BaseException") = some true) (hdct : hasDictIn K D = true) (ha : findIn K (.ref D) "__class__" = some (some (.builtin "object.__class__")))
    (hn : specialIn K (.builtin "object.__class__") "__get__" = some (some (.builtin "getset_descriptor.__get__"))) (htk : takesIn K (.builtin "object.__class__") = some true) (hm : mroIn K D (.type "object") = some true) :
    KitX K (.ref x) (.ref D) (fun h => InstAt h x ox D od) where
  ty := fun _ _ _ I => I.type
  it := fun _ _ X _ => by
    obtain ⟨cdD, hcD, _⟩ := any_some hdct
    unfold clsIn at hcD
    split at hcD
    · rename_i c' d' cd' sl' ho
      intro A' Q' E' s' k q
      unfold isType loadHead
      exact wpAny_bind (wpAny_loadPart (k _ _ (X _ _ ho)) (wpAny_pure q))
    · cases hcD
  ne := fun h tp dd its n sl X htp => by
    obtain ⟨cdD, hcD, _⟩ := any_some hdct
    refine Bool.eq_false_iff.mpr fun q => ?_
    have e : D = tp := Value.ref.inj (beq_iff_eq.mp q)
    subst e
    unfold clsIn at hcD
    split at hcD
    · rename_i c' d' cd' sl' ho
      have z := (X _ _ ho).symm.trans htp
      cases z
    · cases hcD
  ca := fun X I k => kin_classD hga hgt hsub hdct ha hn htk hm X I k
end
end PySem.W
namespace L2
open PySem PySem.Spec PyProof.Rows
theorem inst_of {X : Cx} {a D dd : Addr} {oe : Obj} {pn pins : List (Addr × Obj)} {σ : St} {H : Hp} {s : Shared} {fs : List (Str × V)} (hz : Zc (.ref D) (some dd) oe) (hf : ∃ vs, oe.data = .fields vs) (I : Inv (X.suite a ((a, oe) :: pn)) pins σ H s) (ed : H dd = some (.xd fs)) :
    ∃ od, PySem.W.InstAt s.heap a oe D (some od) := by
  obtain ⟨hget, _⟩ := I.pin (a, oe) (List.mem_append.mpr (.inl List.mem_cons_self))
  obtain ⟨vs, hv⟩ := hf
  have hx : ObjOk X.prog X.w H s.heap dd (.xd fs) := I.hok dd _ ed
  obtain ⟨mA, hns, hr⟩ := hx
  obtain ⟨od, ho, hl⟩ := lookIn_ns hns
  refine ⟨od, ?_⟩
  obtain ⟨oc, oo, oda, osl⟩ := oe
  obtain ⟨h1, h2⟩ := hz
  dsimp only at h1 h2 hv
  subst h1 h2 hv
  exact ⟨hget, rfl, rfl, ho⟩
/-- isinstance(e, c), e the error that the suite holds: of the class at D, with a dict of its own -/
def rIsD (K : PySem.W.Frag) (a : Addr) (cls : Value) (d : Option Addr) : List V → Hp → VK → Prop := fun xs H Q => ∃ (D : Addr) (c : V) (cv : Value) (b : Bool) (dd : Addr) (fs : List (Str × V)), cls = .ref D ∧ ExcC K D ∧ xs = [.ref a, c] ∧ ClsV c cv ∧ PySem.W.kitOne K (.ref D) cv = some b ∧ d = some dd ∧ H dd = some (.xd fs) ∧ Q (.bl b) H
theorem call_isD {X : Cx} {a : Addr} {cls : Value} {d : Option Addr} {oe : Obj} {pn : List (Addr × Obj)} (hz : Zc cls d oe) (hf : ∃ vs, oe.data = .fields vs) : CallR (X.suite a ((a, oe) :: pn)) (.builtin "isinstance") (rIsD X.K a cls d) := by
  intro pins s σ H xs us Q I r h
  obtain ⟨D, c, cv, b, dd, fs, rfl, C, rfl, hcv, e, rfl, ed, q⟩ := h
  cases r with
  | cons rx rr =>
    cases rr with
    | cons rt rr =>
      cases rr
      cases rx
      have ec := hcv.eq rt
      subst ec
      obtain ⟨od, J⟩ := inst_of hz hf I ed
      exact PySem.W.kia_one (PySem.W.kitx_excD C.hg C.hk C.hs C.hd C.ha C.hn C.ht C.hm) I.kIn J e (fun z => nomatch z) fun tk => ⟨.bl b, H, I.kept (t' := tk) fun _ _ z => z, rfl, q⟩
/-- isinstance(e, (c, ..)), the tuple made before -/
def rIsDT (K : PySem.W.Frag) (a : Addr) (cls : Value) (d : Option Addr) : List V → Hp → VK → Prop := fun xs H Q => ∃ (D tp : Addr) (cs : List V) (us : List Value) (b : Bool) (dd : Addr) (fs : List (Str × V)), cls = .ref D ∧ ExcC K D ∧ xs = [.ref a, .ref tp] ∧ H tp = some (.tup cs) ∧ Paired ClsV cs us ∧ PySem.W.kitAny K (.ref D) us = some b ∧ d = some dd ∧ H dd = some (.xd fs) ∧ Q (.bl b) H
theorem call_isDT {X : Cx} {a : Addr} {cls : Value} {d : Option Addr} {oe : Obj} {pn : List (Addr × Obj)} (hz : Zc cls d oe) (hf : ∃ vs, oe.data = .fields vs) : CallR (X.suite a ((a, oe) :: pn)) (.builtin "isinstance") (rIsDT X.K a cls d) := by
  intro pins s σ H xs us Q I r h
  obtain ⟨D, tp, cs, ws, b, dd, fs, rfl, C, rfl, et, hcs, e, rfl, ed, q⟩ := h
  cases r with
  | cons rx rr =>
    cases rr with
    | cons rt rr =>
      cases rr
      cases rx
      cases rt
      obtain ⟨_, its, rv, o, h1, h2, h3⟩ := (show ObjOk X.prog X.w H s.heap tp (.tup cs) from I.hok tp _ et)
      have ei := ClsV.all hcs rv
      subst ei
      obtain ⟨od, J⟩ := inst_of hz hf I ed
      obtain ⟨oc, oo, oda, osl⟩ := o
      dsimp only at h2 h3
      subst h2
      obtain ⟨n, h3⟩ := h3
      subst h3
      exact PySem.W.kia_tup (PySem.W.kitx_excD C.hg C.hk C.hs C.hd C.ha C.hn C.ht C.hm) I.kIn J h1 e (fun z => nomatch z) fun tk => ⟨.bl b, H, I.kept (t' := tk) fun _ _ z => z, rfl, q⟩
end L2

namespace HotX
open PySem PySem.Spec PyProof.Rows
section
variable {prog : Program} {w : World} {A : Around} {E : Value → Shared → Prop} {s : Shared}
theorem pyNext_list_end_hot {it l x1 : Addr} {i : Nat} {items} {Q : Option Value → Shared → Prop} (hot : HotAt A x1 s.heap)
    (hit : s.heap.IsListIter it l i) (hl : s.heap.IsList l items) (hx : items[i]? = none)
    (hQ : ∀ h', Heap.ExtBut it s.heap h' → Q none { s with heap := h' }) : wpAny (model prog w) A (pyNext (.ref it)) Q E s := by
  obtain ⟨hh, o1, vs1, h1, d1, c1⟩ := hot
  obtain ⟨o, ho, hc, hd⟩ := id hit
  obtain ⟨ol, hol, _, nl, hdl⟩ := hl
  have ne : x1 ≠ it := fun z => by
    rw [z, ho] at h1
    have e := Option.some.inj h1
    rw [← e, hd] at d1
    have e2 := Data.fields.inj d1
    rw [← e2] at c1
    simp at c1
  unfold pyNext
  refine wpAny_bind (wpAny_attempt (wpAny_callSpecial?_slot (name := Str.ofString "__next__") hit.typeIs slot_listiter_next
    (wpAny_call_entry slot_listiter_next hit.typeIs entry_listiter_next ?_ (args_listiter_next _))))
  show wpAny _ _ (field (.ref it) 0 >>= _) _ _ s
  refine wpAny_bind (wpAny_field ho hd (x := .ref l) rfl ?_)
  show wpAny _ _ (if (Value.ref l == Value.none) = true then _ else _) _ _ s
  rw [if_neg (show ¬ ((Value.ref l == Value.none) = true) from Bool.false_ne_true)]
  show wpAny _ _ (field (.ref it) 1 >>= _) _ _ s
  refine wpAny_bind (wpAny_field ho hd (x := .int i 0) rfl ?_)
  show wpAny _ _ (seqItems? (.ref l) >>= _) _ _ s
  refine wpAny_bind (wpAny_seqItems hol hdl ?_)
  simp only [Int.toNat_natCast, hx]
  refine wpAny_bind (wpAny_rule (wpAny_bind (wpAny_setField ho hd (by simp) ?_)))
  show wpAny _ _ (newExc (.type "StopIteration") [] >>= _) _ _ _
  refine wpAny_bind ?_
  simp only [newExc, newTuple]
  refine wpAny_bind (wpAny_newObj_type ?_ (by size_fits))
  refine wpAny_bind (m := firstArgMember _ _) (wpAny_of_eq (a := Value.none) (by first | rfl | (simp only [firstArgMember]; rfl)) ?_)
  refine wpAny_newObj_type ?_ (by size_fits)
  have h1' : ∀ f, (s.heap.update it f).get? x1 = some o1 := fun f => by
    rw [Heap.get?_update_other _ _ (Ne.symm ne)]
    exact h1
  refine raiseNew_hot ⟨hh, o1, vs1, Heap.get?_push_of_some _ (Heap.get?_push_of_some _ (h1' _)), d1, c1⟩ (Nat.ne_of_lt (Heap.lt_size (Heap.get?_push_of_some _ (h1' _)))) (Heap.get?_push_size _ rfl) rfl (by first | (simp; done) | (simp; omega) | (simp only [Array.size_append]; simp; omega)) ?_
  refine wpAny_bind (wpAny_isInstance (T := "StopIteration") (b := true) ⟨_, Heap.get?_update_self _ (Heap.get?_push_size _ rfl) rfl, rfl⟩ isSubtype_stop ?_)
  refine wpAny_pure (hQ _ fun b ob hb e => ?_)
  have e2 : ∀ f, (s.heap.update it f).get? b = some ob := fun f => by
    rw [Heap.get?_update_other _ _ (Ne.symm hb)]
    exact e
  rw [Heap.get?_update_other _ _ (Nat.ne_of_gt (Heap.lt_size (Heap.get?_push_of_some _ (e2 _))))]
  exact Heap.get?_push_of_some _ (Heap.get?_push_of_some _ (e2 _))
/-- a list's iterator, walked where an error is handled -/
theorem walks_listH (I ax x1 : Addr) (hne : ax ≠ I) (hn1 : x1 ≠ I) (hh : A.handled = some (.ref x1)) (items : Array Value) :
    Walks prog w A I [I, ax, x1] [I] items.size (fun i v => items[i]? = some v) (fun i h => h.IsListIter I ax i ∧ h.IsList ax items ∧ ∃ o1 vs1, h.get? x1 = some o1 ∧ o1.data = .fields vs1 ∧ vs1[2]? = some .none) where
  sub := fun b hb => by simp at hb; simp [hb]
  frame := fun _ _ _ st hk => ⟨st.1.at fun o e => hk I (by simp) o e, st.2.1.at fun o e => hk ax (by simp) o e, by
    obtain ⟨o1, vs1, a, b, c⟩ := st.2.2
    exact ⟨o1, vs1, hk x1 (by simp) _ a, b, c⟩⟩
  item := fun i s Q E hi st hQ => by
    refine wpAny_pyNext_list_item st.1 st.2.1 (x := items[i]) (by simp [hi]) fun h' hit' hs' => ?_
    obtain ⟨o1, vs1, a, b, c⟩ := st.2.2
    exact hQ _ h' s.toks (by simp [hi]) ⟨hit', st.2.1.extBut hs'.extBut hne, o1, vs1, hs'.extBut x1 _ hn1 a, b, c⟩ fun b o hb e => hs'.extBut b o (fun h => hb (by simp [h])) e
  done := fun s Q E st hQ => by
    obtain ⟨o1, vs1, a, b, c⟩ := st.2.2
    exact pyNext_list_end_hot ⟨hh, o1, vs1, a, b, c⟩ st.1 st.2.1 (by simp) fun h' he' => hQ h' s.toks fun b o hb e => he' b o (fun h => hb (by simp [h])) e
  self := fun _ _ _ _ st hQ => wpAny_pyIter_listiter st.1 hQ
end
end HotX
namespace L2
open PySem PySem.Spec PyProof.Rows
/-! ### all(xs) of a list of bools, where an error is handled -/
theorem cr_allH {X : Cx} (hc : L2H.HotC X) : CallR X (.builtin "all") (rAll X.K) := by
  intro pins s σ H vs us Q I r h
  obtain ⟨a, bs, rfl, hs, q⟩ := h
  obtain ⟨its, rv, hl, _⟩ := I.list hs
  rw [Vals.ref1 r]
  have hb := rv.bls
  obtain ⟨x1, hh, o1, vs1, g1, d1, c1⟩ := hc.at I
  have hn1 : x1 ≠ s.heap.objs.size := Nat.ne_of_lt (Heap.lt_size g1)
  refine call_all_walk (iter_any hl.isList fun s₂ e2 st hne => ?_)
  subst e2
  refine ⟨_, _, _, _, _, _, _, rfl, HotX.walks_listH (A := X.A.in1) _ a x1 hne hn1 hh its.toArray, ⟨st.1, st.2, o1, vs1, Heap.get?_push_of_some _ g1, d1, c1⟩, truth_bools hb, fun h' tk hk => ?_⟩
  refine ⟨.bl _, H, I.kept fun b o eo => hk b o (fun hmem => ?_) (Heap.get?_push_of_some _ eo), ?_, q⟩
  · rcases List.mem_cons.mp hmem with e1 | hmem
    · exact absurd (e1 ▸ Heap.lt_size eo) (Nat.lt_irrefl _)
    · cases hmem
  · show Value.bool _ = Value.bool _
    rw [← all_range, hb, List.size_toArray, List.length_map]
/-! ### a list comprehension where an error is handled: its block keeps the pins, among them the handled error -/
abbrev Cx.blkH (X : Cx) (s : Shared) (H : Hp) (scope : Scope) (ce : Env) (fp : List Addr) : Cx := (X.blk s H scope ce fp).tr X.pn fun _ _ => False
section
variable {X : Cx} {pins : List (Addr × Obj)} {σ : St} {H : Hp} {s : Shared}
theorem blk_pins {scope : Scope} {ce : Env} {fp : List Addr} {t : St} {s4 : Shared} (I : Inv X pins σ H s) (Ib : Inv (X.blk s H scope ce fp) [] t H s4) (kp : ∀ b o, s.heap.get? b = some o → s4.heap.get? b = some o) (hL : ce.locals = s.heap.objs.size) :
    Inv (X.blkH s H scope ce fp) [] t H s4 := by
  refine ⟨Ib.ok.toTry _ _, Ib.os, Ib.bare, Ib.base, Ib.loc, Ib.cell, Ib.free, Ib.freeC, fun p hp => ?_, Ib.hok, Ib.len⟩
  have hp1 : p ∈ X.pn ++ pins := List.mem_append_left _ (by simpa using hp)
  obtain ⟨g, n, ne, nf, dd⟩ := I.pin p hp1
  exact ⟨kp _ _ g, n, by rw [show (X.blkH s H scope ce fp).env.locals = ce.locals from rfl, hL]; exact Nat.ne_of_lt (Heap.lt_size g), fun hm => (List.mem_cons.mp (I.stkSub p.1 hm)).elim ne nf, dd⟩
end
/-- the loop ahead of some turn -/
def LcSt (Y : Cx) (t : St) (fp : List Addr) (tn : Nat → Heap → Prop) (W : Nat → Nat → Hp → Prop) (n : Nat) (s : Shared) : Prop := ∃ i H, Inv Y [] t H s ∧ tn i s.heap ∧ (∀ b ∈ fp, H b = none) ∧ W i n H
/-- one turn of the block in the context Y, that bears the handled error -/
theorem lc_turnH {Y : Cx} {σ : St} {vs fp : List Nat} {tn : Nat → Heap → Prop} {J : It} {it D : Addr} {W : Nat → Nat → Hp → Prop} {Q : VK} {elt tg : Expr} {ifs : List Expr} {g : TG} {tt : TT} {te : TE} {R : Result → Shared → Prop} {E : Value → Shared → Prop}
    (hot : L2H.HotC Y) (pg : PG Y tg g) (pt : PTs Y ifs tt) (pe : PE Y elt te) (hE : Y.xe = fun _ _ => False) (T : L2H.TurnH Y.prog Y.w Y.K tg J fp it tn)
    (stat : ∀ {t : St} {H : Hp} {s : Shared}, Inv Y [] t H s → (∀ b ∈ fp, H b = none) → ∀ b ∈ fp, FpOk Y [] H b)
    (turn : ∀ i m H, W i m H → (J.stop i H ∧ Q (.ref D) H) ∨ (J.go i H ∧ ∃ Nx : Hp → Prop, (∀ H', Nx H' → ∃ m', m' < m ∧ W (i + 1) m' H') ∧ ∀ x H', J.yld i H x H' → g x (wipe σ vs) H' fun σ2 H2 => wipe σ2 vs = wipe σ vs ∧ tt σ2 H2 fun b H3 =>
      if b = true then te σ2 H3 fun y H4 => ∃ acc, H4 D = some (.lst acc) ∧ acc.length < sizeLine ∧ Nx (upd H4 D (.lst (acc ++ [y]))) else Nx H3))
    (out : ∀ H s, Inv Y [] (wipe σ vs) H s → Q (.ref D) H → R (.ok .next) s) (n : Nat) (s : Shared) (hI : LcSt Y (wipe σ vs) fp tn W n s) :
    wpAny (model Y.prog Y.w) Y.A (pyNext (.ref it)) (fun r s₁ => match r with
      | none => R (.ok .next) s₁
      | some v => wpAny (model Y.prog Y.w) Y.A (letOwnedTupleGo tg (.ref it) v) (fun _ s₁' => wpAny (model Y.prog Y.w) Y.A (assign tg Y.env v) (fun _ s₂ =>
          wpAny (model Y.prog Y.w) Y.A (forIn ifs true fun c r => if r = true then do let ok ← isTrue c Y.env (eval c Y.env); pure (ForInStep.yield ok) else pure (ForInStep.yield r)) (fun ok s₃ =>
            if ok = true then wpAny (model Y.prog Y.w) Y.A (eval elt Y.env) (fun x s₄ =>
              wpAny (model Y.prog Y.w) Y.A (call (.builtin "list.append") [.ref D, x]) (fun _ s₅ => ∃ m, m < n ∧ LcSt Y (wipe σ vs) fp tn W m s₅) E s₄) E s₃
            else ∃ m, m < n ∧ LcSt Y (wipe σ vs) fp tn W m s₃) E s₂) E s₁') E s₁) E s := by
  obtain ⟨i, H5, I5, st5, n5, w5⟩ := hI
  have no : ∀ {α : Type} {t : Sem α} {P P' : α → Shared → Prop} {s : Shared}, wpAny (model Y.prog Y.w) Y.A t P Y.xe s → (∀ a s, P a s → P' a s) → wpAny (model Y.prog Y.w) Y.A t P' E s := fun h k => wpAny_mono h k fun _ _ z => by
    rw [hE] at z
    exact z.elim
  rcases turn i n H5 w5 with ⟨stop, qq⟩ | ⟨go, Nx, hNx, step⟩
  · refine no (T.done Y rfl rfl rfl hot i [] s _ H5 Y.xe I5 (stat I5 n5) st5 stop) fun r s6 ⟨hr, I6⟩ => ?_
    subst hr
    exact out H5 s6 I6 qq
  refine no (T.item Y rfl rfl rfl hot i [] s _ H5 Y.xe I5 (stat I5 n5) st5 go) fun r s6 ⟨u, hr, h6⟩ => ?_
  subst hr
  refine no h6 fun _ s7 ⟨x, H7, I7, r7, y7, st7, n7⟩ => ?_
  have P7 := I7.pinned (stat I7 n7) (T.obj _ _ st7)
  -- behind the turn: the iterator's objects stand as they stood, the block's own names are forgotten
  have fin : ∀ {t8 : St} {s' : Shared} {H' : Hp}, wipe t8 vs = wipe σ vs → Inv Y ([] ++ pinsAt fp s7.heap) t8 H' s' → Nx H' → ∃ m, m < n ∧ LcSt Y (wipe σ vs) fp tn W m s' := fun {t8 s' H'} hw J8 nx => by
    obtain ⟨m', hm, w'⟩ := hNx H' nx
    have at_ : ∀ b ∈ fp, ∀ o, s7.heap.get? b = some o → s'.heap.get? b = some o ∧ H' b = none := fun b hb o e => by
      have z := J8.pin (b, o) (List.mem_append_right _ (List.mem_append_right _ (mem_pinsAt hb e)))
      exact ⟨z.1, z.2.1⟩
    have len : (wipe σ vs).length = t8.length := by rw [← hw, wipe_length]
    refine ⟨m', hm, i + 1, H', (J8.unpinned (pins := [])).weak len (fun j v e => ?_), T.keep _ _ _ st7 fun b hb o e => (at_ b hb o e).1, fun b hb => ?_, w'⟩
    · rw [← hw] at e
      exact (wipe_some e).1
    · obtain ⟨o, e, _⟩ := T.obj _ _ st7 b hb
      exact (at_ b hb o e).2
  refine no (pg.run _ s7 _ H7 x u _ P7 r7 (step x H7 y7)) fun _ s8 ⟨t8, H8, I8, hw, q8⟩ => ?_
  refine no (pt.run _ s8 t8 H8 _ I8 q8) fun b s9 ⟨H9, I9, q9⟩ => ?_
  cases b with
  | false => exact fin hw I9 q9
  | true =>
    refine no (pe.run _ s9 t8 H9 _ I9 q9) fun z s10 ⟨yv, H10, I10, r10, acc, hD, hz, nx⟩ => ?_
    exact app_ok (X := Y) I10 hD hz r10 fun s11 I11 => fin hw I11 nx
section
variable {X : Cx}
theorem pe_lcH {elt tg iter : Expr} {ifs : List Expr} {scope : Scope} {own : List (Str × Nat)} {pos : Pos} {wi : TI} {g : TG} {tt : TT} {te : TE} (hc : L2H.HotC X) (hN : X.N.Nodup) (hi : L2H.PIH X tg iter wi) (ok : BlkOk X.N X.env.scope scope own)
    (hg : ∀ (s : Shared) (H : Hp) (C : Addr) (cl : List (Str × Addr)) (fp : List Addr), PG (X.blkH s H scope (compEnvC scope cl C X.env) fp) tg g) (ht : ∀ (s : Shared) (H : Hp) (C : Addr) (cl : List (Str × Addr)) (fp : List Addr), PTs (X.blkH s H scope (compEnvC scope cl C X.env) fp) ifs tt)
    (he : ∀ (s : Shared) (H : Hp) (C : Addr) (cl : List (Str × Addr)) (fp : List Addr), PE (X.blkH s H scope (compEnvC scope cl C X.env) fp) elt te) (hs : ∀ x, foldedSetIterable iter X.env x = pure x := by intro _; rfl) :
    PE X (.ListComp elt [⟨tg, iter, ifs, 0⟩] scope pos) (tLc wi g tt te (own.map (·.2))) := by
  refine ⟨fun pins s σ H Q I h => ?_⟩
  rw [eval_ListComp]
  have hfree : ∀ y ∈ scope.names, y.2 = .free → ∃ c, X.env.cells.lookup y.1 = some c := fun y hy e => (ok.free y hy e).elim (fun k => I.ok.has _ (.inl k)) fun k => I.ok.has _ (.inr k)
  refine wpAny_comprehension_free rfl hs (closure_ok hfree) ok.kind (fun y hy e => by rw [ok.uniq y hy, e]) (thn (hi.run pins s σ H _ I h) fun xv s1 hx => thn hx fun itv s2 h2 => ?_)
  obtain ⟨it, fp, tn, J, H2, e, I2, T, st2, f2, q⟩ := h2
  subst e
  refine wpAny_newObj_type (newEnv_comp ?_) (by show 0 ≤ sizeLine; decide)
  -- the new list at D, the state s3 with it
  obtain ⟨D, hD⟩ : ∃ D, s2.heap.objs.size = D := ⟨_, rfl⟩
  obtain ⟨W, ⟨m0, w0⟩, turn⟩ := q D (I2.hok.fresh (Nat.le_of_eq hD))
  have I3 : Inv X pins σ (upd H2 D (.lst [])) { s2 with heap := s2.heap.push { cls := .type "list", data := .seq ([] : List Value).toArray } } :=
    I2.laid (t' := s2.toks) (fun b o e => Heap.get?_push_of_some _ e) (Nat.le_of_eq hD) ⟨Nat.zero_le _, [], 0, .nil, by rw [← hD]; exact Heap.get?_push_size _ rfl⟩
  obtain ⟨s3, hs3⟩ : ∃ s3 : Shared, ({ s2 with heap := s2.heap.push { cls := .type "list", data := .seq ([] : List Value).toArray } } : Shared) = s3 := ⟨_, rfl⟩
  have k3 : ∀ b o, s2.heap.get? b = some o → s3.heap.get? b = some o := fun b o e => by
    rw [← hs3]
    exact Heap.get?_push_of_some _ e
  have z3 : s3.heap.objs.size = s2.heap.objs.size + 1 := by
    rw [← hs3]
    exact Heap.size_push ..
  rw [hD, hs3]
  rw [hs3] at I3
  have lt : ∀ b ∈ fp, b < s2.heap.objs.size := fun b hb => by
    obtain ⟨o, e, _⟩ := T.obj _ _ st2 b hb
    exact Heap.lt_size e
  have f3 : ∀ b ∈ fp, FpOk X pins (upd H2 D (.lst [])) b ∧ b < s3.heap.objs.size := fun b hb => by
    refine ⟨⟨?_, (f2 b hb).2⟩, by rw [z3]; exact Nat.lt_succ_of_lt (lt b hb)⟩
    rw [upd_ne (by rw [← hD]; exact Nat.ne_of_lt (lt b hb))]
    exact (f2 b hb).1
  obtain ⟨H3, hH3⟩ : ∃ H3, upd H2 D (.lst []) = H3 := ⟨_, rfl⟩
  rw [hH3] at I3 w0 f3
  -- the block
  have kb : ∀ b o, s3.heap.get? b = some o → (pushCells (s3.heap.push { cls := .type "dict", data := .dict #[] }) scope.names).get? b = some o := fun b o e => pushCells_keeps _ _ _ _ (Heap.get?_push_of_some _ e)
  have I4 := blk_pins I3 (block_start I3 ok hN f3) kb rfl
  have pg := hg s3 H3 s3.heap.objs.size (cellsFrom (s3.heap.objs.size + 1) scope.names (cloFrom X.env.cells scope.names [])) fp
  have pt := ht s3 H3 s3.heap.objs.size (cellsFrom (s3.heap.objs.size + 1) scope.names (cloFrom X.env.cells scope.names [])) fp
  have pe := he s3 H3 s3.heap.objs.size (cellsFrom (s3.heap.objs.size + 1) scope.names (cloFrom X.env.cells scope.names [])) fp
  obtain ⟨ce, hce⟩ : ∃ ce, compEnvC scope (cellsFrom (s3.heap.objs.size + 1) scope.names (cloFrom X.env.cells scope.names [])) s3.heap.objs.size X.env = ce := ⟨_, rfl⟩
  have cL : ce.locals = s3.heap.objs.size := by
    rw [← hce]
    rfl
  show codeAny _ _ (.compStart (.ListComp elt [⟨tg, iter, ifs, 0⟩] scope pos) 0 (.ref it) (.ref D) (compEnvC scope (cellsFrom (s3.heap.objs.size + 1) scope.names (cloFrom X.env.cells scope.names [])) s3.heap.objs.size X.env)) _ _
  rw [hce] at I4 pg pt pe ⊢
  have hot : L2H.HotC (X.blkH s3 H3 scope ce fp) := by
    obtain ⟨p, a, b⟩ := hc
    exact ⟨p, a, b⟩
  have stat : ∀ {t : St} {H' : Hp} {s' : Shared}, Inv (X.blkH s3 H3 scope ce fp) [] t H' s' → (∀ b ∈ fp, H' b = none) → ∀ b ∈ fp, FpOk (X.blkH s3 H3 scope ce fp) [] H' b := fun {t H' s'} I' hn b hb =>
    ⟨hn b hb, (I'.ok.exf b hb).1, I'.ok.exfs b hb, .inl hb, fun x c e => (I'.ok.exf b hb).2 x c e, fun p hp => (f3 b hb).1.2.2.2.2.2 p (List.mem_append_left _ (by simpa using hp))⟩
  have loop := compLoop_any (prog := X.prog) (w := X.w) (A := X.A) (R := compPost (model X.prog X.w) X.A X.xe none (EP X pins σ Q) (.ref D) s3.heap.objs.size) (elt := elt) (target := tg) (iter := iter) (ifs := ifs) (scope := scope) (pos := pos) (it := .ref it) (acc := .ref D) (env := ce)
    (LcSt (X.blkH s3 H3 scope ce fp) (wipe σ (own.map (·.2))) fp tn W) (fun n s hI => lc_turnH (Y := X.blkH s3 H3 scope ce fp) (Q := Q) hot pg pt pe rfl T stat turn (fun H5 s6 I6 qq => ?_) n s hI) m0
    ⟨0, H3, I4, T.keep _ _ _ st2 fun b _ o e => kb b o (k3 b o e), fun b hb => (f3 b hb).1.1, w0⟩
  · exact codeAny_compStart_list loop (T.self X.A 0 _ _ _ (T.keep _ _ _ st2 fun b _ o e => kb b o (k3 b o e)) loop)
  · -- the block is left: the def's own context again
    have I7 : Inv X pins σ H5 s6 := I3.call' (ch := fp) I6.os I6.base I6.hok I6.bare fun b hb => ⟨(f3 b hb).1.2.2.2.1, (f3 b hb).1.2.1, (f3 b hb).1.2.2.2.2.1, (f3 b hb).1.2.2.2.2.2⟩
    have nC : H5 s3.heap.objs.size = none := by
      have z : H5 ce.locals = none := I6.free
      rwa [cL] at z
    obtain ⟨m, hn, _⟩ := I6.loc
    have hn : s6.heap.Ns ce.locals m := hn
    rw [cL] at hn
    obtain ⟨a0, a1, a2, a3, a4, a5⟩ := I3.fpOk (Nat.le_refl _) nC
    exact ⟨m, hn, fun h'' sb => ⟨.ref D, H5, I7.turned (t' := s6.toks) (fun b o hb e => (sb.2 b hb).trans e) a0 a1 a3 a4 a5, rfl, qq⟩⟩
/-- the context of the suite bears the handled error -/
theorem hot_suite {a : Addr} {oe : Obj} {cls : Value} {d : Option Addr} {pn : List (Addr × Obj)} (hz : L2N.Zn cls d oe) (hf : ∃ vs, oe.data = .fields vs) : L2H.HotC (X.suite a ((a, oe) :: pn)) := by
  obtain ⟨vs, hv⟩ := hf
  exact ⟨(a, oe), ⟨rfl, vs, hv, hz.2.2 vs hv⟩, List.mem_cons_self⟩
end
end L2

/-! words that every law of this set wants: heaps but for one place, the stream of draws, data of a small depth -/
namespace My
open PySem PySem.Spec PyProof.Rows L2
theorem ix_seqK {X : Cx} {K : PySem.W.Frag} (h : X.K = K) : IxR X (rIx K) := by
  rw [← h]
  exact ix_seq
theorem ix_listK {X : Cx} {K : PySem.W.Frag} (h : X.K = K) : IxR X (rIxL K) := by
  rw [← h]
  exact ix_list
theorem ifT {c : Bool} {A B : Prop} (hc : c = true) (h : A) : if c = true then A else B := by rw [if_pos hc]; exact h
theorem ifF {c : Bool} {A B : Prop} (hc : c = false) (h : B) : if c = true then A else B := by rw [hc]; exact iteF h
def But (a : Addr) (H H' : Hp) : Prop := ∀ b o, H b = some o → b ≠ a → H' b = some o
theorem But.refl {a : Addr} {H : Hp} : But a H H := fun _ _ h _ => h
theorem But.trans {a : Addr} {H H1 H2 : Hp} (x : But a H H1) (y : But a H1 H2) : But a H H2 := fun b o h n => y b o (x b o h n) n
theorem But.upd {a : Addr} {H H1 : Hp} {o : HO} (x : But a H H1) : But a H (upd H1 a o) := fun b u h n => by
  rw [upd_ne n]
  exact x b u h n
theorem But.same {a : Addr} {H H1 : Hp} (x : Same H H1) : But a H H1 := fun b u h _ => x b u h
theorem same_new {H : Hp} {p : Addr} (h : H p = none) (o : HO) : Same H (upd H p o) := fun b u q => by rw [upd_ne (ne_of_none q h)]; exact q
/-- the stream's six cells: the script's list, how many cells are taken, the number at hand, how many draws it still gives, the mixed number, its kind -/
abbrev fl (l : Addr) (i x c m o : Int) : List V := [.ref l, .int i, .int x, .int c, .int m, .int o]
def FlowAt (H : Hp) (a : Addr) : Prop := ∃ (l : Addr) (ns : List Int) (i x c m o : Int), H a = some (.lst (fl l i x c m o)) ∧ H l = some (.lst (ns.map V.int)) ∧ (0 ≤ i ∧ i ≤ (ns.length : Int)) ∧ ns.length ≤ 63
theorem fl_ne {H : Hp} {a l : Addr} {i x c m o : Int} {ns : List Int} (h : H a = some (.lst (fl l i x c m o))) (h2 : H l = some (.lst (ns.map V.int))) : l ≠ a := fun e => by
  rw [e, h] at h2
  have q := HO.lst.inj (Option.some.inj h2)
  cases ns with
  | nil => cases q
  | cons n r =>
    have z : V.ref l = V.int n := (List.cons.inj q).1
    cases z
theorem FlowAt.keep {H H' : Hp} {a : Addr} (h : FlowAt H a) (k : Same H H') : FlowAt H' a := by
  obtain ⟨l, ns, i, x, c, m, o, h1, h2, h3, h4⟩ := h
  exact ⟨l, ns, i, x, c, m, o, k _ _ h1, k _ _ h2, h3, h4⟩
section
variable {X : Cx} {a b e o i : Expr} {ta tb te to ti : TE} {pos p' : Pos}
theorem pix (ha : PE X a ta) (hb : PE X b tb) (hs : PlainIx b := by intro _ _; rfl) : PE X (.Subscript a b pos) (tOp (rIxL X.K) ta tb) := pe_ix ix_list ha hb hs
end
theorem both {c A : Prop} [Decidable c] {P : Hp → Prop} {H : Hp} {a : Addr} (h0 : FlowAt H a) (h1 : (∀ H1, FlowAt H1 a → But a H H1 → P H1) → A) (main : ∀ H1, FlowAt H1 a → But a H H1 → P H1) : if c then A else P H := by
  by_cases h : c
  · rw [if_pos h]
    exact h1 main
  · rw [if_neg h]
    exact main H h0 But.refl
def spLoad : Sp := fun vs H Q _ => ∃ a, vs = [.ref a] ∧ FlowAt H a ∧ ∀ H', FlowAt H' a → But a H H' → Q .non H'
def mx (n : Int) : Int := if n > 1 then n else 1
def spDraw : Sp := fun vs H Q _ => ∃ (a : Addr) (n : Int), vs = [.ref a, .int n] ∧ FlowAt H a ∧ n.natAbs < 2 ^ 400 ∧ ∀ H' (r : Int), FlowAt H' a → But a H H' → 0 ≤ r → r < mx n → Q (.int r) H'
theorem mx_pos (n : Int) : 0 < mx n := by
  unfold mx
  split <;> omega
theorem mx_big {n : Int} (h : n.natAbs < 2 ^ 400) : (mx n).natAbs < 2 ^ 400 := by
  unfold mx
  split
  · exact h
  · exact (show (1 : Nat) < 2 ^ 400 from Nat.lt_of_lt_of_le (show 1 < 2 ^ 1 from by decide) (Nat.pow_le_pow_right (show 2 > 0 from by decide) (show 1 ≤ 400 from by decide)))
def spFlow (K : PySem.W.Frag) : Sp := fun vs H Q _ => ∃ (a : Addr) (ns : List Int), vs = [.ref a] ∧ SqL K H a (ns.map V.int) ∧ ns.length ≤ 63 ∧ ∀ H' p, H p = none → FlowAt H' p → Same H H' → Q (.ref p) H'
def spPick (K : PySem.W.Frag) : Sp := fun vs H Q _ => ∃ (a t : Addr) (xs : List V), vs = [.ref a, .ref t] ∧ FlowAt H a ∧ SqL K H t xs ∧ (∀ H', But a H H' → SqL K H' t xs) ∧ 0 < xs.length ∧ xs.length < 100000 ∧ ∀ H' x, FlowAt H' a → But a H H' → x ∈ xs → Q x H'
/-- a def's body where an error is handled -/
theorem FunD.okH {P : Program} {w : World} {K : PySem.W.Frag} {mg : Str → Option Value} {base : Heap} {x qual : Str} {params : Arguments} {body : List Stmt} {scope : Scope} {dvs : List V} {kws : List (Str × V)} {f : Addr} {fd : FuncData} {CX : CXT} {N ps : List Str} {k : Nat} {sp : Sp}
    (F : FunD K x qual params body scope dvs kws f fd) (S : FnScope N ps scope) (len : ∀ vs H Q E, sp vs H Q E → vs.length = ps.length)
    (hbody : ∀ (cdv : Value) (A : Around) (outer : List Env) (s : Shared) (H : Hp) (vs : List V) (Q : VK) (E : XK) (p : Addr × Obj), L2H.Hot1 A p → L2H.RoomH k (A.deeper (envOfC qual scope s.heap.objs.size f cdv)) → sp vs H Q E →
      ∃ t, PSs (L2H.cxH CX P w K mg base N qual scope f cdv A outer s H E p) body t ∧ t { nx := fun _ H' => Q .non H', rt := Q } (L2.start N vs) H) : L2H.FnH P w K mg base CX (k + 1) f fd ps sp := by
  obtain ⟨oc, od, dV, kV, doc, pm, an, cdv, ct, osl, rfl, lk, hcd, _, _⟩ := F.ex
  exact L2H.fn_ofH lk hcd S len fun A outer s H vs Q E p hot hr hsp => hbody cdv A outer s H vs Q E p hot hr hsp
end My

namespace My
open PySem PySem.Spec PyProof.Rows L2
def top (i : Nat) : Stmt := PySem.Challenge.pw_stillmay_k00_errors.main.body.getD i (.Pass ⟨0, 0, 0, 0⟩)
abbrev sFlow : Stmt := top 10
abbrev sLoad : Stmt := top 11
abbrev sDraw : Stmt := top 12
abbrev sPick : Stmt := top 13
abbrev FnP (K : PySem.W.Frag) (x : Str) (st : Stmt) (f : Addr) (fd : FuncData) : Prop := FunD K x x (defArgs st) (defBody st) (defScope st) [] [] f fd
/-- built-in names that the module leaves as they are -/
structure Bi (mg : Str → Option Value) : Prop where
  int : mg "int" = none
  len : mg "len" = none
  list : mg "list" = none
  abs : mg "abs" = none
  max : mg "max" = none
  range : mg "range" = none
section
variable {P : Program} {w : World} {K : PySem.W.Frag} {mg : Str → Option Value} {base : Heap} {f fL fD : Addr} {fd fdL fdD : FuncData}
theorem scFlow : FnScope ["script", "mixed", "cell"] ["script"] (defScope sFlow) := ⟨rfl, rfl, rfl, by decide +kernel, rfl, by decide +kernel, by decide +kernel⟩
theorem scLoad : FnScope ["flow", "cell"] ["flow"] (defScope sLoad) := ⟨rfl, rfl, rfl, by decide +kernel, rfl, by decide +kernel, by decide +kernel⟩
theorem scDraw : FnScope ["flow", "many", "drawn"] ["flow", "many"] (defScope sDraw) := ⟨rfl, rfl, rfl, by decide +kernel, rfl, by decide +kernel, by decide +kernel⟩
theorem scPick : FnScope ["flow", "things"] ["flow", "things"] (defScope sPick) := ⟨rfl, rfl, rfl, by decide +kernel, rfl, by decide +kernel, by decide +kernel⟩
theorem ok_flow (F : FnP K "_law_flow" sFlow f fd) (B : Bi mg) : FnOk P w K mg base CX0 1 f fd ["script"] (spFlow K) := by
  refine F.ok scFlow (fun vs H Q E h => ?_) (fun cdv A outer s H vs Q E hr h => ?_)
  · obtain ⟨a, ns, rfl, _⟩ := h
    rfl
  obtain ⟨a, ns, rfl, hS, hl, q⟩ := h
  refine ⟨_, PSs.nox (pss_cons (ps_set (i := 1) scFlow.nd rfl (Or.inl rfl) pe_int)
    (pss_cons (ps_for PassesOwn.never rfl (pi_list (pv 0)) (pg_name (i := 2) scFlow.nd rfl (Or.inl rfl)) (pss_one (ps_set (i := 1) scFlow.nd rfl (Or.inl rfl) (pe_op op_mod (pe_callTy call_int1 (by rfl) B.int (by decide +kernel) (pa_cons (pe_op op_add (pe_op op_mul (pv 1) pe_int) (pe_callTy call_int1 (by rfl) B.int (by decide +kernel) (pa_cons (pv 2) pa_nil))) pa_nil)) pe_int))))
    (pss_one (ps_ret (pe_lst (pa_cons (pe_callTy call_list_of (by rfl) B.list (by decide +kernel) (pa_cons (pv 0) pa_nil)) (pa_cons pe_int (pa_cons pe_int (pa_cons pe_int (pa_cons (pv 1) (pa_cons pe_int pa_nil))))))))))), ?_⟩
  refine ⟨_, rfl, a, rfl, ⟨_, hS⟩, for_list (K := K) (a := a) (xs := ns.map V.int) (fun i σ H' => ∃ (m : Int) (v : Option V), σ = [some (.ref a), some (.int m), v] ∧ H' = H)
    ⟨1, none, rfl, rfl⟩ (fun i σ H' _ ⟨_, _, _, e⟩ => by rw [e]; exact hS) ?_ ?_⟩
  · rintro i y σ H' hi ⟨m, v, rfl, rfl⟩
    obtain ⟨z, hz, rfl⟩ : ∃ z, ns[i]? = some z ∧ y = V.int z := by
      rw [List.getElem?_map] at hi
      cases e : ns[i]? with
      | none => rw [e] at hi; cases hi
      | some z => rw [e] at hi; exact ⟨z, rfl, (Option.some.inj hi).symm⟩
    refine ⟨_, rfl, _, _, rfl, rfl, .inr ⟨by decide, by decide⟩, _, rfl, .inl ⟨_, rfl, _, _, rfl, rfl, .inl ⟨_, rfl, _, _, rfl, rfl, (show (0 : Int) < 2147483647 from by decide), ?_⟩⟩⟩
    exact ⟨_, some (.int z), rfl, rfl⟩
  · rintro σ H' ⟨m, v, rfl, rfl⟩
    refine ⟨_, rfl, a, _, rfl, .inl hS, fun l hl2 => ⟨_, rfl, (by show 6 ≤ sizeLine; decide), fun p hp => ?_⟩⟩
    have hpl : l ≠ p := ne_of_none upd_same hp
    have hp0 : H' p = none := by rwa [upd_ne (Ne.symm hpl)] at hp
    refine q _ p hp0 ⟨l, ns, 0, 0, 0, m, 0, upd_same, by rw [upd_ne hpl]; exact upd_same, by omega, hl⟩ (Same.trans (same_new hl2 _) (same_new hp _))
/-- the cells of the stream, one set -/
theorem ok_load (F : FnP K "_law_load" sLoad f fd) (B : Bi mg) : FnOk P w K mg base CX0 1 f fd ["flow"] spLoad := by
  refine F.ok scLoad (fun vs H Q E h => ?_) (fun cdv A outer s H vs Q E hr h => ?_)
  · obtain ⟨a, rfl, _⟩ := h
    rfl
  obtain ⟨a, rfl, ⟨l, ns, i, x, c, m, o, ha, hl, hi, h63⟩, q⟩ := h
  have nla := fl_ne ha hl
  refine ⟨_, PSs.nox (pss_cons (ps_if (pt_cmpR op_ge (pe_ix ix_list (pv 0) pe_int (fun _ _ => rfl)) (pe_callB call_len_seq (by rfl) B.len (by decide +kernel) (pa_cons (pe_ix ix_list (pv 0) pe_int (fun _ _ => rfl)) pa_nil)) (nomark _)) (pss_cons (ps_asg pe_int (pg_sub (pv 0) pe_int set_list))
    (pss_cons (ps_asg pe_int (pg_sub (pv 0) pe_int set_list))
    (pss_cons (ps_asg pe_int (pg_sub (pv 0) pe_int set_list))
    (pss_one ps_retN)))) pss_nil)
    (pss_cons (ps_set (i := 1) scLoad.nd rfl (Or.inl rfl) (pe_callTy call_int1 (by rfl) B.int (by decide +kernel) (pa_cons (pe_ix ix_list (pe_ix ix_list (pv 0) pe_int (fun _ _ => rfl)) (pe_ix ix_list (pv 0) pe_int (fun _ _ => rfl)) (fun _ _ => rfl)) pa_nil)))
    (pss_cons (ps_asg (pe_op op_add (pe_ix ix_list (pv 0) pe_int (fun _ _ => rfl)) pe_int) (pg_sub (pv 0) pe_int set_list))
    (pss_cons (ps_asg (pe_op op_fdiv (pe_callB call_abs (by rfl) B.abs (by decide +kernel) (pa_cons (pv 1) pa_nil)) pe_int) (pg_sub (pv 0) pe_int set_list))
    (pss_cons (ps_asg pe_int (pg_sub (pv 0) pe_int set_list))
    (pss_cons (ps_asg (pe_op op_mod (pe_callTy call_int1 (by rfl) B.int (by decide +kernel) (pa_cons (pv 1) pa_nil)) pe_int) (pg_sub (pv 0) pe_int set_list))
    (pss_one (ps_if (pt_cmpR op_eq (pe_ix ix_list (pv 0) pe_int (fun _ _ => rfl)) pe_int (nomark _)) (pss_cons (ps_asg (pe_op op_mod (pe_callTy call_int1 (by rfl) B.int (by decide +kernel) (pa_cons (pe_ix ix_list (pv 0) pe_int (fun _ _ => rfl)) pa_nil)) pe_int) (pg_sub (pv 0) pe_int set_list))
    (pss_one (ps_asg pe_int (pg_sub (pv 0) pe_int set_list)))) pss_nil)))))))), ?_⟩
  refine ⟨_, rfl, a, _, 1, _, rfl, rfl, SqL.of ha, rfl, _, rfl, a, _, 0, _, rfl, rfl, SqL.of ha, rfl, l, _, rfl, .inl (SqL.of hl), _, _, rfl, rfl, _, rfl, ?_⟩
  rw [List.length_map]
  refine ite2 (fun cc => ?_) (fun cc => ?_)
  · refine ⟨_, rfl, a, _, 2, 2, rfl, rfl, ha, rfl, _, rfl, a, _, 3, 3, rfl, rfl, upd_same, rfl, _, rfl, a, _, 5, 5, rfl, rfl, upd_same, rfl, ?_⟩
    exact q _ ⟨l, ns, i, 40503, 1000, m, 1, upd_same, by rw [upd_ne nla, upd_ne nla, upd_ne nla]; exact hl, hi, h63⟩ But.refl.upd.upd.upd
  · have c' : ¬ (((ns.length : Nat) : Int) ≤ i) := of_decide_eq_false (Bool.eq_false_iff.mpr cc)
    have hi2 : i.toNat < ns.length := by omega
    have hx : atI (ns.map V.int) i = some (.int ns[i.toNat]) := at_of (j := i.toNat) (by omega) (by rw [List.getElem?_map, List.getElem?_eq_getElem hi2] <;> rfl)
    -- cell; flow[1]; flow[2]
    refine ⟨_, rfl, a, _, 0, _, rfl, rfl, SqL.of ha, rfl, _, rfl, a, _, 1, _, rfl, rfl, SqL.of ha, rfl, l, _, _, _, rfl, rfl, SqL.of hl, hx, .inl ⟨_, rfl, ?_⟩⟩
    refine ⟨_, rfl, a, _, 1, _, rfl, rfl, SqL.of ha, rfl, _, _, rfl, rfl, _, rfl, a, _, 1, 1, rfl, rfl, ha, rfl, ?_⟩
    have hl1 : ∀ o : HO, upd H a o l = some (.lst (ns.map V.int)) := fun o => by rw [upd_ne nla]; exact hl
    refine ⟨_, rfl, _, rfl, _, _, rfl, rfl, ⟨by decide, by decide⟩, _, rfl, a, _, 2, 2, rfl, rfl, upd_same, rfl, ?_⟩
    refine ⟨_, rfl, a, _, 3, 3, rfl, rfl, upd_same, rfl, ?_⟩
    refine ⟨_, rfl, .inl ⟨_, rfl, _, _, rfl, rfl, (show (0 : Int) < 2 from by decide), _, rfl, a, _, 5, 5, rfl, rfl, upd_same, rfl, ?_⟩⟩
    refine ⟨_, rfl, a, _, 5, _, rfl, rfl, SqL.of upd_same, rfl, rfl, _, rfl, ?_⟩
    refine ite2 (fun cc2 => ?_) (fun cc2 => ?_)
    · refine ⟨_, rfl, a, _, 2, _, rfl, rfl, SqL.of upd_same, rfl, .inl ⟨_, rfl, _, _, rfl, rfl, (show (0 : Int) < 2147483629 from by decide), _, rfl, a, _, 2, 2, rfl, rfl, upd_same, rfl, _, rfl, a, _, 3, 3, rfl, rfl, upd_same, rfl, ?_⟩⟩
      exact q _ ⟨l, ns, i + 1, _, _, m, _, upd_same, by rw [upd_ne nla, upd_ne nla, upd_ne nla, upd_ne nla, upd_ne nla, upd_ne nla]; exact hl, by omega, h63⟩ But.refl.upd.upd.upd.upd.upd.upd
    · exact q _ ⟨l, ns, i + 1, _, _, m, _, upd_same, by rw [upd_ne nla, upd_ne nla, upd_ne nla, upd_ne nla]; exact hl, by omega, h63⟩ But.refl.upd.upd.upd.upd
theorem ok_draw (F : FnP K "_law_draw" sDraw f fd) (B : Bi mg) (FL : FnP K "_law_load" sLoad fL fdL) (gL : mg "_law_load" = some (.ref fL)) : FnOk P w K mg base CX0 2 f fd ["flow", "many"] spDraw := by
  have GL : FnOk P w K mg base CX0 1 fL fdL ["flow"] spLoad := ok_load FL B
  have bL : Binds K fdL ["flow"] [] := FL.bindsN fun _ _ _ _ _ _ us hl => match us, hl with | [_], _ => rfl
  refine F.ok scDraw (fun vs H Q E h => ?_) (fun cdv A outer s H vs Q E hr h => ?_)
  · obtain ⟨a, n, rfl, _⟩ := h
    rfl
  obtain ⟨a, n, rfl, hf, hn, q⟩ := h
  have hm := mx_pos n
  refine ⟨_, PSs.nox (pss_cons (ps_if (pt_cmpR op_eq (pe_ix ix_list (pv 0) pe_int (fun _ _ => rfl)) pe_int (nomark _)) (pss_one (ps_expr (pe_call GL (hr.mono (by decide)) (by rfl) gL FL.kp bL .nil pass0 (pa_cons (pv 0) pa_nil)))) pss_nil)
    (pss_cons (ps_asg (pe_op op_sub (pe_ix ix_list (pv 0) pe_int (fun _ _ => rfl)) pe_int) (pg_sub (pv 0) pe_int set_list))
    (pss_cons (ps_if (pt_cmpR op_eq (pe_ix ix_list (pv 0) pe_int (fun _ _ => rfl)) pe_int (nomark _)) (pss_cons (ps_asg (pe_op op_mod (pe_callTy call_int1 (by rfl) B.int (by decide +kernel) (pa_cons (pe_op op_add (pe_op op_add (pe_op op_mul (pe_ix ix_list (pv 0) pe_int (fun _ _ => rfl)) pe_int) (pe_ix ix_list (pv 0) pe_int (fun _ _ => rfl))) pe_int) pa_nil)) pe_int) (pg_sub (pv 0) pe_int set_list))
    (pss_one (ps_ret (pe_op op_mod (pe_callTy call_int1 (by rfl) B.int (by decide +kernel) (pa_cons (pe_op op_fdiv (pe_ix ix_list (pv 0) pe_int (fun _ _ => rfl)) pe_int) pa_nil)) (pe_callB (call_max2 rfl) (by rfl) B.max (by decide +kernel) (pa_cons pe_int (pa_cons (pv 1) pa_nil))))))) pss_nil)
    (pss_cons (ps_set (i := 2) scDraw.nd rfl (Or.inl rfl) (pe_op op_mod (pe_callTy call_int1 (by rfl) B.int (by decide +kernel) (pa_cons (pe_ix ix_list (pv 0) pe_int (fun _ _ => rfl)) pa_nil)) (pe_callB (call_max2 rfl) (by rfl) B.max (by decide +kernel) (pa_cons pe_int (pa_cons (pv 1) pa_nil)))))
    (pss_cons (ps_asg (pe_op op_fdivW (pe_ix ix_list (pv 0) pe_int (fun _ _ => rfl)) (pe_callB (call_max2 rfl) (by rfl) B.max (by decide +kernel) (pa_cons pe_int (pa_cons (pv 1) pa_nil)))) (pg_sub (pv 0) pe_int set_list))
    (pss_cons (ps_if (pt_cmpR op_eq (pe_ix ix_list (pv 0) pe_int (fun _ _ => rfl)) pe_int (nomark _)) (pss_one (ps_asg pe_int (pg_sub (pv 0) pe_int set_list))) pss_nil)
    (pss_one (ps_ret (pv 2))))))))), ?_⟩
  -- flow[3] == 0; behind it some stream at H1
  have hf0 := hf
  obtain ⟨l, ns, i, x, c, m, o, ha, hl, hi, h63⟩ := hf
  refine ⟨_, rfl, a, _, 3, _, rfl, rfl, SqL.of ha, rfl, rfl, _, rfl, ?_⟩
  refine both hf0 (fun main => ⟨_, rfl, a, rfl, hf0, main⟩) (fun H1 hf1 b1 => ?_)
  clear ha hl hi h63 l ns i x c m o
  obtain ⟨l, ns, i, x, c, m, o, ha, hl, hi, h63⟩ := hf1
  have nla := fl_ne ha hl
  -- flow[3] = flow[3] - 1; flow[5] == 1
  refine ⟨_, rfl, a, _, 3, _, rfl, rfl, SqL.of ha, rfl, _, _, rfl, rfl, _, rfl, a, _, 3, 3, rfl, rfl, ha, rfl, ?_⟩
  refine ⟨_, rfl, a, _, 5, _, rfl, rfl, SqL.of upd_same, rfl, rfl, _, rfl, ?_⟩
  refine ite2 (fun cc => ?_) (fun cc => ?_)
  · refine ⟨_, rfl, a, _, 4, _, rfl, rfl, SqL.of upd_same, rfl, _, _, rfl, rfl, .inr ⟨by decide, by decide⟩, _, rfl, a, _, 2, _, rfl, rfl, SqL.of upd_same, rfl, _, _, rfl, rfl, _, _, rfl, rfl, .inl ⟨_, rfl, _, _, rfl, rfl, (show (0 : Int) < 2147483647 from by decide), _, rfl, a, _, 4, 4, rfl, rfl, upd_same, rfl, ?_⟩⟩
    refine ⟨_, rfl, a, _, 4, _, rfl, rfl, SqL.of upd_same, rfl, _, _, rfl, rfl, ⟨by decide, by decide⟩, .inl ⟨_, rfl, _, rfl, _, _, rfl, _, _, rfl, rfl, hm, ?_⟩⟩
    exact q _ _ ⟨l, ns, i, _, _, _, _, upd_same, by rw [upd_ne nla, upd_ne nla]; exact hl, hi, h63⟩ b1.upd.upd (Int.emod_nonneg _ (by omega)) (Int.emod_lt_of_pos _ hm)
  · refine ⟨_, rfl, a, _, 2, _, rfl, rfl, SqL.of upd_same, rfl, .inl ⟨_, rfl, _, rfl, _, _, rfl, _, _, rfl, rfl, hm, ?_⟩⟩
    refine ⟨_, rfl, a, _, 2, _, rfl, rfl, SqL.of upd_same, rfl, _, rfl, _, _, rfl, _, _, rfl, rfl, wide_div hm (mx_big hn) (by decide) (by decide), _, rfl, a, _, 2, 2, rfl, rfl, upd_same, rfl, ?_⟩
    refine ⟨_, rfl, a, _, 2, _, rfl, rfl, SqL.of upd_same, rfl, rfl, _, rfl, ?_⟩
    refine ite2 (fun c2 => ?_) (fun c2 => ?_)
    · refine ⟨_, rfl, a, _, 3, 3, rfl, rfl, upd_same, rfl, _, rfl, ?_⟩
      exact q _ _ ⟨l, ns, i, _, _, _, _, upd_same, by rw [upd_ne nla, upd_ne nla, upd_ne nla]; exact hl, hi, h63⟩ b1.upd.upd.upd (Int.emod_nonneg _ (by omega)) (Int.emod_lt_of_pos _ hm)
    · refine ⟨_, rfl, ?_⟩
      exact q _ _ ⟨l, ns, i, _, _, _, _, upd_same, by rw [upd_ne nla, upd_ne nla]; exact hl, hi, h63⟩ b1.upd.upd (Int.emod_nonneg _ (by omega)) (Int.emod_lt_of_pos _ hm)
theorem ok_pick (F : FnP K "_law_pick" sPick f fd) (B : Bi mg) (FL : FnP K "_law_load" sLoad fL fdL) (gL : mg "_law_load" = some (.ref fL)) (FD : FnP K "_law_draw" sDraw fD fdD) (gD : mg "_law_draw" = some (.ref fD)) : FnOk P w K mg base CX0 3 f fd ["flow", "things"] (spPick K) := by
  have GD : FnOk P w K mg base CX0 2 fD fdD ["flow", "many"] spDraw := ok_draw FD B FL gL
  have bD : Binds K fdD ["flow", "many"] [] := FD.bindsN fun _ _ _ _ _ _ us hl => match us, hl with | [_, _], _ => rfl
  refine F.ok scPick (fun vs H Q E h => ?_) (fun cdv A outer s H vs Q E hr h => ?_)
  · obtain ⟨a, t, xs, rfl, _⟩ := h
    rfl
  obtain ⟨a, t, xs, rfl, hf, ht, kt, h0, h1, q⟩ := h
  refine ⟨_, PSs.nox (pss_one (ps_ret (pe_ix ix_list (pv 1) (pe_call GD hr (by rfl) gD FD.kp bD .nil pass0 (pa_cons (pv 0) (pa_cons (pe_callB call_len_seq (by rfl) B.len (by decide +kernel) (pa_cons (pv 1) pa_nil)) pa_nil))) (fun _ _ => rfl)))), ?_⟩
  refine ⟨_, rfl, _, rfl, _, rfl, t, xs, rfl, .inl ht, a, _, rfl, hf, ?_, fun H' r hf' b' r0 r1 => ?_⟩
  · exact Nat.lt_of_lt_of_le (show (xs.length : Int).natAbs < 2 ^ 20 by omega) (Nat.pow_le_pow_right (by decide) (by decide))
  · have rl : r < (xs.length : Int) := by
      unfold mx at r1
      split at r1 <;> omega
    have hx : xs[r.toNat]? = some xs[r.toNat] := List.getElem?_eq_getElem (by omega)
    exact ⟨t, xs, r, _, rfl, rfl, kt H' b', at_of (j := r.toNat) (by omega) hx, q _ _ hf' b' (List.getElem_mem ..)⟩
end
end My

namespace My
open PySem PySem.Spec PyProof.Rows L2
abbrev sRaise : Stmt := top 14
abbrev sSame : Stmt := top 15
abbrev sKept : Stmt := top 16
abbrev sClasses : Stmt := top 17
abbrev sGiven : Stmt := top 18
abbrev sLaw : Stmt := top 19
def nm : Nat → Str
  | 1 => "number"
  | 2 => "name"
  | 5 => "word"
  | 6 => "word"
  | _ => "at"
/-- what the written part says of the seven classes and their base -/
structure Tx (K : PySem.W.Frag) (mg : Str → Option Value) (C fI : Nat → Addr) (LE : Addr) : Prop where
  err : ∀ j, j < 7 → PySem.MyX.ErrC K (C j) (fI j) (nm j)
  g0 : mg "BadValue" = some (.ref (C 0))
  g1 : mg "BadGame" = some (.ref (C 1))
  g2 : mg "BadSide" = some (.ref (C 2))
  g3 : mg "BadPaper" = some (.ref (C 3))
  g4 : mg "BadLine" = some (.ref (C 4))
  g5 : mg "TooMany" = some (.ref (C 5))
  g6 : mg "NothingThere" = some (.ref (C 6))
  gL : mg "LeagueError" = some (.ref LE)
  exm : ∀ i j, i < 7 → j < 7 → PySem.W.exmOne K (.ref (C j)) (.ref (C i)) = some (decide (i = j))
  exl : ∀ j, j < 7 → PySem.W.exmOne K (.ref (C j)) (.ref LE) = some true
  kit : ∀ i j, i < 7 → j < 7 → PySem.W.kitOne K (.ref (C j)) (.ref (C i)) = some (decide (i = j))
  kitV : ∀ j, j < 7 → PySem.W.kitAny K (.ref (C j)) [.type "ValueError", .type "LookupError", .type "ArithmeticError"] = some false
  exC : ∀ j, j < 7 → ExcC K (C j)
/-- more built-in names -/
structure Bj (mg : Str → Option Value) : Prop extends Bi mg where
  isinstance : mg "isinstance" = none
  all : mg "all" = none
  tuple : mg "tuple" = none
  str : mg "str" = none
  bool : mg "bool" = none
  ValueError : mg "ValueError" = none
  LookupError : mg "LookupError" = none
  ArithmeticError : mg "ArithmeticError" = none
section
variable {P : Program} {w : World} {K : PySem.W.Frag} {mg : Str → Option Value} {base : Heap} {f : Addr} {fd : FuncData} {C fI : Nat → Addr} {LE : Addr}
theorem scRaise : FnScope ["kind", "given"] ["kind", "given"] (defScope sRaise) := ⟨rfl, rfl, rfl, by decide +kernel, rfl, by decide +kernel, by decide +kernel⟩
theorem scSame : FnScope ["actual", "due", "k"] ["actual", "due"] (defScope sSame) := ⟨rfl, rfl, rfl, by decide +kernel, rfl, by decide +kernel, by decide +kernel⟩
/-! ### raise, by kind -/
def spRaise (C : Nat → Addr) : Sp := fun vs H _ E => ∃ (j : Nat) (v : V), vs = [.int j, v] ∧ j < 7 ∧ ∀ d, H d = none → E (.ref (C j)) (some d) (upd H d (.xd [(nm j, v)]))
theorem kj {j : Nat} {i : Int} (c : decide (V.int (j : Int) = V.int i) = true) : (j : Int) = i := V.int.inj (of_decide_eq_true c)
theorem nj {j : Nat} {i : Int} (c : ¬ decide (V.int (j : Int) = V.int i) = true) : (j : Int) ≠ i := fun e => c (decide_eq_true (congrArg V.int e))
theorem ok_raise (F : FnP K "_law_raise" sRaise f fd) (T : Tx K mg C fI LE) : FnOk P w K mg base (L2N.CX P w) 3 f fd ["kind", "given"] (spRaise C) := by
  refine F.ok (CX := L2N.CX P w) scRaise (fun vs H Q E h => ?_) (fun cdv A outer s H vs Q E hr h => ?_)
  · obtain ⟨j, v, rfl, _⟩ := h
    rfl
  obtain ⟨j, v, rfl, hj, q⟩ := h
  refine ⟨_, (pss_cons (ps_if (pt_cmpR op_eq (pv 0) pe_int (nomark _)) (pss_one (ps_raiseErr rfl (T.err 0 (by decide)) T.g0 hr (L2N.takes_of rfl rfl rfl rfl) (pa_cons (pv 1) pa_nil))) pss_nil)
    (pss_cons (ps_if (pt_cmpR op_eq (pv 0) pe_int (nomark _)) (pss_one (ps_raiseErr rfl (T.err 1 (by decide)) T.g1 hr (L2N.takes_of rfl rfl rfl rfl) (pa_cons (pv 1) pa_nil))) pss_nil)
    (pss_cons (ps_if (pt_cmpR op_eq (pv 0) pe_int (nomark _)) (pss_one (ps_raiseErr rfl (T.err 2 (by decide)) T.g2 hr (L2N.takes_of rfl rfl rfl rfl) (pa_cons (pv 1) pa_nil))) pss_nil)
    (pss_cons (ps_if (pt_cmpR op_eq (pv 0) pe_int (nomark _)) (pss_one (ps_raiseErr rfl (T.err 3 (by decide)) T.g3 hr (L2N.takes_of rfl rfl rfl rfl) (pa_cons (pv 1) pa_nil))) pss_nil)
    (pss_cons (ps_if (pt_cmpR op_eq (pv 0) pe_int (nomark _)) (pss_one (ps_raiseErr rfl (T.err 4 (by decide)) T.g4 hr (L2N.takes_of rfl rfl rfl rfl) (pa_cons (pv 1) pa_nil))) pss_nil)
    (pss_cons (ps_if (pt_cmpR op_eq (pv 0) pe_int (nomark _)) (pss_one (ps_raiseErr rfl (T.err 5 (by decide)) T.g5 hr (L2N.takes_of rfl rfl rfl rfl) (pa_cons (pv 1) pa_nil))) pss_nil)
    (pss_one (ps_raiseErr rfl (T.err 6 (by decide)) T.g6 hr (L2N.takes_of rfl rfl rfl rfl) (pa_cons (pv 1) pa_nil))))))))), ?_⟩
  refine ⟨_, rfl, rfl, _, rfl, ite2 (fun c0 => ?_) (fun c0 => ⟨_, rfl, rfl, _, rfl, ite2 (fun c1 => ?_) (fun c1 => ⟨_, rfl, rfl, _, rfl, ite2 (fun c2 => ?_) (fun c2 => ⟨_, rfl, rfl, _, rfl, ite2 (fun c3 => ?_) (fun c3 => ⟨_, rfl, rfl, _, rfl, ite2 (fun c4 => ?_) (fun c4 => ⟨_, rfl, rfl, _, rfl, ite2 (fun c5 => ?_) (fun c5 => ?_)⟩)⟩)⟩)⟩)⟩)⟩
  · obtain rfl : j = 0 := by have := kj c0; omega
    exact ⟨_, rfl, _, rfl, q⟩
  · obtain rfl : j = 1 := by have := kj c1; omega
    exact ⟨_, rfl, _, rfl, q⟩
  · obtain rfl : j = 2 := by have := kj c2; omega
    exact ⟨_, rfl, _, rfl, q⟩
  · obtain rfl : j = 3 := by have := kj c3; omega
    exact ⟨_, rfl, _, rfl, q⟩
  · obtain rfl : j = 4 := by have := kj c4; omega
    exact ⟨_, rfl, _, rfl, q⟩
  · obtain rfl : j = 5 := by have := kj c5; omega
    exact ⟨_, rfl, _, rfl, q⟩
  · obtain rfl : j = 6 := by
      have := nj c0; have := nj c1; have := nj c2; have := nj c3; have := nj c4; have := nj c5
      omega
    exact ⟨_, rfl, _, rfl, q⟩
/-! ### data of a small depth -/
def atom : V → Bool
  | .non => true
  | .bl _ => true
  | .int _ => true
  | .str _ => true
  | _ => false
def RpN (H : Hp) : Nat → V → Prop
  | 0, v => atom v = true
  | n + 1, v => atom v = true ∨ ∃ a xs, v = .ref a ∧ (H a = some (.tup xs) ∨ H a = some (.lst xs)) ∧ xs.length ≤ 1000 ∧ ∀ x ∈ xs, RpN H n x
theorem RpN.atom {H : Hp} {n : Nat} {v : V} (h : My.atom v = true) : RpN H n v := by
  cases n with
  | zero => exact h
  | succ n => exact .inl h
theorem RpN.same {H H' : Hp} (k : Same H H') : ∀ {n : Nat} {v : V}, RpN H n v → RpN H' n v
  | 0, v, h => h
  | n + 1, v, h => by
    rcases h with h | ⟨a, xs, e, h, hl, hx⟩
    · exact .inl h
    · exact .inr ⟨a, xs, e, h.elim (fun z => .inl (k _ _ z)) (fun z => .inr (k _ _ z)), hl, fun x hm => RpN.same k (hx x hm)⟩
/-- what two names of one and the same value give: the same -/
def spR : Nat → Sp
  | 0 => fun _ _ _ _ => False
  | n + 1 => fun vs H Q _ => ∃ v, vs = [v, v] ∧ RpN H n v ∧ ∀ H', Same H H' → Q (.bl true) H'
theorem hot_blk {X : Cx} {s : Shared} {H : Hp} {scope : Scope} {ce : Env} {fp : List Addr} (h : L2H.HotC X) : L2H.HotC (X.blkH s H scope ce fp) := by
  obtain ⟨p, a, b⟩ := h
  exact ⟨p, a, b⟩
theorem pas0 {X : Cx} {σ : L2.St} : PassesAt CX0 X σ E0 := fun _ _ _ _ _ _ h => h.elim
theorem isiR {K : PySem.W.Frag} {σ : L2.St} {H : Hp} {i : Nat} {v : V} {t : Value} {T : String} {b : Bool} {Q : VK} (hv : σ[i]? = some (some v)) (ty : TyX K H v t) (k : PySem.W.kitOne K t (.type T) = some b) (q : Q (.bl b) H) :
    tCB (rIsi K) (tCons (tVar i) (tCons (tC (.ty T)) tNil)) σ H Q := ⟨v, hv, v, .ty T, t, .type T, b, rfl, .ty T, ty, k, q⟩
theorem same_step {n k : Nat} (F : FnP K "_law_same" sSame f fd) (B : Bj mg) (gS : mg "_law_same" = some (.ref f)) (GS : L2H.FnH P w K mg base CX0 k f fd ["actual", "due"] (spR n)) : L2H.FnH P w K mg base CX0 (k + 1) f fd ["actual", "due"] (spR (n + 1)) := by
  have FS := F
  have bS : Binds K fd ["actual", "due"] [] := F.bindsN fun _ _ _ _ _ _ us hl => match us, hl with | [_, _], _ => rfl
  refine FunD.okH F scSame (fun vs H Q E h => ?_) (fun cdv A outer s H vs Q E p hp hr h => ?_)
  · obtain ⟨v, rfl, _⟩ := h
    rfl
  obtain ⟨v, rfl, hv, q⟩ := h
  have hot : L2H.HotC (L2H.cxH CX0 P w K mg base ["actual", "due", "k"] "_law_same" (defScope sSame) f cdv A outer s H E p) := ⟨p, hp, List.mem_singleton.mpr rfl⟩
  refine ⟨_, (pss_cons (ps_if (PW.pt (pw_or (pt_val (pe_callB call_isi (by rfl) B.isinstance (by decide +kernel) (pa_cons (pv 1) (pa_cons (pe_bltn (v := .ty "tuple") (by rfl) B.tuple (by decide +kernel) rfl) pa_nil)))) (pw_or1 (pt_val (pe_callB call_isi (by rfl) B.isinstance (by decide +kernel) (pa_cons (pv 1) (pa_cons (pe_bltn (v := .ty "list") (by rfl) B.list (by decide +kernel) rfl) pa_nil))))))) (pss_cons (ps_if (PW.pt (pw_or (pt_cmpR op_ne (pe_callB call_isi (by rfl) B.isinstance (by decide +kernel) (pa_cons (pv 1) (pa_cons (pe_bltn (v := .ty "tuple") (by rfl) B.tuple (by decide +kernel) rfl) pa_nil))) (pe_callB call_isi (by rfl) B.isinstance (by decide +kernel) (pa_cons (pv 0) (pa_cons (pe_bltn (v := .ty "tuple") (by rfl) B.tuple (by decide +kernel) rfl) pa_nil))) (nomark _)) (pw_or1 (pt_cmpR op_ne (pe_callB call_isi (by rfl) B.isinstance (by decide +kernel) (pa_cons (pv 1) (pa_cons (pe_bltn (v := .ty "list") (by rfl) B.list (by decide +kernel) rfl) pa_nil))) (pe_callB call_isi (by rfl) B.isinstance (by decide +kernel) (pa_cons (pv 0) (pa_cons (pe_bltn (v := .ty "list") (by rfl) B.list (by decide +kernel) rfl) pa_nil))) (nomark _))))) (pss_one (ps_ret pe_bl)) pss_nil)
    (pss_one (ps_ret (pe_and (pe_cmpR op_eq (pe_callB call_len_seq (by rfl) B.len (by decide +kernel) (pa_cons (pv 0) pa_nil)) (pe_callB call_len_seq (by rfl) B.len (by decide +kernel) (pa_cons (pv 1) pa_nil)) (nomark _)) (pe_one (pe_callB (cr_allH hot) (by rfl) B.all (by decide +kernel) (pa_cons (pe_lcH (own := [("k", 2)]) (g := gName 2) (tt := tYes) hot scSame.nd (L2H.pi_range1H (by rfl) B.range (pa_cons (pe_callB call_len_seq (by rfl) B.len (by decide +kernel) (pa_cons (pv 1) pa_nil)) pa_nil)) (blkOk_by (own := [("k", 2)]) (N := ["actual", "due", "k"]) (sc := defScope sSame) (by decide +kernel)) (fun _ _ _ _ _ => pg_name (i := 2) scSame.nd rfl (Or.inl rfl)) (fun _ _ _ _ _ => pts_nil) (fun _ _ _ _ _ => (L2H.pe_callH GS hr (hot_blk hot) (by rfl) gS FS.kp bS (fun _ => pas0) (pa_cons (pe_ix (ix_seqK (K := K) rfl) (pv 0) (pv 2) (fun _ _ => rfl)) (pa_cons (pe_ix (ix_seqK (K := K) rfl) (pv 1) (pv 2) (fun _ _ => rfl)) pa_nil))))) pa_nil))))))) pss_nil)
    (pss_cons (ps_if (pt_cmpR op_isN (pv 1) pe_non (nomark _)) (pss_one (ps_ret (pe_cmpR op_isN (pv 0) pe_non (nomark _)))) pss_nil)
    (pss_cons (ps_if (pt_val (pe_callB call_isi (by rfl) B.isinstance (by decide +kernel) (pa_cons (pv 1) (pa_cons (pe_bltn (v := .ty "str") (by rfl) B.str (by decide +kernel) rfl) pa_nil)))) (pss_one (ps_ret (pe_and (pe_callB call_isi (by rfl) B.isinstance (by decide +kernel) (pa_cons (pv 0) (pa_cons (pe_bltn (v := .ty "str") (by rfl) B.str (by decide +kernel) rfl) pa_nil))) (pe_one (pe_cmpR op_eq (pv 0) (pv 1) (nomark _)))))) pss_nil)
    (pss_cons (ps_if (pt_val (pe_callB call_isi (by rfl) B.isinstance (by decide +kernel) (pa_cons (pv 1) (pa_cons (pe_bltn (v := .ty "bool") (by rfl) B.bool (by decide +kernel) rfl) pa_nil)))) (pss_one (ps_ret (pe_and (pe_callB call_isi (by rfl) B.isinstance (by decide +kernel) (pa_cons (pv 0) (pa_cons (pe_bltn (v := .ty "bool") (by rfl) B.bool (by decide +kernel) rfl) pa_nil))) (pe_one (pe_cmpR op_eq (pv 0) (pv 1) (nomark _)))))) pss_nil)
    (pss_one (ps_ret (pe_and (pe_callB call_isi (by rfl) B.isinstance (by decide +kernel) (pa_cons (pv 0) (pa_cons (pe_bltn (v := .ty "int") (by rfl) B.int (by decide +kernel) rfl) pa_nil))) (pe_and (pe_not (pe_callB call_isi (by rfl) B.isinstance (by decide +kernel) (pa_cons (pv 0) (pa_cons (pe_bltn (v := .ty "bool") (by rfl) B.bool (by decide +kernel) rfl) pa_nil)))) (pe_one (pe_cmpR op_eq (pv 0) (pv 1) (nomark _))))))))))), ?_⟩
  have done : Q (.bl true) H := q H (Same.refl H)
  have cs : atom v = true ∨ ∃ m a xs, n = m + 1 ∧ v = .ref a ∧ (H a = some (.tup xs) ∨ H a = some (.lst xs)) ∧ xs.length ≤ 1000 ∧ ∀ x ∈ xs, RpN H m x := by
    cases n with
    | zero => exact .inl hv
    | succ m =>
      rcases hv with h | ⟨a, xs, e, h1, h2, h3⟩
      · exact .inl h
      · exact .inr ⟨m, a, xs, rfl, e, h1, h2, h3⟩
  rcases cs with ha | ⟨m, a, xs, rfl, rfl, hb, hl, hx⟩
  · cases v with
    | non =>
      refine isiR (b := false) rfl (.base .non) (kit_ty (by decide +kernel)) ⟨false, rfl, iteF (isiR (b := false) rfl (.base .non) (kit_ty (by decide +kernel)) ⟨false, rfl, iteF ?_⟩)⟩
      refine ⟨_, rfl, rfl, _, rfl, ifT (decide_eq_true rfl) ⟨_, rfl, rfl, ?_⟩⟩
      show Q (.bl (decide (V.non = V.non))) H
      rw [decide_eq_true (rfl : V.non = V.non)]
      exact done
    | bl b =>
      refine isiR (b := false) rfl (.base (.bl _)) (kit_ty (by decide +kernel)) ⟨false, rfl, iteF (isiR (b := false) rfl (.base (.bl _)) (kit_ty (by decide +kernel)) ⟨false, rfl, iteF ?_⟩)⟩
      refine ⟨_, rfl, rfl, _, rfl, ifF (decide_eq_false fun z => nomatch z) ?_⟩
      refine isiR (b := false) rfl (.base (.bl _)) (kit_ty (by decide +kernel)) ⟨false, rfl, iteF ?_⟩
      refine isiR (b := true) rfl (.base (.bl _)) (kit_ty (by decide +kernel)) ⟨true, rfl, iteT ?_⟩
      refine isiR (b := true) rfl (.base (.bl _)) (kit_ty (by decide +kernel)) ⟨true, rfl, iteT ⟨_, rfl, _, rfl, rfl, ?_⟩⟩
      show Q (.bl (decide (V.bl b = V.bl b))) H
      rw [decide_eq_true (rfl : V.bl b = V.bl b)]
      exact done
    | int i =>
      refine isiR (b := false) rfl (.base (.int _)) (kit_ty (by decide +kernel)) ⟨false, rfl, iteF (isiR (b := false) rfl (.base (.int _)) (kit_ty (by decide +kernel)) ⟨false, rfl, iteF ?_⟩)⟩
      refine ⟨_, rfl, rfl, _, rfl, ifF (decide_eq_false fun z => nomatch z) ?_⟩
      refine isiR (b := false) rfl (.base (.int _)) (kit_ty (by decide +kernel)) ⟨false, rfl, iteF ?_⟩
      refine isiR (b := false) rfl (.base (.int _)) (kit_ty (by decide +kernel)) ⟨false, rfl, iteF ?_⟩
      refine isiR (b := true) rfl (.base (.int _)) (kit_ty (by decide +kernel)) ⟨true, rfl, iteT (isiR (b := false) rfl (.base (.int _)) (kit_ty (by decide +kernel)) ⟨false, rfl, true, rfl, iteT ⟨_, rfl, _, rfl, rfl, ?_⟩⟩)⟩
      show Q (.bl (decide (V.int i = V.int i))) H
      rw [decide_eq_true (rfl : V.int i = V.int i)]
      exact done
    | str x =>
      refine isiR (b := false) rfl (.base (.str _)) (kit_ty (by decide +kernel)) ⟨false, rfl, iteF (isiR (b := false) rfl (.base (.str _)) (kit_ty (by decide +kernel)) ⟨false, rfl, iteF ?_⟩)⟩
      refine ⟨_, rfl, rfl, _, rfl, ifF (decide_eq_false fun z => nomatch z) ?_⟩
      refine isiR (b := true) rfl (.base (.str _)) (kit_ty (by decide +kernel)) ⟨true, rfl, iteT ?_⟩
      refine isiR (b := true) rfl (.base (.str _)) (kit_ty (by decide +kernel)) ⟨true, rfl, iteT ⟨_, rfl, _, rfl, rfl, ?_⟩⟩
      show Q (.bl (decide (V.str x = V.str x))) H
      rw [decide_eq_true (rfl : V.str x = V.str x)]
      exact done
    | _ => cases ha
  · have nb : ∀ b : Bool, V.bl (!decide (V.bl b = V.bl b)) = V.bl false := fun b => by rw [decide_eq_true (rfl : V.bl b = V.bl b)]; rfl
    have hq : SqL K H a xs ∨ SqT K H a xs := hb.elim (fun z => .inr (SqT.of z)) (fun z => .inl (SqL.of z))
    have ix : ∀ H', Same H H' → ∀ (i : Nat) (hi : i < xs.length) (Q' : VK), Q' xs[i] H' → rIx K (.ref a) (.int (0 + (i : Int))) H' Q' := fun H' sm i hi Q' q' => by
      have at_ : atI xs (0 + (i : Int)) = some xs[i] := at_of (j := i) (by omega) (List.getElem?_eq_getElem hi)
      rcases hb with hb | hb
      · exact .inr (.inl ⟨a, xs, _, _, rfl, rfl, SqT.of (sm _ _ hb), at_, q'⟩)
      · exact .inl ⟨a, xs, _, _, rfl, rfl, SqL.of (sm _ _ hb), at_, q'⟩
    rcases hb with hb | hb
    · refine isiR (b := true) rfl (.base (.tup hb)) (kit_ty (by decide +kernel)) ⟨true, rfl, iteT (iteT ?_)⟩
      refine isiR (b := true) rfl (.base (.tup hb)) (kit_ty (by decide +kernel)) (isiR (b := true) rfl (.base (.tup hb)) (kit_ty (by decide +kernel)) ⟨rfl, false, nb _, iteF ?_⟩)
      refine isiR (b := false) rfl (.base (.tup hb)) (kit_ty (by decide +kernel)) (isiR (b := false) rfl (.base (.tup hb)) (kit_ty (by decide +kernel)) ⟨rfl, false, nb _, iteF ?_⟩)
      refine ⟨_, rfl, a, xs, rfl, hq, _, rfl, a, xs, rfl, hq, rfl, _, rfl, ifT (decide_eq_true rfl) ?_⟩
      refine ⟨_, rfl, a, xs, rfl, hq, (xs.length : Int), rfl, by omega, by omega, fun D hD => lc_range (lo := 0) (n := xs.length) (fun i H' => Same H H' ∧ H' D = some (.lst (List.replicate i (V.bl true)))) ⟨same_new hD _, upd_same⟩ (fun i H' hi ⟨s1, e1⟩ => ?_) (fun H' ⟨s1, e1⟩ => ?_)⟩
      · refine ⟨rfl, ?_⟩
        delta tYes
        dsimp only
        rw [if_pos rfl]
        refine ⟨_, rfl, _, rfl, ix H' s1 i hi _ ⟨_, rfl, _, rfl, ix H' s1 i hi _ ⟨xs[i], rfl, (hx _ (List.getElem_mem ..)).same s1, fun H2 s2 => ?_⟩⟩⟩
        have e2 := s2 _ _ e1
        refine ⟨_, e2, by rw [List.length_replicate]; exact small1000 (by omega), fun b o h => ?_, ?_⟩
        · rw [upd_ne (ne_of_none h hD)]
          exact s2 _ _ (s1 _ _ h)
        · rw [upd_same, List.replicate_succ']
      · refine ⟨D, List.replicate xs.length true, rfl, SqL.of (by rw [e1, List.map_replicate]), ?_⟩
        have al : (List.replicate xs.length true).all id = true := by
          rw [List.all_eq_true]
          intro y hy
          rw [List.eq_of_mem_replicate hy]
          rfl
        show Q (.bl ((List.replicate xs.length true).all id)) H'
        rw [al]
        exact q H' s1
    · refine isiR (b := false) rfl (.base (.lst hb)) (kit_ty (by decide +kernel)) ⟨false, rfl, iteF (isiR (b := true) rfl (.base (.lst hb)) (kit_ty (by decide +kernel)) ⟨true, rfl, iteT ?_⟩)⟩
      refine isiR (b := false) rfl (.base (.lst hb)) (kit_ty (by decide +kernel)) (isiR (b := false) rfl (.base (.lst hb)) (kit_ty (by decide +kernel)) ⟨rfl, false, nb _, iteF ?_⟩)
      refine isiR (b := true) rfl (.base (.lst hb)) (kit_ty (by decide +kernel)) (isiR (b := true) rfl (.base (.lst hb)) (kit_ty (by decide +kernel)) ⟨rfl, false, nb _, iteF ?_⟩)
      refine ⟨_, rfl, a, xs, rfl, hq, _, rfl, a, xs, rfl, hq, rfl, _, rfl, ifT (decide_eq_true rfl) ?_⟩
      refine ⟨_, rfl, a, xs, rfl, hq, (xs.length : Int), rfl, by omega, by omega, fun D hD => lc_range (lo := 0) (n := xs.length) (fun i H' => Same H H' ∧ H' D = some (.lst (List.replicate i (V.bl true)))) ⟨same_new hD _, upd_same⟩ (fun i H' hi ⟨s1, e1⟩ => ?_) (fun H' ⟨s1, e1⟩ => ?_)⟩
      · refine ⟨rfl, ?_⟩
        delta tYes
        dsimp only
        rw [if_pos rfl]
        refine ⟨_, rfl, _, rfl, ix H' s1 i hi _ ⟨_, rfl, _, rfl, ix H' s1 i hi _ ⟨xs[i], rfl, (hx _ (List.getElem_mem ..)).same s1, fun H2 s2 => ?_⟩⟩⟩
        have e2 := s2 _ _ e1
        refine ⟨_, e2, by rw [List.length_replicate]; exact small1000 (by omega), fun b o h => ?_, ?_⟩
        · rw [upd_ne (ne_of_none h hD)]
          exact s2 _ _ (s1 _ _ h)
        · rw [upd_same, List.replicate_succ']
      · refine ⟨D, List.replicate xs.length true, rfl, SqL.of (by rw [e1, List.map_replicate]), ?_⟩
        have al : (List.replicate xs.length true).all id = true := by
          rw [List.all_eq_true]
          intro y hy
          rw [List.eq_of_mem_replicate hy]
          rfl
        show Q (.bl ((List.replicate xs.length true).all id)) H'
        rw [al]
        exact q H' s1
end
end My

namespace My
open PySem PySem.Spec PyProof.Rows L2
theorem takesF {X : Cx} : L2N.Takes X (fun _ _ _ _ => False) := fun u s' ⟨_, _, _, _, _, _, _, _, _, _, _, _, _, _, _, _, w⟩ => w.elim
section
variable {P : Program} {w : World} {K : PySem.W.Frag} {mg : Str → Option Value} {base : Heap} {f fR fS : Addr} {fd fdR fdS : FuncData} {C fI : Nat → Addr} {LE : Addr}
theorem ok_same (F : FnP K "_law_same" sSame f fd) (B : Bj mg) (gS : mg "_law_same" = some (.ref f)) : ∀ n, L2H.FnH P w K mg base CX0 n f fd ["actual", "due"] (spR n)
  | 0 => ⟨fun _ _ _ _ h => h.elim, fun _ _ _ _ _ _ _ _ _ _ _ _ _ _ _ _ h => h.elim⟩
  | n + 1 => same_step F B gS (ok_same F B gS n)
theorem scKept : FnScope ["kind", "given", "e"] ["kind", "given"] (defScope sKept) := ⟨rfl, rfl, rfl, by decide +kernel, rfl, by decide +kernel, by decide +kernel⟩
/-- the kind and what was given: the answer True at a heap that keeps the old one -/
def spKind : Sp := fun vs H Q _ => ∃ (j : Nat) (v : V), vs = [.int j, v] ∧ j < 7 ∧ RpN H 2 v ∧ ∀ H', Same H H' → Q (.bl true) H'
theorem ok_kept (F : FnP K "_law_kept" sKept f fd) (B : Bj mg) (T : Tx K mg C fI LE) (FR : FnP K "_law_raise" sRaise fR fdR) (gR : mg "_law_raise" = some (.ref fR)) (FS : FnP K "_law_same" sSame fS fdS) (gS : mg "_law_same" = some (.ref fS)) :
    FnOk P w K mg base CX0 4 f fd ["kind", "given"] spKind := by
  have GR : FnOk P w K mg base (L2N.CX P w) 3 fR fdR ["kind", "given"] (spRaise C) := ok_raise FR T
  have bR : Binds K fdR ["kind", "given"] [] := FR.bindsN fun _ _ _ _ _ _ us hl => match us, hl with | [_, _], _ => rfl
  have GS : L2H.FnH P w K mg base CX0 3 fS fdS ["actual", "due"] (spR 3) := ok_same FS B gS 3
  have bS : Binds K fdS ["actual", "due"] [] := FS.bindsN fun _ _ _ _ _ _ us hl => match us, hl with | [_, _], _ => rfl
  refine F.ok scKept (fun vs H Q E h => ?_) (fun cdv A outer s H vs Q E hr h => ?_)
  · obtain ⟨j, v, rfl, _⟩ := h
    rfl
  obtain ⟨j, v, rfl, hj, hv, q⟩ := h
  refine ⟨_, PSs.nox (pss_cons (ps_try_hds rfl rfl takesF (fun W pn xe tk _ => (pss_one (ps_expr (pe_callS GR hr (by rfl) gR FR.kp bR (fun σ => L2N.passAt tk σ) (pa_cons (pv 0) (pa_cons (pv 1) pa_nil))))))
   (Hds.named (i := 2) scKept.nd rfl rfl ⟨rfl, by decide, .inl T.g0⟩ (fun a oe cls d pn hz hf => (pss_one (ps_ret (pe_and (pe_cmpR op_eq (pv 0) pe_int (nomark _)) (pe_one (L2H.pe_callH GS ⟨hr.dp, hr.un⟩ (hot_suite hz hf) (by rfl) gS FS.kp bS (fun _ => pas0) (pa_cons (pe_byErr (T.err 0 (by decide)) hz.zc hf (pv 2)) (pa_cons (pv 1) pa_nil))))))))
    (Hds.named (i := 2) scKept.nd rfl rfl ⟨rfl, by decide, .inl T.g1⟩ (fun a oe cls d pn hz hf => (pss_one (ps_ret (pe_and (pe_cmpR op_eq (pv 0) pe_int (nomark _)) (pe_one (L2H.pe_callH GS ⟨hr.dp, hr.un⟩ (hot_suite hz hf) (by rfl) gS FS.kp bS (fun _ => pas0) (pa_cons (pe_byErr (T.err 1 (by decide)) hz.zc hf (pv 2)) (pa_cons (pv 1) pa_nil))))))))
    (Hds.named (i := 2) scKept.nd rfl rfl ⟨rfl, by decide, .inl T.g2⟩ (fun a oe cls d pn hz hf => (pss_one (ps_ret (pe_and (pe_cmpR op_eq (pv 0) pe_int (nomark _)) (pe_one (L2H.pe_callH GS ⟨hr.dp, hr.un⟩ (hot_suite hz hf) (by rfl) gS FS.kp bS (fun _ => pas0) (pa_cons (pe_byErr (T.err 2 (by decide)) hz.zc hf (pv 2)) (pa_cons (pv 1) pa_nil))))))))
    (Hds.named (i := 2) scKept.nd rfl rfl ⟨rfl, by decide, .inl T.g3⟩ (fun a oe cls d pn hz hf => (pss_one (ps_ret (pe_and (pe_cmpR op_eq (pv 0) pe_int (nomark _)) (pe_one (L2H.pe_callH GS ⟨hr.dp, hr.un⟩ (hot_suite hz hf) (by rfl) gS FS.kp bS (fun _ => pas0) (pa_cons (pe_byErr (T.err 3 (by decide)) hz.zc hf (pv 2)) (pa_cons (pv 1) pa_nil))))))))
    (Hds.named (i := 2) scKept.nd rfl rfl ⟨rfl, by decide, .inl T.g4⟩ (fun a oe cls d pn hz hf => (pss_one (ps_ret (pe_and (pe_cmpR op_eq (pv 0) pe_int (nomark _)) (pe_one (L2H.pe_callH GS ⟨hr.dp, hr.un⟩ (hot_suite hz hf) (by rfl) gS FS.kp bS (fun _ => pas0) (pa_cons (pe_byErr (T.err 4 (by decide)) hz.zc hf (pv 2)) (pa_cons (pv 1) pa_nil))))))))
    (Hds.named (i := 2) scKept.nd rfl rfl ⟨rfl, by decide, .inl T.g5⟩ (fun a oe cls d pn hz hf => (pss_one (ps_ret (pe_and (pe_cmpR op_eq (pv 0) pe_int (nomark _)) (pe_one (L2H.pe_callH GS ⟨hr.dp, hr.un⟩ (hot_suite hz hf) (by rfl) gS FS.kp bS (fun _ => pas0) (pa_cons (pe_byErr (T.err 5 (by decide)) hz.zc hf (pv 2)) (pa_cons (pv 1) pa_nil))))))))
    (Hds.named (i := 2) scKept.nd rfl rfl ⟨rfl, by decide, .inl T.g6⟩ (fun a oe cls d pn hz hf => (pss_one (ps_ret (pe_and (pe_cmpR op_eq (pv 0) pe_int (nomark _)) (pe_one (L2H.pe_callH GS ⟨hr.dp, hr.un⟩ (hot_suite hz hf) (by rfl) gS FS.kp bS (fun _ => pas0) (pa_cons (pe_byErr (T.err 6 (by decide)) hz.zc hf (pv 2)) (pa_cons (pv 1) pa_nil))))))))
    Hds.nil)))))))) (pss_one (ps_ret pe_bl))), ?_⟩
  refine ⟨_, rfl, _, rfl, j, v, rfl, hj, fun d hd => ?_⟩
  have sm : Same H (upd H d (.xd [(nm j, v)])) := same_new hd _
  refine ⟨_, T.exm 0 j (by decide) hj, fun c a ha => ?_, fun c0 => ?_⟩
  · obtain rfl : 0 = j := of_decide_eq_true c
    exact ⟨_, rfl, rfl, _, rfl, ifT (decide_eq_true rfl) ⟨_, rfl, rfl, rfl, d, v, rfl, upd_same, _, rfl, v, rfl, hv.same sm, fun H' s' => q H' (sm.trans s')⟩⟩
  refine ⟨_, T.exm 1 j (by decide) hj, fun c a ha => ?_, fun c1 => ?_⟩
  · obtain rfl : 1 = j := of_decide_eq_true c
    exact ⟨_, rfl, rfl, _, rfl, ifT (decide_eq_true rfl) ⟨_, rfl, rfl, rfl, d, v, rfl, upd_same, _, rfl, v, rfl, hv.same sm, fun H' s' => q H' (sm.trans s')⟩⟩
  refine ⟨_, T.exm 2 j (by decide) hj, fun c a ha => ?_, fun c2 => ?_⟩
  · obtain rfl : 2 = j := of_decide_eq_true c
    exact ⟨_, rfl, rfl, _, rfl, ifT (decide_eq_true rfl) ⟨_, rfl, rfl, rfl, d, v, rfl, upd_same, _, rfl, v, rfl, hv.same sm, fun H' s' => q H' (sm.trans s')⟩⟩
  refine ⟨_, T.exm 3 j (by decide) hj, fun c a ha => ?_, fun c3 => ?_⟩
  · obtain rfl : 3 = j := of_decide_eq_true c
    exact ⟨_, rfl, rfl, _, rfl, ifT (decide_eq_true rfl) ⟨_, rfl, rfl, rfl, d, v, rfl, upd_same, _, rfl, v, rfl, hv.same sm, fun H' s' => q H' (sm.trans s')⟩⟩
  refine ⟨_, T.exm 4 j (by decide) hj, fun c a ha => ?_, fun c4 => ?_⟩
  · obtain rfl : 4 = j := of_decide_eq_true c
    exact ⟨_, rfl, rfl, _, rfl, ifT (decide_eq_true rfl) ⟨_, rfl, rfl, rfl, d, v, rfl, upd_same, _, rfl, v, rfl, hv.same sm, fun H' s' => q H' (sm.trans s')⟩⟩
  refine ⟨_, T.exm 5 j (by decide) hj, fun c a ha => ?_, fun c5 => ?_⟩
  · obtain rfl : 5 = j := of_decide_eq_true c
    exact ⟨_, rfl, rfl, _, rfl, ifT (decide_eq_true rfl) ⟨_, rfl, rfl, rfl, d, v, rfl, upd_same, _, rfl, v, rfl, hv.same sm, fun H' s' => q H' (sm.trans s')⟩⟩
  refine ⟨_, T.exm 6 j (by decide) hj, fun c a ha => ?_, fun c6 => ?_⟩
  · obtain rfl : 6 = j := of_decide_eq_true c
    exact ⟨_, rfl, rfl, _, rfl, ifT (decide_eq_true rfl) ⟨_, rfl, rfl, rfl, d, v, rfl, upd_same, _, rfl, v, rfl, hv.same sm, fun H' s' => q H' (sm.trans s')⟩⟩
  have n := fun i (h : decide (i = j) = false) => of_decide_eq_false h
  have := n 0 c0; have := n 1 c1; have := n 2 c2; have := n 3 c3; have := n 4 c4; have := n 5 c5; have := n 6 c6
  omega
end
end My

namespace My
open PySem PySem.Spec PyProof.Rows L2
section
variable {P : Program} {w : World} {K : PySem.W.Frag} {mg : Str → Option Value} {base : Heap} {f fR fS : Addr} {fd fdR fdS : FuncData} {C fI : Nat → Addr} {LE : Addr}
theorem scClasses : FnScope ["kind", "given", "e", "found", "k"] ["kind", "given"] (defScope sClasses) := ⟨rfl, rfl, rfl, by decide +kernel, rfl, by decide +kernel, by decide +kernel⟩
def bsK (j n : Nat) : List Bool := (List.range n).map fun i => decide (i = j)
theorem dp_bools {H : Hp} : ∀ bs : List Bool, DpAll K H (bs.map V.bl) (bs.map PyData.bool)
  | [] => .nil
  | b :: r => .cons (.bl b) (dp_bools r)
theorem bs_eq {j : Nat} (h : j < 7) : PyData.eqv (.list ([decide (0 = j), decide (1 = j), decide (2 = j), decide (3 = j), decide (4 = j), decide (5 = j), decide (6 = j)].map PyData.bool)) (.list ((bsK j 7).map PyData.bool)) = true := by
  match j, h with
  | 0, _ => decide +kernel
  | 1, _ => decide +kernel
  | 2, _ => decide +kernel
  | 3, _ => decide +kernel
  | 4, _ => decide +kernel
  | 5, _ => decide +kernel
  | 6, _ => decide +kernel
def spKind1 : Sp := fun vs H Q _ => ∃ (j : Nat) (v : V), vs = [.int j, v] ∧ j < 7 ∧ ∀ H', Same H H' → Q (.bl true) H'
theorem ok_classes (F : FnP K "_law_classes" sClasses f fd) (B : Bj mg) (T : Tx K mg C fI LE) (FR : FnP K "_law_raise" sRaise fR fdR) (gR : mg "_law_raise" = some (.ref fR)) :
    FnOk P w K mg base CX0 4 f fd ["kind", "given"] spKind1 := by
  have GR : FnOk P w K mg base (L2N.CX P w) 3 fR fdR ["kind", "given"] (spRaise C) := ok_raise FR T
  have bR : Binds K fdR ["kind", "given"] [] := FR.bindsN fun _ _ _ _ _ _ us hl => match us, hl with | [_, _], _ => rfl
  refine F.ok scClasses (fun vs H Q E h => ?_) (fun cdv A outer s H vs Q E hr h => ?_)
  · obtain ⟨j, v, rfl, _⟩ := h
    rfl
  obtain ⟨j, v, rfl, hj, q⟩ := h
  refine ⟨_, PSs.nox (pss_cons (ps_try_hds rfl rfl takesF (fun W pn xe tk _ => (pss_one (ps_expr (pe_callS GR hr (by rfl) gR FR.kp bR (fun σ => L2N.passAt tk σ) (pa_cons (pv 0) (pa_cons (pv 1) pa_nil))))))
   (Hds.named (i := 2) scClasses.nd rfl rfl ⟨rfl, by decide, .inl T.gL⟩ (fun a oe cls d pn hz hf => (pss_cons (ps_set (i := 3) scClasses.nd rfl (Or.inl rfl) (pe_lst (pa_cons (pe_callB (show CallR _ _ (rIsD K a cls d) from call_isD hz.zc hf) (by rfl) B.isinstance (by decide +kernel) (pa_cons (pv 2) (pa_cons (pe_glob (v := .ref (C 0)) (by rfl) T.g0 rfl) pa_nil))) (pa_cons (pe_callB (show CallR _ _ (rIsD K a cls d) from call_isD hz.zc hf) (by rfl) B.isinstance (by decide +kernel) (pa_cons (pv 2) (pa_cons (pe_glob (v := .ref (C 1)) (by rfl) T.g1 rfl) pa_nil))) (pa_cons (pe_callB (show CallR _ _ (rIsD K a cls d) from call_isD hz.zc hf) (by rfl) B.isinstance (by decide +kernel) (pa_cons (pv 2) (pa_cons (pe_glob (v := .ref (C 2)) (by rfl) T.g2 rfl) pa_nil))) (pa_cons (pe_callB (show CallR _ _ (rIsD K a cls d) from call_isD hz.zc hf) (by rfl) B.isinstance (by decide +kernel) (pa_cons (pv 2) (pa_cons (pe_glob (v := .ref (C 3)) (by rfl) T.g3 rfl) pa_nil))) pa_nil))))))
    (pss_cons (ps_set (i := 3) scClasses.nd rfl (Or.inl rfl) (pe_op op_cat (pv 3) (pe_lst (pa_cons (pe_callB (show CallR _ _ (rIsD K a cls d) from call_isD hz.zc hf) (by rfl) B.isinstance (by decide +kernel) (pa_cons (pv 2) (pa_cons (pe_glob (v := .ref (C 4)) (by rfl) T.g4 rfl) pa_nil))) (pa_cons (pe_callB (show CallR _ _ (rIsD K a cls d) from call_isD hz.zc hf) (by rfl) B.isinstance (by decide +kernel) (pa_cons (pv 2) (pa_cons (pe_glob (v := .ref (C 5)) (by rfl) T.g5 rfl) pa_nil))) (pa_cons (pe_callB (show CallR _ _ (rIsD K a cls d) from call_isD hz.zc hf) (by rfl) B.isinstance (by decide +kernel) (pa_cons (pv 2) (pa_cons (pe_glob (v := .ref (C 6)) (by rfl) T.g6 rfl) pa_nil))) pa_nil))))))
    (pss_cons (ps_if (pt_val (pe_callB (show CallR _ _ (rIsDT K a cls d) from call_isDT hz.zc hf) (by rfl) B.isinstance (by decide +kernel) (pa_cons (pv 2) (pa_cons (pe_tup (pa_cons (pe_bltn (v := .ty "ValueError") (by rfl) B.ValueError (by decide +kernel) rfl) (pa_cons (pe_bltn (v := .ty "LookupError") (by rfl) B.LookupError (by decide +kernel) rfl) (pa_cons (pe_bltn (v := .ty "ArithmeticError") (by rfl) B.ArithmeticError (by decide +kernel) rfl) pa_nil)))) pa_nil)))) (pss_one (ps_ret pe_bl)) pss_nil)
    (pss_one (ps_ret (pe_cmpR (show OpR _ (compareOp .Eq) (rEqD K) from op_eqD hr.units) (pv 3) (pe_lcH (own := [("k", 4)]) (g := gName 4) (tt := tYes) (hot_suite hz hf) scClasses.nd (L2H.pi_range1H (by rfl) B.range (pa_cons pe_int pa_nil)) (blkOk_by (own := [("k", 4)]) (N := ["kind", "given", "e", "found", "k"]) (sc := defScope sClasses) (by decide +kernel)) (fun _ _ _ _ _ => pg_name (i := 4) scClasses.nd rfl (Or.inl rfl)) (fun _ _ _ _ _ => pts_nil) (fun _ _ _ _ _ => (pe_cmpR op_eq (pv 4) (pv 0) (nomark _)))) (nomark _))))))))
    Hds.nil)) (pss_one (ps_ret pe_bl))), ?_⟩
  refine ⟨_, rfl, _, rfl, j, v, rfl, hj, fun d hd => ?_⟩
  have sm : Same H (upd H d (.xd [(nm j, v)])) := same_new hd _
  refine ⟨_, T.exl j hj, fun _ a ha => ?_, fun c => nomatch c⟩
  have isd : ∀ (i : Nat) (σ : L2.St) (H1 : Hp) (Q1 : VK), i < 7 → σ[2]? = some (some (.ref a)) → H1 d = some (.xd [(nm j, v)]) → Q1 (.bl (decide (i = j))) H1 → tCB (rIsD K a (.ref (C j)) (some d)) (tCons (tVar 2) (tCons (tC (.ref (C i))) tNil)) σ H1 Q1 :=
    fun i σ H1 Q1 hi hs he hq => ⟨_, hs, C j, .ref (C i), .ref (C i), _, d, _, rfl, T.exC j hj, rfl, .own _, T.kit i j hi hj, rfl, he, hq⟩
  refine isd 0 _ _ _ (by decide) rfl upd_same (isd 1 _ _ _ (by decide) rfl upd_same (isd 2 _ _ _ (by decide) rfl upd_same (isd 3 _ _ _ (by decide) rfl upd_same ⟨by show 4 ≤ sizeLine; decide, fun p1 hp1 => ?_⟩)))
  have d1 : d ≠ p1 := ne_of_none upd_same hp1
  refine ⟨_, rfl, isd 4 _ _ _ (by decide) rfl (by rw [upd_ne d1]; exact upd_same) (isd 5 _ _ _ (by decide) rfl (by rw [upd_ne d1]; exact upd_same) (isd 6 _ _ _ (by decide) rfl (by rw [upd_ne d1]; exact upd_same) ⟨by show 3 ≤ sizeLine; decide, fun p2 hp2 => ?_⟩))⟩
  have d2 : d ≠ p2 := ne_of_none (by rw [upd_ne d1]; exact upd_same) hp2
  have p12 : p1 ≠ p2 := ne_of_none upd_same hp2
  refine ⟨p1, p2, _, _, rfl, rfl, by rw [upd_ne p12]; exact upd_same, upd_same, by show 7 ≤ sizeLine; decide, fun p3 hp3 => ?_⟩
  have d3 : d ≠ p3 := ne_of_none (by rw [upd_ne d2, upd_ne d1]; exact upd_same) hp3
  refine ⟨_, rfl, by show 3 ≤ sizeLine; decide, fun p4 hp4 => ?_⟩
  have d4 : d ≠ p4 := ne_of_none (by rw [upd_ne d3, upd_ne d2, upd_ne d1]; exact upd_same) hp4
  have p34 : p3 ≠ p4 := ne_of_none upd_same hp4
  refine ⟨C j, p4, _, _, false, d, _, rfl, T.exC j hj, rfl, upd_same, .cons (.ty _) (.cons (.ty _) (.cons (.ty _) .nil)), T.kitV j hj, rfl, by rw [upd_ne d4, upd_ne d3, upd_ne d2, upd_ne d1]; exact upd_same, false, rfl, iteF ?_⟩
  have sm4 := ((((sm.trans (same_new hp1 _)).trans (same_new hp2 _)).trans (same_new hp3 _)).trans (same_new hp4 (.tup [.ty "ValueError", .ty "LookupError", .ty "ArithmeticError"])))
  refine ⟨_, rfl, 7, rfl, by decide, by decide, fun D hD => ?_⟩
  have p3D : p3 ≠ D := ne_of_none (by rw [upd_ne p34]; exact upd_same) hD
  refine lc_range (lo := 0) (n := 7) (fun i H' => Same H H' ∧ H' p3 = some (.lst ([decide (0 = j), decide (1 = j), decide (2 = j), decide (3 = j), decide (4 = j), decide (5 = j), decide (6 = j)].map V.bl)) ∧ H' D = some (.lst ((bsK j i).map V.bl))) ⟨sm4.trans (same_new hD _), by rw [upd_ne p3D, upd_ne p34]; exact upd_same, upd_same⟩ (fun i H' hi ⟨s1, e3, e1⟩ => ?_) (fun H' ⟨s1, e3, e1⟩ => ?_)
  · refine ⟨rfl, ?_⟩
    delta tYes
    dsimp only
    rw [if_pos rfl]
    refine ⟨_, rfl, _, rfl, rfl, _, e1, ?_, ?_, ?_, ?_⟩
    · rw [List.length_map, bsK, List.length_map, List.length_range]
      exact small1000 (by omega)
    · intro b o h
      rw [upd_ne (ne_of_none (sm4 _ _ h) hD)]
      exact s1 _ _ h
    · rw [upd_ne p3D]
      exact e3
    · rw [upd_same]
      have z : V.bl (decide (V.int (0 + (i : Int)) = V.int (j : Int))) = V.bl (decide (i = j)) := by
        congr 1
        rw [decide_eq_decide]
        constructor
        · intro h
          have := V.int.inj h
          omega
        · intro h
          rw [h, Int.zero_add]
      rw [z, bsK, bsK, List.range_succ, List.map_append, List.map_append]
      rfl
  · refine ⟨_, _, .lst (SqL.of e3) (dp_bools _), .lst (SqL.of e1) (dp_bools _), rfl, ?_, ?_⟩
    · show SeqAt.shaped (.list ((bsK j 7).map PyData.bool)) = true
      rfl
    · rw [bs_eq hj]
      exact q H' s1
end
end My

namespace My
open PySem PySem.Spec PyProof.Rows L2
def del (a : Addr) (H : Hp) : Hp := fun b => if b = a then none else H b
theorem del_at {a b : Addr} {H : Hp} {o : HO} (h : H b = some o) (n : b ≠ a) : del a H b = some o := by
  unfold del
  rw [if_neg n]
  exact h
theorem del_same {a : Addr} {H H' : Hp} (k : But a H H') : Same (del a H) H' := fun b o h => by
  unfold del at h
  split at h
  · cases h
  · rename_i n
    exact k b o h n
theorem FlowAt.neq {H : Hp} {a b : Addr} (h : FlowAt H a) (n : H b = none) : b ≠ a := fun e => by
  obtain ⟨l, ns, i, x, c, m, o, h1, _⟩ := h
  rw [e, h1] at n
  cases n
section
variable {P : Program} {w : World} {K : PySem.W.Frag} {mg : Str → Option Value} {base : Heap} {f fL fD fP : Addr} {fd fdL fdD fdP : FuncData}
theorem small400 {n : Int} (h : n.natAbs < 2 ^ 100) : n.natAbs < 2 ^ 400 := Nat.lt_of_lt_of_le h (Nat.pow_le_pow_right (by decide) (by decide))
theorem scGiven : FnScope ["flow", "kind", "number", "things"] ["flow", "kind"] (defScope sGiven) := ⟨rfl, rfl, rfl, by decide +kernel, rfl, by decide +kernel, by decide +kernel⟩
def spGiven : Sp := fun vs H Q _ => ∃ (a : Addr) (j : Nat), vs = [.ref a, .int j] ∧ FlowAt H a ∧ ∀ H' v, FlowAt H' a → But a H H' → RpN H' 2 v → Q v H'
theorem ok_given (F : FnP K "_law_given" sGiven f fd) (B : Bj mg) (FL : FnP K "_law_load" sLoad fL fdL) (gL : mg "_law_load" = some (.ref fL)) (FD : FnP K "_law_draw" sDraw fD fdD) (gD : mg "_law_draw" = some (.ref fD)) (FP : FnP K "_law_pick" sPick fP fdP) (gP : mg "_law_pick" = some (.ref fP)) :
    FnOk P w K mg base CX0 4 f fd ["flow", "kind"] spGiven := by
  have GD : FnOk P w K mg base CX0 2 fD fdD ["flow", "many"] spDraw := ok_draw FD B.toBi FL gL
  have bD : Binds K fdD ["flow", "many"] [] := FD.bindsN fun _ _ _ _ _ _ us hl => match us, hl with | [_, _], _ => rfl
  have GP : FnOk P w K mg base CX0 3 fP fdP ["flow", "things"] (spPick K) := ok_pick FP B.toBi FL gL FD gD
  have bP : Binds K fdP ["flow", "things"] [] := FP.bindsN fun _ _ _ _ _ _ us hl => match us, hl with | [_, _], _ => rfl
  refine F.ok scGiven (fun vs H Q E h => ?_) (fun cdv A outer s H vs Q E hr h => ?_)
  · obtain ⟨a, j, rfl, _⟩ := h
    rfl
  obtain ⟨a, j, rfl, hf, q⟩ := h
  refine ⟨_, PSs.nox ((pss_cons (ps_set (i := 2) scGiven.nd rfl (Or.inl rfl) (pe_call GP (hr.mono (by decide)) (by rfl) gP FP.kp bP .nil pass0 (pa_cons (pv 0) (pa_cons (pe_lst (pa_cons pe_int (pa_cons pe_int (pa_cons (pe_un un_neg pe_int) (pa_cons (pe_call GD (hr.mono (by decide)) (by rfl) gD FD.kp bD .nil pass0 (pa_cons (pv 0) (pa_cons pe_int pa_nil))) (pa_cons (pe_call GD (hr.mono (by decide)) (by rfl) gD FD.kp bD .nil pass0 (pa_cons (pv 0) (pa_cons (pe_op op_pow pe_int pe_int) pa_nil))) (pa_cons (pe_op op_sub pe_int (pe_call GD (hr.mono (by decide)) (by rfl) gD FD.kp bD .nil pass0 (pa_cons (pv 0) (pa_cons (pe_op op_pow pe_int pe_int) pa_nil)))) pa_nil))))))) pa_nil))))
    (pss_cons (ps_if (PW.pt (pw_or (pt_cmpR op_eq (pv 1) pe_int (nomark _)) (pw_or1 (pt_cmpR op_eq (pv 1) pe_int (nomark _))))) (pss_cons (ps_set (i := 3) scGiven.nd rfl (Or.inl rfl) (pe_lst (pa_cons (pv 2) (pa_cons pe_non (pa_cons pe_str (pa_cons pe_str (pa_cons (pe_tup pa_nil) (pa_cons (pe_tup (pa_cons (pv 2) (pa_cons pe_str pa_nil))) (pa_cons (pe_lst (pa_cons (pv 2) pa_nil)) (pa_cons (pe_lst pa_nil) (pa_cons (pe_lst (pa_cons pe_str (pa_cons (pe_tup (pa_cons pe_non pa_nil)) pa_nil))) (pa_cons pe_bl (pa_cons pe_bl pa_nil)))))))))))))
    (pss_one (ps_ret (pe_call GP (hr.mono (by decide)) (by rfl) gP FP.kp bP .nil pass0 (pa_cons (pv 0) (pa_cons (pv 3) pa_nil)))))) pss_nil)
    (pss_cons (ps_if (pt_cmpR op_gt (pv 1) pe_int (nomark _)) (pss_one (ps_ret (pe_call GP (hr.mono (by decide)) (by rfl) gP FP.kp bP .nil pass0 (pa_cons (pv 0) (pa_cons (pe_lst (pa_cons pe_str (pa_cons pe_str (pa_cons pe_str (pa_cons pe_str (pa_cons pe_str pa_nil)))))) pa_nil))))) pss_nil)
    (pss_one (ps_ret (pv 2))))))), ?_⟩
  refine ⟨_, rfl, _, rfl, _, rfl, a, 100, rfl, hf, small400 (by decide), fun H1 r1 f1 b1 _ _ => ?_⟩
  refine ⟨_, rfl, _, _, rfl, rfl, ⟨by decide, by decide, by decide⟩, a, _, rfl, f1, small400 (by decide +kernel), fun H2 r2 f2 b2 _ _ => ?_⟩
  refine ⟨_, rfl, _, _, rfl, rfl, ⟨by decide, by decide, by decide⟩, a, _, rfl, f2, small400 (by decide +kernel), fun H3 r3 f3 b3 _ _ => ?_⟩
  refine ⟨_, _, rfl, rfl, by show 6 ≤ sizeLine; decide, fun p hp => ?_⟩
  have pa := f3.neq hp
  refine ⟨a, p, _, rfl, f3.keep (same_new hp _), SqL.of upd_same, fun H' b' => SqL.of (b' _ _ upd_same pa), by show 0 < 6; decide, by show 6 < 100000; decide, fun H4 x f4 b4 hx => ?_⟩
  have bb : But a H H4 := ((b1.trans b2).trans b3).trans ((But.same (same_new hp _)).trans b4)
  obtain ⟨i, rfl⟩ : ∃ i, x = V.int i := by
    simp only [List.mem_cons, List.not_mem_nil, or_false] at hx
    rcases hx with rfl | rfl | rfl | rfl | rfl | rfl <;> exact ⟨_, rfl⟩
  clear hx
  refine ⟨_, rfl, rfl, _, rfl, ?_⟩
  refine ite2 (fun c => ?_) (fun c => ⟨_, rfl, rfl, _, rfl, ite2 (fun c2 => ?_) (fun c2 => ?_)⟩)
  rotate_left 2
  · refine ⟨_, rfl, _, _, rfl, rfl, _, rfl, ite2 (fun c3 => ?_) (fun c3 => ?_)⟩
    · refine ⟨_, rfl, by show 5 ≤ sizeLine; decide, fun p2 hp2 => ?_⟩
      have pa2 := f4.neq hp2
      refine ⟨a, p2, _, rfl, f4.keep (same_new hp2 _), SqL.of upd_same, fun H' b' => SqL.of (b' _ _ upd_same pa2), by show 0 < 5; decide, by show 5 < 100000; decide, fun H5 x f5 b5 hx => ?_⟩
      refine q H5 x f5 (bb.trans ((But.same (same_new hp2 _)).trans b5)) (RpN.atom ?_)
      simp only [List.mem_cons, List.not_mem_nil, or_false] at hx
      rcases hx with rfl | rfl | rfl | rfl | rfl <;> rfl
    · exact ⟨_, rfl, q H4 _ f4 bb (RpN.atom rfl)⟩
  · dsimp only
    rw [if_pos rfl]
    refine ⟨_, rfl, by show 0 ≤ sizeLine; decide, fun p1 h1 => ⟨_, rfl, by show 2 ≤ sizeLine; decide, fun p2 h2 => ⟨_, rfl, by show 1 ≤ sizeLine; decide, fun p3 h3 => ⟨by show 0 ≤ sizeLine; decide, fun p4 h4 => ⟨by show 1 ≤ sizeLine; decide, fun p5 h5 => ⟨by show 2 ≤ sizeLine; decide, fun p6 h6 => ⟨by show 11 ≤ sizeLine; decide, fun p7 h7 => ?_⟩⟩⟩⟩⟩⟩⟩
    have k1 := same_new h1 (.tup [])
    have k2 := same_new h2 (.tup [.int i, .str "elm"])
    have k3 := same_new h3 (.lst [.int i])
    have k4 := same_new h4 (.lst [])
    have k5 := same_new h5 (.tup [.non])
    have k6 := same_new h6 (.lst [.str "elm", .ref p5])
    have k7 := same_new h7 (.lst [.int i, .non, .str "ash", .str "", .ref p1, .ref p2, .ref p3, .ref p4, .ref p6, .bl true, .bl false])
    have a1 := f4.neq h1
    have f5 := f4.keep k1
    have a2 := f5.neq h2
    have f6 := f5.keep k2
    have a3 := f6.neq h3
    have f7 := f6.keep k3
    have a4 := f7.neq h4
    have f8 := f7.keep k4
    have a5 := f8.neq h5
    have f9 := f8.keep k5
    have a6 := f9.neq h6
    have f10 := f9.keep k6
    have a7 := f10.neq h7
    have f11 := f10.keep k7
    have e6 := k7 _ _ upd_same
    have e5 := (k6.trans k7) _ _ upd_same
    have e4 := (k5.trans (k6.trans k7)) _ _ upd_same
    have e3 := (k4.trans (k5.trans (k6.trans k7))) _ _ upd_same
    have e2 := (k3.trans (k4.trans (k5.trans (k6.trans k7)))) _ _ upd_same
    have e1 := (k2.trans (k3.trans (k4.trans (k5.trans (k6.trans k7))))) _ _ upd_same
    have kk := k1.trans (k2.trans (k3.trans (k4.trans (k5.trans (k6.trans k7)))))
    refine ⟨_, rfl, _, rfl, a, p7, _, rfl, f11, SqL.of upd_same, fun H' b' => SqL.of (b' _ _ upd_same a7), by show 0 < 11; decide, by show 11 < 100000; decide, fun H5 x f5 b5 hx => ?_⟩
    refine q H5 x f5 (bb.trans ((But.same kk).trans b5)) ?_
    have at1 : ∀ {y : V}, atom y = true → RpN H5 1 y := RpN.atom
    simp only [List.mem_cons, List.not_mem_nil, or_false] at hx
    rcases hx with rfl | rfl | rfl | rfl | rfl | rfl | rfl | rfl | rfl | rfl | rfl
    · exact RpN.atom rfl
    · exact RpN.atom rfl
    · exact RpN.atom rfl
    · exact RpN.atom rfl
    · exact .inr ⟨p1, _, rfl, .inl (b5 _ _ e1 a1), by decide, fun y hy => nomatch hy⟩
    · refine .inr ⟨p2, _, rfl, .inl (b5 _ _ e2 a2), by show 2 ≤ 1000; decide, fun y hy => RpN.atom ?_⟩
      simp only [List.mem_cons, List.not_mem_nil, or_false] at hy
      rcases hy with rfl | rfl <;> rfl
    · refine .inr ⟨p3, _, rfl, .inr (b5 _ _ e3 a3), by show 1 ≤ 1000; decide, fun y hy => RpN.atom ?_⟩
      simp only [List.mem_cons, List.not_mem_nil, or_false] at hy
      rcases hy with rfl
      rfl
    · exact .inr ⟨p4, _, rfl, .inr (b5 _ _ e4 a4), by decide, fun y hy => nomatch hy⟩
    · refine .inr ⟨p6, _, rfl, .inr (b5 _ _ e6 a6), by show 2 ≤ 1000; decide, fun y hy => ?_⟩
      simp only [List.mem_cons, List.not_mem_nil, or_false] at hy
      rcases hy with rfl | rfl
      · exact RpN.atom rfl
      · refine .inr ⟨p5, _, rfl, .inl (b5 _ _ e5 a5), by show 1 ≤ 1000; decide, fun z hz => ?_⟩
        simp only [List.mem_cons, List.not_mem_nil, or_false] at hz
        rcases hz with rfl
        rfl
    · exact RpN.atom rfl
    · exact RpN.atom rfl
  · dsimp only
    refine ⟨_, rfl, by show 0 ≤ sizeLine; decide, fun p1 h1 => ⟨_, rfl, by show 2 ≤ sizeLine; decide, fun p2 h2 => ⟨_, rfl, by show 1 ≤ sizeLine; decide, fun p3 h3 => ⟨by show 0 ≤ sizeLine; decide, fun p4 h4 => ⟨by show 1 ≤ sizeLine; decide, fun p5 h5 => ⟨by show 2 ≤ sizeLine; decide, fun p6 h6 => ⟨by show 11 ≤ sizeLine; decide, fun p7 h7 => ?_⟩⟩⟩⟩⟩⟩⟩
    have k1 := same_new h1 (.tup [])
    have k2 := same_new h2 (.tup [.int i, .str "elm"])
    have k3 := same_new h3 (.lst [.int i])
    have k4 := same_new h4 (.lst [])
    have k5 := same_new h5 (.tup [.non])
    have k6 := same_new h6 (.lst [.str "elm", .ref p5])
    have k7 := same_new h7 (.lst [.int i, .non, .str "ash", .str "", .ref p1, .ref p2, .ref p3, .ref p4, .ref p6, .bl true, .bl false])
    have a1 := f4.neq h1
    have f5 := f4.keep k1
    have a2 := f5.neq h2
    have f6 := f5.keep k2
    have a3 := f6.neq h3
    have f7 := f6.keep k3
    have a4 := f7.neq h4
    have f8 := f7.keep k4
    have a5 := f8.neq h5
    have f9 := f8.keep k5
    have a6 := f9.neq h6
    have f10 := f9.keep k6
    have a7 := f10.neq h7
    have f11 := f10.keep k7
    have e6 := k7 _ _ upd_same
    have e5 := (k6.trans k7) _ _ upd_same
    have e4 := (k5.trans (k6.trans k7)) _ _ upd_same
    have e3 := (k4.trans (k5.trans (k6.trans k7))) _ _ upd_same
    have e2 := (k3.trans (k4.trans (k5.trans (k6.trans k7)))) _ _ upd_same
    have e1 := (k2.trans (k3.trans (k4.trans (k5.trans (k6.trans k7))))) _ _ upd_same
    have kk := k1.trans (k2.trans (k3.trans (k4.trans (k5.trans (k6.trans k7)))))
    refine ⟨_, rfl, _, rfl, a, p7, _, rfl, f11, SqL.of upd_same, fun H' b' => SqL.of (b' _ _ upd_same a7), by show 0 < 11; decide, by show 11 < 100000; decide, fun H5 x f5 b5 hx => ?_⟩
    refine q H5 x f5 (bb.trans ((But.same kk).trans b5)) ?_
    have at1 : ∀ {y : V}, atom y = true → RpN H5 1 y := RpN.atom
    simp only [List.mem_cons, List.not_mem_nil, or_false] at hx
    rcases hx with rfl | rfl | rfl | rfl | rfl | rfl | rfl | rfl | rfl | rfl | rfl
    · exact RpN.atom rfl
    · exact RpN.atom rfl
    · exact RpN.atom rfl
    · exact RpN.atom rfl
    · exact .inr ⟨p1, _, rfl, .inl (b5 _ _ e1 a1), by decide, fun y hy => nomatch hy⟩
    · refine .inr ⟨p2, _, rfl, .inl (b5 _ _ e2 a2), by show 2 ≤ 1000; decide, fun y hy => RpN.atom ?_⟩
      simp only [List.mem_cons, List.not_mem_nil, or_false] at hy
      rcases hy with rfl | rfl <;> rfl
    · refine .inr ⟨p3, _, rfl, .inr (b5 _ _ e3 a3), by show 1 ≤ 1000; decide, fun y hy => RpN.atom ?_⟩
      simp only [List.mem_cons, List.not_mem_nil, or_false] at hy
      rcases hy with rfl
      rfl
    · exact .inr ⟨p4, _, rfl, .inr (b5 _ _ e4 a4), by decide, fun y hy => nomatch hy⟩
    · refine .inr ⟨p6, _, rfl, .inr (b5 _ _ e6 a6), by show 2 ≤ 1000; decide, fun y hy => ?_⟩
      simp only [List.mem_cons, List.not_mem_nil, or_false] at hy
      rcases hy with rfl | rfl
      · exact RpN.atom rfl
      · refine .inr ⟨p5, _, rfl, .inl (b5 _ _ e5 a5), by show 1 ≤ 1000; decide, fun z hz => ?_⟩
        simp only [List.mem_cons, List.not_mem_nil, or_false] at hz
        rcases hz with rfl
        rfl
    · exact RpN.atom rfl
    · exact RpN.atom rfl
end
end My

namespace My
open PySem PySem.Spec PyProof.Rows L2
theorem scLaw : FnScope ["script", "flow", "kind", "turn", "given"] ["script"] (defScope sLaw) := ⟨rfl, rfl, rfl, by decide +kernel, rfl, by decide +kernel, by decide +kernel⟩
def spLaw (K : PySem.W.Frag) : Sp := fun vs H Q _ => ∃ (a : Addr) (ns : List Int), vs = [.ref a] ∧ SqL K H a (ns.map V.int) ∧ ns.length ≤ 63 ∧ ∀ H', Q (.bl true) H'
section
variable {P : Program} {w : World} {K : PySem.W.Frag} {mg : Str → Option Value} {base : Heap} {f : Addr} {fd : FuncData} {fa : Nat → Addr} {fds : Nat → FuncData} {C fI : Nat → Addr} {LE : Addr}
theorem ok_law {fF fL fD fP fR fS fK fC fG : Addr} {dF dL dD dP dR dS dK dC dG : FuncData} (F : FnP K "law" sLaw f fd) (B : Bj mg) (T : Tx K mg C fI LE) (FF : FnP K "_law_flow" sFlow fF dF) (gF : mg "_law_flow" = some (.ref fF))
    (FL : FnP K "_law_load" sLoad fL dL) (gL : mg "_law_load" = some (.ref fL)) (FD : FnP K "_law_draw" sDraw fD dD) (gD : mg "_law_draw" = some (.ref fD)) (FP : FnP K "_law_pick" sPick fP dP) (gP : mg "_law_pick" = some (.ref fP))
    (FR : FnP K "_law_raise" sRaise fR dR) (gR : mg "_law_raise" = some (.ref fR)) (FS : FnP K "_law_same" sSame fS dS) (gS : mg "_law_same" = some (.ref fS)) (FK : FnP K "_law_kept" sKept fK dK) (gK : mg "_law_kept" = some (.ref fK))
    (FC : FnP K "_law_classes" sClasses fC dC) (gC : mg "_law_classes" = some (.ref fC)) (FG : FnP K "_law_given" sGiven fG dG) (gG : mg "_law_given" = some (.ref fG)) :
    FnOk P w K mg base CX0 5 f fd ["script"] (spLaw K) := by
  have GF : FnOk P w K mg base CX0 1 fF dF ["script"] (spFlow K) := ok_flow FF B.toBi
  have bF : Binds K dF ["script"] [] := FF.bindsN fun _ _ _ _ _ _ us hl => match us, hl with | [_], _ => rfl
  have GG : FnOk P w K mg base CX0 4 fG dG ["flow", "kind"] spGiven := ok_given FG B FL gL FD gD FP gP
  have bG : Binds K dG ["flow", "kind"] [] := FG.bindsN fun _ _ _ _ _ _ us hl => match us, hl with | [_, _], _ => rfl
  have GK : FnOk P w K mg base CX0 4 fK dK ["kind", "given"] spKind := ok_kept FK B T FR gR FS gS
  have bK : Binds K dK ["kind", "given"] [] := FK.bindsN fun _ _ _ _ _ _ us hl => match us, hl with | [_, _], _ => rfl
  have GC : FnOk P w K mg base CX0 4 fC dC ["kind", "given"] spKind1 := ok_classes FC B T FR gR
  have bC : Binds K dC ["kind", "given"] [] := FC.bindsN fun _ _ _ _ _ _ us hl => match us, hl with | [_, _], _ => rfl
  refine F.ok scLaw (fun vs H Q E h => ?_) (fun cdv A outer s H vs Q E hr h => ?_)
  · obtain ⟨a, ns, rfl, _⟩ := h
    rfl
  obtain ⟨a, ns, rfl, hS, hl, q⟩ := h
  refine ⟨_, PSs.nox ((pss_cons (ps_set (i := 1) scLaw.nd rfl (Or.inl rfl) (pe_call GF (hr.mono (by decide)) (by rfl) gF FF.kp bF .nil pass0 (pa_cons (pv 0) pa_nil)))
    (pss_cons (ps_for PassesOwn.never rfl (pi_range1 (by rfl) B.range (pa_cons pe_int pa_nil)) (pg_name (i := 2) scLaw.nd rfl (Or.inl rfl)) (pss_one (ps_for PassesOwn.never rfl (pi_range1 (by rfl) B.range (pa_cons pe_int pa_nil)) (pg_name (i := 3) scLaw.nd rfl (Or.inl rfl)) (pss_cons (ps_set (i := 4) scLaw.nd rfl (Or.inl rfl) (pe_call GG (hr.mono (by decide)) (by rfl) gG FG.kp bG .nil pass0 (pa_cons (pv 1) (pa_cons (pv 2) pa_nil))))
    (pss_one (ps_if (PW.pt (pw_or (pt_not (pt_val (pe_call GK (hr.mono (by decide)) (by rfl) gK FK.kp bK .nil pass0 (pa_cons (pv 2) (pa_cons (pv 4) pa_nil))))) (pw_or1 (pt_not (pt_val (pe_call GC (hr.mono (by decide)) (by rfl) gC FC.kp bC .nil pass0 (pa_cons (pv 2) (pa_cons (pv 4) pa_nil)))))))) (pss_one (ps_ret pe_bl)) pss_nil))))))
    (pss_one (ps_ret pe_bl))))), ?_⟩
  refine ⟨_, rfl, a, ns, rfl, hS, hl, fun H1 p hp f1 s1 => ?_⟩
  refine ⟨7, rfl, by decide, by decide, for_range (lo := 0) (n := 7) (fun i σ H' => ∃ (u v x : Option V), σ = [some (.ref a), some (.ref p), u, v, x] ∧ FlowAt H' p) ⟨none, none, none, rfl, f1⟩ ?_ ?_⟩
  · rintro i σ H' hi ⟨u, v, x, rfl, f'⟩
    refine ⟨2, rfl, by decide, by decide, for_range (lo := 0) (n := 2) (fun k σ H' => ∃ (v x : Option V), σ = [some (.ref a), some (.ref p), some (.int i), v, x] ∧ FlowAt H' p) ⟨v, x, by rw [Int.zero_add]; rfl, f'⟩ ?_ ?_⟩
    · rintro k σ H2 hk ⟨v, x, rfl, f2⟩
      refine ⟨_, rfl, _, rfl, p, i, rfl, f2, fun H3 v3 f3 b3 rp => ?_⟩
      refine ⟨_, rfl, _, rfl, i, v3, rfl, hi, rp, fun H4 s4 => ⟨true, rfl, ?_⟩⟩
      refine iteF ?_
      refine ⟨_, rfl, _, rfl, i, v3, rfl, hi, fun H5 s5 => ⟨true, rfl, ?_⟩⟩
      refine iteF ?_
      exact ⟨_, _, rfl, (f3.keep s4).keep s5⟩
    · rintro σ H2 ⟨v, x, rfl, f2⟩
      exact ⟨_, _, _, rfl, f2⟩
  · rintro σ H' ⟨u, v, x, rfl, f'⟩
    exact q H'
end
end My

namespace My
open PySem PySem.Spec PyProof.Rows L2
/-! ### what the head's heap says of the error classes -/
def clsB (K : PySem.W.Frag) (C : Addr) : Bool := match K.lookup C with
  | some ⟨.type "type", _, .cls cd, sl⟩ => (match cd.mro, sl.toList with
    | .ref C2 :: bm, [_, _, _, _, some (.builtin n), _] => decide (C2 = C) && (decide (n = "Exception.__new__") && (!cd.hasDel && (cd.hasDict && PySem.MyX.refsE bm)))
    | _, _ => false)
  | _ => false
theorem clsB_ok {K : PySem.W.Frag} {C : Addr} (q : clsB K C = true) : ∃ nm q N bs bm sn sub ab col dd k0 k1 k2 k3 k5, K.lookup C = some (excClassObj nm q C N bs bm true sn sub ab col dd k0 k1 k2 k3 k5 "Exception.__new__") ∧ PySem.MyX.refsE bm = true := by
  unfold clsB at q
  split at q
  · rename_i dd cd sl ho
    split at q
    · rename_i C2 bm k0 k1 k2 k3 n k5 hm hs
      obtain ⟨q1, q⟩ := He.ba q
      obtain ⟨q2, q⟩ := He.ba q
      obtain ⟨q3, q⟩ := He.ba q
      obtain ⟨q4, q5⟩ := He.ba q
      have e1 := of_decide_eq_true q1
      have e2 := of_decide_eq_true q2
      subst e1 e2
      obtain ⟨nm, bs, mro, ns, qn, hd, sn, sub, ab, col, del⟩ := cd
      dsimp only at hm q3 q4
      have e3 : del = false := by cases del with
        | false => rfl
        | true => cases q3
      subst hm e3 q4
      have hsl : sl = #[k0, k1, k2, k3, some (.builtin "Exception.__new__"), k5] := by
        obtain ⟨l⟩ := sl
        simp only at hs
        rw [hs]
      subst hsl
      exact ⟨nm, qn, ns, bs, bm, sn, sub, ab, col, dd, k0, k1, k2, k3, k5, ho, q5⟩
    · cases q
  · cases q
def errB (K : PySem.W.Frag) (C fI : Addr) (n : Str) : Bool := clsB K C && (He.eqO (PySem.W.findIn K (.ref C) "__setattr__") (some (some (.builtin "object.__setattr__"))) && (He.eqO (PySem.W.findIn K (.ref C) "__getattribute__") (some (some (.builtin "BaseException.__getattribute__"))) &&
  (He.eqO (PySem.W.findIn K (.ref C) "__getattr__") (some none) && (He.eqO (PySem.W.findIn K (.ref C) n) (some none) && (He.eqO (PySem.W.findIn K (.ref C) "__init__") (some (some (.ref fI))) && (decide (PySem.W.typeIn K (.ref fI) = some (.type "function")) && (PySem.W.keepIn K (.ref C) &&
  (decide (PySem.W.subIn K (.ref C) (.type "BaseException") = some true) && (decide (PySem.W.typeIn K (.ref C) = some (.type "type")) && PySem.W.hasDictIn K C)))))))))
def excB (K : PySem.W.Frag) (D : Addr) : Bool := He.eqO (PySem.W.findIn K (.ref D) "__class__") (some (some (.builtin "object.__class__"))) && (He.eqO (PySem.W.specialIn K (.builtin "object.__class__") "__get__") (some (some (.builtin "getset_descriptor.__get__"))) &&
  (decide (PySem.W.takesIn K (.builtin "object.__class__") = some true) && decide (PySem.W.mroIn K D (.type "object") = some true)))
def exNm : Nat → Str
  | 0 => "BadValue"
  | 1 => "BadGame"
  | 2 => "BadSide"
  | 3 => "BadPaper"
  | 4 => "BadLine"
  | 5 => "TooMany"
  | _ => "NothingThere"
def cA (K : PySem.W.Frag) (j : Nat) : Addr := He.ga K (exNm j)
def fA (K : PySem.W.Frag) (j : Nat) : Addr := He.ma K (cA K j) "__init__"
def pairB (K : PySem.W.Frag) (i j : Nat) : Bool := decide (PySem.W.exmOne K (.ref (cA K j)) (.ref (cA K i)) = some (decide (i = j))) && decide (PySem.W.kitOne K (.ref (cA K j)) (.ref (cA K i)) = some (decide (i = j)))
def oneB (K : PySem.W.Frag) (j : Nat) : Bool := errB K (cA K j) (fA K j) (nm j) && (excB K (cA K j) && (decide (PySem.W.exmOne K (.ref (cA K j)) (.ref (He.ga K "LeagueError")) = some true) && decide (PySem.W.kitAny K (.ref (cA K j)) [.type "ValueError", .type "LookupError", .type "ArithmeticError"] = some false)))
def ex (K : PySem.W.Frag) : Bool := ((List.range 7).all fun j => oneB K j) && ((List.range 7).all fun i => (List.range 7).all fun j => pairB K i j)
theorem errC_of {K : PySem.W.Frag} {C fI : Addr} {n : Str} (h : errB K C fI n = true) (nn : n ≠ "self" ∧ (n == ("__debug__" : Str)) = false)
    (fn : ∃ (oc : Value) (od : Option Addr) (kV doc pm : Value) (an : Option Addr) (cdv ct : Value) (osl : Array (Option Value)) (ql : Str) (p1 p2 q1 q2 q3 q4 : Pos),
      K.lookup fI = some ⟨oc, od, .func (PySem.W.fnOf "__init__" ql (PySem.MyX.iA n p1 p2) (PySem.MyX.iB n q1 q2 q3 q4) (PySem.MyX.iS n) .none kV doc pm an cdv ct), osl⟩ ∧ PySem.W.codeIn K cdv ql = true ∧
        ∀ u v : Value, bindArgs (PySem.W.fnOf "__init__" ql (PySem.MyX.iA n p1 p2) (PySem.MyX.iB n q1 q2 q3 q4) (PySem.MyX.iS n) .none kV doc pm an cdv ct) ⟨[u, v], []⟩ = pure [(PySem.Str.ofString "self", u), (n, v)]) : PySem.MyX.ErrC K C fI n := by
  unfold errB at h
  obtain ⟨c0, h⟩ := He.ba h
  obtain ⟨c1, h⟩ := He.ba h
  obtain ⟨c2, h⟩ := He.ba h
  obtain ⟨c3, h⟩ := He.ba h
  obtain ⟨c4, h⟩ := He.ba h
  obtain ⟨c5, h⟩ := He.ba h
  obtain ⟨c6, h⟩ := He.ba h
  obtain ⟨c7, h⟩ := He.ba h
  obtain ⟨c8, h⟩ := He.ba h
  obtain ⟨c9, c10⟩ := He.ba h
  exact ⟨clsB_ok c0, He.eqO_ok c1, He.eqO_ok c2, He.eqO_ok c3, He.eqO_ok c4, He.eqO_ok c5, of_decide_eq_true c6, c7, of_decide_eq_true c8, of_decide_eq_true c9, c10, nn, fn⟩
theorem excC_of {K : PySem.W.Frag} {C fI : Addr} {n : Str} (E : PySem.MyX.ErrC K C fI n) (h : excB K C = true) : ExcC K C := by
  unfold excB at h
  obtain ⟨c1, h⟩ := He.ba h
  obtain ⟨c2, h⟩ := He.ba h
  obtain ⟨c3, c4⟩ := He.ba h
  exact ⟨E.ga, E.gg, E.exC, E.hdC, He.eqO_ok c1, He.eqO_ok c2, of_decide_eq_true c3, of_decide_eq_true c4⟩
/-! ### the Hook: facts by names, and a Bool of one's own -/
def obsX (n : Nat) (fa : List He.Fa) (fn : List He.DefD) (ex : PySem.W.Frag → Bool) (g : Addr → Option Obj) : Bool × He.AlD := (ex (He.frG g (He.asD g n)), He.obsD fa fn (He.frG g (He.asD g n)))
def hookX (n : Nat) (fa : List He.Fa) (fn : List He.DefD) (ex : PySem.W.Frag → Bool) : PySem.W.Hook where
  α := Bool × He.AlD
  obs := fun s => obsX n fa fn ex s.heap.get?
  val := fun _ => (true, He.valD fn)
  says := fun _ h => ∃ K : PySem.W.Frag, K.In h ∧ ex K = true ∧ He.SaysD fa fn K
  of := fun _ _ e => ⟨_, He.frG_in, congrArg Prod.fst e, congrArg Prod.snd e⟩
  keeps := fun _ _ _ ⟨K, hK, c⟩ k => ⟨K, PySem.W.Frag.In.keeps hK k, c⟩
theorem obsX_eq {n : Nat} {fa : List He.Fa} {fn : List He.DefD} {ex : PySem.W.Frag → Bool} {g : Addr → Option Obj} {s : Shared} (h : ∀ a, g a = s.heap.get? a) : obsX n fa fn ex g = (hookX n fa fn ex).obs s := by
  have e : g = s.heap.get? := funext h
  rw [e] <;> rfl
def clsBody : Stmt → List Stmt
  | .ClassDef _ _ _ b _ _ _ _ _ _ _ => b
  | _ => []
def ini (i : Nat) : Stmt := (clsBody (top (i + 2))).getD 0 (.Pass ⟨0, 0, 0, 0⟩)
def dF : He.DefD := ⟨("_law_flow", none), "_law_flow", "_law_flow", defArgs sFlow, defBody sFlow, defScope sFlow, [], []⟩
def dL : He.DefD := ⟨("_law_load", none), "_law_load", "_law_load", defArgs sLoad, defBody sLoad, defScope sLoad, [], []⟩
def dD : He.DefD := ⟨("_law_draw", none), "_law_draw", "_law_draw", defArgs sDraw, defBody sDraw, defScope sDraw, [], []⟩
def dP : He.DefD := ⟨("_law_pick", none), "_law_pick", "_law_pick", defArgs sPick, defBody sPick, defScope sPick, [], []⟩
def dR : He.DefD := ⟨("_law_raise", none), "_law_raise", "_law_raise", defArgs sRaise, defBody sRaise, defScope sRaise, [], []⟩
def dS : He.DefD := ⟨("_law_same", none), "_law_same", "_law_same", defArgs sSame, defBody sSame, defScope sSame, [], []⟩
def dK : He.DefD := ⟨("_law_kept", none), "_law_kept", "_law_kept", defArgs sKept, defBody sKept, defScope sKept, [], []⟩
def dC : He.DefD := ⟨("_law_classes", none), "_law_classes", "_law_classes", defArgs sClasses, defBody sClasses, defScope sClasses, [], []⟩
def dG : He.DefD := ⟨("_law_given", none), "_law_given", "_law_given", defArgs sGiven, defBody sGiven, defScope sGiven, [], []⟩
def dW : He.DefD := ⟨("law", none), "law", "law", defArgs sLaw, defBody sLaw, defScope sLaw, [], []⟩
def e0 : He.DefD := ⟨("BadValue", some "__init__"), "__init__", "BadValue.__init__", defArgs (ini 0), defBody (ini 0), defScope (ini 0), [], []⟩
def e1 : He.DefD := ⟨("BadGame", some "__init__"), "__init__", "BadGame.__init__", defArgs (ini 1), defBody (ini 1), defScope (ini 1), [], []⟩
def e2 : He.DefD := ⟨("BadSide", some "__init__"), "__init__", "BadSide.__init__", defArgs (ini 2), defBody (ini 2), defScope (ini 2), [], []⟩
def e3 : He.DefD := ⟨("BadPaper", some "__init__"), "__init__", "BadPaper.__init__", defArgs (ini 3), defBody (ini 3), defScope (ini 3), [], []⟩
def e4 : He.DefD := ⟨("BadLine", some "__init__"), "__init__", "BadLine.__init__", defArgs (ini 4), defBody (ini 4), defScope (ini 4), [], []⟩
def e5 : He.DefD := ⟨("TooMany", some "__init__"), "__init__", "TooMany.__init__", defArgs (ini 5), defBody (ini 5), defScope (ini 5), [], []⟩
def e6 : He.DefD := ⟨("NothingThere", some "__init__"), "__init__", "NothingThere.__init__", defArgs (ini 6), defBody (ini 6), defScope (ini 6), [], []⟩
def fn : List He.DefD := [dF, dL, dD, dP, dR, dS, dK, dC, dG, dW, e0, e1, e2, e3, e4, e5, e6]
def fa : List He.Fa := [.glo "_law_flow", .glo "_law_load", .glo "_law_draw", .glo "_law_pick", .glo "_law_raise", .glo "_law_same", .glo "_law_kept", .glo "_law_classes", .glo "_law_given", .glo "law", .glo "BadValue", .glo "BadGame", .glo "BadSide", .glo "BadPaper", .glo "BadLine", .glo "TooMany", .glo "NothingThere", .glo "LeagueError", .free "int", .free "len", .free "list", .free "abs", .free "max", .free "range", .free "isinstance", .free "all", .free "tuple", .free "str", .free "bool", .free "ValueError", .free "LookupError", .free "ArithmeticError"]
abbrev R : PySem.W.OpenRow := PySem.W.OpenLaw.row PySem.Challenge.rw_stillmay_k00_errors
abbrev hk : PySem.W.Hook := hookX 5 fa fn ex
def ob (s : PySem.W.SharedT) : Bool × He.AlD := obsX 5 fa fn ex (HandSHeadRun.getT s)
theorem ob_eq (s : PySem.W.SharedT) : ob s = hk.obs s.abs := obsX_eq (HandSHeadRun.getT_eq s)
def loose : List Str := ["LeagueError", "BadValue", "BadGame", "BadSide", "BadPaper", "BadLine", "TooMany", "NothingThere", "_law_flow", "_law_load", "_law_draw", "_law_pick", "_law_raise", "_law_same", "_law_kept", "_law_classes", "_law_given"]
theorem run (w : World) : HandSHeadRun.RunEq R (PySem.W.view R.prog [19]) hk ob 3000 loose w := by
  intro os
  kernel_rfl
theorem errs {K : PySem.W.Frag} (x : ex K = true) (c : He.SaysD fa fn K) : ∀ j, j < 7 → PySem.MyX.ErrC K (cA K j) (fA K j) (nm j) := by
  have one : ∀ j, j < 7 → oneB K j = true := fun j hj => List.all_eq_true.mp (He.ba x).1 j (List.mem_range.mpr hj)
  obtain ⟨f0, F0⟩ := c.def_ 10 (d := e0) rfl
  obtain ⟨oc, od, dV, kV, doc, pm, an, cdv, ct, osl, _, lk, hcd, hd, _⟩ := F0.ex
  have x0 : PySem.MyX.ErrC K (cA K 0) (fA K 0) (nm 0) := by
    refine errC_of (He.ba (one 0 (by decide))).1 ⟨by decide, by decide⟩ ?_
    have ed : dV = .none := by
      rcases hd with ⟨_, e⟩ | ⟨e, _⟩
      · exact e
      · exact absurd rfl e
    subst ed
    subst_vars
    exact ⟨oc, od, kV, doc, pm, an, cdv, ct, osl, _, _, _, _, _, _, _, lk, hcd, fun _ _ => rfl⟩
  clear lk hcd hd
  obtain ⟨f1, F1⟩ := c.def_ 11 (d := e1) rfl
  obtain ⟨oc, od, dV, kV, doc, pm, an, cdv, ct, osl, _, lk, hcd, hd, _⟩ := F1.ex
  have x1 : PySem.MyX.ErrC K (cA K 1) (fA K 1) (nm 1) := by
    refine errC_of (He.ba (one 1 (by decide))).1 ⟨by decide, by decide⟩ ?_
    have ed : dV = .none := by
      rcases hd with ⟨_, e⟩ | ⟨e, _⟩
      · exact e
      · exact absurd rfl e
    subst ed
    subst_vars
    exact ⟨oc, od, kV, doc, pm, an, cdv, ct, osl, _, _, _, _, _, _, _, lk, hcd, fun _ _ => rfl⟩
  clear lk hcd hd
  obtain ⟨f2, F2⟩ := c.def_ 12 (d := e2) rfl
  obtain ⟨oc, od, dV, kV, doc, pm, an, cdv, ct, osl, _, lk, hcd, hd, _⟩ := F2.ex
  have x2 : PySem.MyX.ErrC K (cA K 2) (fA K 2) (nm 2) := by
    refine errC_of (He.ba (one 2 (by decide))).1 ⟨by decide, by decide⟩ ?_
    have ed : dV = .none := by
      rcases hd with ⟨_, e⟩ | ⟨e, _⟩
      · exact e
      · exact absurd rfl e
    subst ed
    subst_vars
    exact ⟨oc, od, kV, doc, pm, an, cdv, ct, osl, _, _, _, _, _, _, _, lk, hcd, fun _ _ => rfl⟩
  clear lk hcd hd
  obtain ⟨f3, F3⟩ := c.def_ 13 (d := e3) rfl
  obtain ⟨oc, od, dV, kV, doc, pm, an, cdv, ct, osl, _, lk, hcd, hd, _⟩ := F3.ex
  have x3 : PySem.MyX.ErrC K (cA K 3) (fA K 3) (nm 3) := by
    refine errC_of (He.ba (one 3 (by decide))).1 ⟨by decide, by decide⟩ ?_
    have ed : dV = .none := by
      rcases hd with ⟨_, e⟩ | ⟨e, _⟩
      · exact e
      · exact absurd rfl e
    subst ed
    subst_vars
    exact ⟨oc, od, kV, doc, pm, an, cdv, ct, osl, _, _, _, _, _, _, _, lk, hcd, fun _ _ => rfl⟩
  clear lk hcd hd
  obtain ⟨f4, F4⟩ := c.def_ 14 (d := e4) rfl
  obtain ⟨oc, od, dV, kV, doc, pm, an, cdv, ct, osl, _, lk, hcd, hd, _⟩ := F4.ex
  have x4 : PySem.MyX.ErrC K (cA K 4) (fA K 4) (nm 4) := by
    refine errC_of (He.ba (one 4 (by decide))).1 ⟨by decide, by decide⟩ ?_
    have ed : dV = .none := by
      rcases hd with ⟨_, e⟩ | ⟨e, _⟩
      · exact e
      · exact absurd rfl e
    subst ed
    subst_vars
    exact ⟨oc, od, kV, doc, pm, an, cdv, ct, osl, _, _, _, _, _, _, _, lk, hcd, fun _ _ => rfl⟩
  clear lk hcd hd
  obtain ⟨f5, F5⟩ := c.def_ 15 (d := e5) rfl
  obtain ⟨oc, od, dV, kV, doc, pm, an, cdv, ct, osl, _, lk, hcd, hd, _⟩ := F5.ex
  have x5 : PySem.MyX.ErrC K (cA K 5) (fA K 5) (nm 5) := by
    refine errC_of (He.ba (one 5 (by decide))).1 ⟨by decide, by decide⟩ ?_
    have ed : dV = .none := by
      rcases hd with ⟨_, e⟩ | ⟨e, _⟩
      · exact e
      · exact absurd rfl e
    subst ed
    subst_vars
    exact ⟨oc, od, kV, doc, pm, an, cdv, ct, osl, _, _, _, _, _, _, _, lk, hcd, fun _ _ => rfl⟩
  clear lk hcd hd
  obtain ⟨f6, F6⟩ := c.def_ 16 (d := e6) rfl
  obtain ⟨oc, od, dV, kV, doc, pm, an, cdv, ct, osl, _, lk, hcd, hd, _⟩ := F6.ex
  have x6 : PySem.MyX.ErrC K (cA K 6) (fA K 6) (nm 6) := by
    refine errC_of (He.ba (one 6 (by decide))).1 ⟨by decide, by decide⟩ ?_
    have ed : dV = .none := by
      rcases hd with ⟨_, e⟩ | ⟨e, _⟩
      · exact e
      · exact absurd rfl e
    subst ed
    subst_vars
    exact ⟨oc, od, kV, doc, pm, an, cdv, ct, osl, _, _, _, _, _, _, _, lk, hcd, fun _ _ => rfl⟩
  clear lk hcd hd
  intro j hj
  match j, hj with
  | 0, _ => exact x0
  | 1, _ => exact x1
  | 2, _ => exact x2
  | 3, _ => exact x3
  | 4, _ => exact x4
  | 5, _ => exact x5
  | 6, _ => exact x6
theorem tx {K : PySem.W.Frag} {h : Heap} {mg : Str → Option Value} (X : K.In h) (G : h.Ns mainGlobals mg) (x : ex K = true) (c : He.SaysD fa fn K) : Tx K mg (cA K) (fA K) (He.ga K "LeagueError") := by
  have E := errs x c
  have one : ∀ j, j < 7 → oneB K j = true := fun j hj => List.all_eq_true.mp (He.ba x).1 j (List.mem_range.mpr hj)
  have two : ∀ i j, i < 7 → j < 7 → pairB K i j = true := fun i j hi hj => List.all_eq_true.mp (List.all_eq_true.mp (He.ba x).2 i (List.mem_range.mpr hi)) j (List.mem_range.mpr hj)
  exact ⟨E, (He.glo_ok X G (c.fact 10 (f := .glo "BadValue") rfl)), (He.glo_ok X G (c.fact 11 (f := .glo "BadGame") rfl)), (He.glo_ok X G (c.fact 12 (f := .glo "BadSide") rfl)), (He.glo_ok X G (c.fact 13 (f := .glo "BadPaper") rfl)), (He.glo_ok X G (c.fact 14 (f := .glo "BadLine") rfl)), (He.glo_ok X G (c.fact 15 (f := .glo "TooMany") rfl)), (He.glo_ok X G (c.fact 16 (f := .glo "NothingThere") rfl)), (He.glo_ok X G (c.fact 17 (f := .glo "LeagueError") rfl)),
    fun i j hi hj => of_decide_eq_true (He.ba (two i j hi hj)).1, fun j hj => of_decide_eq_true (He.ba (He.ba (He.ba (one j hj)).2).2).1, fun i j hi hj => of_decide_eq_true (He.ba (two i j hi hj)).2, fun j hj => of_decide_eq_true (He.ba (He.ba (He.ba (one j hj)).2).2).2, fun j hj => excC_of (E j hj) (He.ba (He.ba (one j hj)).2).1⟩
theorem facts {P : Program} {w : World} {K : PySem.W.Frag} {h : Heap} {mg : Str → Option Value} {f : Addr} (X : K.In h) (G : h.Ns mainGlobals mg) (hfa : mg ("law" : Str) = some (.ref f)) (x : ex K = true) (c : He.SaysD fa fn K) :
    ∃ fd : FuncData, (∀ (s : Shared) (v : Value), BindsTo s fd ⟨[v], []⟩ [("script", v)]) ∧ ∀ base : Heap, K.In base → base.Ns mainGlobals mg → FnOk P w K mg base CX0 5 f fd ["script"] (spLaw K) := by
  obtain ⟨fdF, FF⟩ := c.def_ 0 (d := dF) rfl
  obtain ⟨fdL, FL⟩ := c.def_ 1 (d := dL) rfl
  obtain ⟨fdD, FD⟩ := c.def_ 2 (d := dD) rfl
  obtain ⟨fdP, FP⟩ := c.def_ 3 (d := dP) rfl
  obtain ⟨fdR, FR⟩ := c.def_ 4 (d := dR) rfl
  obtain ⟨fdS, FS⟩ := c.def_ 5 (d := dS) rfl
  obtain ⟨fdK, FK⟩ := c.def_ 6 (d := dK) rfl
  obtain ⟨fdC, FC⟩ := c.def_ 7 (d := dC) rfl
  obtain ⟨fdG, FG⟩ := c.def_ 8 (d := dG) rfl
  obtain ⟨fd, F⟩ := c.def_ 9 (d := dW) rfl
  have e := hfa.symm.trans (He.glo_ok X G (c.fact 9 (f := .glo "law") rfl))
  cases e
  have b := FunD.bindsA (ps := ["script"]) F fun _ _ _ _ _ _ us hl => match us, hl with | [_], _ => rfl
  have B : Bj mg := { int := (He.free_ok X G (c.fact 18 (f := .free "int") rfl)), len := (He.free_ok X G (c.fact 19 (f := .free "len") rfl)), list := (He.free_ok X G (c.fact 20 (f := .free "list") rfl)), abs := (He.free_ok X G (c.fact 21 (f := .free "abs") rfl)), max := (He.free_ok X G (c.fact 22 (f := .free "max") rfl)), range := (He.free_ok X G (c.fact 23 (f := .free "range") rfl)), isinstance := (He.free_ok X G (c.fact 24 (f := .free "isinstance") rfl)), all := (He.free_ok X G (c.fact 25 (f := .free "all") rfl)), tuple := (He.free_ok X G (c.fact 26 (f := .free "tuple") rfl)), str := (He.free_ok X G (c.fact 27 (f := .free "str") rfl)), bool := (He.free_ok X G (c.fact 28 (f := .free "bool") rfl)), ValueError := (He.free_ok X G (c.fact 29 (f := .free "ValueError") rfl)), LookupError := (He.free_ok X G (c.fact 30 (f := .free "LookupError") rfl)), ArithmeticError := (He.free_ok X G (c.fact 31 (f := .free "ArithmeticError") rfl)) }
  exact ⟨fd, fun s v => b s [v] rfl, fun base _ _ => ok_law F B (tx X G x c) FF (He.glo_ok X G (c.fact 0 (f := .glo "_law_flow") rfl)) FL (He.glo_ok X G (c.fact 1 (f := .glo "_law_load") rfl)) FD (He.glo_ok X G (c.fact 2 (f := .glo "_law_draw") rfl)) FP (He.glo_ok X G (c.fact 3 (f := .glo "_law_pick") rfl)) FR (He.glo_ok X G (c.fact 4 (f := .glo "_law_raise") rfl)) FS (He.glo_ok X G (c.fact 5 (f := .glo "_law_same") rfl)) FK (He.glo_ok X G (c.fact 6 (f := .glo "_law_kept") rfl)) FC (He.glo_ok X G (c.fact 7 (f := .glo "_law_classes") rfl)) FG (He.glo_ok X G (c.fact 8 (f := .glo "_law_given") rfl))⟩
end My
open PySem PySem.W PySem.Calls PyProof.Rows
theorem PySem.Challenge.cw_stillmay_k00_errors_holds : PySem.Challenge.rw_stillmay_k00_errors.Holds := by
  w_on; o_law
  refine HandSHeadRun.head_any (r := OpenLaw.row PySem.Challenge.rw_stillmay_k00_errors) (q := view (OpenLaw.row PySem.Challenge.rw_stillmay_k00_errors).prog [19]) (H := My.hk) (ob := My.ob) (M := 3000) (loose := My.loose) (d := HandSHeadRun.topDef (OpenLaw.row PySem.Challenge.rw_stillmay_k00_errors).prog 19) (kwd := []) My.ob_eq
    (by kernel_rfl) (fun s => by kernel_rfl) My.run (by kernel_rfl) (by kernel_rfl) (by kernel_rfl) (by rfl) (by first | assumption | decide +kernel) (by decide +kernel) ⟨rfl, rfl, rfl, rfl, rfl, by decide +kernel⟩ ?hw ?hc
  case hw => w_witness2
  case hc =>
    refine L2.walk_ofE (l := PySem.Challenge.rw_stillmay_k00_errors) (n := 63) (k := 5) (x := "script") (CX := L2.CX0) rfl (by decide) (by kernel_rfl) ⟨rfl, by decide, by decide⟩ ?F (fun _ _ _ _ z => z)
    intro w mg fa h Y G hmg0
    obtain ⟨K, KX, x, c⟩ := Y
    have hmg : mg ("law" : PySem.Str) = some (.ref fa) := by
      have e : (HandSHeadRun.topDef (OpenLaw.row PySem.Challenge.rw_stillmay_k00_errors).prog 19).name = ("law" : PySem.Str) := by kernel_rfl
      rw [← e]
      exact hmg0
    obtain ⟨fd, hb, hF⟩ := My.facts (P := (PySem.Challenge.rw_stillmay_k00_errors).prog) (w := w) KX G hmg x c
    exact ⟨K, fd, My.spLaw K, KX, hb, fun H a ns hl _ hS => ⟨a, ns, rfl, hS, hl, fun _ => rfl⟩, hF⟩

