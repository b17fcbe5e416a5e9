import PyProof.Rows.All
import Wide.All
import OpenK.AllK
import Wide.FinOn
import PyProof.EqAt
import PyProof.EqKinds
import PyProof.TupleCall
import KE.KExcInit
import KE.OsGo
import HandS.ForMost
import HandS.ForExc
import HandS.Wide
import HandS.IsInst
import HandS.Gcd
import HandS.TupMul
import HandS.More
import PySem.Challenge.RW_munchbehind_k02_whole_coprime_pairs
set_option Elab.async false
set_option linter.all false
set_option maxRecDepth 100000
set_option maxHeartbeats 2000000
/-! ### self.name = v on a fresh instance of an exception class of one's own over ANY built-in base (SF: the base's store facts) -/
namespace PySem
namespace OwnErr
open PySem.W PySem.Calls PyProof.Rows PySem.HandSPX Builtin Builtin.ObjectAttr
section
variable {prog : Program} {w : World} {A : Around} {R : Result → Shared → Prop} {hp : Heap} {g : Array GenState} {dr : Drawn} {tn : Nat} {os : OsState}
/-- what must be known of the class's chain: it lets a store pass, it is not empty, it ends in object -/
structure Chain (mro : List Value) : Prop where
  pass : ∀ self : Value, refuseLoop self "__setattr__" mro = pure ()
  obj : mro.contains (.type "object") = true
  some : mro.isEmpty = false
theorem chain_of {B sa ow : String} {bm : List Value} (SF : StoreFacts B bm sa ow) (ho : bm.contains (.type "object") = true) (C : Addr) : Chain (.ref C :: bm) where
  pass := fun self => by rw [refuseLoop_ref]; exact SF.passes self
  obj := by rw [List.contains_cons, ho, Bool.or_true]
  some := rfl
/-- the first attribute of such an instance: it gets a dict of its own, which is new -/
theorem first_store {K : Frag} {nm : Str} {tk : Tok} {v : Value} {x C : Addr} {fv : Array Value} {cd : ClassData} (Z : Chain cd.mro)
    (X : K.In hp) (hx : hp.get? x = some { cls := .ref C, data := .fields fv }) (hcd : clsIn K C = some cd) (hh : cd.hasDict = true) (ha : findIn K (.ref C) nm = some none)
    (fin : ∀ h' tk' dx, (∀ b o, b ≠ x → hp.get? b = some o → h'.get? b = some o) → hp.objs.size ≤ dx → dx ≠ x → h'.get? x = some { cls := .ref C, dict := some dx, data := .fields fv } →
      h'.Ns1 dx (fun y => if y = nm then some v else none) → R (.ok (.ret .none)) ⟨h', g, dr, tk', os⟩) :
    codeAny (model prog w) A (.call (.builtin "object.__setattr__") ⟨[.ref x, .str nm tk, v], []⟩) R ⟨hp, g, dr, tn, os⟩ := by
  have inst : InstAt hp x { cls := .ref C, data := .fields fv } C none := ⟨hx, rfl, rfl, trivial⟩
  have old : x < hp.objs.size := Heap.lt_size hx
  have xs : x ≠ hp.objs.size := Nat.ne_of_lt old
  have isObj : Looks (model prog w) hp (isInstance (.ref x) (.type "object")) true :=
    inst.type.andThen (looks_mroIn X (by unfold mroIn; rw [hcd, Option.bind_some, if_neg (by rw [Z.some]; decide), Z.obj]))
  have mroL : Looks (model prog w) hp (mroOf (.ref C)) cd.mro := (looks_clsIn X hcd).andThen .now
  have noTaker : Looks (model prog w) hp (storeTaker? none) none := .now
  have clsL : Looks (model prog w) hp (classData C) cd := looks_clsIn X hcd
  have S0 := F.store_object
  refine codeAny_call_builtin S0.slot.plain S0.entry
    (@check_slot (model prog w) _ _ ⟨hp, g, dr, tn, os⟩ "object.__setattr__" "object" "__setattr__" (.ref x) [.str nm tk, v] [] _ S0.kind S0.split isObj (S0.args (.ref x) (.str nm tk) v) ?_)
  rw [osa_eq, refuse_eq]
  refine wpAny_bind (wpAny_bind (inst.type.at (wpAny_bind (mroL.at ?_))))
  rw [Z.pass]
  refine wpAny_pure (wpAny_bind (inst.type.at (wpAny_bind ((looks_findIn X ha).at (wpAny_bind (noTaker.at ?_))))))
  show wpAny _ _ (storeInOwnDict (.ref x) (.ref C) (.str nm tk) nm v false) _ _ _
  obtain ⟨c1, c2, c3, c4, c5, hasD, c7, c8, c9, c10, c11⟩ := cd
  dsimp only at hh
  subst hh
  unfold storeInOwnDict ownDictForStores
  repeat (first | with_reducible refine store_in_new ?_ ?_ | with_reducible refine wpAny_loadPart_at hx ?_ | with_reducible refine clsL.at ?_ | wp_step)
  · exact ⟨_, #[], _, (Heap.get?_update_ne _ _ _ _ xs.symm).trans (Heap.get?_push_at rfl rfl), rfl, fun e he => absurd he (by simp), fun _ => rfl⟩
  · intro h' tk' ns same
    have hx1 := Heap.get?_push_of_some { cls := .type "dict", data := .dict #[] } hx
    have here : h'.get? x = some { cls := .ref C, dict := some hp.objs.size, data := .fields fv } := (same.2 x xs).trans (Heap.get?_update_self _ hx1 rfl)
    have kept : ∀ b o, b ≠ x → hp.get? b = some o → h'.get? b = some o := fun b o nb eb =>
      (same.2 b (Nat.ne_of_lt (Heap.lt_size eb))).trans ((Heap.get?_update_ne _ _ _ _ nb).trans (Heap.get?_push_of_some _ eb))
    exact fin h' tk' hp.objs.size kept (Nat.le_refl _) xs.symm here ns
end
end OwnErr
end PySem
namespace PySem
namespace InumX
open PySem.W PySem.Calls PyProof.Rows PySem.HandSPX
/-! ### the text of __init__ -/
def iA (p1 p2 : Pos) : Arguments := { posonlyargs := [], args := [{ arg := "self", annotation := none, pos := p1 }, { arg := "value", annotation := none, pos := p2 }], vararg := none, kwonlyargs := [], kw_defaults := [], kwarg := none, defaults := [] }
def iB (q1 q2 q3 q4 : Pos) : List Stmt := [.Assign [.Attribute (.Name "self" q1) "value" q2] (.Name "value" q3) q4]
def iS : Scope := { kind := .function, names := [(PySem.Str.ofString "self", .local), (PySem.Str.ofString "value", .local)], isGenerator := false, isCoroutine := false, more := [] }
/-- what the written part says of Low, at C, and of its __init__, at fI -/
structure InumTxt (K : Frag) (mg : Str → Option Value) (C fI : Addr) : Prop where
  gC : mg "InvalidNumber" = some (.ref C)
  cls : ∃ nm q N bs bm sn sub ab col dd k0 k1 k2 k3 k5, K.lookup C = some (excClassObj nm q C N bs bm true sn sub ab col dd k0 k1 k2 k3 k5 "IndexError.__new__") ∧ bm = [.type "IndexError", .type "LookupError", .type "Exception", .type "BaseException", .type "object"]
  sa : findIn K (.ref C) "__setattr__" = some (some (.builtin "object.__setattr__"))
  ga : findIn K (.ref C) "__getattribute__" = some (some (.builtin "BaseException.__getattribute__"))
  gg : findIn K (.ref C) "__getattr__" = some none
  noN : findIn K (.ref C) "value" = some none
  iC : findIn K (.ref C) "__init__" = some (some (.ref fI))
  tC : typeIn K (.ref fI) = some (.type "function")
  kC : keepIn K (.ref C) = true
  exC : subIn K (.ref C) (.type "BaseException") = some true
  tyC : typeIn K (.ref C) = some (.type "type")
  hdC : hasDictIn K C = true
  te : exmOne K (.ref C) (.ref C) = some true
  fn : ∃ (oc : Value) (od : Option Addr) (doc pm : Value) (an : Option Addr) (cdv ct : Value) (osl : Array (Option Value)) (p1 p2 q1 q2 q3 q4 : Pos),
    K.lookup fI = some ⟨oc, od, .func (fnOf "__init__" "InvalidNumber.__init__" (iA p1 p2) (iB q1 q2 q3 q4) iS .none .none doc pm an cdv ct), osl⟩ ∧ codeIn K cdv "InvalidNumber.__init__" = true
theorem one_size (v : Value) : [v].length ≤ sizeLine := by
  rw [sizeLine_eq]
  exact (by decide : 1 ≤ 16777216)
theorem kept_but {K : Frag} {h h' : Heap} {x : Addr} (X : K.In h) (hx : K.lookup x = none) (k : ∀ b o, b ≠ x → h.get? b = some o → h'.get? b = some o) : K.In h' := fun a o e =>
  k a o (fun z => by rw [z, hx] at e; cases e) (X a o e)
theorem ldC {M : Model} {s : Shared} {name : Str} {scope : Scope} {L a : Addr} {cd : Value} {m : Str → Option Value} {x : Str} {pos : Pos} {v : Value} {Q : Value → Shared → Prop} {A : Around} {E : Value → Shared → Prop} (hn : s.heap.Ns L m) (hv : m x = some v) (h : Q v s)
    (hk : scope.kind = .function := by rfl) (hl : (envOfC name scope L a cd).kindOf x = some .local := by rfl) (hd : (x == ("__debug__" : Str)) = false := by decide) :
    wpAny M A (eval (.Name x pos) (envOfC name scope L a cd)) Q E s := wpAny_Name (wpAny_loadName_local hk hl hn hv h) hd
/-- what __init__ leaves of a fresh exception at x -/
structure InitEnd (h h' : Heap) (x C dx t1 : Addr) (v : Value) : Prop where
  keep : ∀ b o, b ≠ x → h.get? b = some o → h'.get? b = some o
  obj : h'.get? x = some { cls := .ref C, dict := some dx, data := .fields #[.ref t1, .none, .none, .none, .bool false, .none] }
  dbig : h.objs.size ≤ dx
  dne : dx ≠ x
  ns : h'.Ns1 dx (fun y => if y = "value" then some v else none)
/-- a made Low -/
structure OwnMade (h h' : Heap) (e C d : Addr) (v : Value) : Prop where
  keep : ∀ b o, h.get? b = some o → h'.get? b = some o
  new : h.objs.size ≤ e
  obj : ∃ oe vs, h'.get? e = some oe ∧ oe.cls = .ref C ∧ oe.dict = some d ∧ oe.data = .fields vs ∧ vs[1]? = some .none
  dbig : h.objs.size ≤ d
  dne : d ≠ e
  ns : h'.Ns1 d (fun y => if y = "value" then some v else none)
section
variable {prog : Program} {w : World} {A : Around} {E : Value → Shared → Prop} {R : Result → Shared → Prop} {s : Shared} {K : Frag} {mg : Str → Option Value} {C fI : Addr}
theorem inum_init (T : InumTxt K mg C fI) {x t0 : Addr} {v : Value} (X : K.In s.heap) (hlim : s.heap.NoLimit) (hx : s.heap.get? x = some (excO C t0)) (hnx : K.lookup x = none) (hroom : A.depth < recursionLimit)
    (hq : ∀ h' tk dx, InitEnd s.heap h' x C dx t0 v → R (.ok (.ret .none)) { s with heap := h', toks := tk }) :
    codeAny (model prog w) A (.call (.ref fI) ⟨[.ref x, v], []⟩) R s := by
  obtain ⟨oc, od, doc, pm, an, cdv, ct, osl, p1, p2, q1, q2, q3, q4, ho, hcd⟩ := T.fn
  obtain ⟨nm, q, N, bs, bm, sn, sub, ab, col, dd, k0, k1, k2, k3, k5, hC, hbm⟩ := T.cls
  have hcl : clsIn K C = some { name := nm, bases := bs, mro := .ref C :: bm, ns := N, qualname := q, hasDict := true, slotNames := sn, subclasses := sub, abstract := ab, collection := col, hasDel := false } := by unfold clsIn; rw [hC] <;> rfl
  refine Att.call_fn (binds := [("self", .ref x), ("value", v)]) X hlim ho hcd hroom (BindsTo.of_eq (by first | rfl | with_unfolding_all rfl)) (by first | rfl | decide | with_unfolding_all rfl) (fun s₁ IC => ?_) rfl rfl rfl
  obtain ⟨h₁, tk₁, rfl⟩ := IC.toInCall.same
  have k : ∀ b o, s.heap.get? b = some o → h₁.get? b = some o := IC.toInCall.keep
  have hn := IC.toInCall.ns
  have hxL : s.heap.objs.size ≠ x := Nat.ne_of_gt (Heap.lt_size hx)
  have X₁ : K.In h₁ := X.keeps k
  have hx₁ := k _ _ hx
  -- self.by = by
  show wpAny _ _ (execs _ _) _ _ _
  refine wpAny_execs_cons (plainObj_wpAny_Assign_Attribute ?_)
  refine ldC (v := v) hn (by first | rfl | with_unfolding_all rfl | kernel_rfl) (ldC (v := .ref x) hn (by first | rfl | with_unfolding_all rfl | kernel_rfl) ?_)
  refine set_plain X₁ (ox := excO C t0) (od := none) ⟨hx₁, rfl, rfl, trivial⟩ T.sa ?_
  refine OwnErr.first_store (cd := _) (by rw [hbm]; exact OwnErr.chain_of F.store_IndexError (by decide +kernel) C) X₁ hx₁ hcl rfl T.noN (fun h₃ tk₃ dx k₃ dn dne hx₃ hn₃ => ?_)
  show wpAny _ _ (execs _ _) _ _ _
  have z : s.heap.objs.size < h₁.objs.size := hn.lt
  exact wpAny_execs_nil (hq h₃ tk₃ dx ⟨fun b o hb e => k₃ b o hb (k b o e), hx₃, Nat.le_of_lt (Nat.lt_of_lt_of_le z dn), dne, hn₃⟩)
theorem inum_made (T : InumTxt K mg C fI) {v : Value} (X : K.In s.heap) (hlim : s.heap.NoLimit) (hroom : A.depth + 1 < recursionLimit)
    (hq : ∀ h' tk e d, OwnMade s.heap h' e C d v → R (.ok (.ret (.ref e))) { s with heap := h', toks := tk }) :
    codeAny (model prog w) A (.call (.ref C) ⟨[v], []⟩) R s := by
  obtain ⟨nm, q, N, bs, bm, sn, sub, ab, col, dd, k0, k1, k2, k3, k5, hC, hbm⟩ := T.cls
  obtain ⟨hp, g, dr, tk, os⟩ := s
  have k : ∀ b o, hp.get? b = some o → ((hp.push (kdv_tup [v])).push (excO C hp.objs.size)).get? b = some o := fun b o e => Heap.get?_push_of_some _ (Heap.get?_push_of_some _ e)
  have hget : ((hp.push (kdv_tup [v])).push (excO C hp.objs.size)).get? (hp.objs.size + 1) = some (excO C hp.objs.size) := by heap_get
  have hnx : K.lookup (hp.objs.size + 1) = none := by
    cases e : K.lookup (hp.objs.size + 1) with
    | none => rfl
    | some o =>
      have z : hp.get? (hp.objs.size + 1) = some o := X _ _ e
      exact absurd (Nat.lt_of_succ_lt (Heap.lt_size z)) (Nat.lt_irrefl _)
  refine call_own F.excBase_IndexError (fun X => by rw [hbm]) (X _ _ hC) (looks_findIn X T.iC) (fun self => bind_fn X self T.tC) (one_size v) ?_
  refine inum_init (s := ⟨(hp.push (kdv_tup [v])).push (excO C hp.objs.size), g, dr, tk, os⟩) T (X.keeps k) (hlim.keeps k) hget hnx ?_ fun h' tk' dx ⟨k', hx, dn, dne, hns⟩ => ?_
  · show A.depth + 1 < recursionLimit
    exact hroom
  · have old : ∀ b o, hp.get? b = some o → h'.get? b = some o := fun b o e => k' b o (Nat.ne_of_lt (Nat.lt_succ_of_lt (Heap.lt_size e))) (k b o e)
    have z : hp.objs.size + 1 + 1 ≤ dx := by
      first
        | (simpa only [Heap.size_push] using dn)
        | exact dn
        | (have q := dn; rw [Heap.size_push, Heap.size_push] at q; exact q)
    exact ⟨rfl, hq h' tk' (hp.objs.size + 1) dx ⟨old, Nat.le_succ _, ⟨_, _, hx, rfl, rfl, rfl, rfl⟩, Nat.le_trans (Nat.le_trans (Nat.le_succ _) (Nat.le_succ _)) z, dne, hns⟩⟩
end
end InumX
end PySem
namespace L2
open PySem PySem.Spec PyProof.Rows
theorem relO_inum {v : V} {v' : Value} (r : RelV v v') (f : Str) : RelO (List.lookup f [(("value" : Str), v)]) (if f = "value" then some v' else none) := by
  by_cases hw : f = "value"
  · subst hw
    rw [if_pos rfl]
    have q : List.lookup ("value" : Str) [(("value" : Str), v)] = some v := by simp [List.lookup]
    rw [q]
    exact r
  · rw [if_neg hw]
    have qw : (f == ("value" : Str)) = false := by simpa using hw
    have q2 : List.lookup f [(("value" : Str), v)] = none := by simp [List.lookup, qw]
    rw [q2]
    trivial
section
variable {X : Cx} {C fI : Addr}
/-- Low(e) -/
def tMkInum (C : Addr) (ta : TA) : St → Hp → XK → Prop := fun σ H Q => ta σ H fun vs H1 => ∃ v, vs = [v] ∧ ∀ d, H1 d = none → Q (.ref C) (some d) (upd H1 d (.xd [(("value" : Str), v)]))
theorem pmk_inum {a : Expr} {ta : TA} {p pos : Pos} {k : Nat} (T : PySem.InumX.InumTxt X.K X.mg C fI) (hr : Room k X.A) (ha : PA X [a] ta) (hg : Gl X "InvalidNumber" := by rfl)
    (he : starEach (a :: []) X.env = (false, eval a X.env) :: starEach [] X.env := by rfl) (hpl : (backTo pos (starEach [] X.env)).any (·.1) = false := by rfl) :
    PMk X (.Call (.Name "InvalidNumber" p) [a] [] pos) (tMkInum C ta) := by
  intro pins s σ H Q I h
  refine wpAny_Call_Name_kw (ld_glob I hg T.gC ?_)
  refine PySem.W.callWith_K (h₀ := X.base) I.ok.mod.kin T.kC (thn (ha.run pos pins s σ H _ I h) fun us s1 hh => ?_) he hpl
  obtain ⟨vs, H1, I1, r1, v, ev, q1⟩ := hh
  subst ev
  refine ⟨I1.kIn, ?_⟩
  cases r1 with
  | cons rv rn =>
    rename_i v' us'
    cases rn
    show wpAny _ _ (call (.ref C) [v']) _ _ _
    have hlim := I1.nolimit
    obtain ⟨hp, g, dr, tk, os⟩ := s1
    refine wpAny_call (PySem.InumX.inum_made T I1.kIn hlim (by have := hr.dp; omega) fun h' tk' e d M => ?_)
    show MkP X pins σ Q (.ref e) ⟨h', g, dr, tk', os⟩
    obtain ⟨oe, fv, hoe, hc, hd, hdat, h1⟩ := M.obj
    have hns := M.ns
    obtain ⟨G', g1, g2⟩ := restrict h' fun b => decide (b ≠ e)
    have gk : ∀ b, b ≠ e → G'.get? b = h'.get? b := fun b hb => g1 b (decide_eq_true hb)
    have ge : G'.get? e = none := g2 e (by simp)
    have old : ∀ b o, hp.get? b = some o → G'.get? b = some o := fun b o q => (gk b (Nat.ne_of_lt (Nat.lt_of_lt_of_le (Heap.lt_size q) M.new))).trans (M.keep b o q)
    have ob : ObjOk X.prog X.w (upd H1 d (.xd [(("value" : Str), v)])) G' d (.xd [(("value" : Str), v)]) :=
      ⟨_, hns.at (fun o q => (gk d M.dne).trans q), fun f => relO_inum rv f⟩
    have J : Inv X pins σ (upd H1 d (.xd [(("value" : Str), v)])) ⟨G', g, dr, tk', os⟩ := I1.laid (t' := tk') old M.dbig ob
    refine ⟨e, oe, fv, ⟨G', g, dr, tk', os⟩, _, .ref C, some d, rfl, J, fun b o q => ?_, ge, hoe, ⟨hc, hd⟩, hdat, h1, ?_, rfl, I1.bare, raises_own T.exC T.tyC, q1 d (I1.hok.fresh M.dbig)⟩
    · by_cases hb : b = e
      · have q' : G'.get? b = some o := q
        rw [hb, ge] at q'; cases q'
      · exact (gk b hb).symm.trans q
    · rw [upd_ne (Ne.symm M.dne)]
      exact I1.hok.fresh M.new
/-- raise Low(e) -/
def tRaiseInum (C : Addr) (W : WX) (ta : TA) : TS := fun _ σ H => tMkInum C ta σ H fun cls d H' => W cls d σ H'
theorem ps_raiseInum {a : Expr} {ta : TA} {W : WX} {p pos pos2 : Pos} {k : Nat} (hc : X.calm = true) (T : PySem.InumX.InumTxt X.K X.mg C fI) (hr : Room k X.A) (tk : Takes X W) (ha : PA X [a] ta) (hg : Gl X "InvalidNumber" := by rfl)
    (he : starEach (a :: []) X.env = (false, eval a X.env) :: starEach [] X.env := by rfl) (hpl : (backTo pos (starEach [] X.env)).any (·.1) = false := by rfl) :
    PS X (.Raise (some (.Call (.Name "InvalidNumber" p) [a] [] pos)) none pos2) (tRaiseInum C W ta) := ps_raise hc tk (pmk_inum T hr ha hg he hpl)
/-- low.by, low the exception that the suite holds (at a; its class cls, its dict d) -/
def tByInum (C : Addr) (a : Addr) (cls : Value) (d : Option Addr) (te : TE) : TE := fun σ H Q => te σ H fun x H1 => x = .ref a ∧ cls = .ref C ∧ ∃ (dd : Addr) (v : V), d = some dd ∧ H1 dd = some (.xd [(("value" : Str), v)]) ∧ Q v H1
theorem pe_byInum {a : Addr} {oe : Obj} {cls : Value} {d : Option Addr} {pn : List (Addr × Obj)} {e : Expr} {te : TE} {pos : Pos} (T : PySem.InumX.InumTxt X.K X.mg C fI) (hz : Zc cls d oe) (hf : ∃ vs, oe.data = .fields vs) (he : PE (X.suite a ((a, oe) :: pn)) e te)
    (hb : attributeBase e "value" X.env (eval e X.env) = eval e X.env := by rfl) :
    PE (X.suite a ((a, oe) :: pn)) (.Attribute e "value" pos) (tByInum C a cls d te) := by
  refine ⟨fun pins s σ H Q I h => ?_⟩
  refine attr_of hb (thn (he.run pins s σ H _ I h) fun u s1 hh => ?_)
  obtain ⟨x, H1, I1, rx, ex, ec, dd, v, ed, ea, q⟩ := hh
  subst ex
  obtain rfl : u = Value.ref a := rx
  subst ec
  subst ed
  obtain ⟨ha, _⟩ := I1.pin (a, oe) (List.mem_append_left _ List.mem_cons_self)
  obtain ⟨vs, hd⟩ := hf
  have hx : ObjOk X.prog X.w H1 s1.heap dd (.xd [(("value" : Str), v)]) := I1.hok dd _ ea
  obtain ⟨mA, hns, hr⟩ := hx
  obtain ⟨od, ho, hl⟩ := lookIn_ns hns
  have l : List.lookup ("value" : Str) [(("value" : Str), v)] = some v := by simp [List.lookup]
  obtain ⟨u, hu, ru⟩ := RelO.some_of (v := v) (o := mA "value") (by rw [← l]; exact hr "value")
  have J : PySem.W.InstAt s1.heap a oe C (some od) := ⟨ha, hz.1, by unfold PySem.W.notCls; rw [hd] <;> rfl, by rw [hz.2]; exact ho⟩
  exact HandSPX.exc_get I1.kIn J T.ga T.gg T.exC (PySem.W.findObj_own T.hdC T.noN rfl (by rw [hl, hu])) (handed_of ru) ⟨v, H1, I1.tok _, ru, q⟩
end
end L2

namespace L2
open PySem PySem.Spec PyProof.Rows
/-- an if whose test is known -/
theorem if_true_of {c : Bool} {A B : Prop} (hc : c = true) (h : A) : if c = true then A else B := by
  rw [if_pos hc]
  exact h
theorem if_false_of {c : Bool} {A B : Prop} (hc : c = false) (h : B) : if c = true then A else B := by
  rw [hc, if_neg Bool.false_ne_true]
  exact h
end L2

/-! ### the dice: the law's own drawn numbers -/
namespace Pr
open PySem PySem.Spec PyProof.Rows L2
/-- all that was tracked, but the object at d, is as it was -/
def Kp (d : Addr) (H H' : Hp) : Prop := ∀ b o, b ≠ d → H b = some o → H' b = some o
theorem Kp.refl (d : Addr) (H : Hp) : Kp d H H := fun _ _ _ h => h
theorem Kp.trans {d : Addr} {H H1 H2 : Hp} (a : Kp d H H1) (b : Kp d H1 H2) : Kp d H H2 := fun c o n h => b c o n (a c o n h)
theorem Kp.upd {d : Addr} {H : Hp} {o : HO} : Kp d H (upd H d o) := fun b u n h => by rw [upd_ne n]; exact h
theorem Kp.new {d p : Addr} {H : Hp} {o : HO} (n : H p = none) : Kp d H (L2.upd H p o) := fun b u _ h => by rw [upd_ne (ne_of_none h n)]; exact h
theorem Kp.same {d : Addr} {H H' : Hp} (s : Same H H') : Kp d H H' := fun b o _ h => s b o h
theorem Same.new {p : Addr} {H : Hp} {o : HO} (n : H p = none) : Same H (L2.upd H p o) := fun b u h => by rw [upd_ne (ne_of_none h n)]; exact h
/-- d is new and then written -/
theorem Kp.over {d : Addr} {H H1 H2 : Hp} (n : H d = none) (s : Same H H1) (k : Kp d H1 H2) : Same H H2 := fun b o h => k b o (ne_of_none h n) (s b o h)
theorem Kp.seq {K : PySem.W.Frag} {d a : Addr} {H H' : Hp} {xs : List V} (k : Kp d H H') (n : a ≠ d) (h : SqL K H a xs) : SqL K H' a xs := by
  rcases h with (h | ⟨o, h⟩) | h
  · exact .inl (.inl (k _ _ n h))
  · exact .inl (.inr ⟨o, k _ _ n h⟩)
  · exact .inr h
/-- the dice that stand at d: what is left of the cell's number, the seed, the number of draws (at most n) -/
structure Dice (H : Hp) (d : Addr) (n : Nat) : Prop where
  at_ : ∃ x y c : Int, H d = some (.lst [.int x, .int y, .int c]) ∧ 0 ≤ x ∧ x < 2 ^ 400 ∧ 0 ≤ y ∧ y < 2 ^ 40 ∧ 0 ≤ c ∧ c ≤ n
  few : n ≤ 1000000
theorem Dice.kept {H H' : Hp} {d : Addr} {n : Nat} (D : Dice H d n) (s : ∀ o, H d = some o → H' d = some o) : Dice H' d n := by
  obtain ⟨⟨x, y, c, e, r⟩, f⟩ := D
  exact ⟨⟨x, y, c, s _ e, r⟩, f⟩
theorem Dice.same {H H' : Hp} {d : Addr} {n : Nat} (D : Dice H d n) (s : Same H H') : Dice H' d n := D.kept fun o e => s _ o e
theorem Dice.more {H : Hp} {d : Addr} {n m : Nat} (D : Dice H d n) (h : n ≤ m) (hm : m ≤ 1000000) : Dice H d m := by
  obtain ⟨⟨x, y, c, e, r1, r2, r3, r4, r5, r6⟩, f⟩ := D
  exact ⟨⟨x, y, c, e, r1, r2, r3, r4, r5, by omega⟩, hm⟩
theorem Dice.there {H : Hp} {d : Addr} {n : Nat} (D : Dice H d n) : ∃ xs, H d = some (.lst xs) := by
  obtain ⟨⟨x, y, c, e, _⟩, _⟩ := D
  exact ⟨_, e⟩
def spDice (K : PySem.W.Frag) : Sp := fun vs H Q _ => ∃ (a : Addr) (ns : List Int) (i : Nat), vs = [.ref a, .int i] ∧ SqL K H a (ns.map V.int) ∧ i < 64 ∧
  ∀ (d : Addr) (H' : Hp), H d = none → Same H H' → Dice H' d 0 → Q (.ref d) H'
def spRoll : Sp := fun vs H Q _ => ∃ (d : Addr) (t : Int) (n : Nat), vs = [.ref d, .int t] ∧ Dice H d n ∧ n < 1000000 ∧ 0 < t ∧ t < 2 ^ 400 ∧
  ∀ (r : Int) (o : HO), 0 ≤ r → r < t → Dice (upd H d o) d (n + 1) → Q (.int r) (upd H d o)
def spPick (K : PySem.W.Frag) : Sp := fun vs H Q _ => ∃ (d p : Addr) (n : Nat) (xs : List V), vs = [.ref d, .ref p] ∧ p ≠ d ∧ (SqL K H p xs ∨ SqT K H p xs) ∧ xs ≠ [] ∧ xs.length ≤ 1000 ∧ Dice H d n ∧ n < 1000000 ∧
  ∀ (v : V) (o : HO), v ∈ xs → Dice (upd H d o) d (n + 1) → Q v (upd H d o)
def spMixed (K : PySem.W.Frag) : Sp := fun vs H Q _ => ∃ (d p : Addr) (n : Nat) (xs : List V), vs = [.ref d, .ref p] ∧ p ≠ d ∧ SqL K H p xs ∧ xs.length ≤ 1000 ∧ Dice H d n ∧ n + xs.length < 1000000 ∧
  ∀ (q : Addr) (ys : List V) (H' : Hp), q ≠ d → H q = none → Kp d H H' → H' q = some (.lst ys) → ys.Perm xs → Dice H' d (n + xs.length) → Q (.ref q) H'
theorem fmod_pos {i j : Int} (h : 0 < j) : 0 ≤ i.fmod j ∧ i.fmod j < j := ⟨Int.fmod_nonneg_of_pos _ h, Int.fmod_lt_of_pos _ h⟩
theorem emod_pos {i j : Int} (h : 0 < j) : 0 ≤ i % j ∧ i % j < j := ⟨Int.emod_nonneg _ (by omega), Int.emod_lt_of_pos _ h⟩
theorem c10 {k : Nat} (h : k ≤ 1000000) : CPow 10 (k : Int) := ⟨by omega, by omega, by decide⟩
end Pr
namespace Pr
open PySem PySem.Spec PyProof.Rows L2
/-! ### the text by places -/
def topS (i : Nat) : Stmt := PySem.Challenge.pw_munchbehind_k02_whole_coprime_pairs.main.body.getD i (.Pass ⟨0, 0, 0, 0⟩)
abbrev sInteger : Stmt := topS 4
abbrev sCount : Stmt := topS 5
abbrev sCoprime : Stmt := topS 6
abbrev sDice : Stmt := topS 8
abbrev sRoll : Stmt := topS 9
abbrev sPick : Stmt := topS 10
abbrev sMixed : Stmt := topS 11
abbrev sOdd : Stmt := topS 12
abbrev sCommon : Stmt := topS 13
abbrev sGiven : Stmt := topS 14
abbrev sRight : Stmt := topS 15
abbrev sLaw : Stmt := topS 16
/-- the built-in names that the module leaves alone -/
structure Free (mg : Str → Option Value) : Prop where
  len : mg "len" = none
  int : mg "int" = none
  abs : mg "abs" = none
  max : mg "max" = none
  min : mg "min" = none
  list : mg "list" = none
  range : mg "range" = none
  isi : mg "isinstance" = none
  bool : mg "bool" = none
  tuple : mg "tuple" = none
end Pr
namespace Pr
open PySem PySem.Spec PyProof.Rows L2
theorem dice_end (l g : Int) (b : Int) {i : Nat} (hi : i < 64) (hb : 0 ≤ b ∧ b ≤ 1) :
    0 ≤ l.fmod (10 ^ (60 : Int).toNat * 10 ^ (60 : Int).toNat) ∧ l.fmod (10 ^ (60 : Int).toNat * 10 ^ (60 : Int).toNat) < 2 ^ 400 ∧
    0 ≤ g % 2147483563 * 41 + 613 * (i : Int) + 17 * b + 7 ∧ g % 2147483563 * 41 + 613 * (i : Int) + 17 * b + 7 < 2 ^ 40 ∧ (0 : Int) ≤ 0 ∧ (0 : Int) ≤ (0 : Nat) := by
  have h1 := fmod_pos (i := l) (j := 10 ^ (60 : Int).toNat * 10 ^ (60 : Int).toNat) (by decide +kernel)
  have h2 : (10 ^ (60 : Int).toNat * 10 ^ (60 : Int).toNat : Int) < 2 ^ 400 := by decide +kernel
  have h3 := emod_pos (i := g) (j := 2147483563) (by decide)
  refine ⟨h1.1, Int.lt_trans h1.2 h2, by omega, by omega, by omega, by omega⟩
section
variable {P : Program} {w : World} {K : PySem.W.Frag} {mg : Str → Option Value} {base : Heap}
theorem scDice : FnScope ["script", "spot", "cell", "great", "left"] ["script", "spot"] (defScope sDice) := ⟨rfl, rfl, rfl, by decide +kernel, rfl, by decide +kernel, by decide +kernel⟩
theorem ok_dice {f : Addr} {fd : FuncData} (F : Fun K "_law_dice" "_law_dice" sDice f fd) (T : Free mg) : FnOk P w K mg base CX0 1 f fd ["script", "spot"] (spDice K) := by
  refine F.ok scDice (fun vs H Q E h => ?_) (fun cdv A outer s H vs Q E hr h => ?_)
  · obtain ⟨a, ns, i, rfl, _⟩ := h
    rfl
  · obtain ⟨a, ns, i, rfl, hS, hi, k⟩ := h
    refine ⟨_, pss_cons (ps_set (i := 2) scDice.nd rfl (.inl rfl) (pe_ifExp (pt_cmpR op_lt (pv 1) (pe_callB call_len_seq (by rfl) T.len PySem.boot_len (pa_cons (pv 0) pa_nil)) (nomark _))
        (pe_callTy call_int1 (by rfl) T.int (by decide +kernel) (pa_cons (pe_ix ix_list (pv 0) (pv 1) (fun _ _ => rfl)) pa_nil)) (pe_op op_add (pe_op op_mul pe_int (pv 1)) pe_int)))
      (pss_cons (ps_set (i := 3) scDice.nd rfl (.inl rfl) (pe_op op_modN (pe_callB call_abs (by rfl) T.abs (by decide +kernel) (pa_cons (pv 2) pa_nil)) (pe_op op_pow pe_int pe_int)))
      (pss_cons (ps_set (i := 4) scDice.nd rfl (.inl rfl) (pe_callB (call_max2 rfl) (by rfl) T.max (by decide +kernel) (pa_cons pe_int (pa_cons (pe_op op_sub (pe_callB call_abs (by rfl) T.abs (by decide +kernel) (pa_cons (pv 2) pa_nil)) (pe_op op_pow pe_int pe_int)) pa_nil))))
      (pss_one (ps_ret (pe_lst (pa_cons (pe_op op_modN (pv 4) (pe_op op_mulW (pe_op op_pow pe_int pe_int) (pe_op op_pow pe_int pe_int)))
        (pa_cons (pe_op op_add (pe_op op_add (pe_op op_add (pe_op op_mul (pe_op op_mod (pv 3) pe_int) pe_int) (pe_op op_mul pe_int (pv 1)))
          (pe_op op_mul pe_int (pe_callTy call_int1 (by rfl) T.int (by decide +kernel) (pa_cons (pe_cmpR op_lt (pv 2) pe_int (nomark _)) pa_nil)))) pe_int) (pa_cons pe_int pa_nil)))))))), ?_⟩
    refine ⟨_, rfl, _, rfl, a, _, rfl, .inl hS, _, _, rfl, rfl, _, rfl, ?_⟩
    refine ite2 (fun c => ?_) (fun c => ?_)
    · have hlt : i < ns.length := by
        have c' := of_decide_eq_true c
        rw [List.length_map] at c'
        omega
      have g : (ns.map V.int)[i]? = some (.int ns[i]) := by
        rw [List.getElem?_map, List.getElem?_eq_getElem hlt]
        rfl
      refine ⟨_, rfl, _, rfl, a, _, _, _, rfl, rfl, hS, atI_nat g, .inl ⟨_, rfl, ?_⟩⟩
      refine ⟨_, rfl, _, rfl, 10, 59, rfl, rfl, c10 (k := 59) (by decide), _, _, rfl, rfl, (by dsimp only; decide +kernel), ?_⟩
      refine ⟨_, rfl, _, rfl, 10, 17, rfl, rfl, c10 (k := 17) (by decide), _, _, rfl, rfl, _, _, rfl, ?_⟩
      refine ⟨_, rfl, 10, 60, rfl, rfl, c10 (k := 60) (by decide), 10, 60, rfl, rfl, c10 (k := 60) (by decide), _, _, rfl, rfl, wide_mul (a := 400) (b := 400) (by decide +kernel) (by decide +kernel) (by decide) (by decide) (by decide), _, _, rfl, rfl, (by dsimp only; decide +kernel), ?_⟩
      refine ⟨_, rfl, _, _, rfl, rfl, (by dsimp only; decide), _, _, rfl, rfl, .inr ⟨by decide, by decide⟩, _, rfl, _, _, rfl, rfl, .inl ⟨by decide, by decide⟩, _, _, rfl, rfl, _, rfl, _, _, rfl, rfl, .inr ⟨_, rfl, ?_⟩⟩
      refine ⟨_, _, rfl, rfl, .inl ⟨by decide, by decide⟩, _, _, rfl, rfl, _, _, rfl, rfl, (by show 3 ≤ sizeLine; decide), fun d hd => ?_⟩
      refine k d _ hd (Same.new hd) ⟨⟨_, _, 0, upd_same, ?_⟩, by decide⟩
      refine dice_end _ _ _ hi ?_
      split <;> omega
    · refine ⟨_, rfl, _, _, rfl, rfl, .inl ⟨by decide, by decide⟩, _, _, rfl, rfl, ?_⟩
      refine ⟨_, rfl, _, rfl, 10, 59, rfl, rfl, c10 (k := 59) (by decide), _, _, rfl, rfl, (by dsimp only; decide +kernel), ?_⟩
      refine ⟨_, rfl, _, rfl, 10, 17, rfl, rfl, c10 (k := 17) (by decide), _, _, rfl, rfl, _, _, rfl, ?_⟩
      refine ⟨_, rfl, 10, 60, rfl, rfl, c10 (k := 60) (by decide), 10, 60, rfl, rfl, c10 (k := 60) (by decide), _, _, rfl, rfl, wide_mul (a := 400) (b := 400) (by decide +kernel) (by decide +kernel) (by decide) (by decide) (by decide), _, _, rfl, rfl, (by dsimp only; decide +kernel), ?_⟩
      refine ⟨_, rfl, _, _, rfl, rfl, (by dsimp only; decide), _, _, rfl, rfl, .inr ⟨by decide, by decide⟩, _, rfl, _, _, rfl, rfl, .inl ⟨by decide, by decide⟩, _, _, rfl, rfl, _, rfl, _, _, rfl, rfl, .inr ⟨_, rfl, ?_⟩⟩
      refine ⟨_, _, rfl, rfl, .inl ⟨by decide, by decide⟩, _, _, rfl, rfl, _, _, rfl, rfl, (by show 3 ≤ sizeLine; decide), fun d hd => ?_⟩
      refine k d _ hd (Same.new hd) ⟨⟨_, _, 0, upd_same, ?_⟩, by decide⟩
      refine dice_end _ _ _ hi ?_
      split <;> omega
end
end Pr
namespace Pr
open PySem PySem.Spec PyProof.Rows L2
theorem div_le {x t : Int} (h0 : 0 ≤ x) (ht : 0 < t) : 0 ≤ x / t ∧ x / t ≤ x := ⟨Int.ediv_nonneg h0 (by omega), Int.ediv_le_self _ h0⟩
theorem mod2 {x y : Int} (h : 0 ≤ x) (a : 0 < y) : 0 ≤ x.fmod y ∧ x.fmod y < y := fmod_pos a
section
variable {P : Program} {w : World} {K : PySem.W.Frag} {mg : Str → Option Value} {base : Heap}
theorem scRoll : FnScope ["dice", "total", "found", "one", "two"] ["dice", "total"] (defScope sRoll) := ⟨rfl, rfl, rfl, by decide +kernel, rfl, by decide +kernel, by decide +kernel⟩
theorem ok_roll {f : Addr} {fd : FuncData} (F : Fun K "_law_roll" "_law_roll" sRoll f fd) (T : Free mg) : FnOk P w K mg base CX0 1 f fd ["dice", "total"] spRoll := by
  refine F.ok scRoll (fun vs H Q E h => ?_) (fun cdv A outer s H vs Q E hr h => ?_)
  · obtain ⟨d, t, n, rfl, _⟩ := h
    rfl
  · obtain ⟨d, t, n, rfl, ⟨⟨x, y, c, e, x0, x1, y0, y1, c0, c1⟩, fw⟩, hn, t0, t1, k⟩ := h
    have sq : SqL K H d [.int x, .int y, .int c] := SqL.of e
    refine ⟨_, pss_cons (ps_if (pt_cmpR op_gt (pe_ix ix_list (pv 0) pe_int (fun _ _ => rfl)) pe_int (nomark _))
        (pss_cons (ps_set (i := 2) scRoll.nd rfl (.inl rfl) (pe_op op_modN (pe_callTy call_int1 (by rfl) T.int (by decide +kernel) (pa_cons (pe_ix ix_list (pv 0) pe_int (fun _ _ => rfl)) pa_nil)) (pv 1)))
        (pss_cons (ps_asg (pe_op op_fdivW (pe_ix ix_list (pv 0) pe_int (fun _ _ => rfl)) (pv 1)) (pg_sub (pv 0) pe_int set_list))
        (pss_one (ps_ret (pv 2))))) pss_nil)
      (pss_cons (ps_asg (pe_op op_add (pe_ix ix_list (pv 0) pe_int (fun _ _ => rfl)) pe_int) (pg_sub (pv 0) pe_int set_list))
      (pss_cons (ps_set (i := 3) scRoll.nd rfl (.inl rfl) (pe_op op_mod (pe_callTy call_int1 (by rfl) T.int (by decide +kernel)
        (pa_cons (pe_op op_add (pe_ix ix_list (pv 0) pe_int (fun _ _ => rfl)) (pe_op op_mul pe_int (pe_ix ix_list (pv 0) pe_int (fun _ _ => rfl)))) pa_nil)) pe_int))
      (pss_cons (ps_set (i := 4) scRoll.nd rfl (.inl rfl) (pe_op op_add (pe_op op_mul (pe_op op_mod (pe_callTy call_int1 (by rfl) T.int (by decide +kernel)
        (pa_cons (pe_op op_add (pe_op op_mul (pv 3) (pv 3)) (pe_op op_mul pe_int (pe_ix ix_list (pv 0) pe_int (fun _ _ => rfl)))) pa_nil)) pe_int) pe_int) (pv 3)))
      (pss_one (ps_ret (pe_op op_modN (pe_callTy call_int1 (by rfl) T.int (by decide +kernel) (pa_cons (pe_op op_fdiv (pv 4) pe_int) pa_nil)) (pv 1))))))), ?_⟩
    refine ⟨_, rfl, d, _, 0, _, rfl, rfl, sq, rfl, _, _, rfl, rfl, _, rfl, ite2 (fun cx => ?_) (fun cx => ?_)⟩
    · -- what is left of the cell's number
      have r := fmod_pos (i := x) t0
      have q := div_le x0 t0
      refine ⟨_, rfl, d, _, 0, _, rfl, rfl, sq, rfl, .inl ⟨_, rfl, _, rfl, _, _, rfl, rfl, (by dsimp only; omega), ?_⟩⟩
      refine ⟨_, rfl, d, _, 0, _, rfl, rfl, sq, rfl, _, rfl, _, _, rfl, rfl, wide_div (b := 400) t0 (by omega) (by decide) (by decide), _, rfl, d, _, 0, 0, rfl, rfl, e, rfl, _, rfl, ?_⟩
      exact k _ _ r.1 r.2 ⟨⟨_, _, _, upd_same, q.1, by omega, y0, y1, c0, by omega⟩, by omega⟩
    · refine ⟨_, rfl, d, _, 2, _, rfl, rfl, sq, rfl, _, _, rfl, rfl, _, rfl, d, _, 2, 2, rfl, rfl, e, rfl, ?_⟩
      have sq2 : SqL K (upd H d (.lst [.int x, .int y, .int (c + 1)])) d [.int x, .int y, .int (c + 1)] := SqL.of upd_same
      have m1 := emod_pos (i := y + 7901 * (c + 1)) (j := 2305843009213693907) (by decide)
      refine ⟨_, rfl, d, _, 1, _, rfl, rfl, sq2, rfl, _, rfl, d, _, 2, _, rfl, rfl, sq2, rfl, _, _, rfl, rfl, .inl ⟨by decide, by decide⟩, _, _, rfl, rfl, .inl ⟨_, rfl, _, _, rfl, rfl, (by dsimp only; decide), ?_⟩⟩
      have m2 := emod_pos (i := (y + 7901 * (c + 1)) % 2305843009213693907 * ((y + 7901 * (c + 1)) % 2305843009213693907) + 71 * (c + 1)) (j := 2305843009213693921) (by decide)
      refine ⟨_, rfl, _, rfl, _, _, rfl, rfl, .inl ⟨by omega, by omega⟩, _, rfl, d, _, 2, _, rfl, rfl, sq2, rfl, _, _, rfl, rfl, .inl ⟨by decide, by decide⟩, _, _, rfl, rfl, .inl ⟨_, rfl, _, _, rfl, rfl, (by dsimp only; decide), ?_⟩⟩
      refine ⟨_, _, rfl, rfl, .inl ⟨by omega, by omega⟩, _, rfl, _, _, rfl, rfl, ?_⟩
      refine ⟨_, rfl, _, _, rfl, rfl, ⟨by decide, by decide⟩, .inl ⟨_, rfl, _, rfl, _, _, rfl, rfl, (by dsimp only; omega), ?_⟩⟩
      exact k _ _ (fmod_pos t0).1 (fmod_pos t0).2 ⟨⟨_, _, _, upd_same, x0, x1, y0, y1, by omega, by omega⟩, by omega⟩
end
end Pr
namespace Pr
open PySem PySem.Spec PyProof.Rows L2
/-- the law's drawing defs, as they stand behind the top -/
structure Draws (K : PySem.W.Frag) (mg : Str → Option Value) (fR fP fM : Addr) (dR dP dM : FuncData) : Prop where
  FR : Fun K "_law_roll" "_law_roll" sRoll fR dR
  bR : Binds K dR ["dice", "total"] []
  gR : mg "_law_roll" = some (.ref fR)
  FP : Fun K "_law_pick" "_law_pick" sPick fP dP
  bP : Binds K dP ["dice", "items"] []
  gP : mg "_law_pick" = some (.ref fP)
  FM : Fun K "_law_mixed" "_law_mixed" sMixed fM dM
  bM : Binds K dM ["dice", "items"] []
  gM : mg "_law_mixed" = some (.ref fM)
theorem erase_perm {α : Type} : ∀ (l : List α) (i : Nat) (h : i < l.length), (l[i] :: l.eraseIdx i).Perm l
  | [], _, h => absurd h (Nat.not_lt_zero _)
  | a :: l, 0, _ => List.Perm.refl _
  | a :: l, i + 1, h => (List.Perm.swap a (l[i]'(Nat.lt_of_succ_lt_succ h)) (l.eraseIdx i)).trans (List.Perm.cons a (erase_perm l i (Nat.lt_of_succ_lt_succ h)))
section
variable {P : Program} {w : World} {K : PySem.W.Frag} {mg : Str → Option Value} {base : Heap} {fR fP fM : Addr} {dR dP dM : FuncData}
theorem scPick : FnScope ["dice", "items"] ["dice", "items"] (defScope sPick) := ⟨rfl, rfl, rfl, by decide +kernel, rfl, by decide +kernel, by decide +kernel⟩
theorem ok_pick (D : Draws K mg fR fP fM dR dP dM) (T : Free mg) : FnOk P w K mg base CX0 2 fP dP ["dice", "items"] (spPick K) := by
  have GR : FnOk P w K mg base CX0 1 fR dR ["dice", "total"] spRoll := ok_roll D.FR T
  refine D.FP.ok scPick (fun vs H Q E h => ?_) (fun cdv A outer s H vs Q E hr h => ?_)
  · obtain ⟨d, p, n, xs, rfl, _⟩ := h
    rfl
  · obtain ⟨d, p, n, xs, rfl, npd, hS, ne, few, di, hn, k⟩ := h
    refine ⟨_, pss_one (ps_ret (pe_ix ix_seq (pv 1) (pe_call GR hr (by rfl) D.gR D.FR.kp D.bR .nil pass0 (pa_cons (pv 0) (pa_cons (pe_callB call_len_seq (by rfl) T.len PySem.boot_len (pa_cons (pv 1) pa_nil)) pa_nil))) (fun _ _ => rfl))), ?_⟩
    have pos : 0 < xs.length := List.length_pos_iff.mpr ne
    refine ⟨_, rfl, _, rfl, _, rfl, p, xs, rfl, hS, d, _, n, rfl, di, hn, by omega, by omega, fun r o r0 r1 di' => ?_⟩
    have hlt : r.toNat < xs.length := by omega
    have g : atI xs r = some xs[r.toNat] := at_of (j := r.toNat) (by omega) (List.getElem?_eq_getElem hlt)
    have kp : Kp d H (upd H d o) := Kp.upd
    rcases hS with hS | hS
    · exact .inl ⟨p, xs, r, _, rfl, rfl, kp.seq npd hS, g, k _ o (List.getElem_mem hlt) di'⟩
    · have hT : SqT K (upd H d o) p xs := by
        rcases hS with (h | ⟨u, h⟩) | h
        · exact .inl (.inl (kp _ _ npd h))
        · exact .inl (.inr ⟨u, kp _ _ npd h⟩)
        · exact .inr h
      exact .inr (.inl ⟨p, xs, r, _, rfl, rfl, hT, g, k _ o (List.getElem_mem hlt) di'⟩)
theorem scMixed : FnScope ["dice", "items", "left", "found", "turn"] ["dice", "items"] (defScope sMixed) := ⟨rfl, rfl, rfl, by decide +kernel, rfl, by decide +kernel, by decide +kernel⟩
theorem ok_mixed (D : Draws K mg fR fP fM dR dP dM) (T : Free mg) : FnOk P w K mg base CX0 2 fM dM ["dice", "items"] (spMixed K) := by
  have GR : FnOk P w K mg base CX0 1 fR dR ["dice", "total"] spRoll := ok_roll D.FR T
  refine D.FM.ok scMixed (fun vs H Q E h => ?_) (fun cdv A outer s H vs Q E hr h => ?_)
  · obtain ⟨d, p, n, xs, rfl, _⟩ := h
    rfl
  · obtain ⟨d, p, n, xs, rfl, npd, hS, few, di, hn, k⟩ := h
    refine ⟨_, pss_cons (ps_par (i := 2) (j := 3) (by rfl) scMixed.nd rfl rfl (by decide) rfl rfl (pa_cons (pe_callTy call_list_of (by rfl) T.list (by decide +kernel) (pa_cons (pv 1) pa_nil)) (pa_cons (pe_lst pa_nil) pa_nil)) (by rfl))
      (pss_cons (ps_for PassesOwn.never rfl (pi_range1 rfl T.range (pa_cons (pe_callB call_len_seq (by rfl) T.len PySem.boot_len (pa_cons (pv 1) pa_nil)) pa_nil)) (pg_name (i := 4) scMixed.nd rfl (.inl rfl))
        (pss_one (ps_expr (pe_bm PySem.F.plainAttrs_list PySem.F.slot_list_append PySem.F.type_list_append mt_append (pv 3)
          (pa_cons (pe_bm PySem.F.plainAttrs_list PySem.F.slot_list_pop PySem.F.type_list_pop mt_popAt (pv 2)
            (pa_cons (pe_call GR hr (by rfl) D.gR D.FR.kp D.bR .nil pass0 (pa_cons (pv 0) (pa_cons (pe_callB call_len_seq (by rfl) T.len PySem.boot_len (pa_cons (pv 2) pa_nil)) pa_nil))) pa_nil)) pa_nil)))))
      (pss_one (ps_ret (pv 3)))), ?_⟩
    obtain ⟨ds, hd⟩ := di.there
    -- left = list(items); found = []
    refine ⟨_, rfl, p, xs, rfl, .inl hS, fun l nl => ⟨Nat.zero_le _, fun q nq => ?_⟩⟩
    refine ⟨_, _, rfl, ?_⟩
    have ndl : d ≠ l := ne_of_none hd nl
    have nql : q ≠ l := fun e => by
      rw [e, upd_same] at nq
      cases nq
    have nHq : H q = none := by
      rw [upd_ne nql] at nq
      exact nq
    have ndq : d ≠ q := ne_of_none hd nHq
    have s1 : Same H (upd (upd H l (.lst xs)) q (.lst [])) := (Same.new nl).trans (Same.new nq)
    have hS1 := s1.seq hS
    -- the loop
    refine ⟨_, rfl, p, xs, rfl, .inl hS1, xs.length, rfl, by omega, by omega, ?_⟩
    refine for_range (lo := 0) (n := ((xs.length : Int)).toNat) (fun i σ H' => ∃ (v : Option V) (rem done : List V), σ = [some (.ref d), some (.ref p), some (.ref l), some (.ref q), v] ∧ Kp d H H' ∧
      H' l = some (.lst rem) ∧ H' q = some (.lst done) ∧ rem.length + i = xs.length ∧ (done ++ rem).Perm xs ∧ Dice H' d (n + i))
      ⟨none, xs, [], rfl, Kp.same s1, by rw [upd_ne nql.symm, upd_same], upd_same, by omega, List.Perm.refl _, di.same s1⟩ ?_ ?_
    · rintro i σ H' hi ⟨v, rem, done, rfl, kp, hl, hq, len, pm, di'⟩
      have hi' : i < xs.length := by omega
      have dl : done.length = i := by
        have := pm.length_eq
        rw [List.length_append] at this
        omega
      refine ⟨_, rfl, .inl ⟨rfl, _, SqL.of hq⟩, _, rfl, .inl ⟨rfl, _, SqL.of hl⟩, _, rfl, _, rfl, l, rem, rfl, .inl (SqL.of hl), d, _, n + i, rfl, di', by omega, by omega, by omega, fun r o r0 r1 di2 => ?_⟩
      have hlt : r.toNat < rem.length := by omega
      have k2 : Kp d H' (upd H' d o) := Kp.upd
      have hl2 := k2 _ _ ndl.symm hl
      have hq2 := k2 _ _ ndq.symm hq
      refine ⟨l, rem, r, r.toNat, rem[r.toNat], rfl, rfl, hl2, by omega, by omega, seqIndex_of r0 (by omega), List.getElem?_eq_getElem hlt, ?_⟩
      have hq3 : (upd (upd H' d o) l (.lst (rem.eraseIdx r.toNat))) q = some (.lst done) := by
        rw [upd_ne nql]
        exact hq2
      refine ⟨q, done, _, rfl, rfl, hq3, small1000 (by omega), ?_⟩
      refine ⟨_, rem.eraseIdx r.toNat, _, rfl, fun b u nb e => ?_, ?_, upd_same, ?_, ?_, ?_⟩
      · rw [upd_ne (ne_of_none e nHq), upd_ne (ne_of_none e nl)]
        exact k2 _ _ nb (kp _ _ nb e)
      · rw [upd_ne nql.symm, upd_same]
      · rw [List.length_eraseIdx_of_lt hlt]
        omega
      · have e1 := erase_perm rem r.toNat hlt
        rw [List.append_assoc]
        exact (List.Perm.append_left done e1).trans pm
      · refine (di2.kept fun u e => ?_).more (by omega) (by omega)
        rw [upd_ne ndq, upd_ne ndl]
        exact e
    · rintro σ H' ⟨v, rem, done, rfl, kp, hl, hq, len, pm, di'⟩
      have e0 : rem = [] := List.length_eq_zero_iff.mp (by omega)
      subst e0
      rw [List.append_nil] at pm
      refine ⟨_, rfl, k q done H' ndq.symm nHq kp hq pm (di'.more (by omega) (by omega))⟩
end
end Pr
namespace Pr
open PySem PySem.Spec PyProof.Rows L2
/-! ### the odd values -/
/-- a value of one of the kinds that the law draws its wrong arguments from -/
inductive Odd (H : Hp) : V → Prop where
  | non : Odd H .non
  | bl (b : Bool) : Odd H (.bl b)
  | int (i : Int) (h : i ≤ 1 ∨ 10 ^ 60 ≤ i) : Odd H (.int i)
  | str (z : Str) : Odd H (.str z)
  | lst {a : Addr} {xs : List V} (e : H a = some (.lst xs)) : Odd H (.ref a)
  | tup {a : Addr} {xs : List V} (e : H a = some (.tup xs)) : Odd H (.ref a)
  | dK {a : Addr} {kvs : List (Key × V)} (e : H a = some (.dK kvs)) : Odd H (.ref a)
theorem Odd.keep {H H' : Hp} {v : V} (o : Odd H v) (k : ∀ a u, v = .ref a → H a = some u → H' a = some u) : Odd H' v := by
  cases o with
  | non => exact .non
  | bl b => exact .bl b
  | int i h => exact .int i h
  | str z => exact .str z
  | lst e => exact .lst (k _ _ rfl e)
  | tup e => exact .tup (k _ _ rfl e)
  | dK e => exact .dK (k _ _ rfl e)
theorem Odd.same {H H' : Hp} {v : V} (o : Odd H v) (s : Same H H') : Odd H' v := o.keep fun a u _ e => s a u e
def oddO : HO → Bool
  | .lst _ => true
  | .tup _ => true
  | .dK _ => true
  | _ => false
theorem Odd.ref {H : Hp} {a : Addr} {o : HO} (e : H a = some o) (h : oddO o = true) : Odd H (.ref a) := by
  cases o with
  | lst xs => exact .lst e
  | tup xs => exact .tup e
  | dK xs => exact .dK e
  | _ => cases h
def plainV : V → Bool
  | .non => true
  | .bl _ => true
  | .int i => decide (i ≤ 1 ∨ 10 ^ 60 ≤ i)
  | .str _ => true
  | _ => false
theorem Odd.plain {H : Hp} {v : V} (h : plainV v = true) : Odd H v := by
  cases v with
  | non => exact .non
  | bl b => exact .bl b
  | int i => exact .int i (of_decide_eq_true h)
  | str z => exact .str z
  | _ => cases h
/-- values made so far: each is odd and none is the dice -/
structure Good (d : Addr) (H0 H : Hp) (xs : List V) : Prop where
  same : Same H0 H
  there : ∃ o, H0 d = some o
  all : ∀ v ∈ xs, Odd H v ∧ v ≠ .ref d
theorem Good.nil {d : Addr} {H : Hp} (h : ∃ o, H d = some o) : Good d H H [] := ⟨Same.refl H, h, fun v m => nomatch m⟩
theorem Good.new {d p : Addr} {H0 H : Hp} {xs : List V} {o : HO} (g : Good d H0 H xs) (n : H p = none) : Good d H0 (upd H p o) xs :=
  ⟨g.same.trans (Same.new n), g.there, fun v m => ⟨(g.all v m).1.same (Same.new n), (g.all v m).2⟩⟩
theorem Good.ref {d p : Addr} {H0 H : Hp} {xs : List V} {o : HO} (g : Good d H0 H xs) (n : H p = none) (h : oddO o = true) : Good d H0 (upd H p o) (xs ++ [.ref p]) := by
  have g2 : Good d H0 (upd H p o) xs := g.new n
  obtain ⟨u, hu⟩ := g.there
  have npd : p ≠ d := (ne_of_none (g.same _ _ hu) n).symm
  refine ⟨g2.same, g2.there, fun v m => ?_⟩
  rcases List.mem_append.mp m with m | m
  · exact g2.all v m
  · rw [List.mem_singleton.mp m]
    exact ⟨Odd.ref upd_same h, fun e => npd (V.ref.inj e)⟩
theorem Good.val {d : Addr} {H0 H : Hp} {xs : List V} (g : Good d H0 H xs) (v : V) (h : plainV v = true) : Good d H0 H (xs ++ [v]) := by
  refine ⟨g.same, g.there, fun u m => ?_⟩
  rcases List.mem_append.mp m with m | m
  · exact g.all u m
  · rw [List.mem_singleton.mp m]
    exact ⟨Odd.plain h, fun e => by rw [e] at h; cases h⟩
theorem Good.mixed {d : Addr} {H0 H H' : Hp} {xs : List V} {y : V} (g : Good d H0 H xs) (kp : Kp d H H') (m : y ∈ xs) : Odd H' y ∧ y ≠ .ref d :=
  ⟨(g.all y m).1.keep fun a u e h => kp a u (fun x => (g.all y m).2 (by rw [e, x])) h, (g.all y m).2⟩
def repS (z : Str) (k : Nat) : Str := ⟨(List.replicate k z.cps).foldl (· ++ ·) #[]⟩
/-- a text times a small number -/
def rRepS : R2 := fun x y H Q => ∃ z k, x = .str z ∧ y = .int k ∧ 2 ≤ k ∧ k ≤ 5000 ∧ z.length = 1 ∧ Q (.str (repS z k.toNat)) H
section
variable {X : Cx}
theorem foldl_size (c : Array Nat) : ∀ (k : Nat) (a : Array Nat), ((List.replicate k c).foldl (· ++ ·) a).size = a.size + k * c.size
  | 0, a => by simp
  | k + 1, a => by
    rw [List.replicate_succ, List.foldl_cons, foldl_size c k (a ++ c), Array.size_append, Nat.succ_mul]
    omega
theorem op_repS : OpR X (binaryOp .Mult) rRepS := by
  intro pins s σ H x y v u Q I rx ry h
  obtain ⟨z, k, rfl, rfl, h2, h5, hz, q⟩ := h
  obtain ⟨t, rfl⟩ := rx
  obtain ⟨t', rfl⟩ := ry
  have k1 : ¬ k < 1 := by omega
  have e1 : (k == 1 || z.length == 0) = false := by
    have a1 : (k == 1) = false := by rw [beq_eq_false_iff_ne]; omega
    have a2 : (z.length == 0) = false := by rw [beq_eq_false_iff_ne]; omega
    rw [a1, a2]
    rfl
  have hk : (k.toNat : Int) = k := Int.toNat_of_nonneg (by omega)
  have es : (repS z k.toNat).length ≤ sizeLine := by
    show ((List.replicate k.toNat z.cps).foldl (· ++ ·) #[]).size ≤ sizeLine
    have hc : z.cps.size = 1 := hz
    rw [foldl_size, hc, sizeLine_eq]
    simp
    omega
  refine PySem.P.mul_str ?_ (fun _ _ => ?_) (fun _ _ => ?_) ?_
  · rw [decide_eq_false (by omega), decide_eq_false (by omega)]
    rfl
  · rw [hz]
    have := Int.le_ediv_of_mul_le (a := 1) (b := 2 ^ 63 - 1) (c := k) (by omega) (by omega)
    omega
  · rw [hz]
    show decide (_ > sizeLine) = false
    exact decide_eq_false (by rw [sizeLine_eq]; omega)
  · rw [if_neg k1, e1, if_neg Bool.false_ne_true]
    exact ⟨es, .str (repS z k.toNat), H, I.tok _, ⟨_, rfl⟩, q⟩
end
/-- the law's odd values: each is odd, none is the dice -/
def spOdd : Sp := fun vs H Q _ => ∃ (d : Addr) (n : Nat), vs = [.ref d] ∧ Dice H d n ∧ n + 26 < 1000000 ∧
  ∀ (q : Addr) (ys : List V) (H' : Hp), q ≠ d → H q = none → Kp d H H' → H' q = some (.lst ys) → ys.length = 26 → (∀ y ∈ ys, Odd H' y ∧ y ≠ .ref d) → Dice H' d (n + 26) → Q (.ref q) H'
section
variable {P : Program} {w : World} {K : PySem.W.Frag} {mg : Str → Option Value} {base : Heap} {fR fP fM : Addr} {dR dP dM : FuncData}
theorem scOdd : FnScope ["dice", "some"] ["dice"] (defScope sOdd) := ⟨rfl, rfl, rfl, by decide +kernel, rfl, by decide +kernel, by decide +kernel⟩
theorem ok_odd {f : Addr} {fd : FuncData} (F : Fun K "_law_odd_values" "_law_odd_values" sOdd f fd) (D : Draws K mg fR fP fM dR dP dM) (T : Free mg) : FnOk P w K mg base CX0 3 f fd ["dice"] spOdd := by
  have GM : FnOk P w K mg base CX0 2 fM dM ["dice", "items"] (spMixed K) := ok_mixed D T
  refine F.ok scOdd (fun vs H Q E h => ?_) (fun cdv A outer s H vs Q E hr h => ?_)
  · obtain ⟨d, n, rfl, _⟩ := h
    rfl
  · obtain ⟨d, n, rfl, di, hn, k⟩ := h
    obtain ⟨ds, hd⟩ := di.there
    refine ⟨_, pss_cons (ps_set (i := 1) scOdd.nd rfl (.inl rfl) (pe_lst (pa_cons pe_non (pa_cons pe_int (pa_cons pe_int (pa_cons (pe_un un_neg pe_int) (pa_cons pe_bl (pa_cons pe_bl (pa_cons pe_str (pa_cons pe_str (pa_cons pe_str
        (pa_cons (pe_tup pa_nil) (pa_cons (pe_tup (pa_cons pe_str pa_nil)) (pa_cons (pe_lst pa_nil) (pa_cons (pe_lst (pa_cons pe_str pa_nil)) (pa_cons pe_dnewK (pa_cons (pe_disp (pps_cons pe_str pe_int pps_nil) (by rfl) (by rfl) (fun z => by cases z) (by decide))
        (pa_cons (pe_tup (pa_cons (pe_tup pa_nil) pa_nil)) (pa_cons (pe_op op_pow pe_int pe_int) (pa_cons pe_str pa_nil))))))))))))))))))))
      (pss_cons (ps_set (i := 1) scOdd.nd rfl (.inl rfl) (pe_op op_cat (pv 1) (pe_lst (pa_cons (pe_op op_repS pe_str pe_int) (pa_cons (pe_op op_repT (pe_tup (pa_cons pe_str pa_nil)) pe_int) (pa_cons (pe_tup (pa_cons pe_int (pa_cons pe_int pa_nil)))
        (pa_cons (pe_tup (pa_cons pe_non pa_nil)) (pa_cons (pe_tup (pa_cons (pe_tup (pa_cons (pe_tup (pa_cons pe_str pa_nil)) pa_nil)) pa_nil)) (pa_cons pe_str (pa_cons (pe_op op_mulW (pe_op op_pow pe_int pe_int) (pe_op op_pow pe_int pe_int)) pa_nil))))))))))
      (pss_one (ps_ret (pe_call GM hr (by rfl) D.gM D.FM.kp D.bM .nil pass0 (pa_cons (pv 0) (pa_cons (pe_op op_cat (pv 1) (pe_lst (pa_cons (pe_op op_sub pe_int (pe_op op_pow pe_int pe_int)) pa_nil))) pa_nil)))))), ?_⟩
    have z : ∀ {m : Nat}, m ≤ 64 → m ≤ sizeLine := fun h => Nat.le_trans h (by decide)
    have g0 : Good d H H [] := Good.nil ⟨_, hd⟩
    have g1 := ((((((((g0.val .non rfl).val (.int 0) (by decide +kernel)).val (.int 1) (by decide +kernel)).val (.int (-1)) (by decide +kernel)).val (.bl true) rfl).val (.bl false) rfl).val (.str "") rfl).val (.str "a") rfl).val (.str "A b") rfl
    refine ⟨_, rfl, z (Nat.le_of_ble_eq_true rfl), fun t1 n1 => ?_⟩
    have g2 := g1.ref (o := .tup []) n1 rfl
    refine ⟨z (Nat.le_of_ble_eq_true rfl), fun t2 n2 => ?_⟩
    have g3 := g2.ref n2 (o := .tup [.str "c"]) rfl
    refine ⟨z (Nat.le_of_ble_eq_true rfl), fun t3 n3 => ?_⟩
    have g4 := g3.ref n3 (o := .lst []) rfl
    refine ⟨z (Nat.le_of_ble_eq_true rfl), fun t4 n4 => ?_⟩
    have g5 := g4.ref n4 (o := .lst [.str "c"]) rfl
    intro t5 n5
    have g6 := g5.ref n5 (o := .dK []) rfl
    refine fun t6 n6 => ⟨upd_same, [(Sum.inr "c", .int 0)], rfl, by decide, ?_⟩
    have g7 := g6.ref n6 (o := .dK []) rfl
    have g7b : Good d H _ _ := g6.ref (o := .dK (mergeK [] [((Sum.inr "c" : Key), V.int 0)])) n6 rfl
    rw [← upd_upd (H := upd _ t5 _) (a := t6) (o := .dK [])] at g7b
    refine ⟨z (Nat.le_of_ble_eq_true rfl), fun t7 n7 => ⟨z (Nat.le_of_ble_eq_true rfl), fun t8 n8 => ?_⟩⟩
    have g8 := (g7b.new n7 (o := .tup [])).ref n8 (o := .tup [.ref t7]) rfl
    refine ⟨10, 60, rfl, rfl, c10 (k := 60) (by decide), ?_⟩
    have g9 := (g8.val (.int (10 ^ (60 : Int).toNat)) (by decide +kernel)).val (.str "_") rfl
    -- the list itself
    refine ⟨z (Nat.le_of_ble_eq_true rfl), fun l1 m1 => ?_⟩
    have g10 := g9.new m1 (o := .lst ([] ++ [V.non, .int 0, .int 1, .int (-1), .bl true, .bl false, .str "", .str "a", .str "A b", .ref t1, .ref t2, .ref t3, .ref t4, .ref t5, .ref t6, .ref t8, .int (10 ^ (60 : Int).toNat), .str "_"]))
    -- some + [..]
    refine ⟨_, rfl, _, _, rfl, rfl, by decide, by decide, by decide +kernel, ?_⟩
    have h0 := g10.val (.str (repS "x" (4000 : Int).toNat)) rfl
    refine ⟨z (Nat.le_of_ble_eq_true rfl), fun t9 n9 => ⟨_, _, _, rfl, rfl, SqT.of upd_same, by simp, by decide, by decide, by simp, fun t10 n10 => ?_⟩⟩
    have h1 := (h0.new n9 (o := .tup [.str "c"])).ref n10 (o := .tup (List.replicate (30 : Int).toNat [V.str "c"]).flatten) rfl
    refine ⟨z (Nat.le_of_ble_eq_true rfl), fun t11 n11 => ?_⟩
    have h2 := h1.ref n11 (o := .tup [.int 1, .int 2]) rfl
    refine ⟨z (Nat.le_of_ble_eq_true rfl), fun t12 n12 => ?_⟩
    have h3 := h2.ref n12 (o := .tup [.non]) rfl
    refine ⟨z (Nat.le_of_ble_eq_true rfl), fun t13 n13 => ⟨z (Nat.le_of_ble_eq_true rfl), fun t14 n14 => ⟨z (Nat.le_of_ble_eq_true rfl), fun t15 n15 => ?_⟩⟩⟩
    have h4 := ((h3.new n13 (o := .tup [.str "c"])).new n14 (o := .tup [.ref t13])).ref n15 (o := .tup [.ref t14]) rfl
    refine ⟨10, 60, rfl, rfl, c10 (k := 60) (by decide), 10, 39, rfl, rfl, c10 (k := 39) (by decide), _, _, rfl, rfl, wide_mul (a := 400) (b := 400) (by decide +kernel) (by decide +kernel) (by decide) (by decide) (by decide), ?_⟩
    have h5 := (h4.val (.str "\n") rfl).val (.int (10 ^ (60 : Int).toNat * 10 ^ (39 : Int).toNat)) (by decide +kernel)
    refine ⟨z (Nat.le_of_ble_eq_true rfl), fun l2 m2 => ?_⟩
    refine ⟨l1, l2, _, _, rfl, rfl, ((((((((Same.new n9).trans (Same.new n10)).trans (Same.new n11)).trans (Same.new n12)).trans (Same.new n13)).trans (Same.new n14)).trans (Same.new n15)).trans (Same.new m2)) _ _ upd_same, upd_same, z (Nat.le_of_ble_eq_true rfl), fun p m3 => ?_⟩
    refine ⟨_, rfl, _, rfl, 10, 60, rfl, rfl, c10 (k := 60) (by decide), 0, _, rfl, rfl, z (Nat.le_of_ble_eq_true rfl), fun l3 m4 => ?_⟩
    refine ⟨p, l3, _, _, rfl, rfl, (Same.new m4) _ _ upd_same, upd_same, z (Nat.le_of_ble_eq_true rfl), fun p2 m5 => ?_⟩
    have h6 := fun o : HO => Good.new (o := o) (Good.val (Good.new (Good.new h5 m2) m3) (.int (0 - 10 ^ (60 : Int).toNat)) (by decide +kernel)) m4
    have h7 := fun o : HO => Good.new (o := o) (h6 _) m5
    simp only [List.nil_append, List.cons_append] at h7
    have hd2 := fun o : HO => (h6 o).same _ _ hd
    refine ⟨d, p2, n, _, rfl, (ne_of_none (hd2 _) m5).symm, SqL.of upd_same, Nat.le_of_ble_eq_true rfl, di.same (h7 _).same, hn, fun q ys H' nqd nq kp hq pm di2 => ?_⟩
    · refine k q ys H' nqd ((h7 _).same.free nq) (fun b o nb e => kp b o nb ((h7 _).same b o e)) hq pm.length_eq (fun y m => (h7 _).mixed kp (pm.subset m)) di2
end
end Pr
namespace Pr
open PySem PySem.Spec PyProof.Rows L2
/-! ### integers, counts, coprime pairs -/
/-- the type of a value that is no instance -/
inductive Kd (H : Hp) : V → String → Prop where
  | non : Kd H .non "NoneType"
  | bl (b : Bool) : Kd H (.bl b) "bool"
  | int (i : Int) : Kd H (.int i) "int"
  | str (z : Str) : Kd H (.str z) "str"
  | lst {a : Addr} {xs : List V} (e : H a = some (.lst xs)) : Kd H (.ref a) "list"
  | tup {a : Addr} {xs : List V} (e : H a = some (.tup xs)) : Kd H (.ref a) "tuple"
  | dK {a : Addr} {kvs : List (Key × V)} (e : H a = some (.dK kvs)) : Kd H (.ref a) "dict"
theorem Odd.kd {H : Hp} {v : V} (o : Odd H v) : ∃ t, Kd H v t := by
  cases o with
  | non => exact ⟨_, .non⟩
  | bl b => exact ⟨_, .bl b⟩
  | int i _ => exact ⟨_, .int i⟩
  | str z => exact ⟨_, .str z⟩
  | lst e => exact ⟨_, .lst e⟩
  | tup e => exact ⟨_, .tup e⟩
  | dK e => exact ⟨_, .dK e⟩
theorem Kd.ty {K : PySem.W.Frag} {H : Hp} {v : V} {t : String} (k : Kd H v t) : TyX K H v (.type t) := by
  cases k with
  | non => exact .base .non
  | bl b => exact .base (.bl b)
  | int i => exact .base (.int i)
  | str z => exact .base (.str z)
  | lst e => exact .base (.lst e)
  | tup e => exact .base (.tup e)
  | dK e => exact .base (.dK e)
/-- is it an int (a bool is one); is it a bool -/
def isI : V → Bool
  | .bl _ => true
  | .int _ => true
  | _ => false
def isB : V → Bool
  | .bl _ => true
  | _ => false
theorem kit_int {K : PySem.W.Frag} {H : Hp} {v : V} {t : String} (k : Kd H v t) : PySem.W.kitOne K (.type t) (.type "int") = some (isI v) := by
  cases k <;> first | exact kit_ty (r := true) (by decide +kernel) | exact kit_ty (r := false) (by decide +kernel)
theorem kit_bool {K : PySem.W.Frag} {H : Hp} {v : V} {t : String} (k : Kd H v t) : PySem.W.kitOne K (.type t) (.type "bool") = some (isB v) := by
  cases k <;> first | exact kit_ty (r := true) (by decide +kernel) | exact kit_ty (r := false) (by decide +kernel)
/-- an integer of at most sixty digits; a count -/
def isInt : V → Bool
  | .int i => decide ((if i < 0 then -i else i) < 10 ^ (60 : Int).toNat)
  | _ => false
def isCount : V → Bool
  | .int i => decide ((if i < 0 then -i else i) < 10 ^ (60 : Int).toNat) && decide (0 ≤ i)
  | _ => false
theorem count_nat {v : V} (h : isCount v = true) : ∃ n : Nat, v = .int n ∧ n < 10 ^ 60 := by
  cases v with
  | int i =>
    have h' : (decide ((if i < 0 then -i else i) < 10 ^ (60 : Int).toNat) && decide (0 ≤ i)) = true := h
    rw [Bool.and_eq_true] at h'
    have h1 := of_decide_eq_true h'.1
    have h2 := of_decide_eq_true h'.2
    rw [if_neg (by omega)] at h1
    have e : ((10 : Int) ^ (60 : Int).toNat) = ((10 ^ 60 : Nat) : Int) := by decide +kernel
    rw [e] at h1
    exact ⟨i.toNat, by rw [Int.toNat_of_nonneg h2], by omega⟩
  | _ => cases h
theorem nat_count {n : Nat} (h : n < 10 ^ 60) : isCount (.int n) = true := by
  show (decide ((if (n : Int) < 0 then -(n : Int) else n) < 10 ^ (60 : Int).toNat) && decide ((0 : Int) ≤ n)) = true
  have e : ((10 : Int) ^ (60 : Int).toNat) = ((10 ^ 60 : Nat) : Int) := by decide +kernel
  rw [if_neg (by omega), e, decide_eq_true (by omega), decide_eq_true (by omega)]
  rfl
def spInt : Sp := fun vs H Q _ => ∃ (v : V) (t : String), vs = [v] ∧ Kd H v t ∧ Q (.bl (isInt v)) H
def spCount : Sp := fun vs H Q _ => ∃ (v : V) (t : String), vs = [v] ∧ Kd H v t ∧ Q (.bl (isCount v)) H
section
variable {P : Program} {w : World} {K : PySem.W.Frag} {mg : Str → Option Value} {base : Heap}
theorem scInteger : FnScope ["value"] ["value"] (defScope sInteger) := ⟨rfl, rfl, rfl, by decide +kernel, rfl, by decide +kernel, by decide +kernel⟩
theorem ok_integer {f : Addr} {fd : FuncData} (F : Fun K "is_integer" "is_integer" sInteger f fd) (T : Free mg) : FnOk P w K mg base CX0 1 f fd ["value"] spInt := by
  refine F.ok scInteger (fun vs H Q E h => ?_) (fun cdv A outer s H vs Q E hr h => ?_)
  · obtain ⟨v, t, rfl, _⟩ := h
    rfl
  · obtain ⟨v, t, rfl, kd, q⟩ := h
    refine ⟨_, pss_one (ps_ret (pe_and (pe_callB call_isi (by rfl) T.isi (by decide +kernel) (pa_cons (pv 0) (pa_cons (pe_bltn (v := .ty "int") (by rfl) T.int (by decide +kernel) rfl) pa_nil)))
      (pe_and (pe_not (pe_callB call_isi (by rfl) T.isi (by decide +kernel) (pa_cons (pv 0) (pa_cons (pe_bltn (v := .ty "bool") (by rfl) T.bool (by decide +kernel) rfl) pa_nil))))
        (pe_one (pe_cmpR op_lt (pe_callB call_abs (by rfl) T.abs (by decide +kernel) (pa_cons (pv 0) pa_nil)) (pe_op op_pow pe_int pe_int) (nomark _)))))), ?_⟩
    refine ⟨_, rfl, v, _, _, _, _, rfl, .ty "int", kd.ty, kit_int kd, _, rfl, ?_⟩
    cases kd with
    | int i => exact iteT ⟨_, rfl, _, _, _, _, _, rfl, .ty "bool", (Kd.int i).ty, kit_bool (Kd.int (H := H) i), _, rfl, _, rfl, iteT ⟨_, rfl, i, rfl, 10, 60, rfl, rfl, c10 (k := 60) (by decide), _, _, rfl, rfl, q⟩⟩
    | bl b => exact iteT ⟨_, rfl, _, _, _, _, _, rfl, .ty "bool", (Kd.bl b).ty, kit_bool (Kd.bl (H := H) b), _, rfl, _, rfl, iteF q⟩
    | _ => exact iteF q
theorem scCount : FnScope ["value"] ["value"] (defScope sCount) := ⟨rfl, rfl, rfl, by decide +kernel, rfl, by decide +kernel, by decide +kernel⟩
/-- the program's own defs that the others call -/
structure Words (K : PySem.W.Frag) (mg : Str → Option Value) (fI fC : Addr) (dI dC : FuncData) : Prop where
  FI : Fun K "is_integer" "is_integer" sInteger fI dI
  bI : Binds K dI ["value"] []
  gI : mg "is_integer" = some (.ref fI)
  FC : Fun K "is_count" "is_count" sCount fC dC
  bC : Binds K dC ["value"] []
  gC : mg "is_count" = some (.ref fC)
variable {fI fC : Addr} {dI dC : FuncData}
theorem ok_count (W : Words K mg fI fC dI dC) (T : Free mg) : FnOk P w K mg base CX0 2 fC dC ["value"] spCount := by
  have GI : FnOk P w K mg base CX0 1 fI dI ["value"] spInt := ok_integer W.FI T
  refine W.FC.ok scCount (fun vs H Q E h => ?_) (fun cdv A outer s H vs Q E hr h => ?_)
  · obtain ⟨v, t, rfl, _⟩ := h
    rfl
  · obtain ⟨v, t, rfl, kd, q⟩ := h
    refine ⟨_, pss_one (ps_ret (pe_and (pe_call GI hr (by rfl) W.gI W.FI.kp W.bI .nil pass0 (pa_cons (pv 0) pa_nil)) (pe_one (pe_cmpR op_ge (pv 0) pe_int (nomark _))))), ?_⟩
    refine ⟨_, rfl, v, t, rfl, kd, _, rfl, ?_⟩
    cases kd with
    | int i =>
      refine ite2 (fun c => ⟨_, rfl, i, _, rfl, rfl, ?_⟩) (fun c => ?_)
      · have e : isCount (.int i) = decide (0 ≤ i) := by
          show (_ && _) = _
          rw [show decide ((if i < 0 then -i else i) < 10 ^ (60 : Int).toNat) = true from c, Bool.true_and]
        rw [e] at q
        exact q
      · have e : isCount (.int i) = false := by
          show (_ && _) = _
          rw [show decide ((if i < 0 then -i else i) < 10 ^ (60 : Int).toNat) = false from Bool.eq_false_iff.mpr c, Bool.false_and]
        rw [e] at q
        exact q
    | _ => exact iteF q
end
end Pr
namespace Pr
open PySem PySem.Spec PyProof.Rows L2
/-! ### coprime -/
def errN (v : V) : HO := .xd [(("value" : Str), v)]
/-- coprime(x, y): the first one that is none leaves by an error that keeps it; else the new pair -/
def spCop (C : Addr) : Sp := fun vs H Q E => ∃ (x y : V) (t u : String), vs = [x, y] ∧ Kd H x t ∧ Kd H y u ∧
  (isCount x = false → ∀ d, H d = none → E (.ref C) (some d) (upd H d (errN x))) ∧
  (isCount x = true → (isCount y = false ∨ y = .int 0) → ∀ d, H d = none → E (.ref C) (some d) (upd H d (errN y))) ∧
  (∀ a b : Nat, x = .int a → y = .int b → a < 10 ^ 60 → b < 10 ^ 60 → 0 < b → ∀ p, H p = none → Q (.ref p) (upd H p (.tup [.int ((a / Nat.gcd a b : Nat) : Int), .int ((b / Nat.gcd a b : Nat) : Int)])))
theorem nat_div (a g : Nat) : ((a : Int) / (g : Int)) = ((a / g : Nat) : Int) := (Int.natCast_ediv a g).symm
theorem p60 : (10 : Nat) ^ 60 < 2 ^ 200 := by decide +kernel
theorem scCoprime : FnScope ["one", "other", "shared"] ["one", "other"] (defScope sCoprime) := ⟨rfl, rfl, rfl, by decide +kernel, rfl, by decide +kernel, by decide +kernel⟩
section
variable {P : Program} {w : World} {K : PySem.W.Frag} {mg : Str → Option Value} {base : Heap} {fI fC : Addr} {dI dC : FuncData}
theorem ok_coprime {f C fN : Addr} {fd : FuncData} (F : Fun K "coprime" "coprime" sCoprime f fd) (W : Words K mg fI fC dI dC) (T : Free mg) (L : PySem.InumX.InumTxt K mg C fN) (gg : mg "gcd" = some (.builtin "math.gcd")) :
    FnOk P w K mg base (L2.CX P w) 4 f fd ["one", "other"] (spCop C) := by
  have GC : FnOk P w K mg base CX0 2 fC dC ["value"] spCount := ok_count W T
  refine F.okX scCoprime (fun vs H Q E h => ?_) (fun cdv A outer s H vs Q E hr h => ?_)
  · obtain ⟨x, y, t, u, rfl, _⟩ := h
    rfl
  · obtain ⟨x, y, t, u, rfl, kx, ky, e1, e2, q⟩ := h
    have hr2 : Room 2 _ := hr.mono (by decide)
    refine ⟨_, pss_cons (ps_if (pt_not (pt_val (pe_call GC hr2 (by rfl) W.gC W.FC.kp W.bC .nil pass0 (pa_cons (pv 0) pa_nil))))
        (pss_one (ps_raiseInum rfl L hr (takes_of rfl rfl rfl rfl) (by exact (pa_cons (pv 0) pa_nil)))) pss_nil)
      (pss_cons (ps_if (PW.pt (pw_or (pt_not (pt_val (pe_call GC hr2 (by rfl) W.gC W.FC.kp W.bC .nil pass0 (pa_cons (pv 1) pa_nil)))) (pw_or1 (pt_cmpR op_eq (pv 1) pe_int (nomark _)))))
        (pss_one (ps_raiseInum rfl L hr (takes_of rfl rfl rfl rfl) (by exact (pa_cons (pv 1) pa_nil)))) pss_nil)
      (pss_cons (ps_set (i := 2) scCoprime.nd rfl (.inl rfl) (pe_callBfun cr_gcd (by rfl) gg (pa_cons (pv 0) (pa_cons (pv 1) pa_nil))))
      (pss_one (ps_ret (pe_tup (pa_cons (pe_op op_fdivW (pv 0) (pv 2)) (pa_cons (pe_op op_fdivW (pv 1) (pv 2)) pa_nil))))))), ?_⟩
    refine ⟨_, rfl, x, t, rfl, kx, _, rfl, ?_⟩
    cases cx : isCount x with
    | false => exact iteT ⟨_, rfl, _, rfl, fun d hd => e1 cx d hd⟩
    | true =>
      refine iteF ⟨_, rfl, y, u, rfl, ky, _, rfl, ?_⟩
      cases cy : isCount y with
      | false => exact iteT (iteT ⟨_, rfl, _, rfl, fun d hd => e2 cx (.inl cy) d hd⟩)
      | true =>
        obtain ⟨a, rfl, la⟩ := count_nat cx
        obtain ⟨b, rfl, lb⟩ := count_nat cy
        refine iteF ⟨_, rfl, rfl, _, rfl, ?_⟩
        refine ite2 (fun c => ?_) (fun c => ?_)
        · have e0 : V.int (b : Int) = .int 0 := of_decide_eq_true c
          exact ⟨_, rfl, _, rfl, fun d hd => e2 cx (.inr e0) d hd⟩
        · have hb : 0 < b := by
            rcases Nat.eq_zero_or_pos b with z | z
            · subst z
              exact absurd (decide_eq_true rfl) c
            · exact z
          have hg : 0 < Nat.gcd a b := Nat.gcd_pos_of_pos_right a hb
          have lg : Nat.gcd a b ≤ b := Nat.gcd_le_right a hb
          have l2 := p60
          refine ⟨_, rfl, _, rfl, _, _, rfl, ?_⟩
          refine ⟨_, rfl, _, rfl, _, _, rfl, rfl, wide_div (b := 200) (by show (0 : Int) < ((Nat.gcd a b : Nat) : Int); omega) (by show Int.natAbs ((Nat.gcd a b : Nat) : Int) < 2 ^ 200; omega) (by decide) (by decide), ?_⟩
          refine ⟨_, rfl, _, rfl, _, _, rfl, rfl, wide_div (b := 200) (by show (0 : Int) < ((Nat.gcd a b : Nat) : Int); omega) (by show Int.natAbs ((Nat.gcd a b : Nat) : Int) < 2 ^ 200; omega) (by decide) (by decide), ?_⟩
          refine ⟨by show 2 ≤ sizeLine; decide, fun p hp => ?_⟩
          have r := q a b rfl rfl la lb hb p hp
          rw [← nat_div, ← nat_div] at r
          exact r
end
/-! ### the law's own division -/
/-- two turns halve the second number -/
structure Eu (g i : Nat) (x y : Nat) : Prop where
  gcd : Nat.gcd x y = g
  even : i % 2 = 0 → y < 2 ^ (200 - i / 2)
  odd : i % 2 = 1 → x < 2 ^ (200 - i / 2) ∧ y < x
theorem mod_half {x y : Nat} (h0 : 0 < y) (h : y < x) : 2 * (x % y) < x := by
  have h1 := Nat.mod_lt x h0
  rcases Nat.lt_or_ge x (2 * y) with c | c
  · have : x % y = x - y := by rw [Nat.mod_eq_sub_mod (Nat.le_of_lt h), Nat.mod_eq_of_lt (by omega)]
    omega
  · omega
theorem Eu.next {g i x y : Nat} (e : Eu g i x y) (h0 : 0 < y) (hi : i < 400) : Eu g (i + 1) y (x % y) := by
  refine ⟨?_, fun h => ?_, fun h => ?_⟩
  · have := e.gcd
    rw [Nat.gcd_comm] at this
    rw [← this, Nat.gcd_rec y x]
    exact Nat.gcd_comm _ _
  · have o := e.odd (by omega)
    have h2 := mod_half h0 o.2
    have e1 : 200 - i / 2 = (200 - (i + 1) / 2) + 1 := by omega
    rw [e1, Nat.pow_succ] at o
    omega
  · have o := e.even (by omega)
    have e1 : 200 - (i + 1) / 2 = 200 - i / 2 := by omega
    rw [e1]
    exact ⟨o, Nat.mod_lt _ h0⟩
theorem fmod_nat (x y : Nat) : (x : Int).fmod (y : Int) = ((x % y : Nat) : Int) := by
  rw [Int.fmod_eq_emod_of_nonneg _ (by omega)]
  rfl
def spCommon : Sp := fun vs H Q _ => ∃ (a b : Nat), vs = [.int a, .int b] ∧ b < 2 ^ 200 ∧ Q (.int ((Nat.gcd a b : Nat) : Int)) H
theorem scCommon : FnScope ["one", "other", "turn"] ["one", "other"] (defScope sCommon) := ⟨rfl, rfl, rfl, by decide +kernel, rfl, by decide +kernel, by decide +kernel⟩
section
variable {P : Program} {w : World} {K : PySem.W.Frag} {mg : Str → Option Value} {base : Heap}
theorem ok_common {f : Addr} {fd : FuncData} (F : Fun K "_law_common" "_law_common" sCommon f fd) (T : Free mg) : FnOk P w K mg base CX0 1 f fd ["one", "other"] spCommon := by
  refine F.ok scCommon (fun vs H Q E h => ?_) (fun cdv A outer s H vs Q E hr h => ?_)
  · obtain ⟨a, b, rfl, _⟩ := h
    rfl
  · obtain ⟨a, b, rfl, lb, q⟩ := h
    refine ⟨_, pss_cons (ps_for PassesOwn.never rfl (pi_range1 rfl T.range (pa_cons pe_int pa_nil)) (pg_name (i := 2) scCommon.nd rfl (.inl rfl))
        (pss_cons (ps_if (pt_cmpR op_eq (pv 1) pe_int (nomark _)) (pss_one ps_break) pss_nil)
        (pss_one (ps_par (i := 0) (j := 1) (by rfl) scCommon.nd rfl rfl (by decide) rfl rfl (pa_cons (pv 1) (pa_cons (pe_op op_modN (pe_callTy call_int1 (by rfl) T.int (by decide +kernel) (pa_cons (pv 0) pa_nil)) (pv 1)) pa_nil)) (by rfl)))))
      (pss_one (ps_ret (pv 0))), ?_⟩
    refine ⟨400, rfl, by decide, by decide, for_range (lo := 0) (n := (400 : Int).toNat) (fun i σ H' => ∃ (x y : Nat) (v : Option V), σ = [some (.int x), some (.int y), v] ∧ H' = H ∧ Eu (Nat.gcd a b) i x y)
      ⟨a, b, none, rfl, rfl, rfl, fun _ => lb, fun h => absurd h (by decide)⟩ ?_ ?_⟩
    · rintro i σ H' hi ⟨x, y, v, rfl, rfl, eu⟩
      refine ⟨_, rfl, rfl, _, rfl, ite2 (fun c => ?_) (fun c => ?_)⟩
      · have e0 : V.int (y : Int) = .int 0 := of_decide_eq_true c
        have e1 : y = 0 := by
          have := V.int.inj e0
          omega
        subst e1
        have g := eu.gcd
        rw [Nat.gcd_zero_right] at g
        subst g
        exact ⟨_, rfl, q⟩
      · have h0 : 0 < y := by
          rcases Nat.eq_zero_or_pos y with z | z
          · subst z
            exact absurd (decide_eq_true rfl) c
          · exact z
        refine ⟨_, rfl, _, rfl, .inl ⟨_, rfl, _, rfl, _, _, rfl, rfl, (by dsimp only; omega), _, _, rfl, ?_⟩⟩
        refine ⟨y, x % y, some (.int (0 + (i : Int))), ?_, rfl, eu.next h0 hi⟩
        rw [← fmod_nat]
        rfl
    · rintro σ H' ⟨x, y, v, rfl, rfl, eu⟩
      have z := eu.even (by decide)
      have e1 : y = 0 := by
        have e2 : (2 : Nat) ^ (200 - (400 : Int).toNat / 2) = 1 := by decide
        omega
      subst e1
      have g := eu.gcd
      rw [Nat.gcd_zero_right] at g
      subst g
      exact ⟨_, rfl, q⟩
end
end Pr
namespace Pr
open PySem PySem.Spec PyProof.Rows L2
/-- _law_given(x, y): [the first one that is none], or the pair -/
def spGiven : Sp := fun vs H Q _ => ∃ (x y : V) (t u : String), vs = [x, y] ∧ Kd H x t ∧ Kd H y u ∧
  (isCount x = false → ∀ d p, H d = none → (upd H d (errN x)) p = none → Q (.ref p) (upd (upd H d (errN x)) p (.lst [x]))) ∧
  (isCount x = true → (isCount y = false ∨ y = .int 0) → ∀ d p, H d = none → (upd H d (errN y)) p = none → Q (.ref p) (upd (upd H d (errN y)) p (.lst [y]))) ∧
  (∀ a b : Nat, x = .int a → y = .int b → a < 10 ^ 60 → b < 10 ^ 60 → 0 < b → ∀ p, H p = none → Q (.ref p) (upd H p (.tup [.int ((a / Nat.gcd a b : Nat) : Int), .int ((b / Nat.gcd a b : Nat) : Int)])))
/-- what the coprime def is -/
structure Cop (K : PySem.W.Frag) (mg : Str → Option Value) (fP C fN : Addr) (dP : FuncData) : Prop where
  F : Fun K "coprime" "coprime" sCoprime fP dP
  b : Binds K dP ["one", "other"] []
  g : mg "coprime" = some (.ref fP)
  L : PySem.InumX.InumTxt K mg C fN
  gcd : mg "gcd" = some (.builtin "math.gcd")
  te : PySem.W.exmOne K (.ref C) (.ref C) = some true
theorem scGiven : FnScope ["one", "other", "error"] ["one", "other"] (defScope sGiven) := ⟨rfl, rfl, rfl, by decide +kernel, rfl, by decide +kernel, by decide +kernel⟩
/-- return [error.value] -/
def t_gsuite (C : Addr) : Addr → Value → Option Addr → TS := fun a cls d => tRet (tLst (tCons (tByInum C a cls d (tVar 2)) tNil))
section
variable {P : Program} {w : World} {K : PySem.W.Frag} {mg : Str → Option Value} {base : Heap} {fI fC fP C fN : Addr} {dI dC dP : FuncData}
theorem ok_given {f : Addr} {fd : FuncData} (F : Fun K "_law_given" "_law_given" sGiven f fd) (W : Words K mg fI fC dI dC) (T : Free mg) (Z : Cop K mg fP C fN dP) :
    FnOk P w K mg base CX0 5 f fd ["one", "other"] spGiven := by
  have GP : FnOk P w K mg base (L2.CX P w) 4 fP dP ["one", "other"] (spCop C) := ok_coprime Z.F W T Z.L Z.gcd
  refine F.ok scGiven (fun vs H Q E h => ?_) (fun cdv A outer s H vs Q E hr h => ?_)
  · obtain ⟨x, y, t, u, rfl, _⟩ := h
    rfl
  · obtain ⟨x, y, t, u, rfl, kx, ky, e1, e2, q⟩ := h
    refine ⟨_, pss_one (ps_try_as (i := 2) (tb := fun W => tRet (tCallS (spCop C) (WE W) (tCons (tVar 0) (tCons (tVar 1) tNil)))) (ts := t_gsuite C) (Wout := fun _ _ _ _ => False) rfl rfl scGiven.nd rfl rfl ⟨rfl, by decide, Or.inl Z.L.gC⟩ takes0
        (fun W' pn xe tk _ => pss_one (ps_ret (by exact (pe_callS GP hr rfl Z.g Z.F.kp Z.b (fun σ => passAt tk σ) (by exact (pa_cons (pv 0) (pa_cons (pv 1) pa_nil)))))))
        (fun a oe cls d pn hz hf => pss_one (ps_ret (pe_lst (pa_cons (pe_byInum Z.L hz hf (pv 2)) pa_nil))))), ?_⟩
    refine ⟨_, rfl, _, rfl, x, y, t, u, rfl, kx, ky, fun c d hd => ?_, fun c1 c2 d hd => ?_, fun a b ea eb la lb hb p hp => q a b ea eb la lb hb p hp⟩
    · refine ⟨true, Z.te, fun _ a ha => ?_, fun z => Bool.noConfusion z⟩
      exact ⟨_, rfl, rfl, rfl, d, x, rfl, upd_same, by show 1 ≤ sizeLine; decide, fun p hp => e1 c d p hd hp⟩
    · refine ⟨true, Z.te, fun _ a ha => ?_, fun z => Bool.noConfusion z⟩
      exact ⟨_, rfl, rfl, rfl, d, y, rfl, upd_same, by show 1 ≤ sizeLine; decide, fun p hp => e2 c1 c2 d p hd hp⟩
/-- _law_right(a, b) is True -/
def spRight : Sp := fun vs H Q _ => ∃ (a b : Nat), vs = [.int a, .int b] ∧ a < 10 ^ 60 ∧ b < 10 ^ 60 ∧ 0 < b ∧ ∀ H', Same H H' → Q (.bl true) H'
theorem scRight : FnScope ["one", "other", "told"] ["one", "other"] (defScope sRight) := ⟨rfl, rfl, rfl, by decide +kernel, rfl, by decide +kernel, by decide +kernel⟩
theorem kit_tup {K : PySem.W.Frag} : PySem.W.kitOne K (.type "tuple") (.type "tuple") = some true := kit_ty (by decide +kernel)
theorem cross {a b g : Nat} (h : 0 < g) (ha : g ∣ a) (hb : g ∣ b) : (a / g) * b = (b / g) * a := by
  obtain ⟨x, rfl⟩ := ha
  obtain ⟨y, rfl⟩ := hb
  rw [Nat.mul_div_cancel_left x h, Nat.mul_div_cancel_left y h, Nat.mul_left_comm x g y, Nat.mul_left_comm y g x, Nat.mul_comm x y]
theorem ok_right {f fD : Addr} {fd dD : FuncData} (F : Fun K "_law_right" "_law_right" sRight f fd) (W : Words K mg fI fC dI dC) (T : Free mg) (Z : Cop K mg fP C fN dP)
    (FD : Fun K "_law_common" "_law_common" sCommon fD dD) (bD : Binds K dD ["one", "other"] []) (gD : mg "_law_common" = some (.ref fD)) : FnOk P w K mg base (L2.CX P w) 5 f fd ["one", "other"] spRight := by
  have GP : FnOk P w K mg base (L2.CX P w) 4 fP dP ["one", "other"] (spCop C) := ok_coprime Z.F W T Z.L Z.gcd
  have GD : FnOk P w K mg base CX0 1 fD dD ["one", "other"] spCommon := ok_common FD T
  refine F.okX scRight (fun vs H Q E h => ?_) (fun cdv A outer s H vs Q E hr h => ?_)
  · obtain ⟨a, b, rfl, _⟩ := h
    rfl
  · obtain ⟨a, b, rfl, la, lb, hb, q⟩ := h
    have hr1 : Room 1 _ := hr.mono (by decide)
    refine ⟨_, pss_cons (ps_set (i := 2) scRight.nd rfl (.inl rfl) (pe_call GP hr (by rfl) Z.g Z.F.kp Z.b .nil passL (pa_cons (pv 0) (pa_cons (pv 1) pa_nil))))
      (pss_cons (ps_if (PW.pt (pw_or (pt_not (pt_val (pe_callB call_isi (by rfl) T.isi (by decide +kernel) (pa_cons (pv 2) (pa_cons (pe_bltn (v := .ty "tuple") (by rfl) T.tuple (by decide +kernel) rfl) pa_nil)))))
          (pw_or (pt_cmpR op_ne (pe_callB call_len_seq (by rfl) T.len PySem.boot_len (pa_cons (pv 2) pa_nil)) pe_int (nomark _))
          (pw_or (pt_cmpR op_lt (pe_ix ix_tup (pv 2) pe_int (fun _ _ => rfl)) pe_int (nomark _)) (pw_or1 (pt_cmpR op_lt (pe_ix ix_tup (pv 2) pe_int (fun _ _ => rfl)) pe_int (nomark _)))))))
        (pss_one (ps_ret pe_bl)) pss_nil)
      (pss_one (ps_ret (pe_and (pe_cmpR op_eq (pe_op op_mulW (pe_ix ix_tup (pv 2) pe_int (fun _ _ => rfl)) (pv 1)) (pe_op op_mulW (pe_ix ix_tup (pv 2) pe_int (fun _ _ => rfl)) (pv 0)) (nomark _))
        (pe_one (pe_cmpR op_eq (pe_call GD hr1 (by rfl) gD FD.kp bD .nil pass0 (pa_cons (pe_ix ix_tup (pv 2) pe_int (fun _ _ => rfl)) (pa_cons (pe_ix ix_tup (pv 2) pe_int (fun _ _ => rfl)) pa_nil))) pe_int (nomark _))))))), ?_⟩
    refine ⟨_, rfl, _, rfl, .int a, .int b, _, _, rfl, .int a, .int b, fun c => ?_, fun _ c => ?_, fun a' b' ea eb _ _ _ p hp => ?_⟩
    · rw [nat_count la] at c
      cases c
    · rcases c with c | c
      · rw [nat_count lb] at c
        cases c
      · have := V.int.inj c
        omega
    · obtain rfl : a = a' := by
        have := V.int.inj ea
        omega
      obtain rfl : b = b' := by
        have := V.int.inj eb
        omega
      have hg : 0 < Nat.gcd a b := Nat.gcd_pos_of_pos_right a hb
      have da := Nat.gcd_dvd_left a b
      have db := Nat.gcd_dvd_right a b
      have lx : a / Nat.gcd a b ≤ a := Nat.div_le_self _ _
      have ly : b / Nat.gcd a b ≤ b := Nat.div_le_self _ _
      have py : 0 < b / Nat.gcd a b := Nat.div_pos (Nat.le_of_dvd hb db) hg
      have cr := cross hg da db
      have co : Nat.gcd (a / Nat.gcd a b) (b / Nat.gcd a b) = 1 := by
        rw [Nat.gcd_div da db, Nat.div_self hg]
      have l2 := p60
      generalize a / Nat.gcd a b = x at *
      generalize b / Nat.gcd a b = y at *
      have st : SqT K (upd H p (.tup [.int (x : Int), .int (y : Int)])) p [.int (x : Int), .int (y : Int)] := SqT.of upd_same
      refine ⟨_, rfl, .ref p, _, _, _, _, rfl, .ty "tuple", .base (.tup upd_same), kit_tup, _, rfl, iteF ?_⟩
      refine ⟨_, rfl, p, _, rfl, .inr st, rfl, _, rfl, iteNS rfl ?_⟩
      refine ⟨_, rfl, p, _, 1, _, rfl, rfl, st, rfl, _, _, rfl, rfl, _, rfl, ite2 (fun c => absurd (of_decide_eq_true c) (by omega)) (fun _ => ?_)⟩
      refine ⟨_, rfl, p, _, 0, _, rfl, rfl, st, rfl, _, _, rfl, rfl, _, rfl, ite2 (fun c => absurd (of_decide_eq_true c) (by omega)) (fun _ => ?_)⟩
      -- the products, the common divisor
      refine ⟨_, rfl, p, _, 0, _, rfl, rfl, st, rfl, _, rfl, _, _, rfl, rfl, wide_mul (a := 200) (b := 200) (by omega) (by omega) (by decide) (by decide) (by decide), ?_⟩
      refine ⟨_, rfl, p, _, 1, _, rfl, rfl, st, rfl, _, rfl, _, _, rfl, rfl, wide_mul (a := 200) (b := 200) (by omega) (by omega) (by decide) (by decide) (by decide), rfl, _, rfl, ?_⟩
      have e1 : ((x : Int) * (b : Int)) = ((y : Int) * (a : Int)) := by exact_mod_cast cr
      refine ite2 (fun _ => ?_) (fun c => absurd (decide_eq_true (congrArg V.int e1)) c)
      refine ⟨_, rfl, p, _, 0, _, rfl, rfl, st, rfl, _, rfl, p, _, 1, _, rfl, rfl, st, rfl, x, y, rfl, by omega, rfl, ?_⟩
      rw [co]
      exact q _ (Same.new hp)
end
end Pr
namespace Pr
open PySem PySem.Spec PyProof.Rows L2
/-! ### the same values in two lists -/
theorem OpR.or {X : Cx} {f : Value → Value → Sem Value} {r r' : R2} (h : OpR X f r) (h' : OpR X f r') : OpR X f (fun x y H Q => r x y H Q ∨ r' x y H Q) := by
  intro pins s σ H x y v u Q I rx ry q
  rcases q with q | q
  · exact h pins s σ H x y v u Q I rx ry q
  · exact h' pins s σ H x y v u Q I rx ry q
/-- two lists that hold the same values are not unequal -/
def rNeS (K : PySem.W.Frag) : R2 := fun x y H Q => ∃ a b xs, x = .ref a ∧ y = .ref b ∧ SqL K H a xs ∧ SqL K H b xs ∧ (∀ v ∈ xs, ∃ t, Kd H v t) ∧ Q (.bl false) H
theorem eq_self {A : Around} {s : Shared} {H : Hp} {v : V} {t : String} {u u' : Value} (k : Kd H v t) (r : RelV v u) (r' : RelV v u') : SeqAt.EqAt A s u u' true := by
  cases k with
  | non => exact eqAt_same r r' rfl
  | bl b => exact eqAt_same r r' rfl
  | int i => exact eqAt_same r r' rfl
  | str z => exact eqAt_same r r' rfl
  | _ =>
    cases (show u = Value.ref _ from r)
    cases (show u' = Value.ref _ from r')
    exact SeqAt.EqAt.same _
theorem eq_items {A : Around} {s : Shared} {H : Hp} : ∀ {xs : List V} {us ws : List Value}, (∀ v ∈ xs, ∃ t, Kd H v t) → Vals xs us → Vals xs ws → ∀ j (h1 : j < us.length) (h2 : j < ws.length), SeqAt.EqAt A s us[j] ws[j] true
  | _, _, _, _, .nil, .nil, j, h1, _ => absurd h1 (Nat.not_lt_zero j)
  | _, _, _, k, .cons r _, .cons r' _, 0, _, _ => by
    obtain ⟨t, kt⟩ := k _ List.mem_cons_self
    exact eq_self kt r r'
  | _, _, _, k, .cons _ t, .cons _ t', j + 1, h1, h2 => eq_items (fun v m => k v (List.mem_cons_of_mem _ m)) t t' j (Nat.lt_of_succ_lt_succ h1) (Nat.lt_of_succ_lt_succ h2)
theorem op_neS {X : Cx} (hu : X.A.units + 64 < cLine) : OpR X (compareOp .NotEq) (rNeS X.K) := by
  intro pins s σ H x y v u Q I rx ry h
  obtain ⟨a, b, xs, rfl, rfl, ha, hb, k, q⟩ := h
  cases (show v = Value.ref a from rx)
  cases (show u = Value.ref b from ry)
  obtain ⟨us, r1, p1, _⟩ := I.list ha
  obtain ⟨ws, r2, p2, _⟩ := I.list hb
  have hsz : us.toArray.size = ws.toArray.size := by
    rw [List.size_toArray, List.size_toArray, ← r1.length, ← r2.length]
  have z := SeqAt.RcNeAt.lists (e := fun _ => true) p1.isList p2.isList hsz (A := X.A) (s := s) (by omega) (fun j h1 h2 => by
    have e := eq_items (A := X.A.in1) (s := s) k r1 r2 j (by simpa using h1) (by simpa using h2)
    simpa using e)
  rw [show ((List.range us.toArray.size).all fun _ => true) = true from List.all_eq_true.mpr fun _ _ => rfl] at z
  exact z X.prog X.w _ _ ⟨.bl false, H, I, rfl, q⟩
end Pr
namespace Pr
open PySem PySem.Spec PyProof.Rows L2
def spLaw (K : PySem.W.Frag) : Sp := fun vs H Q _ => ∃ (a : Addr) (ns : List Int), vs = [.ref a] ∧ SqL K H a (ns.map V.int) ∧ ns.length ≤ 63 ∧ ∀ H', Q (.bl true) H'
theorem scLaw : FnScope ["script", "spot", "dice", "turn", "most", "one", "other", "factor", "value", "good"] ["script"] (defScope sLaw) := ⟨rfl, rfl, rfl, by decide +kernel, rfl, by decide +kernel, by decide +kernel⟩
/-- the law's own defs -/
structure Own (K : PySem.W.Frag) (mg : Str → Option Value) (fD fO fG fR fC : Addr) (dD dO dG dR dC : FuncData) : Prop where
  FD : Fun K "_law_dice" "_law_dice" sDice fD dD
  bD : Binds K dD ["script", "spot"] []
  gD : mg "_law_dice" = some (.ref fD)
  FO : Fun K "_law_odd_values" "_law_odd_values" sOdd fO dO
  bO : Binds K dO ["dice"] []
  gO : mg "_law_odd_values" = some (.ref fO)
  FG : Fun K "_law_given" "_law_given" sGiven fG dG
  bG : Binds K dG ["one", "other"] []
  gG : mg "_law_given" = some (.ref fG)
  FR : Fun K "_law_right" "_law_right" sRight fR dR
  bR : Binds K dR ["one", "other"] []
  gR : mg "_law_right" = some (.ref fR)
  FC : Fun K "_law_common" "_law_common" sCommon fC dC
  bC : Binds K dC ["one", "other"] []
  gC : mg "_law_common" = some (.ref fC)
theorem Odd.int_is {H : Hp} {v : V} (o : Odd H v) (h : isCount v = true) : v = .int 0 ∨ v = .int 1 := by
  obtain ⟨n, rfl, hn⟩ := count_nat h
  generalize ei : (n : Int) = i at o
  cases o with
  | int i hi =>
    have e : ((10 : Int) ^ 60) = ((10 ^ 60 : Nat) : Int) := by decide +kernel
    rw [e] at hi
    rcases hi with hi | hi
    · rcases Nat.lt_or_ge n 1 with c | c
      · exact .inl (by rw [← ei]; exact congrArg V.int (by omega))
      · exact .inr (by rw [← ei]; exact congrArg V.int (by omega))
    · omega
/-- what `good` says -/
def goodV : V → Bool
  | .int i => decide (0 ≤ i) && decide (i < 10 ^ (60 : Int).toNat)
  | _ => false
theorem good_is (v : V) : goodV v = isCount v := by
  cases v with
  | int i =>
    show (decide (0 ≤ i) && decide (i < 10 ^ (60 : Int).toNat)) = (decide ((if i < 0 then -i else i) < 10 ^ (60 : Int).toNat) && decide (0 ≤ i))
    by_cases h : 0 ≤ i
    · rw [if_neg (by omega), decide_eq_true h, Bool.true_and, Bool.and_true]
    · rw [decide_eq_false h, Bool.false_and, Bool.and_false]
  | _ => rfl
theorem no1 {a : Nat} (la : a < 10 ^ 60) (c : isCount (.int a) = false) : False := by
  rw [nat_count la] at c
  cases c
theorem no2 {b : Nat} (lb : b < 10 ^ 60) (hb : 0 < b) (c : isCount (.int b) = false ∨ V.int (b : Int) = .int 0) : False := by
  rcases c with c | c
  · exact no1 lb c
  · have := V.int.inj c
    omega
theorem nat_of {a b : Nat} (e : V.int (a : Int) = .int (b : Int)) : a = b := by
  have := V.int.inj e
  omega
theorem PE.imp {X : Cx} {e : Expr} {t t' : TE} (h : PE X e t) (k : ∀ σ H Q, t' σ H Q → t σ H Q) : PE X e t' := ⟨fun pins s σ H Q I q => h.run pins s σ H Q I (k σ H Q q)⟩
/-- isinstance(value, int) and (not isinstance(value, bool)) and (0 <= value < 10 ** 60), value in slot 8 -/
abbrev t_good (K : PySem.W.Frag) : TE := tAndV (tCB (rIsi K) (tCons (tVar 8) (tCons (tC (.ty "int")) tNil))) (tAndV (tNotV (tCB (rIsi K) (tCons (tVar 8) (tCons (tC (.ty "bool")) tNil))))
  (tChain (rI0 fun i j => .bl (decide (i ≤ j))) (rI0 fun i j => .bl (decide (i < j))) (tC (.int 0)) (tVar 8) (tOp (rI CPow fun i j => .int (i ^ j.toNat)) (tC (.int 10)) (tC (.int 60)))))
def t_count8 : TE := fun σ H Q => ∃ (x : V) (t : String) (g : Bool), σ[8]? = some (some x) ∧ Kd H x t ∧ isCount x = g ∧ Q (.bl g) H
theorem pe_good {X : Cx} {e : Expr} (h : PE X e (t_good X.K)) : PE X e t_count8 := PE.imp h fun σ H Q ⟨x, t, g, hx, kd, eg, q⟩ => by
  refine ⟨_, hx, x, _, _, _, _, rfl, .ty "int", kd.ty, kit_int kd, _, rfl, ?_⟩
  rw [← good_is] at eg
  subst eg
  cases kd with
  | int i =>
    refine iteT ⟨_, hx, _, _, _, _, _, rfl, .ty "bool", (Kd.int (H := H) i).ty, kit_bool (Kd.int (H := H) i), _, rfl, _, rfl, iteT ⟨_, hx, 0, i, rfl, rfl, _, rfl, ?_⟩⟩
    refine ite2 (fun c => ⟨10, 60, rfl, rfl, c10 (k := 60) (by decide), i, _, rfl, rfl, ?_⟩) (fun c => ?_)
    · have e : goodV (.int i) = decide (i < 10 ^ (60 : Int).toNat) := by
        show (_ && _) = _
        rw [show decide (0 ≤ i) = true from c, Bool.true_and]
      rw [e] at q
      exact q
    · have e : goodV (.int i) = false := by
        show (_ && _) = _
        rw [show decide (0 ≤ i) = false from Bool.eq_false_iff.mpr c, Bool.false_and]
      rw [e] at q
      exact q
  | bl b => exact iteT ⟨_, hx, _, _, _, _, _, rfl, .ty "bool", (Kd.bl (H := H) b).ty, kit_bool (Kd.bl (H := H) b), _, rfl, _, rfl, iteF q⟩
  | _ => exact iteF q
/-- how many cells are asked -/
def spots (n : Int) : Int := if (if n < 4 then n else 4) > 1 then (if n < 4 then n else 4) else 1
theorem spots_le (n : Int) : 1 ≤ spots n ∧ spots n ≤ 4 := by
  unfold spots
  split <;> split <;> omega
theorem pick_int {v : V} {xs : List Int} {M : Int} (h : v ∈ xs.map V.int) (k : ∀ m ∈ xs, 0 < m ∧ m ≤ M) : ∃ m : Int, v = .int m ∧ 0 < m ∧ m ≤ M := by
  obtain ⟨m, hm, rfl⟩ := List.mem_map.mp h
  exact ⟨m, rfl, k m hm⟩
theorem big29 : (10 : Nat) ^ 29 * 10 ^ 29 < 10 ^ 60 ∧ (10 : Nat) ^ 29 < 2 ^ 100 ∧ (10 : Nat) ^ 29 < 10 ^ 60 := by decide +kernel
theorem pair_eqv (x y : Int) : PyData.eqv (.tuple [.int x, .int y]) (.tuple [.int x, .int y]) = true := SeqAt.eqv_refl _ rfl
section
variable {P : Program} {w : World} {K : PySem.W.Frag} {mg : Str → Option Value} {base : Heap} {fR fP fM : Addr} {dR dP dM : FuncData} {fI fC fQ C fN : Addr} {dI dC dQ : FuncData} {gD gO gG gR gC : Addr} {eD eO eG eR eC : FuncData}
theorem ok_law {f : Addr} {fd : FuncData} (F : Fun K "law" "law" sLaw f fd) (T : Free mg) (D : Draws K mg fR fP fM dR dP dM) (W : Words K mg fI fC dI dC) (Z : Cop K mg fQ C fN dQ) (O : Own K mg gD gO gG gR gC eD eO eG eR eC) :
    FnOk P w K mg base CX0 6 f fd ["script"] (spLaw K) := by
  have GD : FnOk P w K mg base CX0 1 gD eD ["script", "spot"] (spDice K) := ok_dice O.FD T
  have GR : FnOk P w K mg base CX0 1 fR dR ["dice", "total"] spRoll := ok_roll D.FR T
  have GP : FnOk P w K mg base CX0 2 fP dP ["dice", "items"] (spPick K) := ok_pick D T
  have GO : FnOk P w K mg base CX0 3 gO eO ["dice"] spOdd := ok_odd O.FO D T
  have GQ : FnOk P w K mg base (L2.CX P w) 4 fQ dQ ["one", "other"] (spCop C) := ok_coprime Z.F W T Z.L Z.gcd
  have GG : FnOk P w K mg base CX0 5 gG eG ["one", "other"] spGiven := ok_given O.FG W T Z
  have GI : FnOk P w K mg base (L2.CX P w) 5 gR eR ["one", "other"] spRight := ok_right O.FR W T Z O.FC O.bC O.gC
  refine F.ok scLaw (fun vs H Q E h => ?_) (fun cdv A outer s H vs Q E hr h => ?_)
  · obtain ⟨a, ns, rfl, _⟩ := h
    rfl
  · obtain ⟨a, ns, rfl, hS, hlen, q⟩ := h
    have r1 : Room 1 _ := hr.mono (by decide)
    have r2 : Room 2 _ := hr.mono (by decide)
    have r3 : Room 3 _ := hr.mono (by decide)
    have r4 : Room 4 _ := hr.mono (by decide)
    have hu := hr.units
    refine ⟨_, pss_cons (ps_for PassesOwn.never rfl (pi_range1 rfl T.range (pa_cons (pe_callB (call_max2 rfl) (by rfl) T.max (by decide +kernel) (pa_cons pe_int (pa_cons (pe_callB (call_min2 rfl) (by rfl) T.min (by decide +kernel) (pa_cons pe_int (pa_cons (pe_callB call_len_seq (by rfl) T.len PySem.boot_len (pa_cons (pv 0) pa_nil)) pa_nil))) pa_nil))) pa_nil)) (pg_name (i := 1) scLaw.nd rfl (.inl rfl)) (pss_cons (ps_set (i := 2) scLaw.nd rfl (.inl rfl) (pe_call GD r1 (by rfl) O.gD O.FD.kp O.bD .nil pass0 (pa_cons (pv 0) (pa_cons (pv 1) pa_nil)))) (pss_cons (ps_for PassesOwn.never rfl (pi_range1 rfl T.range (pa_cons pe_int pa_nil)) (pg_name (i := 3) scLaw.nd rfl (.inl rfl)) (pss_cons (ps_set (i := 4) scLaw.nd rfl (.inl rfl) (pe_call GP r2 (by rfl) D.gP D.FP.kp D.bP .nil pass0 (pa_cons (pv 2) (pa_cons (pe_lst (pa_cons pe_int (pa_cons pe_int (pa_cons pe_int (pa_cons (pe_op op_pow pe_int pe_int) (pa_cons (pe_op op_pow pe_int pe_int) pa_nil)))))) pa_nil)))) (pss_cons (ps_par (i := 5) (j := 6) (by rfl) scLaw.nd rfl rfl (by decide) rfl rfl (pa_cons (pe_call GR r1 (by rfl) D.gR D.FR.kp D.bR .nil pass0 (pa_cons (pv 2) (pa_cons (pv 4) pa_nil))) (pa_cons (pe_op op_add pe_int (pe_call GR r1 (by rfl) D.gR D.FR.kp D.bR .nil pass0 (pa_cons (pv 2) (pa_cons (pv 4) pa_nil)))) pa_nil)) (by rfl)) (pss_cons (ps_set (i := 7) scLaw.nd rfl (.inl rfl) (pe_op op_add pe_int (pe_call GR r1 (by rfl) D.gR D.FR.kp D.bR .nil pass0 (pa_cons (pv 2) (pa_cons (pe_call GP r2 (by rfl) D.gP D.FP.kp D.bP .nil pass0 (pa_cons (pv 2) (pa_cons (pe_lst (pa_cons pe_int (pa_cons pe_int (pa_cons (pe_op op_pow pe_int pe_int) (pa_cons (pe_op op_pow pe_int pe_int) pa_nil))))) pa_nil))) pa_nil))))) (pss_cons (ps_if (PW.pt (pw_or (pt_not (pt_val (pe_call GI hr (by rfl) O.gR O.FR.kp O.bR .nil passL (pa_cons (pv 5) (pa_cons (pv 6) pa_nil))))) (pw_or1 (pt_not (pt_val (pe_call GI hr (by rfl) O.gR O.FR.kp O.bR .nil passL (pa_cons (pe_op op_mulW (pv 5) (pv 7)) (pa_cons (pe_op op_mulW (pv 6) (pv 7)) pa_nil)))))))) (pss_one (ps_ret pe_bl)) pss_nil) (pss_one (ps_if (pt_cmpR (op_neD hu) (pe_call GQ r4 (by rfl) Z.g Z.F.kp Z.b .nil passL (pa_cons (pe_op op_mulW (pv 5) (pv 7)) (pa_cons (pe_op op_mulW (pv 6) (pv 7)) pa_nil))) (pe_call GQ r4 (by rfl) Z.g Z.F.kp Z.b .nil passL (pa_cons (pv 5) (pa_cons (pv 6) pa_nil))) (nomark _)) (pss_one (ps_ret pe_bl)) pss_nil))))))) (pss_one (ps_for PassesOwn.never rfl (pi_list (pe_call GO r3 (by rfl) O.gO O.FO.kp O.bO .nil pass0 (pa_cons (pv 2) pa_nil))) (pg_name (i := 8) scLaw.nd rfl (.inl rfl)) (pss_cons (ps_set (i := 9) scLaw.nd rfl (.inl rfl) (pe_good (pe_and (pe_callB call_isi (by rfl) T.isi (by decide +kernel) (pa_cons (pv 8) (pa_cons (pe_bltn (v := .ty "int") (by rfl) T.int (by decide +kernel) rfl) pa_nil))) (pe_and (pe_not (pe_callB call_isi (by rfl) T.isi (by decide +kernel) (pa_cons (pv 8) (pa_cons (pe_bltn (v := .ty "bool") (by rfl) T.bool (by decide +kernel) rfl) pa_nil)))) (pe_one (pe_chain op_le op_lt pe_int (pv 8) (pe_op op_pow pe_int pe_int))))))) (pss_cons (ps_if (pt_cmpR (op_neS hu) (pe_call GG hr (by rfl) O.gG O.FG.kp O.bG .nil pass0 (pa_cons (pv 8) (pa_cons pe_int pa_nil))) (pe_ifExp (pt_val (pv 9)) (pe_lst (pa_cons pe_int pa_nil)) (pe_lst (pa_cons (pv 8) pa_nil))) (nomark _)) (pss_one (ps_ret pe_bl)) pss_nil) (pss_one (ps_if (pt_cmpR ((op_neS hu).or (op_neD hu)) (pe_call GG hr (by rfl) O.gG O.FG.kp O.bG .nil pass0 (pa_cons pe_int (pa_cons (pv 8) pa_nil))) (pe_ifExp (PW.pt (pw_and (pt_val (pv 9)) (pw_and1 (pt_cmpR op_eq (pv 8) pe_int (nomark _))))) (pe_tup (pa_cons pe_int (pa_cons pe_int pa_nil))) (pe_lst (pa_cons (pv 8) pa_nil))) (nomark _)) (pss_one (ps_ret pe_bl)) pss_nil))))))))) (pss_cons (ps_for PassesOwn.never rfl (pi_range1 rfl T.range (pa_cons pe_int pa_nil)) (pg_name (i := 5) scLaw.nd rfl (.inl rfl)) (pss_one (ps_for PassesOwn.never rfl (pi_range2 (by rfl) T.range (pa_cons pe_int (pa_cons pe_int pa_nil))) (pg_name (i := 6) scLaw.nd rfl (.inl rfl)) (pss_one (ps_if (pt_not (pt_val (pe_call GI hr (by rfl) O.gR O.FR.kp O.bR .nil passL (pa_cons (pv 5) (pa_cons (pv 6) pa_nil))))) (pss_one (ps_ret pe_bl)) pss_nil))))) (pss_one (ps_ret (pe_cmpR (op_eqD hu) (pe_lst (pa_cons (pe_call GQ r4 (by rfl) Z.g Z.F.kp Z.b .nil passL (pa_cons pe_int (pa_cons pe_int pa_nil))) (pa_cons (pe_call GQ r4 (by rfl) Z.g Z.F.kp Z.b .nil passL (pa_cons pe_int (pa_cons pe_int pa_nil))) (pa_cons (pe_call GQ r4 (by rfl) Z.g Z.F.kp Z.b .nil passL (pa_cons (pe_op op_pow pe_int pe_int) (pa_cons (pe_op op_pow pe_int pe_int) pa_nil))) pa_nil)))) (pe_lst (pa_cons (pe_tup (pa_cons pe_int (pa_cons pe_int pa_nil))) (pa_cons (pe_tup (pa_cons pe_int (pa_cons pe_int pa_nil))) (pa_cons (pe_tup (pa_cons pe_int (pa_cons pe_int pa_nil))) pa_nil)))) (nomark _))))), ?_⟩
    have M : (10 : Int) ^ (29 : Int).toNat = ((10 ^ 29 : Nat) : Int) := by decide +kernel
    obtain ⟨bg1, bg2, bg3⟩ := big29
    have sl := spots_le (ns.map V.int).length
    refine ⟨_, rfl, a, _, rfl, .inl hS, _, _, rfl, _, _, rfl, _, rfl, by show -(2 ^ 62) ≤ spots _; omega, by show spots _ < 2 ^ 62; omega, ?_⟩
    refine for_range (lo := 0) (n := (spots (ns.map V.int).length).toNat) (fun i σ H' => ∃ v1 v2 v3 v4 v5 v6 v7 v8 v9 : Option V, σ = [some (.ref a), v1, v2, v3, v4, v5, v6, v7, v8, v9] ∧ Same H H')
      ⟨none, none, none, none, none, none, none, none, none, rfl, Same.refl H⟩ ?_ ?_
    · rintro i σ H0 hi ⟨v1, v2, v3, v4, v5, v6, v7, v8, v9, rfl, s0⟩
      -- dice = _law_dice(script, spot)
      refine ⟨_, rfl, _, rfl, a, ns, i, by simp, s0.seq hS, by omega, fun d H1 nd s1 di => ?_⟩
      have nHd : H d = none := s0.free nd
      have nad : ∀ {b : Addr} {o : HO}, H b = some o → b ≠ d := fun e => ne_of_none e nHd
      refine ⟨40, rfl, by decide, by decide, for_range (lo := 0) (n := (40 : Int).toNat) (fun j σ H' => ∃ w3 w4 w5 w6 w7 w8 w9 : Option V, σ = [some (.ref a), some (.int (0 + (i : Int))), some (.ref d), w3, w4, w5, w6, w7, w8, w9] ∧ Kp d H1 H' ∧ Dice H' d (5 * j))
        ⟨v3, v4, v5, v6, v7, v8, v9, rfl, Kp.refl d H1, di⟩ ?_ ?_⟩
      · rintro j σ H2 hj ⟨w3, w4, w5, w6, w7, w8, w9, rfl, k2, di2⟩
        have hj' : j < 40 := hj
        obtain ⟨ds, hd2⟩ := di2.there
        -- most
        refine ⟨_, rfl, 10, 20, rfl, rfl, c10 (k := 20) (by decide), 10, 29, rfl, rfl, c10 (k := 29) (by decide), by show 5 ≤ sizeLine; decide, fun l nl => ?_⟩
        refine ⟨d, l, 5 * j, _, rfl, (ne_of_none hd2 nl).symm, .inl (SqL.of upd_same), by simp, by decide, di2.same (Same.new nl), by omega, fun v o mv di3 => ?_⟩
        obtain ⟨most, rfl, m0, m1⟩ := pick_int (xs := [3, 12, 1000, 10 ^ (20 : Int).toNat, 10 ^ (29 : Int).toNat]) (M := 10 ^ (29 : Int).toNat) mv (by decide +kernel)
        rw [M] at m1
        -- one, other
        refine ⟨_, rfl, _, rfl, d, most, _, rfl, di3, by omega, m0, by omega, fun r o2 r0 r1' di4 => ?_⟩
        refine ⟨_, rfl, _, rfl, d, most, _, rfl, di4, by omega, m0, by omega, fun r' o3 r0' r1'' di5 => ⟨_, _, rfl, rfl, _, _, rfl, ?_⟩⟩
        obtain ⟨x, rfl⟩ := Int.eq_ofNat_of_zero_le r0
        obtain ⟨y, rfl⟩ := Int.eq_ofNat_of_zero_le r0'
        obtain ⟨ds5, hd5⟩ := di5.there
        -- factor
        refine ⟨_, rfl, _, rfl, 10, 6, rfl, rfl, c10 (k := 6) (by decide), 10, 29, rfl, rfl, c10 (k := 29) (by decide), by show 4 ≤ sizeLine; decide, fun l2 nl2 => ?_⟩
        refine ⟨d, l2, _, _, rfl, (ne_of_none hd5 nl2).symm, .inl (SqL.of upd_same), by simp, by decide, di5.same (Same.new nl2), by omega, fun v' o4 mv' di6 => ?_⟩
        obtain ⟨fm, rfl, f0, f1⟩ := pick_int (xs := [1, 6, 10 ^ (6 : Int).toNat, 10 ^ (29 : Int).toNat]) (M := 10 ^ (29 : Int).toNat) mv' (by decide +kernel)
        rw [M] at f1
        refine ⟨d, fm, _, rfl, di6, by omega, f0, by omega, fun r'' o5 q0 q1 di7 => ⟨_, _, rfl, rfl, ?_⟩⟩
        obtain ⟨z, rfl⟩ := Int.eq_ofNat_of_zero_le q0
        have hx : x < 10 ^ 29 := by omega
        have hy : 1 + y ≤ 10 ^ 29 := by omega
        have hz : 1 + z ≤ 10 ^ 29 := by omega
        have hxz : x * (1 + z) < 10 ^ 60 := Nat.lt_of_le_of_lt (Nat.mul_le_mul (Nat.le_of_lt hx) hz) bg1
        have hyz : (1 + y) * (1 + z) < 10 ^ 60 := Nat.lt_of_le_of_lt (Nat.mul_le_mul hy hz) bg1
        have pyz : 0 < (1 + y) * (1 + z) := Nat.mul_pos (by omega) (by omega)
        -- the two looks
        refine ⟨_, rfl, _, rfl, x, 1 + y, rfl, by omega, by omega, by omega, fun H3 s3 => ⟨_, rfl, iteF ?_⟩⟩
        refine ⟨_, rfl, _, rfl, _, _, rfl, rfl, wide_mul (a := 100) (b := 100) (by omega) (by omega) (by decide) (by decide) (by decide), _, rfl, _, rfl, _, _, rfl, rfl, wide_mul (a := 100) (b := 100) (by omega) (by omega) (by decide) (by decide) (by decide), ?_⟩
        refine ⟨x * (1 + z), (1 + y) * (1 + z), rfl, hxz, hyz, pyz, fun H4 s4 => ⟨_, rfl, iteF ?_⟩⟩
        -- the pair times a number
        refine ⟨_, rfl, _, rfl, _, _, rfl, rfl, wide_mul (a := 100) (b := 100) (by omega) (by omega) (by decide) (by decide) (by decide), _, rfl, _, rfl, _, _, rfl, rfl, wide_mul (a := 100) (b := 100) (by omega) (by omega) (by decide) (by decide) (by decide), ?_⟩
        refine ⟨_, _, _, _, rfl, .int _, .int _, fun c => (no1 (a := x * (1 + z)) hxz c).elim, fun _ c => (no2 (b := (1 + y) * (1 + z)) hyz pyz c).elim, fun a' b' ea eb _ _ _ p np => ?_⟩
        obtain rfl : x * (1 + z) = a' := nat_of ea
        obtain rfl : (1 + y) * (1 + z) = b' := nat_of eb
        refine ⟨_, rfl, _, rfl, _, _, _, _, rfl, .int _, .int _, fun c => (no1 (a := x) (by omega) c).elim, fun _ c => (no2 (b := 1 + y) (by omega) (by omega) c).elim, fun a' b' ea eb _ _ _ p2 np2 => ?_⟩
        obtain rfl : x = a' := nat_of ea
        obtain rfl : 1 + y = b' := nat_of eb
        have eg : Nat.gcd (x * (1 + z)) ((1 + y) * (1 + z)) = Nat.gcd x (1 + y) * (1 + z) := Nat.gcd_mul_right _ _ _
        have ex : x * (1 + z) / Nat.gcd (x * (1 + z)) ((1 + y) * (1 + z)) = x / Nat.gcd x (1 + y) := by rw [eg, Nat.mul_div_mul_right _ _ (by omega)]
        have ey : (1 + y) * (1 + z) / Nat.gcd (x * (1 + z)) ((1 + y) * (1 + z)) = (1 + y) / Nat.gcd x (1 + y) := by rw [eg, Nat.mul_div_mul_right _ _ (by omega)]
        refine ⟨_, _, .tup (SqT.of ((Same.new np2) _ _ upd_same)) (.cons (.int _) (.cons (.int _) .nil)), .tup (SqT.of upd_same) (.cons (.int _) (.cons (.int _) .nil)), rfl, rfl, _, rfl, ?_⟩
        have eq : PyData.eqv (.tuple [.int ((x * (1 + z) / Nat.gcd (x * (1 + z)) ((1 + y) * (1 + z)) : Nat) : Int), .int (((1 + y) * (1 + z) / Nat.gcd (x * (1 + z)) ((1 + y) * (1 + z)) : Nat) : Int)])
            (.tuple [.int ((x / Nat.gcd x (1 + y) : Nat) : Int), .int (((1 + y) / Nat.gcd x (1 + y) : Nat) : Int)]) = true := by
          rw [ex, ey]
          exact pair_eqv _ _
        rw [eq]
        refine iteF ?_
        refine ⟨_, _, _, _, _, _, _, rfl, ?_, (((((di7.same s3).same s4).same (Same.new np)).same (Same.new np2)).more (by omega) (by omega))⟩
        exact (((((((((((k2.trans (Kp.new nl)).trans Kp.upd).trans Kp.upd).trans Kp.upd).trans (Kp.new nl2)).trans Kp.upd).trans Kp.upd).trans (Kp.same s3)).trans (Kp.same s4)).trans (Kp.new np)).trans (Kp.new np2))
      · -- the odd values
        rintro σ H2 ⟨w3, w4, w5, w6, w7, w8, w9, rfl, k2, di2⟩
        refine ⟨_, rfl, d, _, rfl, di2, by decide, fun l ys H3 nld nl kp hl _ all di3 => ⟨l, rfl, ⟨_, SqL.of hl⟩, ?_⟩⟩
        refine for_list (K := K) (a := l) (xs := ys) (fun j σ H' => ∃ v1 v2 v3 v4 v5 v6 v7 v8 v9 : Option V, σ = [some (.ref a), v1, v2, v3, v4, v5, v6, v7, v8, v9] ∧ Same H3 H')
          ⟨_, _, _, _, _, _, _, _, _, rfl, Same.refl _⟩ (fun j σ H' _ ⟨_, _, _, _, _, _, _, _, _, _, s⟩ => s.seq (SqL.of hl)) ?_ ?_
        · rintro j x σ H4 hx ⟨u1, u2, u3, u4, u5, u6, u7, u8, u9, rfl, s4⟩
          have ox : Odd H4 x := (all x (List.mem_of_getElem? hx)).1.same s4
          obtain ⟨t, kd⟩ := ox.kd
          have kdS : ∀ {H5 : Hp}, Same H4 H5 → ∃ t, Kd H5 x t := fun s => (ox.same s).kd
          have one : ∀ {H5 : Hp}, Same H4 H5 → ∀ v ∈ [x], ∃ t, Kd H5 v t := fun s v m => by
            rw [List.mem_singleton.mp m]
            exact kdS s
          have num : ∀ {H5 : Hp} (i : Int), ∀ v ∈ [V.int i], ∃ t, Kd H5 v t := fun i v m => by
            rw [List.mem_singleton.mp m]
            exact ⟨_, .int i⟩
          cases cx : isCount x with
          | false =>
            have noN : ∀ {n : Nat}, x = .int n → n < 10 ^ 60 → False := fun e h => by
              rw [e, nat_count h] at cx
              cases cx
            refine ⟨x, t, false, rfl, kd, cx, ?_⟩
            refine ⟨_, rfl, x, .int 0, t, _, rfl, kd, .int 0, fun _ e1 p ne1 np => ?_, fun c => absurd c (by rw [cx]; decide), fun a b ea _ la _ _ => (noN ea la).elim⟩
            refine ⟨_, rfl, _, rfl, iteF ⟨_, rfl, by show 1 ≤ sizeLine; decide, fun p2 np2 => ?_⟩⟩
            have sa := ((Same.new ne1).trans (Same.new np)).trans (Same.new (o := .lst [x]) np2)
            refine ⟨p, p2, [x], rfl, rfl, SqL.of ((Same.new np2) _ _ upd_same), SqL.of upd_same, one sa, _, rfl, iteF ?_⟩
            obtain ⟨t5, kd5⟩ := kdS sa
            refine ⟨_, rfl, .int 3, x, _, t5, rfl, .int 3, kd5, fun c => (no1 (a := 3) (by decide) c).elim, fun _ _ e2 p3 ne2 np3 => ?_, fun a b _ eb _ lb _ => (noN eb lb).elim⟩
            refine ⟨_, rfl, _, rfl, iteF (iteF ⟨_, rfl, by show 1 ≤ sizeLine; decide, fun p4 np4 => ?_⟩)⟩
            have sb := ((sa.trans (Same.new ne2)).trans (Same.new np3)).trans (Same.new (o := .lst [x]) np4)
            refine .inl ⟨p3, p4, [x], rfl, rfl, SqL.of ((Same.new np4) _ _ upd_same), SqL.of upd_same, one sb, _, rfl, iteF ?_⟩
            exact ⟨_, _, _, _, _, _, _, _, _, rfl, s4.trans sb⟩
          | true =>
            refine ⟨x, t, true, rfl, kd, cx, ?_⟩
            refine ⟨_, rfl, x, .int 0, t, _, rfl, kd, .int 0, fun c => absurd c (by rw [cx]; decide), fun _ _ e1 p ne1 np => ?_, fun a b _ eb _ _ hb => absurd (nat_of (a := 0) eb) (by omega)⟩
            refine ⟨_, rfl, _, rfl, iteT ⟨by show 1 ≤ sizeLine; decide, fun p2 np2 => ?_⟩⟩
            have sa := ((Same.new ne1).trans (Same.new np)).trans (Same.new (o := .lst [.int 0]) np2)
            refine ⟨p, p2, [.int 0], rfl, rfl, SqL.of ((Same.new np2) _ _ upd_same), SqL.of upd_same, num 0, _, rfl, iteF ?_⟩
            rcases ox.int_is cx with rfl | rfl
            · refine ⟨_, rfl, .int 3, .int 0, _, _, rfl, .int 3, .int 0, fun c => (no1 (a := 3) (by decide) c).elim, fun _ _ e2 p3 ne2 np3 => ?_, fun a b _ eb _ _ hb => absurd (nat_of (a := 0) eb) (by omega)⟩
              refine ⟨_, rfl, _, rfl, iteT ⟨_, rfl, rfl, _, rfl, iteF ⟨_, rfl, by show 1 ≤ sizeLine; decide, fun p4 np4 => ?_⟩⟩⟩
              have sb := ((sa.trans (Same.new ne2)).trans (Same.new np3)).trans (Same.new (o := .lst [.int 0]) np4)
              refine .inl ⟨p3, p4, [.int 0], rfl, rfl, SqL.of ((Same.new np4) _ _ upd_same), SqL.of upd_same, num 0, _, rfl, iteF ?_⟩
              exact ⟨_, _, _, _, _, _, _, _, _, rfl, s4.trans sb⟩
            · refine ⟨_, rfl, .int 3, .int 1, _, _, rfl, .int 3, .int 1, fun c => (no1 (a := 3) (by decide) c).elim, fun _ c => (no2 (b := 1) (by decide) (by decide) c).elim, fun a b ea eb _ _ _ p3 np3 => ?_⟩
              obtain rfl : 3 = a := nat_of ea
              obtain rfl : 1 = b := nat_of eb
              refine ⟨_, rfl, _, rfl, iteT ⟨_, rfl, rfl, _, rfl, iteT ⟨by show 2 ≤ sizeLine; decide, fun p4 np4 => ?_⟩⟩⟩
              have sb := (sa.trans (Same.new np3)).trans (Same.new (o := .tup [.int 3, .int 1]) np4)
              refine .inr ⟨_, _, .tup (SqT.of ((Same.new np4) _ _ upd_same)) (.cons (.int _) (.cons (.int _) .nil)), .tup (SqT.of upd_same) (.cons (.int _) (.cons (.int _) .nil)), rfl, rfl, _, rfl, ?_⟩
              refine iteF ?_
              exact ⟨_, _, _, _, _, _, _, _, _, rfl, s4.trans sb⟩
        · rintro σ H4 ⟨u1, u2, u3, u4, u5, u6, u7, u8, u9, rfl, s4⟩
          exact ⟨_, _, _, _, _, _, _, _, _, rfl, (Kp.over nHd (s0.trans s1) (k2.trans kp)).trans s4⟩
    · -- the small pairs
      rintro σ H0 ⟨v1, v2, v3, v4, v5, v6, v7, v8, v9, rfl, _⟩
      refine ⟨13, rfl, by decide, by decide, for_range (lo := 0) (n := (13 : Int).toNat) (fun i σ H' => ∃ v1 v2 v3 v4 v5 v6 v7 v8 v9 : Option V, σ = [some (.ref a), v1, v2, v3, v4, v5, v6, v7, v8, v9])
        ⟨_, _, _, _, _, _, _, _, _, rfl⟩ ?_ ?_⟩
      · rintro i σ H1 hi ⟨v1, v2, v3, v4, v5, v6, v7, v8, v9, rfl⟩
        have hi' : i < 13 := hi
        refine ⟨1, 13, rfl, by decide, for_range (lo := 1) (n := ((13 : Int) - 1).toNat) (fun j σ H' => ∃ v6 : Option V, σ = [some (.ref a), v1, v2, v3, v4, some (.int (0 + (i : Int))), v6, v7, v8, v9]) ⟨_, rfl⟩ ?_ ?_⟩
        · rintro j σ H2 hj ⟨v6, rfl⟩
          have hj' : j < 12 := hj
          refine ⟨_, rfl, _, rfl, i, 1 + j, by rw [Int.zero_add]; rfl, by omega, by omega, by omega, fun H3 s3 => ⟨_, rfl, iteF ⟨_, rfl⟩⟩⟩
        · rintro σ H2 ⟨v6, rfl⟩
          exact ⟨_, _, _, _, _, _, _, _, _, rfl⟩
      · rintro σ H1 ⟨v1, v2, v3, v4, v5, v6, v7, v8, v9, rfl⟩
        have e59 : (10 : Int) ^ (59 : Int).toNat = ((10 ^ 59 : Nat) : Int) := by decide +kernel
        have e58 : (10 : Int) ^ (58 : Int).toNat = ((10 ^ 58 : Nat) : Int) := by decide +kernel
        refine ⟨_, _, _, _, rfl, .int _, .int _, fun c => (no1 (a := 0) (by decide) c).elim, fun _ c => (no2 (b := 9) (by decide) (by decide) c).elim, fun a b ea eb _ _ _ p1 n1 => ?_⟩
        obtain rfl : 0 = a := nat_of ea
        obtain rfl : 9 = b := nat_of eb
        refine ⟨_, _, _, _, rfl, .int _, .int _, fun c => (no1 (a := 6) (by decide) c).elim, fun _ c => (no2 (b := 4) (by decide) (by decide) c).elim, fun a b ea eb _ _ _ p2 n2 => ?_⟩
        obtain rfl : 6 = a := nat_of ea
        obtain rfl : 4 = b := nat_of eb
        refine ⟨10, 59, rfl, rfl, c10 (k := 59) (by decide), 10, 58, rfl, rfl, c10 (k := 58) (by decide), ?_⟩
        refine ⟨.int (10 ^ (59 : Int).toNat), .int (10 ^ (58 : Int).toNat), _, _, rfl, .int _, .int _, fun c => (no1 (a := 10 ^ 59) (by decide +kernel) (by rw [← e59]; exact c)).elim, fun _ c => (no2 (b := 10 ^ 58) (by decide +kernel) (by decide +kernel) (by rw [← e58]; exact c)).elim,
          fun a b ea eb _ _ _ p3 n3 => ?_⟩
        obtain rfl : 10 ^ 59 = a := nat_of (by rw [← e59]; exact ea)
        obtain rfl : 10 ^ 58 = b := nat_of (by rw [← e58]; exact eb)
        have z3 : 3 ≤ sizeLine := by decide
        have z2 : 2 ≤ sizeLine := by decide
        refine ⟨z3, fun l1 m1 => ⟨z2, fun q1 k1 => ⟨z2, fun q2 k2 => ⟨z2, fun q3 k3 => ⟨z3, fun l2 m2 => ?_⟩⟩⟩⟩⟩
        refine ⟨.list [.tuple [.int ((0 / Nat.gcd 0 9 : Nat) : Int), .int ((9 / Nat.gcd 0 9 : Nat) : Int)], .tuple [.int ((6 / Nat.gcd 6 4 : Nat) : Int), .int ((4 / Nat.gcd 6 4 : Nat) : Int)],
            .tuple [.int ((10 ^ 59 / Nat.gcd (10 ^ 59) (10 ^ 58) : Nat) : Int), .int ((10 ^ 58 / Nat.gcd (10 ^ 59) (10 ^ 58) : Nat) : Int)]],
          .list [.tuple [.int 0, .int 1], .tuple [.int 3, .int 2], .tuple [.int 10, .int 1]], ?_, ?_, rfl, rfl, ?_⟩
        · refine .lst (SqL.of (((((Same.new k1).trans (Same.new k2)).trans (Same.new k3)).trans (Same.new m2)) _ _ upd_same)) (.cons ?_ (.cons ?_ (.cons ?_ .nil)))
          · exact .tup (SqT.of ((((((((Same.new n2).trans (Same.new n3)).trans (Same.new m1)).trans (Same.new k1)).trans (Same.new k2)).trans (Same.new k3)).trans (Same.new m2)) _ _ upd_same)) (.cons (.int _) (.cons (.int _) .nil))
          · exact .tup (SqT.of (((((((Same.new n3).trans (Same.new m1)).trans (Same.new k1)).trans (Same.new k2)).trans (Same.new k3)).trans (Same.new m2)) _ _ upd_same)) (.cons (.int _) (.cons (.int _) .nil))
          · exact .tup (SqT.of ((((((Same.new m1).trans (Same.new k1)).trans (Same.new k2)).trans (Same.new k3)).trans (Same.new m2)) _ _ upd_same)) (.cons (.int _) (.cons (.int _) .nil))
        · refine .lst (SqL.of upd_same) (.cons ?_ (.cons ?_ (.cons ?_ .nil)))
          · exact .tup (SqT.of ((((Same.new k2).trans (Same.new k3)).trans (Same.new m2)) _ _ upd_same)) (.cons (.int _) (.cons (.int _) .nil))
          · exact .tup (SqT.of (((Same.new k3).trans (Same.new m2)) _ _ upd_same)) (.cons (.int _) (.cons (.int _) .nil))
          · exact .tup (SqT.of ((Same.new m2) _ _ upd_same)) (.cons (.int _) (.cons (.int _) .nil))
        · have e : PyData.eqv (.list [.tuple [.int ((0 / Nat.gcd 0 9 : Nat) : Int), .int ((9 / Nat.gcd 0 9 : Nat) : Int)], .tuple [.int ((6 / Nat.gcd 6 4 : Nat) : Int), .int ((4 / Nat.gcd 6 4 : Nat) : Int)],
              .tuple [.int ((10 ^ 59 / Nat.gcd (10 ^ 59) (10 ^ 58) : Nat) : Int), .int ((10 ^ 58 / Nat.gcd (10 ^ 59) (10 ^ 58) : Nat) : Int)]]) (.list [.tuple [.int 0, .int 1], .tuple [.int 3, .int 2], .tuple [.int 10, .int 1]]) = true := by decide +kernel
          rw [e]
          exact q _
end
end Pr
namespace Pr
open PySem PySem.Spec PyProof.Rows L2
theorem exm_self {K : PySem.W.Frag} {S : Addr} (h1 : PySem.W.subIn K (.ref S) (.type "BaseException") = some true) (h2 : PySem.W.isClsIn K S = true) (h3 : PySem.W.typeIn K (.ref S) = some (.type "type")) (h4 : PySem.W.subIn K (.ref S) (.ref S) = some true) :
    PySem.W.exmOne K (.ref S) (.ref S) = some true := by
  have e1 : (PySem.W.subIn K (.ref S) (.type "BaseException") == some true) = true := by rw [h1] <;> rfl
  have e2 : ((PySem.W.clsIn K S).isSome && PySem.W.typeIn K (.ref S) == some (.type "type")) = true := by
    have h2' : (PySem.W.clsIn K S).isSome = true := h2
    rw [h2', h3] <;> rfl
  show (if (PySem.W.subIn K (.ref S) (.type "BaseException") == some true) = true then (if ((PySem.W.clsIn K S).isSome && PySem.W.typeIn K (.ref S) == some (.type "type")) = true then PySem.W.subIn K (.ref S) (.ref S) else none) else none) = some true
  rw [if_pos e1, if_pos e2]
  exact h4
theorem all_mk {P : Program} {w : World} {K : PySem.W.Frag} {h : Heap} {mg : Str → Option Value} {fa : Addr} (X : K.In h) (G : h.Ns mainGlobals mg) (hfa : mg "law" = some (.ref fa))
    {f1 : Addr} {od1 an1 : Option Addr} {sl1 : Array (Option Value)} {oc1 kV1 dc1 pm1 cd1 ct1 : Value}
    {f2 : Addr} {od2 an2 : Option Addr} {sl2 : Array (Option Value)} {oc2 kV2 dc2 pm2 cd2 ct2 : Value}
    {f3 : Addr} {od3 an3 : Option Addr} {sl3 : Array (Option Value)} {oc3 kV3 dc3 pm3 cd3 ct3 : Value}
    {f4 : Addr} {od4 an4 : Option Addr} {sl4 : Array (Option Value)} {oc4 kV4 dc4 pm4 cd4 ct4 : Value}
    {f5 : Addr} {od5 an5 : Option Addr} {sl5 : Array (Option Value)} {oc5 kV5 dc5 pm5 cd5 ct5 : Value}
    {f6 : Addr} {od6 an6 : Option Addr} {sl6 : Array (Option Value)} {oc6 kV6 dc6 pm6 cd6 ct6 : Value}
    {f7 : Addr} {od7 an7 : Option Addr} {sl7 : Array (Option Value)} {oc7 kV7 dc7 pm7 cd7 ct7 : Value}
    {f8 : Addr} {od8 an8 : Option Addr} {sl8 : Array (Option Value)} {oc8 kV8 dc8 pm8 cd8 ct8 : Value}
    {f9 : Addr} {od9 an9 : Option Addr} {sl9 : Array (Option Value)} {oc9 kV9 dc9 pm9 cd9 ct9 : Value}
    {f10 : Addr} {od10 an10 : Option Addr} {sl10 : Array (Option Value)} {oc10 kV10 dc10 pm10 cd10 ct10 : Value}
    {f11 : Addr} {od11 an11 : Option Addr} {sl11 : Array (Option Value)} {oc11 kV11 dc11 pm11 cd11 ct11 : Value}
    {f12 : Addr} {od12 an12 : Option Addr} {sl12 : Array (Option Value)} {oc12 kV12 dc12 pm12 cd12 ct12 : Value}
    {C1 e1 : Addr} {xn1 xq1 : Str} {xN1 : Addr} {xb1 : List Value} {xs1 : List Str} {xu1 : List Value} {xa1 : Bool} {xc1 : Option Bool} {xd1 : Option Addr} {m01 m11 m21 m31 m51 : Option Value} {xod1 xan1 : Option Addr} {xsl1 : Array (Option Value)} {xoc1 xdc1 xpm1 xcd1 xct1 : Value}
    (a1 : PySem.W.nsIn K mainGlobals "is_integer" = some (some (.ref f1))) (l1 : K.lookup f1 = some ⟨oc1, od1, .func (PySem.W.fnOf "is_integer" "is_integer" (defArgs sInteger) (defBody sInteger) (defScope sInteger) .none kV1 dc1 pm1 an1 cd1 ct1), sl1⟩) (c1 : PySem.W.codeIn K cd1 "is_integer" = true) (k1 : PySem.W.keepIn K (.ref f1) = true)
    (a2 : PySem.W.nsIn K mainGlobals "is_count" = some (some (.ref f2))) (l2 : K.lookup f2 = some ⟨oc2, od2, .func (PySem.W.fnOf "is_count" "is_count" (defArgs sCount) (defBody sCount) (defScope sCount) .none kV2 dc2 pm2 an2 cd2 ct2), sl2⟩) (c2 : PySem.W.codeIn K cd2 "is_count" = true) (k2 : PySem.W.keepIn K (.ref f2) = true)
    (a3 : PySem.W.nsIn K mainGlobals "coprime" = some (some (.ref f3))) (l3 : K.lookup f3 = some ⟨oc3, od3, .func (PySem.W.fnOf "coprime" "coprime" (defArgs sCoprime) (defBody sCoprime) (defScope sCoprime) .none kV3 dc3 pm3 an3 cd3 ct3), sl3⟩) (c3 : PySem.W.codeIn K cd3 "coprime" = true) (k3 : PySem.W.keepIn K (.ref f3) = true)
    (a4 : PySem.W.nsIn K mainGlobals "_law_dice" = some (some (.ref f4))) (l4 : K.lookup f4 = some ⟨oc4, od4, .func (PySem.W.fnOf "_law_dice" "_law_dice" (defArgs sDice) (defBody sDice) (defScope sDice) .none kV4 dc4 pm4 an4 cd4 ct4), sl4⟩) (c4 : PySem.W.codeIn K cd4 "_law_dice" = true) (k4 : PySem.W.keepIn K (.ref f4) = true)
    (a5 : PySem.W.nsIn K mainGlobals "_law_roll" = some (some (.ref f5))) (l5 : K.lookup f5 = some ⟨oc5, od5, .func (PySem.W.fnOf "_law_roll" "_law_roll" (defArgs sRoll) (defBody sRoll) (defScope sRoll) .none kV5 dc5 pm5 an5 cd5 ct5), sl5⟩) (c5 : PySem.W.codeIn K cd5 "_law_roll" = true) (k5 : PySem.W.keepIn K (.ref f5) = true)
    (a6 : PySem.W.nsIn K mainGlobals "_law_pick" = some (some (.ref f6))) (l6 : K.lookup f6 = some ⟨oc6, od6, .func (PySem.W.fnOf "_law_pick" "_law_pick" (defArgs sPick) (defBody sPick) (defScope sPick) .none kV6 dc6 pm6 an6 cd6 ct6), sl6⟩) (c6 : PySem.W.codeIn K cd6 "_law_pick" = true) (k6 : PySem.W.keepIn K (.ref f6) = true)
    (a7 : PySem.W.nsIn K mainGlobals "_law_mixed" = some (some (.ref f7))) (l7 : K.lookup f7 = some ⟨oc7, od7, .func (PySem.W.fnOf "_law_mixed" "_law_mixed" (defArgs sMixed) (defBody sMixed) (defScope sMixed) .none kV7 dc7 pm7 an7 cd7 ct7), sl7⟩) (c7 : PySem.W.codeIn K cd7 "_law_mixed" = true) (k7 : PySem.W.keepIn K (.ref f7) = true)
    (a8 : PySem.W.nsIn K mainGlobals "_law_odd_values" = some (some (.ref f8))) (l8 : K.lookup f8 = some ⟨oc8, od8, .func (PySem.W.fnOf "_law_odd_values" "_law_odd_values" (defArgs sOdd) (defBody sOdd) (defScope sOdd) .none kV8 dc8 pm8 an8 cd8 ct8), sl8⟩) (c8 : PySem.W.codeIn K cd8 "_law_odd_values" = true) (k8 : PySem.W.keepIn K (.ref f8) = true)
    (a9 : PySem.W.nsIn K mainGlobals "_law_common" = some (some (.ref f9))) (l9 : K.lookup f9 = some ⟨oc9, od9, .func (PySem.W.fnOf "_law_common" "_law_common" (defArgs sCommon) (defBody sCommon) (defScope sCommon) .none kV9 dc9 pm9 an9 cd9 ct9), sl9⟩) (c9 : PySem.W.codeIn K cd9 "_law_common" = true) (k9 : PySem.W.keepIn K (.ref f9) = true)
    (a10 : PySem.W.nsIn K mainGlobals "_law_given" = some (some (.ref f10))) (l10 : K.lookup f10 = some ⟨oc10, od10, .func (PySem.W.fnOf "_law_given" "_law_given" (defArgs sGiven) (defBody sGiven) (defScope sGiven) .none kV10 dc10 pm10 an10 cd10 ct10), sl10⟩) (c10 : PySem.W.codeIn K cd10 "_law_given" = true) (k10 : PySem.W.keepIn K (.ref f10) = true)
    (a11 : PySem.W.nsIn K mainGlobals "_law_right" = some (some (.ref f11))) (l11 : K.lookup f11 = some ⟨oc11, od11, .func (PySem.W.fnOf "_law_right" "_law_right" (defArgs sRight) (defBody sRight) (defScope sRight) .none kV11 dc11 pm11 an11 cd11 ct11), sl11⟩) (c11 : PySem.W.codeIn K cd11 "_law_right" = true) (k11 : PySem.W.keepIn K (.ref f11) = true)
    (a12 : PySem.W.nsIn K mainGlobals "law" = some (some (.ref f12))) (l12 : K.lookup f12 = some ⟨oc12, od12, .func (PySem.W.fnOf "law" "law" (defArgs sLaw) (defBody sLaw) (defScope sLaw) .none kV12 dc12 pm12 an12 cd12 ct12), sl12⟩) (c12 : PySem.W.codeIn K cd12 "law" = true) (k12 : PySem.W.keepIn K (.ref f12) = true)
    (xC1 : PySem.W.nsIn K mainGlobals "InvalidNumber" = some (some (.ref C1)))
    (xL1 : K.lookup C1 = some (excClassObj xn1 xq1 C1 xN1 xb1 [.type "IndexError", .type "LookupError", .type "Exception", .type "BaseException", .type "object"] true xs1 xu1 xa1 xc1 xd1 m01 m11 m21 m31 m51 "IndexError.__new__"))
    (xsa1 : PySem.W.findIn K (.ref C1) "__setattr__" = some (some (.builtin "object.__setattr__"))) (xga1 : PySem.W.findIn K (.ref C1) "__getattribute__" = some (some (.builtin "BaseException.__getattribute__"))) (xgg1 : PySem.W.findIn K (.ref C1) "__getattr__" = some none) (xnb1 : PySem.W.findIn K (.ref C1) "value" = some none)
    (xa11 : PySem.W.findIn K (.ref C1) "__init__" = some (some (.ref e1))) (xt11 : PySem.W.typeIn K (.ref e1) = some (.type "function"))
    (xl11 : K.lookup e1 = some ⟨xoc1, xod1, .func (PySem.W.fnOf "__init__" "InvalidNumber.__init__" (PySem.InumX.iA ⟨5, 17, 5, 21⟩ ⟨5, 23, 5, 28⟩) (PySem.InumX.iB ⟨6, 8, 6, 12⟩ ⟨6, 8, 6, 18⟩ ⟨6, 21, 6, 26⟩ ⟨6, 8, 6, 26⟩) PySem.InumX.iS .none .none xdc1 xpm1 xan1 xcd1 xct1), xsl1⟩) (xc11 : PySem.W.codeIn K xcd1 "InvalidNumber.__init__" = true)
    (xkC1 : PySem.W.keepIn K (.ref C1) = true) (xeC1 : PySem.W.subIn K (.ref C1) (.type "BaseException") = some true) (xtC1 : PySem.W.typeIn K (.ref C1) = some (.type "type")) (xhC1 : PySem.W.hasDictIn K C1 = true) (xiC1 : PySem.W.isClsIn K C1 = true) (xsC1 : PySem.W.subIn K (.ref C1) (.ref C1) = some true)
    (z_len : PySem.W.nsIn K mainGlobals "len" = some none)
    (z_int : PySem.W.nsIn K mainGlobals "int" = some none)
    (z_abs : PySem.W.nsIn K mainGlobals "abs" = some none)
    (z_max : PySem.W.nsIn K mainGlobals "max" = some none)
    (z_min : PySem.W.nsIn K mainGlobals "min" = some none)
    (z_list : PySem.W.nsIn K mainGlobals "list" = some none)
    (z_range : PySem.W.nsIn K mainGlobals "range" = some none)
    (z_isinstance : PySem.W.nsIn K mainGlobals "isinstance" = some none)
    (z_bool : PySem.W.nsIn K mainGlobals "bool" = some none)
    (z_tuple : PySem.W.nsIn K mainGlobals "tuple" = some none)
    (gcd : PySem.W.nsIn K mainGlobals "gcd" = some (some (.builtin "math.gcd"))) :
    ∃ fd : FuncData, (∀ (s : Shared) (v : Value), BindsTo s fd ⟨[v], []⟩ [("script", v)]) ∧ ∀ base : Heap, K.In base → base.Ns mainGlobals mg → FnOk P w K mg base CX0 6 fa fd ["script"] (spLaw K) := by
  have e := hfa.symm.trans (PySem.W.mg_of X G a12)
  cases e
  have F1 := fun_mk (st := sInteger) l1 c1 k1
  have b1 := F1.binds (ps := ["value"]) fun _ _ _ _ _ _ us hl => match us, hl with | [_], _ => rfl
  have g1 := PySem.W.mg_of X G a1
  have F2 := fun_mk (st := sCount) l2 c2 k2
  have b2 := F2.binds (ps := ["value"]) fun _ _ _ _ _ _ us hl => match us, hl with | [_], _ => rfl
  have g2 := PySem.W.mg_of X G a2
  have F3 := fun_mk (st := sCoprime) l3 c3 k3
  have b3 := F3.binds (ps := ["one", "other"]) fun _ _ _ _ _ _ us hl => match us, hl with | [_, _], _ => rfl
  have g3 := PySem.W.mg_of X G a3
  have F4 := fun_mk (st := sDice) l4 c4 k4
  have b4 := F4.binds (ps := ["script", "spot"]) fun _ _ _ _ _ _ us hl => match us, hl with | [_, _], _ => rfl
  have g4 := PySem.W.mg_of X G a4
  have F5 := fun_mk (st := sRoll) l5 c5 k5
  have b5 := F5.binds (ps := ["dice", "total"]) fun _ _ _ _ _ _ us hl => match us, hl with | [_, _], _ => rfl
  have g5 := PySem.W.mg_of X G a5
  have F6 := fun_mk (st := sPick) l6 c6 k6
  have b6 := F6.binds (ps := ["dice", "items"]) fun _ _ _ _ _ _ us hl => match us, hl with | [_, _], _ => rfl
  have g6 := PySem.W.mg_of X G a6
  have F7 := fun_mk (st := sMixed) l7 c7 k7
  have b7 := F7.binds (ps := ["dice", "items"]) fun _ _ _ _ _ _ us hl => match us, hl with | [_, _], _ => rfl
  have g7 := PySem.W.mg_of X G a7
  have F8 := fun_mk (st := sOdd) l8 c8 k8
  have b8 := F8.binds (ps := ["dice"]) fun _ _ _ _ _ _ us hl => match us, hl with | [_], _ => rfl
  have g8 := PySem.W.mg_of X G a8
  have F9 := fun_mk (st := sCommon) l9 c9 k9
  have b9 := F9.binds (ps := ["one", "other"]) fun _ _ _ _ _ _ us hl => match us, hl with | [_, _], _ => rfl
  have g9 := PySem.W.mg_of X G a9
  have F10 := fun_mk (st := sGiven) l10 c10 k10
  have b10 := F10.binds (ps := ["one", "other"]) fun _ _ _ _ _ _ us hl => match us, hl with | [_, _], _ => rfl
  have g10 := PySem.W.mg_of X G a10
  have F11 := fun_mk (st := sRight) l11 c11 k11
  have b11 := F11.binds (ps := ["one", "other"]) fun _ _ _ _ _ _ us hl => match us, hl with | [_, _], _ => rfl
  have g11 := PySem.W.mg_of X G a11
  have F12 := fun_mk (st := sLaw) l12 c12 k12
  have low1 : PySem.InumX.InumTxt K mg C1 e1 :=
    { gC := PySem.W.mg_of X G xC1, cls := ⟨xn1, xq1, xN1, xb1, _, xs1, xu1, xa1, xc1, xd1, m01, m11, m21, m31, m51, xL1, rfl⟩, sa := xsa1, ga := xga1, gg := xgg1, noN := xnb1, iC := xa11, tC := xt11, kC := xkC1, exC := xeC1, tyC := xtC1, hdC := xhC1, te := exm_self xeC1 xiC1 xtC1 xsC1,
      fn := ⟨_, _, _, _, _, _, _, _, _, _, _, _, _, _, xl11, xc11⟩ }
  have T : Free mg := ⟨PySem.W.mg_none_of X G z_len, PySem.W.mg_none_of X G z_int, PySem.W.mg_none_of X G z_abs, PySem.W.mg_none_of X G z_max, PySem.W.mg_none_of X G z_min, PySem.W.mg_none_of X G z_list, PySem.W.mg_none_of X G z_range, PySem.W.mg_none_of X G z_isinstance, PySem.W.mg_none_of X G z_bool, PySem.W.mg_none_of X G z_tuple⟩
  exact ⟨PySem.W.fnOf "law" "law" (defArgs sLaw) (defBody sLaw) (defScope sLaw) .none kV12 dc12 pm12 an12 cd12 ct12, fun s v => .of_eq rfl, fun base _ _ => ok_law F12 T ⟨F5, b5, g5, F6, b6, g6, F7, b7, g7⟩ ⟨F1, b1, g1, F2, b2, g2⟩ ⟨F3, b3, g3, low1, PySem.W.mg_of X G gcd, low1.te⟩ ⟨F4, b4, g4, F8, b8, g8, F10, b10, g10, F11, b11, g11, F9, b9, g9⟩⟩
end Pr
open PySem PySem.W PyProof.Rows
set_option maxHeartbeats 0 in
theorem PySem.Challenge.cw_munchbehind_k02_whole_coprime_pairs_holds : PySem.Challenge.rw_munchbehind_k02_whole_coprime_pairs.Holds := by
  w_on; o_law; k_head; (case hw => w_witness2)
  k_fill
  refine L2.walk_of (l := PySem.Challenge.rw_munchbehind_k02_whole_coprime_pairs) (n := 63) (k := 6) (x := "script") (CX := fun _ => L2.CX0) (sp := fun w => Pr.spLaw _) rfl (by decide) rfl ⟨rfl, by decide, by decide⟩ (fun w h Y => PySem.W.kIn_of Y) ?F (fun _ _ a ns hl _ hS => ⟨a, ns, rfl, hS, hl, fun _ => rfl⟩) (fun _ _ _ _ _ h => h)
  case F =>
    intro w mg fa h KX G hmg
    refine' Pr.all_mk KX G hmg ?a1 ?l1 ?c1 ?k1 ?a2 ?l2 ?c2 ?k2 ?a3 ?l3 ?c3 ?k3 ?a4 ?l4 ?c4 ?k4 ?a5 ?l5 ?c5 ?k5 ?a6 ?l6 ?c6 ?k6 ?a7 ?l7 ?c7 ?k7 ?a8 ?l8 ?c8 ?k8 ?a9 ?l9 ?c9 ?k9 ?a10 ?l10 ?c10 ?k10 ?a11 ?l11 ?c11 ?k11 ?a12 ?l12 ?c12 ?k12 ?xC1 ?xL1 ?xsa1 ?xga1 ?xgg1 ?xnb1 ?xa11 ?xt11 ?xl11 ?xc11 ?xkC1 ?xeC1 ?xtC1 ?xhC1 ?xiC1 ?xsC1 ?z_len ?z_int ?z_abs ?z_max ?z_min ?z_list ?z_range ?z_isinstance ?z_bool ?z_tuple ?gcd
    (case a1 => k_is)
    (case l1 => k_is)
    (case c1 => k_is)
    (case k1 => k_is)
    (case a2 => k_is)
    (case l2 => k_is)
    (case c2 => k_is)
    (case k2 => k_is)
    (case a3 => k_is)
    (case l3 => k_is)
    (case c3 => k_is)
    (case k3 => k_is)
    (case a4 => k_is)
    (case l4 => k_is)
    (case c4 => k_is)
    (case k4 => k_is)
    (case a5 => k_is)
    (case l5 => k_is)
    (case c5 => k_is)
    (case k5 => k_is)
    (case a6 => k_is)
    (case l6 => k_is)
    (case c6 => k_is)
    (case k6 => k_is)
    (case a7 => k_is)
    (case l7 => k_is)
    (case c7 => k_is)
    (case k7 => k_is)
    (case a8 => k_is)
    (case l8 => k_is)
    (case c8 => k_is)
    (case k8 => k_is)
    (case a9 => k_is)
    (case l9 => k_is)
    (case c9 => k_is)
    (case k9 => k_is)
    (case a10 => k_is)
    (case l10 => k_is)
    (case c10 => k_is)
    (case k10 => k_is)
    (case a11 => k_is)
    (case l11 => k_is)
    (case c11 => k_is)
    (case k11 => k_is)
    (case a12 => k_is)
    (case l12 => k_is)
    (case c12 => k_is)
    (case k12 => k_is)
    (case xC1 => k_is)
    (case xL1 => k_is)
    (case xsa1 => k_is)
    (case xga1 => k_is)
    (case xgg1 => k_is)
    (case xnb1 => k_is)
    (case xa11 => k_is)
    (case xt11 => k_is)
    (case xl11 => k_is)
    (case xc11 => k_is)
    (case xkC1 => k_is)
    (case xeC1 => k_is)
    (case xtC1 => k_is)
    (case xhC1 => k_is)
    (case xiC1 => k_is)
    (case xsC1 => first | rfl | k_is)
    (case z_len => k_is)
    (case z_int => k_is)
    (case z_abs => k_is)
    (case z_max => k_is)
    (case z_min => k_is)
    (case z_list => k_is)
    (case z_range => k_is)
    (case z_isinstance => k_is)
    (case z_bool => k_is)
    (case z_tuple => k_is)
    (case gcd => k_is)

