import PyProof.Rows.All
import Wide.All
import OpenK.AllK
import Wide.FinOn
import PyProof.EqAt
import PyProof.EqKinds
import PyProof.TupleCall
import KE.KExcInit
import KE.OsGo
import HandS.ForMost
import HandS.ForExc
import HandS.Wide
import HandS.IsInst
import HandS.StrMore
import PyProof.ReprReads
import PyProof.ReprRoads
import PyProof.CallFns
import PyProof.ListStr
import PyProof.StrLawsRepr
import HandS.TupMul
import HandS.TupAny
import HandS.More
import KE.KExcIs
import HandS.ExcValue
import HandS.ExcIs
import PySem.Challenge.RW_munchbehind_k00_errors_told
set_option Elab.async false
set_option linter.all false
set_option maxRecDepth 100000
set_option maxHeartbeats 2000000
/-! ### defs that are called where nothing is being shown (repr): what HandS says of a def, with that one fact more -/
namespace Gd
open PySem PySem.Spec PyProof.Rows L2
/-- a def's promise, kept wherever no repr is under way -/
structure FnG (P : Program) (w : World) (K : PySem.W.Frag) (mg : Str → Option Value) (base : Heap) (CX : CXT) (k : Nat) (f : Addr) (fd : FuncData) (ps : List Str) (sp : Sp) : Prop where
  len : ∀ vs H Q E, sp vs H Q E → vs.length = ps.length
  run : ∀ (A : Around) (outer : List Env) (s : Shared) (H : Hp) (args : Args) (us : List Value) (vs : List V) (Q : VK) (E : XK), Room k A → A.guards = some [] → Env0 P w K mg base A outer s H → BindsTo s fd args (ps.zip us) → Vals vs us → sp vs H Q E →
    codeAny (model P w) A (.call (.ref f) args) (CR CX outer P w H s Q E) s
section
variable {P : Program} {w : World} {K : PySem.W.Frag} {mg : Str → Option Value} {base : Heap} {CX : CXT} {k : Nat} {f : Addr} {fd : FuncData} {ps : List Str} {sp : Sp}
/-- out of its body -/
theorem FnG.of_body {qual : Str} {st : Stmt} {x : Str} {N : List Str} (F : Fun K x qual st f fd) (S : FnScope N ps (defScope st)) (len : ∀ vs H Q E, sp vs H Q E → vs.length = ps.length)
    (hbody : ∀ (cdv : Value) (A : Around) (outer : List Env) (s : Shared) (H : Hp) (vs : List V) (Q : VK) (E : XK), Room k (A.deeper (envOfC qual (defScope st) s.heap.objs.size f cdv)) →
      (A.deeper (envOfC qual (defScope st) s.heap.objs.size f cdv)).guards = some [] → sp vs H Q E →
      ∃ t, PSs (cxOf CX P w K mg base N qual (defScope st) f cdv A outer s H E) (defBody st) t ∧ t { nx := fun _ H' => Q .non H', rt := Q } (start N vs) H) : FnG P w K mg base CX (k + 1) f fd ps sp := by
  obtain ⟨oc, od, kV, doc, pm, an, cdv, ct, osl, rfl, lk, hcd⟩ := F.ex
  constructor
  · exact len
  intro A outer s H args us vs Q E room hg env bind rel want
  have size := len _ _ _ _ want
  have keep : ∀ b o, base.get? b = some o → s.heap.get? b = some o := fun b o e => (env.bs b o e).1
  have KX := env.mod.kin.keeps keep
  have lim := env.mod.nolimit.keeps keep
  have slots : ∀ y ∈ ps.zip us, (defScope st).names.lookup y.1 = some .local ∨ ((defScope st).names.lookup y.1 = some .cell ∧ ((cellsFrom (s.heap.objs.size + 1) (defScope st).names []).lookup y.1).isSome = true) := by
    rintro ⟨n, v⟩ hy
    exact (S.par n (List.of_mem_zip hy).1).imp id fun q => ⟨q, PySem.W.cellsFrom_some _ _ _ (.inl q)⟩
  refine codeAny_call_function room.depth (KX _ _ lk) rfl S.co S.gen rfl (PySem.W.codeRec_of KX hcd) (bind _ _ _ _ (wpAny_newFunctionEnv_cells S.kind slots fun env1 he s1 x => ?_))
  subst he
  refine ⟨lim.keeps x.toInCall.keep, codeAny_func ?_⟩
  have guard : (A.deeper (envOfC qual (defScope st) s.heap.objs.size f cdv)).guards = some [] := hg
  obtain ⟨t, ht, hq⟩ := hbody cdv A outer s H vs Q E (room.deeper _) guard want
  have I : Inv (cxOf CX P w K mg base N qual (defScope st) f cdv A outer s H E) [] (start N vs) H s1 := inv_start S room.hd env size rel x
  refine wpAny_mono (ht.run [] s1 (start N vs) H _ I hq) (fun fl s' hs => ?_) fun e s' hs => hs
  cases fl with
  | ret u =>
    obtain ⟨v, σ', H', J, rv, q⟩ := hs
    exact ⟨v, H', J.os, J.bare, J.base, J.hok, rv, q⟩
  | next =>
    obtain ⟨σ', H', J, q⟩ := hs
    exact ⟨V.non, H', J.os, J.bare, J.base, J.hok, rfl, q⟩
  | brk => exact (let ⟨_, _, _, q⟩ := hs; q : False).elim
  | cont => exact (let ⟨_, _, _, q⟩ := hs; q : False).elim
/-- the same, where no exception leaves it -/
theorem FnG.ok {qual : Str} {st : Stmt} {x : Str} {N : List Str} (F : Fun K x qual st f fd) (S : FnScope N ps (defScope st)) (len : ∀ vs H Q E, sp vs H Q E → vs.length = ps.length)
    (hbody : ∀ (cdv : Value) (A : Around) (outer : List Env) (s : Shared) (H : Hp) (vs : List V) (Q : VK) (E : XK), Room k (A.deeper (envOfC qual (defScope st) s.heap.objs.size f cdv)) →
      (A.deeper (envOfC qual (defScope st) s.heap.objs.size f cdv)).guards = some [] → sp vs H Q E →
      ∃ t, PSs (cxOf CX0 P w K mg base N qual (defScope st) f cdv A outer s H E).nox (defBody st) t ∧ t { nx := fun _ H' => Q .non H', rt := Q } (start N vs) H) : FnG P w K mg base CX0 (k + 1) f fd ps sp :=
  FnG.of_body F S len fun cdv A outer s H vs Q E hr hg h => let ⟨t, a, b⟩ := hbody cdv A outer s H vs Q E hr hg h; ⟨t, a.nox, b⟩
end
section
variable {X : Cx} {CX : CXT} {k : Nat} {f : Addr} {fd : FuncData} {ps : List Str} {sp : Sp} {E : XK} {x : Str} {p pos : Pos} {e : Expr} {es : List Expr} {t : TA}
/-- f(..) of such a def -/
theorem pe_callG (F : FnG X.prog X.w X.K X.mg X.base CX k f fd ps sp) (hr : Room k X.A) (gd : X.A.guards = some []) (hg : Gl X x) (hm : X.mg x = some (.ref f)) (hk : PySem.W.keepIn X.K (.ref f) = true) (hb : Binds X.K fd ps []) (hx : Passes CX X E)
    (ha : PA X (e :: es) t) (hdb : (x == ("__debug__" : Str)) = false := by decide) (he : starEach (e :: es) X.env = (false, eval e X.env) :: starEach es X.env := by rfl) (hpl : (backTo pos (starEach es X.env)).any (·.1) = false := by rfl) :
    PE X (.Call (.Name x p) (e :: es) [] pos) (tCall sp [] E t) := by
  refine ⟨fun pins s σ H Q I h => ?_⟩
  refine wpAny_Call_Name_kw (ld_glob I hg hm ?_ hdb)
  refine PySem.W.callWith_K (h₀ := X.base) I.ok.mod.kin hk (thn (ha.run pos pins s σ H _ I h) fun us s1 ⟨vs, H1, I1, r, q⟩ => ⟨I1.kIn, ?_⟩) he hpl
  have q' : sp vs H1 Q E := by
    have z : sp (vs ++ []) H1 Q E := q
    rw [List.append_nil] at z
    exact z
  have hl : us.length = ps.length := by rw [← r.length]; exact F.len _ _ _ _ q'
  have b := hb s1 us I1.kIn (by rw [List.append_nil]; exact hl)
  rw [List.append_nil] at b
  refine wpAny_call (codeAny_mono (F.run X.A X.stack s1 H1 ⟨us, []⟩ us vs Q E hr gd I1.env0 b r q') fun r' s' hq => ?_)
  cases r' with
  | error z => exact hx pins σ H1 s1 z s' I1 hq
  | ok fl =>
    cases fl with
    | ret u => exact I1.after hq
    | next => exact False.elim hq
    | brk => exact False.elim hq
    | cont => exact False.elim hq
end
/-- the script as the one thing that is tracked: at a, locked, where the written part has it not -/
def scriptH (K : PySem.W.Frag) (a : Addr) (o : Obj) (xs : List V) : Hp := fun b => if b = a ∧ K.lookup a = none then some (.frz o (.lst xs)) else none
theorem scriptH_some {K : PySem.W.Frag} {a b : Addr} {o : Obj} {xs : List V} {u : HO} (h : scriptH K a o xs b = some u) : b = a ∧ K.lookup a = none ∧ u = .frz o (.lst xs) := by
  unfold scriptH at h
  by_cases c : b = a ∧ K.lookup a = none
  · rw [if_pos c] at h
    exact ⟨c.1, c.2, (Option.some.inj h).symm⟩
  · rw [if_neg c] at h
    cases h
/-- the law's own call, from a promise that is kept where nothing is being shown -/
theorem law_callG {P : Program} {w : World} {K : PySem.W.Frag} {mg mb : Str → Option Value} {CX : CXT} {k : Nat} {fa a : Addr} {fd : FuncData} {x : Str} {sp : Sp} {s : Shared} {vs : List Value} {ns : List Int}
    (KX : K.In s.heap) (hns : s.heap.Ns mainGlobals mg) (hb : s.heap.Ns builtinsNs mb) (hbb : ∀ x : Str, x ≠ "__name__" → mb x = bootBuiltins x) (hlim : s.heap.NoLimit) (hg : s.gens = #[])
    (ha : s.heap.get? a = some { cls := .type "list", data := .seq vs.toArray }) (hi : IntsAre vs ns) (hl : ns.length ≤ sizeLine) (hr : Room k callerA)
    (F : ∀ base : Heap, K.In base → base.Ns mainGlobals mg → FnG P w K mg base CX k fa fd [x] sp) (hbind : ∀ (s : Shared) (u : Value), BindsTo s fd ⟨[u], []⟩ [(x, u)])
    (hsp : ∀ H : Hp, Only H → SqL K H a (ns.map V.int) → sp [.ref a] H (fun v _ => v = .bl true) fun _ _ _ => False)
    (hCX : ∀ H e s', CX [] H s (fun _ _ _ => False) e s' → False) :
    codeAny (model P w) callerA (.call (.ref fa) ⟨[.ref a], []⟩) (fun r s' => r = .ok (.ret (.bool true)) ∧ OldK s.heap s'.heap ∧ s'.os = s.os ∧ AllBare s'.gens) s := by
  have rv := vals_ints hi
  have lenV := hi.length
  let O : Obj := { cls := .type "list", data := .seq vs.toArray }
  let H : Hp := scriptH K a O (ns.map V.int)
  have only : Only H := fun b => by
    cases q : H b with
    | none => exact .inl rfl
    | some u => exact .inr ⟨O, ns.map V.int, by rw [(scriptH_some q).2.2]⟩
  have hS : SqL K H a (ns.map V.int) := by
    cases hk : K.lookup a with
    | none => exact .inl (.inr ⟨O, if_pos ⟨rfl, hk⟩⟩)
    | some o =>
      have e := KX a o hk
      rw [ha] at e
      cases e
      exact .inr ⟨_, vs.toArray, _, hk, rfl, rfl, rfl, by rw [List.size_toArray, lenV]; exact hl, by simpa using rv⟩
  have hok : HOk P w H s.heap := fun b u q => by
    obtain ⟨e1, _, e3⟩ := scriptH_some q
    rw [e1, e3]
    exact ⟨ha, by rw [List.length_map]; exact hl, vs, _, rv, ha⟩
  have notDict : ∀ {b : Addr} {o : Obj} {es : Array DictEntry} {ep : Nat}, s.heap.get? b = some o → o.data = .dict es ep → H b = none := fun {b o es ep} e d => by
    cases q : H b with
    | none => rfl
    | some u =>
      rw [(scriptH_some q).1, ha] at e
      cases e
      cases (show Data.seq vs.toArray _ = Data.dict es ep from d)
  have nsK : ∀ {b : Addr} {m : Str → Option Value}, s.heap.Ns b m → (hidT s.heap H).Ns b m := fun {b m} ⟨o, es, ep, e, d, r⟩ => ⟨o, es, ep, hidT_get e (notDict e d), d, r⟩
  have inK : K.In (hidT s.heap H) := fun b o e => hidT_get (KX b o e) (by
    cases q : H b with
    | none => rfl
    | some u =>
      obtain ⟨e1, e2, _⟩ := scriptH_some q
      rw [e1, e2] at e
      cases e)
  obtain ⟨mc, l1, l2⟩ := hlim
  have env : Env0 P w K mg (hidT s.heap H) callerA [] s H :=
    ⟨rfl, ⟨inK, nsK hns, ⟨mb, nsK hb, hbb⟩, ⟨mc, nsK l1, l2⟩⟩, fun b o e => of_hidT e, Nat.le_of_eq (hidT_size _ _), trivial, fun b m => absurd (show b ∈ ([] : List Addr) from m) (by simp), hok, .of_eq hg⟩
  refine codeAny_mono ((F _ inK (nsK hns)).run callerA [] s H ⟨[.ref a], []⟩ [.ref a] [.ref a] _ _ hr rfl env (hbind s (.ref a)) (.cons rfl .nil) (hsp H only hS)) fun r s' h => ?_
  cases r with
  | error e => exact (hCX H e s' h).elim
  | ok fl =>
    cases fl with
    | next => exact False.elim h
    | brk => exact False.elim h
    | cont => exact False.elim h
    | ret u =>
      obtain ⟨v, H', os, bare, un, hok', r', q⟩ := h
      obtain rfl : v = .bl true := q
      obtain rfl : u = Value.bool true := r'
      refine ⟨rfl, OldK.of_keep fun b o e => ?_, os, bare⟩
      cases q : H b with
      | none => exact un.keep b o e q (fun z => absurd (show b ∈ ([] : List Addr) from z) (by simp)) (by simp)
      | some u =>
        obtain ⟨_, _, eu⟩ := scriptH_some q
        rw [eu] at q
        have e1 := (hok b _ q).1
        have e2 := (hok' b _ (un.frzs b O _ q)).1
        rw [e] at e1
        cases e1
        exact e2
theorem walk_ofG {l : PySem.W.OpenLaw} {n k : Nat} {q : Program} {loose : List Str} {XP : (Str → Option Value) → Heap → Prop} {YP : World → Heap → Prop} {d : DefRec} {K : Params → PySem.W.Frag} {CX : World → CXT} {sp : World → Sp} {x : Str}
    (hn : l.most = some n) (hn2 : n ≤ sizeLine) (hdf : d.params.defaults = []) (hr : Room k callerA)
    (hY : ∀ (w : World) (h : Heap), YP w h → (K w.params).In h)
    (F : ∀ (w : World) (mg : Str → Option Value) (fa : Addr) (h : Heap), (K w.params).In h → h.Ns mainGlobals mg → mg d.name = some (.ref fa) →
      ∃ fd : FuncData, (∀ (s : Shared) (u : Value), BindsTo s fd ⟨[u], []⟩ [(x, u)]) ∧
        ∀ base : Heap, (K w.params).In base → base.Ns mainGlobals mg → FnG l.prog w (K w.params) mg base (CX w) k fa fd [x] (sp w))
    (hsp : ∀ (w : World) (H : Hp) (a : Addr) (ns : List Int), ns.length ≤ n → Only H → SqL (K w.params) H a (ns.map V.int) → sp w [.ref a] H (fun v _ => v = .bl true) fun _ _ _ => False)
    (hCX : ∀ (w : World) (H : Hp) (s : Shared) (e : Value) (s' : Shared), CX w [] H s (fun _ _ _ => False) e s' → False) :
    PySem.W.WalkO q loose XP YP l.row.toRowW d [] (fun f vs => PySem.call f vs) := by
  refine Att.attach_call hn hdf fun w s₀ s₁ mg mb fa o pm cd doc a vs ns G Y ho hd hcd hmg hobj hints hlen hg => ?_
  obtain ⟨fd, hb, hF⟩ := F w mg fa _ (hY w _ Y) G.T.g hmg
  exact law_callG (hY w _ Y) G.T.g G.T.b G.T.builtins G.T.nolimit hg hobj hints (Nat.le_trans hlen hn2) hr hF hb (fun H hO hS => hsp w H a ns hlen hO hS) fun H e s' => hCX w H s₁ e s'
end Gd
/-! ### repr of what is tracked: None, bools, ints, texts, lists, tuples and dicts of them -/
namespace Gd
open PySem PySem.Spec PyProof.Rows L2 PySem.Builtin.List
def keyText : Key → Str
  | .inl i => ((toString i : String) : Str)
  | .inr x => reprText x
def keyFits : Key → Prop
  | .inl i => i.natAbs.log2 < 1920
  | .inr x => (reprText x).length ≤ sizeLine
/-- a plain value and its text -/
inductive Sc : V → Str → Prop where
  | non : Sc .non "None"
  | bl (b : Bool) : Sc (.bl b) (if b then "True" else "False")
  | int (i : Int) (h : i.natAbs.log2 < 1920) : Sc (.int i) ((toString i : String) : Str)
  | str (x : Str) (h : (reprText x).length ≤ sizeLine) : Sc (.str x) (reprText x)
/-- v is shown as t: nested at most n deep -/
def Sh (H : Hp) : Nat → V → Str → Prop
  | 0, v, t => Sc v t
  | n + 1, v, t => Sc v t ∨ (∃ a xs ts, v = .ref a ∧ H a = some (.lst xs) ∧ Paired (Sh H n) xs ts ∧ t = listText ts) ∨
      (∃ a xs ts, v = .ref a ∧ H a = some (.tup xs) ∧ Paired (Sh H n) xs ts ∧ t = tupleText ts) ∨
      ∃ a kvs ts, v = .ref a ∧ H a = some (.dK kvs) ∧ Paired (fun (p : Key × V) t => keyFits p.1 ∧ Sh H n p.2 t) kvs ts ∧ t = dictText (List.zipWith (fun (p : Key × V) t => keyText p.1 ++ ": " ++ t) kvs ts)
theorem Sh.sc {H : Hp} {n : Nat} {v : V} {t : Str} (h : Sc v t) : Sh H n v t := by
  cases n with
  | zero => exact h
  | succ n => exact .inl h
theorem Sh.lst {H : Hp} {n : Nat} {a : Addr} {xs : List V} {ts : List Str} (e : H a = some (.lst xs)) (h : Paired (Sh H n) xs ts) : Sh H (n + 1) (.ref a) (listText ts) := .inr (.inl ⟨a, xs, ts, rfl, e, h, rfl⟩)
theorem Sh.tup {H : Hp} {n : Nat} {a : Addr} {xs : List V} {ts : List Str} (e : H a = some (.tup xs)) (h : Paired (Sh H n) xs ts) : Sh H (n + 1) (.ref a) (tupleText ts) := .inr (.inr (.inl ⟨a, xs, ts, rfl, e, h, rfl⟩))
theorem Sh.dK {H : Hp} {n : Nat} {a : Addr} {kvs : List (Key × V)} {ts : List Str} (e : H a = some (.dK kvs)) (h : Paired (fun (p : Key × V) t => keyFits p.1 ∧ Sh H n p.2 t) kvs ts) :
    Sh H (n + 1) (.ref a) (dictText (List.zipWith (fun (p : Key × V) t => keyText p.1 ++ ": " ++ t) kvs ts)) := .inr (.inr (.inr ⟨a, kvs, ts, rfl, e, h, rfl⟩))
theorem Sc.det {v : V} {t t' : Str} (h : Sc v t) (h' : Sc v t') : t = t' := by
  cases h <;> cases h' <;> rfl
theorem Sc.noRef {a : Addr} {t : Str} (h : Sc (.ref a) t) : False := nomatch h
theorem paired_det {α : Type} {F G : α → Str → Prop} (k : ∀ a t t', F a t → G a t' → t = t') : ∀ {xs : List α} {ts ts' : List Str}, Paired F xs ts → Paired G xs ts' → ts = ts'
  | _, _, _, .nil, .nil => rfl
  | _, _, _, .cons h r, .cons h' r' => by rw [k _ _ _ h h', paired_det k r r']
/-- the text is one -/
theorem Sh.det {H : Hp} : ∀ (n : Nat) (v : V) (t : Str), Sh H n v t → ∀ (m : Nat) (t' : Str), Sh H m v t' → t = t'
  | 0, v, t, h, 0, t', h' => Sc.det h h'
  | 0, v, t, h, m + 1, t', h' => by
    rcases h' with h' | ⟨a, _, _, rfl, _⟩ | ⟨a, _, _, rfl, _⟩ | ⟨a, _, _, rfl, _⟩
    · exact Sc.det h h'
    all_goals exact (Sc.noRef h).elim
  | n + 1, v, t, h, 0, t', h' => by
    rcases h with h | ⟨a, _, _, rfl, _⟩ | ⟨a, _, _, rfl, _⟩ | ⟨a, _, _, rfl, _⟩
    · exact Sc.det h h'
    all_goals exact (Sc.noRef h').elim
  | n + 1, v, t, h, m + 1, t', h' => by
    rcases h with h | ⟨a, xs, ts, rfl, e, p, rfl⟩ | ⟨a, xs, ts, rfl, e, p, rfl⟩ | ⟨a, xs, ts, rfl, e, p, rfl⟩
    · rcases h' with h' | ⟨a, _, _, rfl, _⟩ | ⟨a, _, _, rfl, _⟩ | ⟨a, _, _, rfl, _⟩
      · exact Sc.det h h'
      all_goals exact (Sc.noRef h).elim
    · rcases h' with h' | ⟨b, xs', ts', eb, e', p', rfl⟩ | ⟨b, xs', ts', eb, e', p', rfl⟩ | ⟨b, xs', ts', eb, e', p', rfl⟩
      · exact (Sc.noRef h').elim
      all_goals
        cases eb
        rw [e] at e'
        cases e'
      rw [paired_det (fun a t t' q q' => Sh.det n a t q m t' q') p p']
    · rcases h' with h' | ⟨b, xs', ts', eb, e', p', rfl⟩ | ⟨b, xs', ts', eb, e', p', rfl⟩ | ⟨b, xs', ts', eb, e', p', rfl⟩
      · exact (Sc.noRef h').elim
      all_goals
        cases eb
        rw [e] at e'
        cases e'
      rw [paired_det (fun a t t' q q' => Sh.det n a t q m t' q') p p']
    · rcases h' with h' | ⟨b, xs', ts', eb, e', p', rfl⟩ | ⟨b, xs', ts', eb, e', p', rfl⟩ | ⟨b, xs', ts', eb, e', p', rfl⟩
      · exact (Sc.noRef h').elim
      all_goals
        cases eb
        rw [e] at e'
        cases e'
      rw [paired_det (fun a t t' q q' => Sh.det n a.2 t q.2 m t' q'.2) p p']
theorem Sh.keep {H H' : Hp} (k : ∀ a o, H a = some o → H' a = some o) : ∀ (n : Nat) (v : V) (t : Str), Sh H n v t → Sh H' n v t
  | 0, _, _, h => h
  | n + 1, _, _, h => by
    rcases h with h | ⟨a, xs, ts, rfl, e, p, rfl⟩ | ⟨a, xs, ts, rfl, e, p, rfl⟩ | ⟨a, xs, ts, rfl, e, p, rfl⟩
    · exact .inl h
    · exact Sh.lst (k _ _ e) (L2.Paired.mapP p fun x t q => Sh.keep k n x t q)
    · exact Sh.tup (k _ _ e) (L2.Paired.mapP p fun x t q => Sh.keep k n x t q)
    · exact Sh.dK (k _ _ e) (L2.Paired.mapP p fun x t q => ⟨q.1, Sh.keep k n x.2 t q.2⟩)
section
variable {P : Program} {w : World} {H : Hp} {h : Heap}
def Below (H : Hp) (n : Nat) (b : Addr) : Prop := ∃ m, m ≤ n ∧ ∃ t, Sh H m (.ref b) t
theorem all_repr {n : Nat} (ih : ∀ (v : V) (t : Str) (u : Value), Sh H n v t → RelV v u → ∃ bs : List Addr, (∀ b ∈ bs, Below H n b) ∧ ReprK P w bs h n u t) :
    ∀ {xs : List V} {ts : List Str} {us : List Value}, Paired (Sh H n) xs ts → Vals xs us → ∃ bs : List Addr, (∀ b ∈ bs, Below H n b) ∧ ReprAllK P w bs h n us ts
  | _, _, _, .nil, .nil => ⟨[], (fun _ m => nomatch m), .nil⟩
  | _, _, _, .cons p q, .cons r s => by
    obtain ⟨b1, h1, k1⟩ := ih _ _ _ p r
    obtain ⟨b2, h2, k2⟩ := all_repr ih q s
    exact ⟨b1 ++ b2, fun b m => (List.mem_append.mp m).elim (h1 b) (h2 b), .cons (k1.more fun b m => List.mem_append_left _ m) (k2.more_le (fun b m => List.mem_append_right _ m) (Nat.le_refl _))⟩
theorem key_repr {k : Key} {v : Value} (e : keyIs k v = true) (f : keyFits k) (bs : List Addr) (n : Nat) : ReprK P w bs h n v (keyText k) := by
  rcases keyIs_shape e with ⟨i, t, rfl, rfl⟩ | ⟨x, t, rfl, rfl⟩
  · exact .of_is (ReprIs.int t f) _ _ _
  · exact .of_is (ReprIs.str x t f) _ _ _
theorem ReprEntriesK.wider {as as' : List Addr} {d : Nat} (sub : ∀ b ∈ as, b ∈ as') : ∀ {l : List DictEntry} {ts : List Str}, ReprEntriesK P w as h d l ts → ReprEntriesK P w as' h d l ts
  | _, _, .nil => .nil
  | _, _, .cons a b r => .cons (a.more sub) (b.more sub) (ReprEntriesK.wider sub r)
theorem entries_repr {n : Nat} (ih : ∀ (v : V) (t : Str) (u : Value), Sh H n v t → RelV v u → ∃ bs : List Addr, (∀ b ∈ bs, Below H n b) ∧ ReprK P w bs h n u t) :
    ∀ {kvs : List (Key × V)} {ts : List Str} {ws : List (Key × Value)} {es : List DictEntry}, Paired (fun (p : Key × V) t => keyFits p.1 ∧ Sh H n p.2 t) kvs ts → KV kvs ws → Pairs (mixKind P w) es ws →
      ∃ bs : List Addr, (∀ b ∈ bs, Below H n b) ∧ ReprEntriesK P w bs h n es (List.zipWith (fun (p : Key × V) t => keyText p.1 ++ ": " ++ t) kvs ts)
  | _, _, _, _, .nil, .nil, .nil => ⟨[], (fun _ m => nomatch m), .nil⟩
  | _, _, _, _, .cons p q, .cons r s, .cons (e := e) a b c => by
    obtain ⟨b1, h1, k1⟩ := ih _ _ _ p.2 r.2
    obtain ⟨b2, h2, k2⟩ := entries_repr ih q s c
    refine ⟨b1 ++ b2, fun b m => (List.mem_append.mp m).elim (h1 b) (h2 b), ?_⟩
    refine .cons (key_repr (by rw [r.1]; exact a) p.1 _ _) ?_ (ReprEntriesK.wider (fun b m => List.mem_append_right _ m) k2)
    rw [b]
    exact k1.more fun b m => List.mem_append_left _ m
/-- whatever is tracked and is shown as t gives t to repr -/
theorem repr_sh (ok : HOk P w H h) (n : Nat) : ∀ (v : V) (t : Str) (u : Value), Sh H n v t → RelV v u → ∃ bs : List Addr, (∀ b ∈ bs, Below H n b) ∧ ReprK P w bs h n u t := by
  induction n using Nat.strongRecOn with
  | ind n IH =>
    intro v t u hv r
    have plain : Sc v t → ∃ bs : List Addr, (∀ b ∈ bs, Below H n b) ∧ ReprK P w bs h n u t := fun c => by
      refine ⟨[], (fun _ m => nomatch m), ?_⟩
      cases c with
      | non =>
        cases (show u = Value.none from r)
        exact .of_is ReprIs.none _ _ _
      | bl b =>
        cases (show u = Value.bool b from r)
        exact .of_is (ReprIs.bool b) _ _ _
      | int i f =>
        obtain ⟨t, rfl⟩ := (show ∃ t, u = Value.int i t from r)
        exact .of_is (ReprIs.int t f) _ _ _
      | str x f =>
        obtain ⟨t, rfl⟩ := (show ∃ t, u = Value.str x t from r)
        exact .of_is (ReprIs.str x t f) _ _ _
    cases n with
    | zero => exact plain hv
    | succ n =>
      have ih := IH n (Nat.lt_succ_self n)
      -- a ring can't be: what is below has the same text at a lower level
      have ring : ∀ (a : Addr) (bs : List Addr), v = .ref a → (∀ b ∈ bs, Below H n b) → a ∈ bs → ∃ bs : List Addr, (∀ b ∈ bs, Below H (n + 1) b) ∧ ReprK P w bs h (n + 1) u t := fun a bs e hb m => by
        obtain ⟨m, hm, t', ht⟩ := hb a m
        subst e
        have et : t = t' := Sh.det _ _ _ hv _ _ ht
        subst et
        obtain ⟨cs, hc, k⟩ := IH m (by omega) _ _ _ ht r
        exact ⟨cs, fun b q => let ⟨l, hl, x⟩ := hc b q; ⟨l, by omega, x⟩, k.level_le (by omega)⟩
      rcases id hv with c | ⟨a, xs, ts, rfl, e, p, rfl⟩ | ⟨a, xs, ts, rfl, e, p, rfl⟩ | ⟨a, kvs, ts, rfl, e, p, rfl⟩
      · exact plain c
      · cases (show u = Value.ref a from r)
        obtain ⟨_, its, m, rv, ho⟩ := (show ObjOk P w H h a (.lst xs) from ok a _ e)
        obtain ⟨bs, hb, hk⟩ := all_repr ih p rv
        by_cases c : a ∈ bs
        · exact ring a bs rfl hb c
        · refine ⟨a :: bs, fun b q => ?_, ?_⟩
          · rcases List.mem_cons.mp q with rfl | q
            · exact ⟨n + 1, Nat.le_refl _, _, hv⟩
            · obtain ⟨l, hl, x⟩ := hb b q
              exact ⟨l, by omega, x⟩
          · cases its with
            | nil =>
              cases hk
              rw [listText_nil]
              exact ReprK.listEmpty ho rfl rfl
            | cons x l => exact ReprK.list ho rfl rfl c (by simpa using hk.length_eq) (fun i y q => hk.item i y (by simpa using q))
      · cases (show u = Value.ref a from r)
        obtain ⟨_, its, rv, o, ho, hc, m, hd⟩ := (show ObjOk P w H h a (.tup xs) from ok a _ e)
        obtain ⟨bs, hb, hk⟩ := all_repr ih p rv
        by_cases c : a ∈ bs
        · exact ring a bs rfl hb c
        · refine ⟨a :: bs, fun b q => ?_, ReprK.tuple ho hc hd c (by simpa using hk)⟩
          rcases List.mem_cons.mp q with rfl | q
          · exact ⟨n + 1, Nat.le_refl _, _, hv⟩
          · obtain ⟨l, hl, x⟩ := hb b q
            exact ⟨l, by omega, x⟩
      · cases (show u = Value.ref a from r)
        obtain ⟨_, ys, ws, rv, o, es, ep, ho, hc, hd, _, hp, _⟩ := (show ObjOk P w H h a (.dK kvs) from ok a _ e)
        obtain ⟨bs, hb, hk⟩ := entries_repr ih p rv hp
        by_cases c : a ∈ bs
        · exact ring a bs rfl hb c
        · refine ⟨a :: bs, fun b q => ?_, ReprK.dict ho hc.1 hd ys c hk⟩
          rcases List.mem_cons.mp q with rfl | q
          · exact ⟨n + 1, Nat.le_refl _, _, hv⟩
          · obtain ⟨l, hl, x⟩ := hb b q
            exact ⟨l, by omega, x⟩
/-- repr(v) -/
theorem call_sh (ok : HOk P w H h) (n : Nat) : ∀ (v : V) (t : Str) (u : Value), Sh H n v t → RelV v u → t.length ≤ sizeLine → ∀ (A : Around) (E : Value → Shared → Prop) (s : Shared) (Q : Value → Shared → Prop), A.guards = some [] → A.units + (n + 1) < cLine → s.heap = h →
    (∀ h' z tk, (∀ b o, s.heap.get? b = some o → h'.get? b = some o) → Q (.str t z) { s with heap := h', toks := tk }) → wpAny (model P w) A (call (.builtin "repr") [u]) Q E s := by
  induction n using Nat.strongRecOn with
  | ind n IH =>
    intro v t u hv r hz A E s Q hg hu eh hQ
    subst eh
    have plain : Sc v t → wpAny (model P w) A (call (.builtin "repr") [u]) Q E s := fun c => by
      cases c with
      | non =>
        cases (show u = Value.none from r)
        exact PySem.P.repr_of_none (hQ s.heap _ _ fun _ _ e => e)
      | bl b =>
        cases (show u = Value.bool b from r)
        exact PySem.P.repr_of_bool (by
          have q := hQ s.heap s.toks (s.toks + 1) fun _ _ e => e
          cases b <;> exact q)
      | int i f =>
        obtain ⟨t, rfl⟩ := (show ∃ t, u = Value.int i t from r)
        exact PySem.P.repr_of_int f (hQ s.heap _ _ fun _ _ e => e)
      | str x f =>
        obtain ⟨t, rfl⟩ := (show ∃ t, u = Value.str x t from r)
        exact PySem.P.repr_of_str (hQ s.heap _ _ fun _ _ e => e) f
    cases n with
    | zero => exact plain hv
    | succ n =>
      have ih := fun v t u => repr_sh (P := P) (w := w) ok n v t u
      have ring : ∀ (a : Addr) (bs : List Addr), v = .ref a → (∀ b ∈ bs, Below H n b) → a ∈ bs → wpAny (model P w) A (call (.builtin "repr") [u]) Q E s := fun a bs e hb m => by
        obtain ⟨m, hm, t', ht⟩ := hb a m
        subst e
        have et : t = t' := Sh.det _ _ _ hv _ _ ht
        subst et
        exact IH m (by omega) _ _ _ ht r hz A E s Q hg (by omega) rfl hQ
      have hu1 : A.in1.units + (n + 1) < cLine := by
        show A.units + 1 + (n + 1) < cLine
        omega
      have hk0 : ∀ b o, s.heap.get? b = some o → s.heap.get? b = some o := fun _ _ e => e
      rcases id hv with c | ⟨a, xs, ts, rfl, e, p, rfl⟩ | ⟨a, xs, ts, rfl, e, p, rfl⟩ | ⟨a, kvs, ts, rfl, e, p, rfl⟩
      · exact plain c
      · cases (show u = Value.ref a from r)
        obtain ⟨_, its, m, rv, ho⟩ := (show ObjOk P w H s.heap a (.lst xs) from ok a _ e)
        obtain ⟨bs, hb, hk⟩ := all_repr ih p rv
        by_cases c : a ∈ bs
        · exact ring a bs rfl hb c
        · refine call_repr_slot (by omega) (T := "list") ⟨_, ho, rfl⟩ F.slot_list_repr.toG ?_
          cases its with
          | nil =>
            cases hk
            rw [listText_nil] at hQ
            exact call_list_repr_empty ⟨_, ho, rfl⟩ ho rfl ⟨_, _, rfl, hQ s.heap _ _ fun _ _ e => e⟩
          | cons x l =>
            exact call_list_reprK ho rfl rfl c (by simpa using hk.length_eq) (fun i y q => hk.item i y (by simpa using q)) (A := A.in1) hg (fun b _ => Clear.nil b) hu1 hk0 (fun h' z tk k => ⟨_, _, rfl, hQ h' z tk k⟩) hz
      · cases (show u = Value.ref a from r)
        obtain ⟨_, its, rv, o, ho, hc, m, hd⟩ := (show ObjOk P w H s.heap a (.tup xs) from ok a _ e)
        obtain ⟨bs, hb, hk⟩ := all_repr ih p rv
        by_cases c : a ∈ bs
        · exact ring a bs rfl hb c
        · exact call_repr_slot (by omega) (T := "tuple") ⟨_, ho, hc⟩ F.slot_tuple_repr (call_tuple_reprK ho hc hd c (by simpa using hk) (A := A.in1) hg (fun b _ => Clear.nil b) hu1 hk0 (fun h' z tk k => ⟨_, _, rfl, hQ h' z tk k⟩) hz)
      · cases (show u = Value.ref a from r)
        obtain ⟨_, ys, ws, rv, o, es, ep, ho, hc, hd, _, hp, _⟩ := (show ObjOk P w H s.heap a (.dK kvs) from ok a _ e)
        obtain ⟨bs, hb, hk⟩ := entries_repr ih p rv hp
        by_cases c : a ∈ bs
        · exact ring a bs rfl hb c
        · exact call_repr_slot (by omega) (T := "dict") ⟨_, ho, hc.1⟩ F.slot_dict_repr (call_dict_reprK ho hc.1 hd ys c hk (A := A.in1) hg (fun b _ => Clear.nil b) hu1 hk0 (fun h' z tk k => ⟨_, _, rfl, hQ h' z tk k⟩) hz)
end
section
variable {X : Cx}
def rRepr : List V → Hp → VK → Prop := fun vs H Q => ∃ (v : V) (n : Nat) (t : Str), vs = [v] ∧ Sh H n v t ∧ n ≤ 50 ∧ t.length ≤ sizeLine ∧ Q (.str t) H
theorem call_repr (gd : X.A.guards = some []) (hu : X.A.units + 64 < cLine) : CallR X (.builtin "repr") rRepr := by
  intro pins s σ H vs us Q I r h
  obtain ⟨v, n, t, rfl, hv, hn, hz, q⟩ := h
  obtain ⟨u, rfl, ru⟩ := vals1 r
  exact call_sh I.hok n v t u hv ru hz X.A _ s _ gd (by omega) rfl fun h' z tk k => ⟨.str t, H, I.kept k, ⟨z, rfl⟩, q⟩
end
end Gd
/-! ### an own error class over any built-in base that does not lay its objects itself: what is asked of its chain is only what is looked up in it -/
namespace PySem
namespace ErrO
open PySem.W PySem.Calls PyProof.Rows PySem.HandSPX
/-- what the chain ch of the class (without itself) must tell -/
structure Tail (B : String) (ch : List Value) : Prop where
  base : ch.contains (.type B) = true
  attr : ch.contains (.type "AttributeError") = false
  name : ch.contains (.type "NameError") = false
section
variable {prog : Program} {w : World} {A : Around} {R : Result → Shared → Prop} {hp : Heap} {g : Array GenState} {dr : Drawn} {tk : Nat} {os : OsState}
variable {cn qn : Str} {C N : Addr} {bs ch bmB : List Value} {hdct : Bool} {sn : List Str} {sub : List Value} {ab : Bool} {col : Option Bool} {dd : Option Addr} {k0 k1 k2 k3 k5 : Option Value} {B newId initId : String} {us : List Value}
theorem asked (F : ExcBaseFacts B newId initId bmB) (T : Tail B ch) {M : Model} {E : Value → Shared → Prop} {Q : Unit → Shared → Prop} (hC : hp.get? C = some (excClassObj cn qn C N bs ch hdct sn sub ab col dd k0 k1 k2 k3 k5 newId)) (hq : Q () ⟨hp, g, dr, tk, os⟩) :
    wpAny M A (checkBuiltinCall newId ⟨.ref C :: us, []⟩) Q E ⟨hp, g, dr, tk, os⟩ := by
  have c1 : (Value.ref C :: ch).contains (.type B) = true := by rw [List.contains_cons, T.base, Bool.or_true]
  have c2 := F.noStar
  simp only [checkBuiltinCall, F.newKind, F.newSplit, F.newRow]
  repeat (first | (refine wpAny_isSubtype_exc hC ?_; rw [c1]) | refine wpAny_staticBase_exc hC ?_ | refine wpAny_madeBy_exc hC ?_ | refine wpAny_loadPart_at hC ?_ | simp only [bne_self_eq_false, Bool.false_eq_true, if_false] | wp_step)
  exact hq
theorem laid (F : ExcBaseFacts B newId initId bmB) (T : Tail B ch) (hC : hp.get? C = some (excClassObj cn qn C N bs ch hdct sn sub ab col dd k0 k1 k2 k3 k5 newId)) (hl : us.length ≤ sizeLine)
    (hq : R (.ok (.ret (.ref (hp.objs.size + 1)))) ⟨(hp.push (kdv_tup us)).push (excO C hp.objs.size), g, dr, tk, os⟩) : codeAny (model prog w) A (.builtin newId ⟨.ref C :: us, []⟩) R ⟨hp, g, dr, tk, os⟩ := by
  have c0 := F.ends
  have c1 : (Value.ref C :: ch).contains (.type B) = true := by rw [List.contains_cons, T.base, Bool.or_true]
  have c2 : (Value.ref C :: ch).contains (.type "AttributeError") = false := by rw [List.contains_cons, T.attr]; rfl
  have c3 : (Value.ref C :: ch).contains (.type "NameError") = false := by rw [List.contains_cons, T.name]; rfl
  refine codeAny_builtinAt F.entry (show _ from ?_)
  unfold Builtin.«BaseException.__new__»; refine wpAt_bind (show wpAt _ _ _ (stack >>= _) _ _ _ from ?_)
  refine wpAt_bind (wpAt_stack fun p0 p1 => wpAt_of_wpAny ?_); wp_walk
  refine wpAt_of_wpAny ?_; rw [F.owner]
  repeat (first | with_reducible refine wpAny_madeHere_exc F.canon hC ?_ | (with_reducible refine wpAny_isSubtype_exc hC ?_; first | rw [c1] | rw [c2] | rw [c3]) | with_reducible refine wpAny_loadPart_at hC ?_ | wp_step)
  show R _ _
  rw [Heap.size_push]; exact hq
theorem called (F : ExcBaseFacts B newId initId bmB) (T : Tail B ch) {fI : Addr} {Q : Fin → Shared → Prop} {E : Value → Shared → Prop} (hC : hp.get? C = some (excClassObj cn qn C N bs ch hdct sn sub ab col dd k0 k1 k2 k3 k5 newId))
    (hi : Looks (model prog w) hp (typeLookup (.ref C) "__init__") (some (.ref fI))) (hb : ∀ x, Looks (model prog w) hp (bindSpecial (.ref fI) x) (.ref fI, [x])) (hl : us.length ≤ sizeLine)
    (hq : codeAny (model prog w) A (.call (.ref fI) ⟨.ref (hp.objs.size + 1) :: us, []⟩) (fun r s' => match r with | .ok (.ret v) => v = .none ∧ Q (.done (.ret (.ref (hp.objs.size + 1)))) s' | .ok _ => False | .error e => E e s')
      ⟨(hp.push (kdv_tup us)).push (excO C hp.objs.size), g, dr, tk, os⟩) :
    wpAny (model prog w) A (Builtin.«type.__call__» ⟨.ref C :: us, []⟩) Q E ⟨hp, g, dr, tk, os⟩ := by
  repeat (first | with_reducible refine wpAny_madeBy_exc hC ?_ | with_reducible refine wpAny_loadPart_at hC ?_ | wp_step)
  refine codeAny_call_builtin_code (Code.quiet_builtin _ F.quiet) (asked F T hC (laid F T hC hl ?_))
  show wpAny _ _ _ _ _ _
  have kp : ∀ b o, hp.get? b = some o → ((hp.push (kdv_tup us)).push (excO C hp.objs.size)).get? b = some o := fun b o e => Heap.get?_push_of_some _ (Heap.get?_push_of_some _ e)
  have at1 : ((hp.push (kdv_tup us)).push (excO C hp.objs.size)).get? (hp.objs.size + 1) = some (excO C hp.objs.size) := by heap_get
  have c4 : (Value.ref C :: ch).contains (.ref C) = true := by simp
  have z1 := hi.keeps kp
  have z2 := (hb (.ref (hp.objs.size + 1))).keeps kp
  have cls1 := kp _ _ hC
  unfold isInstance
  repeat (first | (with_reducible refine wpAny_isSubtype_exc cls1 ?_; rw [c4]) | with_reducible refine wpAny_loadPart_at at1 ?_ | wp_step)
  show wpAny _ _ (typeLookup (.ref C) _) _ _ _
  refine z1.at (wpAny_holding (wpAny_bind (z2.at (wpAny_bind (wpAny_call (codeAny_mono hq fun r s' z => ?_))))))
  rcases r with e | (v | _ | _ | _) <;> first | exact z | exact z.elim | skip
  obtain ⟨rfl, z⟩ := z
  first | exact wpAny_pure (wpAny_pure z) | (wp_walk; exact z)
theorem made (F : ExcBaseFacts B newId initId bmB) (T : Tail B ch) {fI : Addr} (hC : hp.get? C = some (excClassObj cn qn C N bs ch hdct sn sub ab col dd k0 k1 k2 k3 k5 newId))
    (hi : Looks (model prog w) hp (typeLookup (.ref C) "__init__") (some (.ref fI))) (hb : ∀ x, Looks (model prog w) hp (bindSpecial (.ref fI) x) (.ref fI, [x])) (hl : us.length ≤ sizeLine)
    (hq : codeAny (model prog w) (A.under (.builtin "type.__call__" ⟨.ref C :: us, []⟩)) (.call (.ref fI) ⟨.ref (hp.objs.size + 1) :: us, []⟩) (InitBack (hp.objs.size + 1) R) ⟨(hp.push (kdv_tup us)).push (excO C hp.objs.size), g, dr, tk, os⟩) :
    codeAny (model prog w) A (.call (.ref C) ⟨us, []⟩) R ⟨hp, g, dr, tk, os⟩ := by
  have t1 := tc_lookup
  have t2 := tc_bind (.ref C)
  have t3 : (⟨hp, g, dr, tk, os⟩ : Shared).TypeIs (.ref C) "type" := ⟨_, hC, rfl⟩
  refine codeAny_of_tree (show wpAny _ _ (callAny (.ref C) _) _ _ _ from ?_)
  repeat (any_goals (first | assumption | with_reducible refine wpAny_loadPart_at hC ?_ | wp_step))
  refine ⟨rfl, codeAny_call_builtin_at (Code.quiet_builtin _ (by decide +kernel)) entry_typeCall (wpAny_check_type_call_sub hC (called F T hC hi hb hl (codeAny_mono hq fun r s' z => ?_)))⟩
  rcases r with e | (v | _ | _ | _) <;> exact z
end
end ErrO
end PySem
/-! ### self.name = v on a fresh instance of an exception class of one's own over ANY built-in base (SF: the base's store facts) -/
namespace PySem
namespace OwnErr
open PySem.W PySem.Calls PyProof.Rows PySem.HandSPX Builtin Builtin.ObjectAttr
section
variable {prog : Program} {w : World} {A : Around} {R : Result → Shared → Prop} {hp : Heap} {g : Array GenState} {dr : Drawn} {tn : Nat} {os : OsState}
/-- what must be known of the class's chain: it lets a store pass, it is not empty, it ends in object -/
structure Chain (mro : List Value) : Prop where
  pass : ∀ self : Value, refuseLoop self "__setattr__" mro = pure ()
  obj : mro.contains (.type "object") = true
  some : mro.isEmpty = false
theorem chain_of {B sa ow : String} {bm : List Value} (SF : StoreFacts B bm sa ow) (ho : bm.contains (.type "object") = true) (C : Addr) : Chain (.ref C :: bm) where
  pass := fun self => by rw [refuseLoop_ref]; exact SF.passes self
  obj := by rw [List.contains_cons, ho, Bool.or_true]
  some := rfl
/-- the first attribute of such an instance: it gets a dict of its own, which is new -/
theorem first_store {K : Frag} {nm : Str} {tk : Tok} {v : Value} {x C : Addr} {fv : Array Value} {cd : ClassData} (Z : Chain cd.mro)
    (X : K.In hp) (hx : hp.get? x = some { cls := .ref C, data := .fields fv }) (hcd : clsIn K C = some cd) (hh : cd.hasDict = true) (ha : findIn K (.ref C) nm = some none)
    (fin : ∀ h' tk' dx, (∀ b o, b ≠ x → hp.get? b = some o → h'.get? b = some o) → hp.objs.size ≤ dx → dx ≠ x → h'.get? x = some { cls := .ref C, dict := some dx, data := .fields fv } →
      h'.Ns1 dx (fun y => if y = nm then some v else none) → R (.ok (.ret .none)) ⟨h', g, dr, tk', os⟩) :
    codeAny (model prog w) A (.call (.builtin "object.__setattr__") ⟨[.ref x, .str nm tk, v], []⟩) R ⟨hp, g, dr, tn, os⟩ := by
  have inst : InstAt hp x { cls := .ref C, data := .fields fv } C none := ⟨hx, rfl, rfl, trivial⟩
  have old : x < hp.objs.size := Heap.lt_size hx
  have xs : x ≠ hp.objs.size := Nat.ne_of_lt old
  have isObj : Looks (model prog w) hp (isInstance (.ref x) (.type "object")) true :=
    inst.type.andThen (looks_mroIn X (by unfold mroIn; rw [hcd, Option.bind_some, if_neg (by rw [Z.some]; decide), Z.obj]))
  have mroL : Looks (model prog w) hp (mroOf (.ref C)) cd.mro := (looks_clsIn X hcd).andThen .now
  have noTaker : Looks (model prog w) hp (storeTaker? none) none := .now
  have clsL : Looks (model prog w) hp (classData C) cd := looks_clsIn X hcd
  have S0 := F.store_object
  refine codeAny_call_builtin S0.slot.plain S0.entry
    (@check_slot (model prog w) _ _ ⟨hp, g, dr, tn, os⟩ "object.__setattr__" "object" "__setattr__" (.ref x) [.str nm tk, v] [] _ S0.kind S0.split isObj (S0.args (.ref x) (.str nm tk) v) ?_)
  rw [osa_eq, refuse_eq]
  refine wpAny_bind (wpAny_bind (inst.type.at (wpAny_bind (mroL.at ?_))))
  rw [Z.pass]
  refine wpAny_pure (wpAny_bind (inst.type.at (wpAny_bind ((looks_findIn X ha).at (wpAny_bind (noTaker.at ?_))))))
  show wpAny _ _ (storeInOwnDict (.ref x) (.ref C) (.str nm tk) nm v false) _ _ _
  obtain ⟨c1, c2, c3, c4, c5, hasD, c7, c8, c9, c10, c11⟩ := cd
  dsimp only at hh
  subst hh
  unfold storeInOwnDict ownDictForStores
  repeat (first | with_reducible refine store_in_new ?_ ?_ | with_reducible refine wpAny_loadPart_at hx ?_ | with_reducible refine clsL.at ?_ | wp_step)
  · exact ⟨_, #[], _, (Heap.get?_update_ne _ _ _ _ xs.symm).trans (Heap.get?_push_at rfl rfl), rfl, fun e he => absurd he (by simp), fun _ => rfl⟩
  · intro h' tk' ns same
    have hx1 := Heap.get?_push_of_some { cls := .type "dict", data := .dict #[] } hx
    have here : h'.get? x = some { cls := .ref C, dict := some hp.objs.size, data := .fields fv } := (same.2 x xs).trans (Heap.get?_update_self _ hx1 rfl)
    have kept : ∀ b o, b ≠ x → hp.get? b = some o → h'.get? b = some o := fun b o nb eb =>
      (same.2 b (Nat.ne_of_lt (Heap.lt_size eb))).trans ((Heap.get?_update_ne _ _ _ _ nb).trans (Heap.get?_push_of_some _ eb))
    exact fin h' tk' hp.objs.size kept (Nat.le_refl _) xs.symm here ns
end
end OwnErr
end PySem
namespace PySem
namespace ErrO
open PySem.W PySem.Calls PyProof.Rows PySem.HandSPX
theorem ldC {M : Model} {s : Shared} {name : Str} {scope : Scope} {L a : Addr} {cd : Value} {m : Str → Option Value} {x : Str} {pos : Pos} {v : Value} {Q : Value → Shared → Prop} {A : Around} {E : Value → Shared → Prop} (hn : s.heap.Ns L m) (hv : m x = some v) (h : Q v s)
    (hk : scope.kind = .function := by rfl) (hl : (envOfC name scope L a cd).kindOf x = some .local := by rfl) (hd : (x == ("__debug__" : Str)) = false := by decide) :
    wpAny M A (eval (.Name x pos) (envOfC name scope L a cd)) Q E s := wpAny_Name (wpAny_loadName_local hk hl hn hv h) hd
/-- what __init__ leaves of a fresh error at x -/
structure InitEnd (wd : Str) (h h' : Heap) (x C dx t1 : Addr) (v : Value) : Prop where
  keep : ∀ b o, b ≠ x → h.get? b = some o → h'.get? b = some o
  obj : h'.get? x = some { cls := .ref C, dict := some dx, data := .fields #[.ref t1, .none, .none, .none, .bool false, .none] }
  dbig : h.objs.size ≤ dx
  dne : dx ≠ x
  ns : h'.Ns1 dx (fun y => if y = wd then some v else none)
/-- a made error -/
structure OwnMade (wd : Str) (h h' : Heap) (e C d : Addr) (v : Value) : Prop where
  keep : ∀ b o, h.get? b = some o → h'.get? b = some o
  new : h.objs.size ≤ e
  obj : ∃ oe vs, h'.get? e = some oe ∧ oe.cls = .ref C ∧ oe.dict = some d ∧ oe.data = .fields vs
  dbig : h.objs.size ≤ d
  dne : d ≠ e
  ns : h'.Ns1 d (fun y => if y = wd then some v else none)
/-- a class of errors that keep one value under the name wd -/
structure OwnC (K : Frag) (mg : Str → Option Value) (name wd : Str) (C : Addr) : Prop where
  gC : mg name = some (.ref C)
  kC : keepIn K (.ref C) = true
  ga : findIn K (.ref C) "__getattribute__" = some (some (.builtin "BaseException.__getattribute__"))
  gg : findIn K (.ref C) "__getattr__" = some none
  exC : subIn K (.ref C) (.type "BaseException") = some true
  hdC : hasDictIn K C = true
  noN : findIn K (.ref C) wd = some none
  made : ∀ {prog : Program} {w : World} {A : Around} {R : Result → Shared → Prop} {s : Shared} {v : Value}, K.In s.heap → s.heap.NoLimit → A.depth + 1 < recursionLimit →
    (∀ h' tk e d, OwnMade wd s.heap h' e C d v → R (.ok (.ret (.ref e))) { s with heap := h', toks := tk }) → codeAny (model prog w) A (.call (.ref C) ⟨[v], []⟩) R s
theorem own_made {wd : Str} {K : Frag} {C fI : Addr} {B newId initId : String} {bmB : List Value} (F : ExcBaseFacts B newId initId bmB) {cn qn : Str} {N : Addr} {bs ch : List Value} {sn : List Str} {sub : List Value} {ab : Bool} {col : Option Bool} {dd : Option Addr} {k0 k1 k2 k3 k5 : Option Value} (T : Tail B ch)
    (hC : K.lookup C = some (excClassObj cn qn C N bs ch true sn sub ab col dd k0 k1 k2 k3 k5 newId)) (hi : findIn K (.ref C) "__init__" = some (some (.ref fI))) (hty : typeIn K (.ref fI) = some (.type "function"))
    {prog : Program} {w : World} {A : Around} {R : Result → Shared → Prop} {s : Shared} {v : Value}
    (init : ∀ {A : Around} {R : Result → Shared → Prop} {s : Shared} {x t0 : Addr}, K.In s.heap → s.heap.NoLimit → s.heap.get? x = some (excO C t0) → A.depth < recursionLimit → (∀ h' tk dx, InitEnd wd s.heap h' x C dx t0 v → R (.ok (.ret .none)) { s with heap := h', toks := tk }) → codeAny (model prog w) A (.call (.ref fI) ⟨[.ref x, v], []⟩) R s)
    (X : K.In s.heap) (hlim : s.heap.NoLimit) (hroom : A.depth + 1 < recursionLimit)
    (hq : ∀ h' tk e d, OwnMade wd s.heap h' e C d v → R (.ok (.ret (.ref e))) { s with heap := h', toks := tk }) : codeAny (model prog w) A (.call (.ref C) ⟨[v], []⟩) R s := by
  obtain ⟨hp, g, dr, tk, os⟩ := s
  have k : ∀ b o, hp.get? b = some o → ((hp.push (kdv_tup [v])).push (excO C hp.objs.size)).get? b = some o := fun b o e => Heap.get?_push_of_some _ (Heap.get?_push_of_some _ e)
  have hget : ((hp.push (kdv_tup [v])).push (excO C hp.objs.size)).get? (hp.objs.size + 1) = some (excO C hp.objs.size) := by heap_get
  refine made F T (X _ _ hC) (looks_findIn X hi) (fun self => bind_fn X self hty) (by rw [sizeLine_eq]; exact (by decide : 1 ≤ 16777216)) ?_
  refine init (s := ⟨(hp.push (kdv_tup [v])).push (excO C hp.objs.size), g, dr, tk, os⟩) (X.keeps k) (hlim.keeps k) hget ?_ fun h' tk' dx ⟨k', hx, dn, dne, hns⟩ => ?_
  · exact (show A.depth + 1 < recursionLimit from hroom)
  · have old : ∀ b o, hp.get? b = some o → h'.get? b = some o := fun b o e => k' b o (Nat.ne_of_lt (Nat.lt_succ_of_lt (Heap.lt_size e))) (k b o e)
    have z : hp.objs.size + 1 + 1 ≤ dx := by
      have q := dn
      first
        | (simpa only [Heap.size_push] using dn)
        | exact dn
        | (rw [Heap.size_push, Heap.size_push] at q; exact q)
    exact ⟨rfl, hq h' tk' (hp.objs.size + 1) dx ⟨old, Nat.le_succ _, ⟨_, _, hx, rfl, rfl, rfl⟩, Nat.le_trans (Nat.le_trans (Nat.le_succ _) (Nat.le_succ _)) z, dne, hns⟩⟩
end ErrO
end PySem
namespace PySem
namespace ErrO
open PySem.W PySem.Calls PyProof.Rows PySem.HandSPX
/-! ### ParseError(number) -/
def iAPE (p1 p2 : Pos) : Arguments := { posonlyargs := [], args := [{ arg := "self", annotation := none, pos := p1 }, { arg := "number", annotation := none, pos := p2 }], vararg := none, kwonlyargs := [], kw_defaults := [], kwarg := none, defaults := [] }
def iBPE (q1 q2 q3 q4 : Pos) : List Stmt := [.Assign [.Attribute (.Name "self" q1) "number" q2] (.Name "number" q3) q4]
def iSPE : Scope := { kind := .function, names := [(PySem.Str.ofString "self", .local), (PySem.Str.ofString "number", .local)], isGenerator := false, isCoroutine := false, more := [] }
section
variable {prog : Program} {w : World} {A : Around} {R : Result → Shared → Prop} {s : Shared} {K : Frag} {mg : Str → Option Value} {C fI : Addr}
theorem initPE {cd0 : ClassData} (hcl : clsIn K C = some cd0) (hch : OwnErr.Chain cd0.mro) (hdi : cd0.hasDict = true) (hsa : findIn K (.ref C) "__setattr__" = some (some (.builtin "object.__setattr__"))) (hno : findIn K (.ref C) "number" = some none)
    (hfn : ∃ (oc : Value) (od : Option Addr) (doc pm : Value) (an : Option Addr) (cdv ct : Value) (osl : Array (Option Value)) (p1 p2 q1 q2 q3 q4 : Pos),
      K.lookup fI = some ⟨oc, od, .func (fnOf "__init__" "ParseError.__init__" (iAPE p1 p2) (iBPE q1 q2 q3 q4) iSPE .none .none doc pm an cdv ct), osl⟩ ∧ codeIn K cdv "ParseError.__init__" = true)
    {x t0 : Addr} {v : Value} (X : K.In s.heap) (hlim : s.heap.NoLimit) (hx : s.heap.get? x = some (excO C t0)) (hroom : A.depth < recursionLimit)
    (hq : ∀ h' tk dx, InitEnd "number" s.heap h' x C dx t0 v → R (.ok (.ret .none)) { s with heap := h', toks := tk }) : codeAny (model prog w) A (.call (.ref fI) ⟨[.ref x, v], []⟩) R s := by
  obtain ⟨oc, od, doc, pm, an, cdv, ct, osl, p1, p2, q1, q2, q3, q4, ho, hcd⟩ := hfn
  refine Att.call_fn (binds := [("self", .ref x), ("number", v)]) X hlim ho hcd hroom (BindsTo.of_eq (by first | rfl | with_unfolding_all rfl)) (by first | rfl | decide | with_unfolding_all rfl) (fun s₁ IC => ?_) rfl rfl rfl
  obtain ⟨h₁, tk₁, rfl⟩ := IC.toInCall.same
  have k1 := IC.toInCall.keep
  have hn := IC.toInCall.ns
  have X₁ : K.In h₁ := X.keeps k1
  refine (show wpAny _ _ (execs _ _) _ _ _ from wpAny_execs_cons (plainObj_wpAny_Assign_Attribute ?_))
  refine ldC (v := v) hn (by first | rfl | with_unfolding_all rfl | kernel_rfl) (ldC (v := .ref x) hn (by first | rfl | with_unfolding_all rfl | kernel_rfl) ?_)
  refine set_plain X₁ (ox := excO C t0) (od := none) ⟨k1 _ _ hx, rfl, rfl, trivial⟩ hsa ?_
  refine OwnErr.first_store (cd := cd0) hch X₁ (k1 _ _ hx) hcl hdi hno (fun h₃ tk₃ dx k₃ dn dne hx₃ hn₃ => ?_)
  exact (show wpAny _ _ (execs _ _) _ _ _ from wpAny_execs_nil (hq h₃ tk₃ dx ⟨fun b o hb e => k₃ b o hb (k1 b o e), hx₃, Nat.le_of_lt (Nat.lt_of_lt_of_le hn.lt dn), dne, hn₃⟩))
theorem ownPE {B newId initId : String} {bmB : List Value} (F : ExcBaseFacts B newId initId bmB) {cn qn : Str} {N : Addr} {bs ch : List Value} {sn : List Str} {sub : List Value} {ab : Bool} {col : Option Bool} {dd : Option Addr} {k0 k1 k2 k3 k5 : Option Value} (T : Tail B ch) (hch : OwnErr.Chain (.ref C :: ch))
    (hC : K.lookup C = some (excClassObj cn qn C N bs ch true sn sub ab col dd k0 k1 k2 k3 k5 newId)) (gC : mg "ParseError" = some (.ref C)) (kC : keepIn K (.ref C) = true)
    (hsa : findIn K (.ref C) "__setattr__" = some (some (.builtin "object.__setattr__"))) (hno : findIn K (.ref C) "number" = some none) (hi : findIn K (.ref C) "__init__" = some (some (.ref fI))) (hty : typeIn K (.ref fI) = some (.type "function"))
    (hfn : ∃ (oc : Value) (od : Option Addr) (doc pm : Value) (an : Option Addr) (cdv ct : Value) (osl : Array (Option Value)) (p1 p2 q1 q2 q3 q4 : Pos),
      K.lookup fI = some ⟨oc, od, .func (fnOf "__init__" "ParseError.__init__" (iAPE p1 p2) (iBPE q1 q2 q3 q4) iSPE .none .none doc pm an cdv ct), osl⟩ ∧ codeIn K cdv "ParseError.__init__" = true)
    (ga : findIn K (.ref C) "__getattribute__" = some (some (.builtin "BaseException.__getattribute__"))) (gg : findIn K (.ref C) "__getattr__" = some none) (exC : subIn K (.ref C) (.type "BaseException") = some true) (hdC : hasDictIn K C = true) : OwnC K mg "ParseError" "number" C where
  gC := gC
  kC := kC
  ga := ga
  gg := gg
  exC := exC
  hdC := hdC
  noN := hno
  made := fun X hlim hroom hq => own_made F T hC hi hty (fun X1 l1 hx r1 q1 => initPE (cd0 := { name := cn, bases := bs, mro := .ref C :: ch, ns := N, qualname := qn, hasDict := true, slotNames := sn, subclasses := sub, abstract := ab, collection := col, hasDel := false }) (by unfold clsIn; rw [hC] <;> rfl) hch rfl hsa hno hfn X1 l1 hx r1 q1) X hlim hroom hq
end
end ErrO
end PySem
namespace PySem
namespace ErrO
open PySem.W PySem.Calls PyProof.Rows PySem.HandSPX
/-! ### UnknownName(word) -/
def iAUN (p1 p2 : Pos) : Arguments := { posonlyargs := [], args := [{ arg := "self", annotation := none, pos := p1 }, { arg := "word", annotation := none, pos := p2 }], vararg := none, kwonlyargs := [], kw_defaults := [], kwarg := none, defaults := [] }
def iBUN (q1 q2 q3 q4 : Pos) : List Stmt := [.Assign [.Attribute (.Name "self" q1) "word" q2] (.Name "word" q3) q4]
def iSUN : Scope := { kind := .function, names := [(PySem.Str.ofString "self", .local), (PySem.Str.ofString "word", .local)], isGenerator := false, isCoroutine := false, more := [] }
section
variable {prog : Program} {w : World} {A : Around} {R : Result → Shared → Prop} {s : Shared} {K : Frag} {mg : Str → Option Value} {C fI : Addr}
theorem initUN {cd0 : ClassData} (hcl : clsIn K C = some cd0) (hch : OwnErr.Chain cd0.mro) (hdi : cd0.hasDict = true) (hsa : findIn K (.ref C) "__setattr__" = some (some (.builtin "object.__setattr__"))) (hno : findIn K (.ref C) "word" = some none)
    (hfn : ∃ (oc : Value) (od : Option Addr) (doc pm : Value) (an : Option Addr) (cdv ct : Value) (osl : Array (Option Value)) (p1 p2 q1 q2 q3 q4 : Pos),
      K.lookup fI = some ⟨oc, od, .func (fnOf "__init__" "UnknownName.__init__" (iAUN p1 p2) (iBUN q1 q2 q3 q4) iSUN .none .none doc pm an cdv ct), osl⟩ ∧ codeIn K cdv "UnknownName.__init__" = true)
    {x t0 : Addr} {v : Value} (X : K.In s.heap) (hlim : s.heap.NoLimit) (hx : s.heap.get? x = some (excO C t0)) (hroom : A.depth < recursionLimit)
    (hq : ∀ h' tk dx, InitEnd "word" s.heap h' x C dx t0 v → R (.ok (.ret .none)) { s with heap := h', toks := tk }) : codeAny (model prog w) A (.call (.ref fI) ⟨[.ref x, v], []⟩) R s := by
  obtain ⟨oc, od, doc, pm, an, cdv, ct, osl, p1, p2, q1, q2, q3, q4, ho, hcd⟩ := hfn
  refine Att.call_fn (binds := [("self", .ref x), ("word", v)]) X hlim ho hcd hroom (BindsTo.of_eq (by first | rfl | with_unfolding_all rfl)) (by first | rfl | decide | with_unfolding_all rfl) (fun s₁ IC => ?_) rfl rfl rfl
  obtain ⟨h₁, tk₁, rfl⟩ := IC.toInCall.same
  have k1 := IC.toInCall.keep
  have hn := IC.toInCall.ns
  have X₁ : K.In h₁ := X.keeps k1
  refine (show wpAny _ _ (execs _ _) _ _ _ from wpAny_execs_cons (plainObj_wpAny_Assign_Attribute ?_))
  refine ldC (v := v) hn (by first | rfl | with_unfolding_all rfl | kernel_rfl) (ldC (v := .ref x) hn (by first | rfl | with_unfolding_all rfl | kernel_rfl) ?_)
  refine set_plain X₁ (ox := excO C t0) (od := none) ⟨k1 _ _ hx, rfl, rfl, trivial⟩ hsa ?_
  refine OwnErr.first_store (cd := cd0) hch X₁ (k1 _ _ hx) hcl hdi hno (fun h₃ tk₃ dx k₃ dn dne hx₃ hn₃ => ?_)
  exact (show wpAny _ _ (execs _ _) _ _ _ from wpAny_execs_nil (hq h₃ tk₃ dx ⟨fun b o hb e => k₃ b o hb (k1 b o e), hx₃, Nat.le_of_lt (Nat.lt_of_lt_of_le hn.lt dn), dne, hn₃⟩))
theorem ownUN {B newId initId : String} {bmB : List Value} (F : ExcBaseFacts B newId initId bmB) {cn qn : Str} {N : Addr} {bs ch : List Value} {sn : List Str} {sub : List Value} {ab : Bool} {col : Option Bool} {dd : Option Addr} {k0 k1 k2 k3 k5 : Option Value} (T : Tail B ch) (hch : OwnErr.Chain (.ref C :: ch))
    (hC : K.lookup C = some (excClassObj cn qn C N bs ch true sn sub ab col dd k0 k1 k2 k3 k5 newId)) (gC : mg "UnknownName" = some (.ref C)) (kC : keepIn K (.ref C) = true)
    (hsa : findIn K (.ref C) "__setattr__" = some (some (.builtin "object.__setattr__"))) (hno : findIn K (.ref C) "word" = some none) (hi : findIn K (.ref C) "__init__" = some (some (.ref fI))) (hty : typeIn K (.ref fI) = some (.type "function"))
    (hfn : ∃ (oc : Value) (od : Option Addr) (doc pm : Value) (an : Option Addr) (cdv ct : Value) (osl : Array (Option Value)) (p1 p2 q1 q2 q3 q4 : Pos),
      K.lookup fI = some ⟨oc, od, .func (fnOf "__init__" "UnknownName.__init__" (iAUN p1 p2) (iBUN q1 q2 q3 q4) iSUN .none .none doc pm an cdv ct), osl⟩ ∧ codeIn K cdv "UnknownName.__init__" = true)
    (ga : findIn K (.ref C) "__getattribute__" = some (some (.builtin "BaseException.__getattribute__"))) (gg : findIn K (.ref C) "__getattr__" = some none) (exC : subIn K (.ref C) (.type "BaseException") = some true) (hdC : hasDictIn K C = true) : OwnC K mg "UnknownName" "word" C where
  gC := gC
  kC := kC
  ga := ga
  gg := gg
  exC := exC
  hdC := hdC
  noN := hno
  made := fun X hlim hroom hq => own_made F T hC hi hty (fun X1 l1 hx r1 q1 => initUN (cd0 := { name := cn, bases := bs, mro := .ref C :: ch, ns := N, qualname := qn, hasDict := true, slotNames := sn, subclasses := sub, abstract := ab, collection := col, hasDel := false }) (by unfold clsIn; rw [hC] <;> rfl) hch rfl hsa hno hfn X1 l1 hx r1 q1) X hlim hroom hq
end
end ErrO
end PySem
namespace PySem
namespace ErrO
open PySem.W PySem.Calls PyProof.Rows PySem.HandSPX
/-! ### NotCovered(uncovered) -/
def iANC (p1 p2 : Pos) : Arguments := { posonlyargs := [], args := [{ arg := "self", annotation := none, pos := p1 }, { arg := "uncovered", annotation := none, pos := p2 }], vararg := none, kwonlyargs := [], kw_defaults := [], kwarg := none, defaults := [] }
def iBNC (q1 q2 q3 q4 : Pos) : List Stmt := [.Assign [.Attribute (.Name "self" q1) "uncovered" q2] (.Name "uncovered" q3) q4]
def iSNC : Scope := { kind := .function, names := [(PySem.Str.ofString "self", .local), (PySem.Str.ofString "uncovered", .local)], isGenerator := false, isCoroutine := false, more := [] }
section
variable {prog : Program} {w : World} {A : Around} {R : Result → Shared → Prop} {s : Shared} {K : Frag} {mg : Str → Option Value} {C fI : Addr}
theorem initNC {cd0 : ClassData} (hcl : clsIn K C = some cd0) (hch : OwnErr.Chain cd0.mro) (hdi : cd0.hasDict = true) (hsa : findIn K (.ref C) "__setattr__" = some (some (.builtin "object.__setattr__"))) (hno : findIn K (.ref C) "uncovered" = some none)
    (hfn : ∃ (oc : Value) (od : Option Addr) (doc pm : Value) (an : Option Addr) (cdv ct : Value) (osl : Array (Option Value)) (p1 p2 q1 q2 q3 q4 : Pos),
      K.lookup fI = some ⟨oc, od, .func (fnOf "__init__" "NotCovered.__init__" (iANC p1 p2) (iBNC q1 q2 q3 q4) iSNC .none .none doc pm an cdv ct), osl⟩ ∧ codeIn K cdv "NotCovered.__init__" = true)
    {x t0 : Addr} {v : Value} (X : K.In s.heap) (hlim : s.heap.NoLimit) (hx : s.heap.get? x = some (excO C t0)) (hroom : A.depth < recursionLimit)
    (hq : ∀ h' tk dx, InitEnd "uncovered" s.heap h' x C dx t0 v → R (.ok (.ret .none)) { s with heap := h', toks := tk }) : codeAny (model prog w) A (.call (.ref fI) ⟨[.ref x, v], []⟩) R s := by
  obtain ⟨oc, od, doc, pm, an, cdv, ct, osl, p1, p2, q1, q2, q3, q4, ho, hcd⟩ := hfn
  refine Att.call_fn (binds := [("self", .ref x), ("uncovered", v)]) X hlim ho hcd hroom (BindsTo.of_eq (by first | rfl | with_unfolding_all rfl)) (by first | rfl | decide | with_unfolding_all rfl) (fun s₁ IC => ?_) rfl rfl rfl
  obtain ⟨h₁, tk₁, rfl⟩ := IC.toInCall.same
  have k1 := IC.toInCall.keep
  have hn := IC.toInCall.ns
  have X₁ : K.In h₁ := X.keeps k1
  refine (show wpAny _ _ (execs _ _) _ _ _ from wpAny_execs_cons (plainObj_wpAny_Assign_Attribute ?_))
  refine ldC (v := v) hn (by first | rfl | with_unfolding_all rfl | kernel_rfl) (ldC (v := .ref x) hn (by first | rfl | with_unfolding_all rfl | kernel_rfl) ?_)
  refine set_plain X₁ (ox := excO C t0) (od := none) ⟨k1 _ _ hx, rfl, rfl, trivial⟩ hsa ?_
  refine OwnErr.first_store (cd := cd0) hch X₁ (k1 _ _ hx) hcl hdi hno (fun h₃ tk₃ dx k₃ dn dne hx₃ hn₃ => ?_)
  exact (show wpAny _ _ (execs _ _) _ _ _ from wpAny_execs_nil (hq h₃ tk₃ dx ⟨fun b o hb e => k₃ b o hb (k1 b o e), hx₃, Nat.le_of_lt (Nat.lt_of_lt_of_le hn.lt dn), dne, hn₃⟩))
theorem ownNC {B newId initId : String} {bmB : List Value} (F : ExcBaseFacts B newId initId bmB) {cn qn : Str} {N : Addr} {bs ch : List Value} {sn : List Str} {sub : List Value} {ab : Bool} {col : Option Bool} {dd : Option Addr} {k0 k1 k2 k3 k5 : Option Value} (T : Tail B ch) (hch : OwnErr.Chain (.ref C :: ch))
    (hC : K.lookup C = some (excClassObj cn qn C N bs ch true sn sub ab col dd k0 k1 k2 k3 k5 newId)) (gC : mg "NotCovered" = some (.ref C)) (kC : keepIn K (.ref C) = true)
    (hsa : findIn K (.ref C) "__setattr__" = some (some (.builtin "object.__setattr__"))) (hno : findIn K (.ref C) "uncovered" = some none) (hi : findIn K (.ref C) "__init__" = some (some (.ref fI))) (hty : typeIn K (.ref fI) = some (.type "function"))
    (hfn : ∃ (oc : Value) (od : Option Addr) (doc pm : Value) (an : Option Addr) (cdv ct : Value) (osl : Array (Option Value)) (p1 p2 q1 q2 q3 q4 : Pos),
      K.lookup fI = some ⟨oc, od, .func (fnOf "__init__" "NotCovered.__init__" (iANC p1 p2) (iBNC q1 q2 q3 q4) iSNC .none .none doc pm an cdv ct), osl⟩ ∧ codeIn K cdv "NotCovered.__init__" = true)
    (ga : findIn K (.ref C) "__getattribute__" = some (some (.builtin "BaseException.__getattribute__"))) (gg : findIn K (.ref C) "__getattr__" = some none) (exC : subIn K (.ref C) (.type "BaseException") = some true) (hdC : hasDictIn K C = true) : OwnC K mg "NotCovered" "uncovered" C where
  gC := gC
  kC := kC
  ga := ga
  gg := gg
  exC := exC
  hdC := hdC
  noN := hno
  made := fun X hlim hroom hq => own_made F T hC hi hty (fun X1 l1 hx r1 q1 => initNC (cd0 := { name := cn, bases := bs, mro := .ref C :: ch, ns := N, qualname := qn, hasDict := true, slotNames := sn, subclasses := sub, abstract := ab, collection := col, hasDel := false }) (by unfold clsIn; rw [hC] <;> rfl) hch rfl hsa hno hfn X1 l1 hx r1 q1) X hlim hroom hq
end
end ErrO
end PySem
namespace PySem
namespace ErrO
open PySem.W PySem.Calls PyProof.Rows PySem.HandSPX
/-! ### InvalidNumber(value) -/
def iAIN (p1 p2 : Pos) : Arguments := { posonlyargs := [], args := [{ arg := "self", annotation := none, pos := p1 }, { arg := "value", annotation := none, pos := p2 }], vararg := none, kwonlyargs := [], kw_defaults := [], kwarg := none, defaults := [] }
def iBIN (q1 q2 q3 q4 : Pos) : List Stmt := [.Assign [.Attribute (.Name "self" q1) "value" q2] (.Name "value" q3) q4]
def iSIN : Scope := { kind := .function, names := [(PySem.Str.ofString "self", .local), (PySem.Str.ofString "value", .local)], isGenerator := false, isCoroutine := false, more := [] }
section
variable {prog : Program} {w : World} {A : Around} {R : Result → Shared → Prop} {s : Shared} {K : Frag} {mg : Str → Option Value} {C fI : Addr}
theorem initIN {cd0 : ClassData} (hcl : clsIn K C = some cd0) (hch : OwnErr.Chain cd0.mro) (hdi : cd0.hasDict = true) (hsa : findIn K (.ref C) "__setattr__" = some (some (.builtin "object.__setattr__"))) (hno : findIn K (.ref C) "value" = some none)
    (hfn : ∃ (oc : Value) (od : Option Addr) (doc pm : Value) (an : Option Addr) (cdv ct : Value) (osl : Array (Option Value)) (p1 p2 q1 q2 q3 q4 : Pos),
      K.lookup fI = some ⟨oc, od, .func (fnOf "__init__" "InvalidNumber.__init__" (iAIN p1 p2) (iBIN q1 q2 q3 q4) iSIN .none .none doc pm an cdv ct), osl⟩ ∧ codeIn K cdv "InvalidNumber.__init__" = true)
    {x t0 : Addr} {v : Value} (X : K.In s.heap) (hlim : s.heap.NoLimit) (hx : s.heap.get? x = some (excO C t0)) (hroom : A.depth < recursionLimit)
    (hq : ∀ h' tk dx, InitEnd "value" s.heap h' x C dx t0 v → R (.ok (.ret .none)) { s with heap := h', toks := tk }) : codeAny (model prog w) A (.call (.ref fI) ⟨[.ref x, v], []⟩) R s := by
  obtain ⟨oc, od, doc, pm, an, cdv, ct, osl, p1, p2, q1, q2, q3, q4, ho, hcd⟩ := hfn
  refine Att.call_fn (binds := [("self", .ref x), ("value", v)]) X hlim ho hcd hroom (BindsTo.of_eq (by first | rfl | with_unfolding_all rfl)) (by first | rfl | decide | with_unfolding_all rfl) (fun s₁ IC => ?_) rfl rfl rfl
  obtain ⟨h₁, tk₁, rfl⟩ := IC.toInCall.same
  have k1 := IC.toInCall.keep
  have hn := IC.toInCall.ns
  have X₁ : K.In h₁ := X.keeps k1
  refine (show wpAny _ _ (execs _ _) _ _ _ from wpAny_execs_cons (plainObj_wpAny_Assign_Attribute ?_))
  refine ldC (v := v) hn (by first | rfl | with_unfolding_all rfl | kernel_rfl) (ldC (v := .ref x) hn (by first | rfl | with_unfolding_all rfl | kernel_rfl) ?_)
  refine set_plain X₁ (ox := excO C t0) (od := none) ⟨k1 _ _ hx, rfl, rfl, trivial⟩ hsa ?_
  refine OwnErr.first_store (cd := cd0) hch X₁ (k1 _ _ hx) hcl hdi hno (fun h₃ tk₃ dx k₃ dn dne hx₃ hn₃ => ?_)
  exact (show wpAny _ _ (execs _ _) _ _ _ from wpAny_execs_nil (hq h₃ tk₃ dx ⟨fun b o hb e => k₃ b o hb (k1 b o e), hx₃, Nat.le_of_lt (Nat.lt_of_lt_of_le hn.lt dn), dne, hn₃⟩))
theorem ownIN {B newId initId : String} {bmB : List Value} (F : ExcBaseFacts B newId initId bmB) {cn qn : Str} {N : Addr} {bs ch : List Value} {sn : List Str} {sub : List Value} {ab : Bool} {col : Option Bool} {dd : Option Addr} {k0 k1 k2 k3 k5 : Option Value} (T : Tail B ch) (hch : OwnErr.Chain (.ref C :: ch))
    (hC : K.lookup C = some (excClassObj cn qn C N bs ch true sn sub ab col dd k0 k1 k2 k3 k5 newId)) (gC : mg "InvalidNumber" = some (.ref C)) (kC : keepIn K (.ref C) = true)
    (hsa : findIn K (.ref C) "__setattr__" = some (some (.builtin "object.__setattr__"))) (hno : findIn K (.ref C) "value" = some none) (hi : findIn K (.ref C) "__init__" = some (some (.ref fI))) (hty : typeIn K (.ref fI) = some (.type "function"))
    (hfn : ∃ (oc : Value) (od : Option Addr) (doc pm : Value) (an : Option Addr) (cdv ct : Value) (osl : Array (Option Value)) (p1 p2 q1 q2 q3 q4 : Pos),
      K.lookup fI = some ⟨oc, od, .func (fnOf "__init__" "InvalidNumber.__init__" (iAIN p1 p2) (iBIN q1 q2 q3 q4) iSIN .none .none doc pm an cdv ct), osl⟩ ∧ codeIn K cdv "InvalidNumber.__init__" = true)
    (ga : findIn K (.ref C) "__getattribute__" = some (some (.builtin "BaseException.__getattribute__"))) (gg : findIn K (.ref C) "__getattr__" = some none) (exC : subIn K (.ref C) (.type "BaseException") = some true) (hdC : hasDictIn K C = true) : OwnC K mg "InvalidNumber" "value" C where
  gC := gC
  kC := kC
  ga := ga
  gg := gg
  exC := exC
  hdC := hdC
  noN := hno
  made := fun X hlim hroom hq => own_made F T hC hi hty (fun X1 l1 hx r1 q1 => initIN (cd0 := { name := cn, bases := bs, mro := .ref C :: ch, ns := N, qualname := qn, hasDict := true, slotNames := sn, subclasses := sub, abstract := ab, collection := col, hasDel := false }) (by unfold clsIn; rw [hC] <;> rfl) hch rfl hsa hno hfn X1 l1 hx r1 q1) X hlim hroom hq
end
end ErrO
end PySem
namespace PySem
namespace ErrO
open PySem.W PySem.Calls PyProof.Rows PySem.HandSPX
/-! ### NothingToUndo(many) -/
def iANU (p1 p2 : Pos) : Arguments := { posonlyargs := [], args := [{ arg := "self", annotation := none, pos := p1 }, { arg := "many", annotation := none, pos := p2 }], vararg := none, kwonlyargs := [], kw_defaults := [], kwarg := none, defaults := [] }
def iBNU (q1 q2 q3 q4 : Pos) : List Stmt := [.Assign [.Attribute (.Name "self" q1) "many" q2] (.Name "many" q3) q4]
def iSNU : Scope := { kind := .function, names := [(PySem.Str.ofString "self", .local), (PySem.Str.ofString "many", .local)], isGenerator := false, isCoroutine := false, more := [] }
section
variable {prog : Program} {w : World} {A : Around} {R : Result → Shared → Prop} {s : Shared} {K : Frag} {mg : Str → Option Value} {C fI : Addr}
theorem initNU {cd0 : ClassData} (hcl : clsIn K C = some cd0) (hch : OwnErr.Chain cd0.mro) (hdi : cd0.hasDict = true) (hsa : findIn K (.ref C) "__setattr__" = some (some (.builtin "object.__setattr__"))) (hno : findIn K (.ref C) "many" = some none)
    (hfn : ∃ (oc : Value) (od : Option Addr) (doc pm : Value) (an : Option Addr) (cdv ct : Value) (osl : Array (Option Value)) (p1 p2 q1 q2 q3 q4 : Pos),
      K.lookup fI = some ⟨oc, od, .func (fnOf "__init__" "NothingToUndo.__init__" (iANU p1 p2) (iBNU q1 q2 q3 q4) iSNU .none .none doc pm an cdv ct), osl⟩ ∧ codeIn K cdv "NothingToUndo.__init__" = true)
    {x t0 : Addr} {v : Value} (X : K.In s.heap) (hlim : s.heap.NoLimit) (hx : s.heap.get? x = some (excO C t0)) (hroom : A.depth < recursionLimit)
    (hq : ∀ h' tk dx, InitEnd "many" s.heap h' x C dx t0 v → R (.ok (.ret .none)) { s with heap := h', toks := tk }) : codeAny (model prog w) A (.call (.ref fI) ⟨[.ref x, v], []⟩) R s := by
  obtain ⟨oc, od, doc, pm, an, cdv, ct, osl, p1, p2, q1, q2, q3, q4, ho, hcd⟩ := hfn
  refine Att.call_fn (binds := [("self", .ref x), ("many", v)]) X hlim ho hcd hroom (BindsTo.of_eq (by first | rfl | with_unfolding_all rfl)) (by first | rfl | decide | with_unfolding_all rfl) (fun s₁ IC => ?_) rfl rfl rfl
  obtain ⟨h₁, tk₁, rfl⟩ := IC.toInCall.same
  have k1 := IC.toInCall.keep
  have hn := IC.toInCall.ns
  have X₁ : K.In h₁ := X.keeps k1
  refine (show wpAny _ _ (execs _ _) _ _ _ from wpAny_execs_cons (plainObj_wpAny_Assign_Attribute ?_))
  refine ldC (v := v) hn (by first | rfl | with_unfolding_all rfl | kernel_rfl) (ldC (v := .ref x) hn (by first | rfl | with_unfolding_all rfl | kernel_rfl) ?_)
  refine set_plain X₁ (ox := excO C t0) (od := none) ⟨k1 _ _ hx, rfl, rfl, trivial⟩ hsa ?_
  refine OwnErr.first_store (cd := cd0) hch X₁ (k1 _ _ hx) hcl hdi hno (fun h₃ tk₃ dx k₃ dn dne hx₃ hn₃ => ?_)
  exact (show wpAny _ _ (execs _ _) _ _ _ from wpAny_execs_nil (hq h₃ tk₃ dx ⟨fun b o hb e => k₃ b o hb (k1 b o e), hx₃, Nat.le_of_lt (Nat.lt_of_lt_of_le hn.lt dn), dne, hn₃⟩))
theorem ownNU {B newId initId : String} {bmB : List Value} (F : ExcBaseFacts B newId initId bmB) {cn qn : Str} {N : Addr} {bs ch : List Value} {sn : List Str} {sub : List Value} {ab : Bool} {col : Option Bool} {dd : Option Addr} {k0 k1 k2 k3 k5 : Option Value} (T : Tail B ch) (hch : OwnErr.Chain (.ref C :: ch))
    (hC : K.lookup C = some (excClassObj cn qn C N bs ch true sn sub ab col dd k0 k1 k2 k3 k5 newId)) (gC : mg "NothingToUndo" = some (.ref C)) (kC : keepIn K (.ref C) = true)
    (hsa : findIn K (.ref C) "__setattr__" = some (some (.builtin "object.__setattr__"))) (hno : findIn K (.ref C) "many" = some none) (hi : findIn K (.ref C) "__init__" = some (some (.ref fI))) (hty : typeIn K (.ref fI) = some (.type "function"))
    (hfn : ∃ (oc : Value) (od : Option Addr) (doc pm : Value) (an : Option Addr) (cdv ct : Value) (osl : Array (Option Value)) (p1 p2 q1 q2 q3 q4 : Pos),
      K.lookup fI = some ⟨oc, od, .func (fnOf "__init__" "NothingToUndo.__init__" (iANU p1 p2) (iBNU q1 q2 q3 q4) iSNU .none .none doc pm an cdv ct), osl⟩ ∧ codeIn K cdv "NothingToUndo.__init__" = true)
    (ga : findIn K (.ref C) "__getattribute__" = some (some (.builtin "BaseException.__getattribute__"))) (gg : findIn K (.ref C) "__getattr__" = some none) (exC : subIn K (.ref C) (.type "BaseException") = some true) (hdC : hasDictIn K C = true) : OwnC K mg "NothingToUndo" "many" C where
  gC := gC
  kC := kC
  ga := ga
  gg := gg
  exC := exC
  hdC := hdC
  noN := hno
  made := fun X hlim hroom hq => own_made F T hC hi hty (fun X1 l1 hx r1 q1 => initNU (cd0 := { name := cn, bases := bs, mro := .ref C :: ch, ns := N, qualname := qn, hasDict := true, slotNames := sn, subclasses := sub, abstract := ab, collection := col, hasDel := false }) (by unfold clsIn; rw [hC] <;> rfl) hch rfl hsa hno hfn X1 l1 hx r1 q1) X hlim hroom hq
end
end ErrO
end PySem
namespace PySem
namespace ErrO
open PySem.W PySem.Calls PyProof.Rows PySem.HandSPX
/-! ### TooMany(limit) -/
def iATM (p1 p2 : Pos) : Arguments := { posonlyargs := [], args := [{ arg := "self", annotation := none, pos := p1 }, { arg := "limit", annotation := none, pos := p2 }], vararg := none, kwonlyargs := [], kw_defaults := [], kwarg := none, defaults := [] }
def iBTM (q1 q2 q3 q4 : Pos) : List Stmt := [.Assign [.Attribute (.Name "self" q1) "limit" q2] (.Name "limit" q3) q4]
def iSTM : Scope := { kind := .function, names := [(PySem.Str.ofString "self", .local), (PySem.Str.ofString "limit", .local)], isGenerator := false, isCoroutine := false, more := [] }
section
variable {prog : Program} {w : World} {A : Around} {R : Result → Shared → Prop} {s : Shared} {K : Frag} {mg : Str → Option Value} {C fI : Addr}
theorem initTM {cd0 : ClassData} (hcl : clsIn K C = some cd0) (hch : OwnErr.Chain cd0.mro) (hdi : cd0.hasDict = true) (hsa : findIn K (.ref C) "__setattr__" = some (some (.builtin "object.__setattr__"))) (hno : findIn K (.ref C) "limit" = some none)
    (hfn : ∃ (oc : Value) (od : Option Addr) (doc pm : Value) (an : Option Addr) (cdv ct : Value) (osl : Array (Option Value)) (p1 p2 q1 q2 q3 q4 : Pos),
      K.lookup fI = some ⟨oc, od, .func (fnOf "__init__" "TooMany.__init__" (iATM p1 p2) (iBTM q1 q2 q3 q4) iSTM .none .none doc pm an cdv ct), osl⟩ ∧ codeIn K cdv "TooMany.__init__" = true)
    {x t0 : Addr} {v : Value} (X : K.In s.heap) (hlim : s.heap.NoLimit) (hx : s.heap.get? x = some (excO C t0)) (hroom : A.depth < recursionLimit)
    (hq : ∀ h' tk dx, InitEnd "limit" s.heap h' x C dx t0 v → R (.ok (.ret .none)) { s with heap := h', toks := tk }) : codeAny (model prog w) A (.call (.ref fI) ⟨[.ref x, v], []⟩) R s := by
  obtain ⟨oc, od, doc, pm, an, cdv, ct, osl, p1, p2, q1, q2, q3, q4, ho, hcd⟩ := hfn
  refine Att.call_fn (binds := [("self", .ref x), ("limit", v)]) X hlim ho hcd hroom (BindsTo.of_eq (by first | rfl | with_unfolding_all rfl)) (by first | rfl | decide | with_unfolding_all rfl) (fun s₁ IC => ?_) rfl rfl rfl
  obtain ⟨h₁, tk₁, rfl⟩ := IC.toInCall.same
  have k1 := IC.toInCall.keep
  have hn := IC.toInCall.ns
  have X₁ : K.In h₁ := X.keeps k1
  refine (show wpAny _ _ (execs _ _) _ _ _ from wpAny_execs_cons (plainObj_wpAny_Assign_Attribute ?_))
  refine ldC (v := v) hn (by first | rfl | with_unfolding_all rfl | kernel_rfl) (ldC (v := .ref x) hn (by first | rfl | with_unfolding_all rfl | kernel_rfl) ?_)
  refine set_plain X₁ (ox := excO C t0) (od := none) ⟨k1 _ _ hx, rfl, rfl, trivial⟩ hsa ?_
  refine OwnErr.first_store (cd := cd0) hch X₁ (k1 _ _ hx) hcl hdi hno (fun h₃ tk₃ dx k₃ dn dne hx₃ hn₃ => ?_)
  exact (show wpAny _ _ (execs _ _) _ _ _ from wpAny_execs_nil (hq h₃ tk₃ dx ⟨fun b o hb e => k₃ b o hb (k1 b o e), hx₃, Nat.le_of_lt (Nat.lt_of_lt_of_le hn.lt dn), dne, hn₃⟩))
theorem ownTM {B newId initId : String} {bmB : List Value} (F : ExcBaseFacts B newId initId bmB) {cn qn : Str} {N : Addr} {bs ch : List Value} {sn : List Str} {sub : List Value} {ab : Bool} {col : Option Bool} {dd : Option Addr} {k0 k1 k2 k3 k5 : Option Value} (T : Tail B ch) (hch : OwnErr.Chain (.ref C :: ch))
    (hC : K.lookup C = some (excClassObj cn qn C N bs ch true sn sub ab col dd k0 k1 k2 k3 k5 newId)) (gC : mg "TooMany" = some (.ref C)) (kC : keepIn K (.ref C) = true)
    (hsa : findIn K (.ref C) "__setattr__" = some (some (.builtin "object.__setattr__"))) (hno : findIn K (.ref C) "limit" = some none) (hi : findIn K (.ref C) "__init__" = some (some (.ref fI))) (hty : typeIn K (.ref fI) = some (.type "function"))
    (hfn : ∃ (oc : Value) (od : Option Addr) (doc pm : Value) (an : Option Addr) (cdv ct : Value) (osl : Array (Option Value)) (p1 p2 q1 q2 q3 q4 : Pos),
      K.lookup fI = some ⟨oc, od, .func (fnOf "__init__" "TooMany.__init__" (iATM p1 p2) (iBTM q1 q2 q3 q4) iSTM .none .none doc pm an cdv ct), osl⟩ ∧ codeIn K cdv "TooMany.__init__" = true)
    (ga : findIn K (.ref C) "__getattribute__" = some (some (.builtin "BaseException.__getattribute__"))) (gg : findIn K (.ref C) "__getattr__" = some none) (exC : subIn K (.ref C) (.type "BaseException") = some true) (hdC : hasDictIn K C = true) : OwnC K mg "TooMany" "limit" C where
  gC := gC
  kC := kC
  ga := ga
  gg := gg
  exC := exC
  hdC := hdC
  noN := hno
  made := fun X hlim hroom hq => own_made F T hC hi hty (fun X1 l1 hx r1 q1 => initTM (cd0 := { name := cn, bases := bs, mro := .ref C :: ch, ns := N, qualname := qn, hasDict := true, slotNames := sn, subclasses := sub, abstract := ab, collection := col, hasDel := false }) (by unfold clsIn; rw [hC] <;> rfl) hch rfl hsa hno hfn X1 l1 hx r1 q1) X hlim hroom hq
end
end ErrO
end PySem
namespace PySem
namespace ErrO
open PySem.W PySem.Calls PyProof.Rows PySem.HandSPX
/-! ### Stuck(place) -/
def iASK (p1 p2 : Pos) : Arguments := { posonlyargs := [], args := [{ arg := "self", annotation := none, pos := p1 }, { arg := "place", annotation := none, pos := p2 }], vararg := none, kwonlyargs := [], kw_defaults := [], kwarg := none, defaults := [] }
def iBSK (q1 q2 q3 q4 : Pos) : List Stmt := [.Assign [.Attribute (.Name "self" q1) "place" q2] (.Name "place" q3) q4]
def iSSK : Scope := { kind := .function, names := [(PySem.Str.ofString "self", .local), (PySem.Str.ofString "place", .local)], isGenerator := false, isCoroutine := false, more := [] }
section
variable {prog : Program} {w : World} {A : Around} {R : Result → Shared → Prop} {s : Shared} {K : Frag} {mg : Str → Option Value} {C fI : Addr}
theorem initSK {cd0 : ClassData} (hcl : clsIn K C = some cd0) (hch : OwnErr.Chain cd0.mro) (hdi : cd0.hasDict = true) (hsa : findIn K (.ref C) "__setattr__" = some (some (.builtin "object.__setattr__"))) (hno : findIn K (.ref C) "place" = some none)
    (hfn : ∃ (oc : Value) (od : Option Addr) (doc pm : Value) (an : Option Addr) (cdv ct : Value) (osl : Array (Option Value)) (p1 p2 q1 q2 q3 q4 : Pos),
      K.lookup fI = some ⟨oc, od, .func (fnOf "__init__" "Stuck.__init__" (iASK p1 p2) (iBSK q1 q2 q3 q4) iSSK .none .none doc pm an cdv ct), osl⟩ ∧ codeIn K cdv "Stuck.__init__" = true)
    {x t0 : Addr} {v : Value} (X : K.In s.heap) (hlim : s.heap.NoLimit) (hx : s.heap.get? x = some (excO C t0)) (hroom : A.depth < recursionLimit)
    (hq : ∀ h' tk dx, InitEnd "place" s.heap h' x C dx t0 v → R (.ok (.ret .none)) { s with heap := h', toks := tk }) : codeAny (model prog w) A (.call (.ref fI) ⟨[.ref x, v], []⟩) R s := by
  obtain ⟨oc, od, doc, pm, an, cdv, ct, osl, p1, p2, q1, q2, q3, q4, ho, hcd⟩ := hfn
  refine Att.call_fn (binds := [("self", .ref x), ("place", v)]) X hlim ho hcd hroom (BindsTo.of_eq (by first | rfl | with_unfolding_all rfl)) (by first | rfl | decide | with_unfolding_all rfl) (fun s₁ IC => ?_) rfl rfl rfl
  obtain ⟨h₁, tk₁, rfl⟩ := IC.toInCall.same
  have k1 := IC.toInCall.keep
  have hn := IC.toInCall.ns
  have X₁ : K.In h₁ := X.keeps k1
  refine (show wpAny _ _ (execs _ _) _ _ _ from wpAny_execs_cons (plainObj_wpAny_Assign_Attribute ?_))
  refine ldC (v := v) hn (by first | rfl | with_unfolding_all rfl | kernel_rfl) (ldC (v := .ref x) hn (by first | rfl | with_unfolding_all rfl | kernel_rfl) ?_)
  refine set_plain X₁ (ox := excO C t0) (od := none) ⟨k1 _ _ hx, rfl, rfl, trivial⟩ hsa ?_
  refine OwnErr.first_store (cd := cd0) hch X₁ (k1 _ _ hx) hcl hdi hno (fun h₃ tk₃ dx k₃ dn dne hx₃ hn₃ => ?_)
  exact (show wpAny _ _ (execs _ _) _ _ _ from wpAny_execs_nil (hq h₃ tk₃ dx ⟨fun b o hb e => k₃ b o hb (k1 b o e), hx₃, Nat.le_of_lt (Nat.lt_of_lt_of_le hn.lt dn), dne, hn₃⟩))
theorem ownSK {B newId initId : String} {bmB : List Value} (F : ExcBaseFacts B newId initId bmB) {cn qn : Str} {N : Addr} {bs ch : List Value} {sn : List Str} {sub : List Value} {ab : Bool} {col : Option Bool} {dd : Option Addr} {k0 k1 k2 k3 k5 : Option Value} (T : Tail B ch) (hch : OwnErr.Chain (.ref C :: ch))
    (hC : K.lookup C = some (excClassObj cn qn C N bs ch true sn sub ab col dd k0 k1 k2 k3 k5 newId)) (gC : mg "Stuck" = some (.ref C)) (kC : keepIn K (.ref C) = true)
    (hsa : findIn K (.ref C) "__setattr__" = some (some (.builtin "object.__setattr__"))) (hno : findIn K (.ref C) "place" = some none) (hi : findIn K (.ref C) "__init__" = some (some (.ref fI))) (hty : typeIn K (.ref fI) = some (.type "function"))
    (hfn : ∃ (oc : Value) (od : Option Addr) (doc pm : Value) (an : Option Addr) (cdv ct : Value) (osl : Array (Option Value)) (p1 p2 q1 q2 q3 q4 : Pos),
      K.lookup fI = some ⟨oc, od, .func (fnOf "__init__" "Stuck.__init__" (iASK p1 p2) (iBSK q1 q2 q3 q4) iSSK .none .none doc pm an cdv ct), osl⟩ ∧ codeIn K cdv "Stuck.__init__" = true)
    (ga : findIn K (.ref C) "__getattribute__" = some (some (.builtin "BaseException.__getattribute__"))) (gg : findIn K (.ref C) "__getattr__" = some none) (exC : subIn K (.ref C) (.type "BaseException") = some true) (hdC : hasDictIn K C = true) : OwnC K mg "Stuck" "place" C where
  gC := gC
  kC := kC
  ga := ga
  gg := gg
  exC := exC
  hdC := hdC
  noN := hno
  made := fun X hlim hroom hq => own_made F T hC hi hty (fun X1 l1 hx r1 q1 => initSK (cd0 := { name := cn, bases := bs, mro := .ref C :: ch, ns := N, qualname := qn, hasDict := true, slotNames := sn, subclasses := sub, abstract := ab, collection := col, hasDel := false }) (by unfold clsIn; rw [hC] <;> rfl) hch rfl hsa hno hfn X1 l1 hx r1 q1) X hlim hroom hq
end
end ErrO
end PySem
namespace PySem
namespace ErrO
open PySem.W PySem.Calls PyProof.Rows PySem.HandSPX
/-! ### Refused(pledge) -/
def iARF (p1 p2 : Pos) : Arguments := { posonlyargs := [], args := [{ arg := "self", annotation := none, pos := p1 }, { arg := "pledge", annotation := none, pos := p2 }], vararg := none, kwonlyargs := [], kw_defaults := [], kwarg := none, defaults := [] }
def iBRF (q1 q2 q3 q4 : Pos) : List Stmt := [.Assign [.Attribute (.Name "self" q1) "pledge" q2] (.Name "pledge" q3) q4]
def iSRF : Scope := { kind := .function, names := [(PySem.Str.ofString "self", .local), (PySem.Str.ofString "pledge", .local)], isGenerator := false, isCoroutine := false, more := [] }
section
variable {prog : Program} {w : World} {A : Around} {R : Result → Shared → Prop} {s : Shared} {K : Frag} {mg : Str → Option Value} {C fI : Addr}
theorem initRF {cd0 : ClassData} (hcl : clsIn K C = some cd0) (hch : OwnErr.Chain cd0.mro) (hdi : cd0.hasDict = true) (hsa : findIn K (.ref C) "__setattr__" = some (some (.builtin "object.__setattr__"))) (hno : findIn K (.ref C) "pledge" = some none)
    (hfn : ∃ (oc : Value) (od : Option Addr) (doc pm : Value) (an : Option Addr) (cdv ct : Value) (osl : Array (Option Value)) (p1 p2 q1 q2 q3 q4 : Pos),
      K.lookup fI = some ⟨oc, od, .func (fnOf "__init__" "Refused.__init__" (iARF p1 p2) (iBRF q1 q2 q3 q4) iSRF .none .none doc pm an cdv ct), osl⟩ ∧ codeIn K cdv "Refused.__init__" = true)
    {x t0 : Addr} {v : Value} (X : K.In s.heap) (hlim : s.heap.NoLimit) (hx : s.heap.get? x = some (excO C t0)) (hroom : A.depth < recursionLimit)
    (hq : ∀ h' tk dx, InitEnd "pledge" s.heap h' x C dx t0 v → R (.ok (.ret .none)) { s with heap := h', toks := tk }) : codeAny (model prog w) A (.call (.ref fI) ⟨[.ref x, v], []⟩) R s := by
  obtain ⟨oc, od, doc, pm, an, cdv, ct, osl, p1, p2, q1, q2, q3, q4, ho, hcd⟩ := hfn
  refine Att.call_fn (binds := [("self", .ref x), ("pledge", v)]) X hlim ho hcd hroom (BindsTo.of_eq (by first | rfl | with_unfolding_all rfl)) (by first | rfl | decide | with_unfolding_all rfl) (fun s₁ IC => ?_) rfl rfl rfl
  obtain ⟨h₁, tk₁, rfl⟩ := IC.toInCall.same
  have k1 := IC.toInCall.keep
  have hn := IC.toInCall.ns
  have X₁ : K.In h₁ := X.keeps k1
  refine (show wpAny _ _ (execs _ _) _ _ _ from wpAny_execs_cons (plainObj_wpAny_Assign_Attribute ?_))
  refine ldC (v := v) hn (by first | rfl | with_unfolding_all rfl | kernel_rfl) (ldC (v := .ref x) hn (by first | rfl | with_unfolding_all rfl | kernel_rfl) ?_)
  refine set_plain X₁ (ox := excO C t0) (od := none) ⟨k1 _ _ hx, rfl, rfl, trivial⟩ hsa ?_
  refine OwnErr.first_store (cd := cd0) hch X₁ (k1 _ _ hx) hcl hdi hno (fun h₃ tk₃ dx k₃ dn dne hx₃ hn₃ => ?_)
  exact (show wpAny _ _ (execs _ _) _ _ _ from wpAny_execs_nil (hq h₃ tk₃ dx ⟨fun b o hb e => k₃ b o hb (k1 b o e), hx₃, Nat.le_of_lt (Nat.lt_of_lt_of_le hn.lt dn), dne, hn₃⟩))
theorem ownRF {B newId initId : String} {bmB : List Value} (F : ExcBaseFacts B newId initId bmB) {cn qn : Str} {N : Addr} {bs ch : List Value} {sn : List Str} {sub : List Value} {ab : Bool} {col : Option Bool} {dd : Option Addr} {k0 k1 k2 k3 k5 : Option Value} (T : Tail B ch) (hch : OwnErr.Chain (.ref C :: ch))
    (hC : K.lookup C = some (excClassObj cn qn C N bs ch true sn sub ab col dd k0 k1 k2 k3 k5 newId)) (gC : mg "Refused" = some (.ref C)) (kC : keepIn K (.ref C) = true)
    (hsa : findIn K (.ref C) "__setattr__" = some (some (.builtin "object.__setattr__"))) (hno : findIn K (.ref C) "pledge" = some none) (hi : findIn K (.ref C) "__init__" = some (some (.ref fI))) (hty : typeIn K (.ref fI) = some (.type "function"))
    (hfn : ∃ (oc : Value) (od : Option Addr) (doc pm : Value) (an : Option Addr) (cdv ct : Value) (osl : Array (Option Value)) (p1 p2 q1 q2 q3 q4 : Pos),
      K.lookup fI = some ⟨oc, od, .func (fnOf "__init__" "Refused.__init__" (iARF p1 p2) (iBRF q1 q2 q3 q4) iSRF .none .none doc pm an cdv ct), osl⟩ ∧ codeIn K cdv "Refused.__init__" = true)
    (ga : findIn K (.ref C) "__getattribute__" = some (some (.builtin "BaseException.__getattribute__"))) (gg : findIn K (.ref C) "__getattr__" = some none) (exC : subIn K (.ref C) (.type "BaseException") = some true) (hdC : hasDictIn K C = true) : OwnC K mg "Refused" "pledge" C where
  gC := gC
  kC := kC
  ga := ga
  gg := gg
  exC := exC
  hdC := hdC
  noN := hno
  made := fun X hlim hroom hq => own_made F T hC hi hty (fun X1 l1 hx r1 q1 => initRF (cd0 := { name := cn, bases := bs, mro := .ref C :: ch, ns := N, qualname := qn, hasDict := true, slotNames := sn, subclasses := sub, abstract := ab, collection := col, hasDel := false }) (by unfold clsIn; rw [hC] <;> rfl) hch rfl hsa hno hfn X1 l1 hx r1 q1) X hlim hroom hq
end
end ErrO
end PySem
/-! ### errors as values: made, asked for their class, and for what they keep -/
namespace Gd
open PySem PySem.Spec PyProof.Rows L2
/-- an error of the class C at a, whose dict is at d -/
def EO (C d a : Addr) : HO := .ext fun h => ∃ (oe : Obj) (vs : Array Value), h.get? a = some oe ∧ oe.cls = .ref C ∧ oe.dict = some d ∧ oe.data = .fields vs
theorem eO_ok {P : Program} {w : World} {H : Hp} {h : Heap} {C d a : Addr} {oe : Obj} {vs : Array Value} (e : h.get? a = some oe) (c : oe.cls = .ref C) (k : oe.dict = some d) (f : oe.data = .fields vs) : ObjOk P w H h a (EO C d a) :=
  ⟨⟨oe, vs, e, c, k, f⟩, ⟨oe, e⟩, fun _ _ ⟨o, v, q, r⟩ k => ⟨o, v, k o q, r⟩⟩
theorem relO_one {wd : Str} {v : V} {v' : Value} (r : RelV v v') (f : Str) : RelO (List.lookup f [(wd, v)]) (if f = wd then some v' else none) := by
  by_cases hw : f = wd
  · subst hw
    rw [if_pos rfl]
    have q : List.lookup f [(f, v)] = some v := by simp [List.lookup]
    rw [q]
    exact r
  · rw [if_neg hw]
    have qw : (f == wd) = false := by simpa using hw
    have q2 : List.lookup f [(wd, v)] = none := by simp [List.lookup, qw]
    rw [q2]
    trivial
/-- an error that may be asked: of the class C -/
inductive IsE (H : Hp) (e C : Addr) : Prop where
  | msg (h : H e = some (ExO (.ref C) e)) : IsE H e C
  | own {d : Addr} {wd : Str} {v : V} (h : H e = some (EO C d e)) (k : H d = some (.xd [(wd, v)])) : IsE H e C
theorem IsE.same {H H' : Hp} {e C : Addr} (h : IsE H e C) (s : ∀ a o, H a = some o → H' a = some o) : IsE H' e C := by
  cases h with
  | msg h => exact .msg (s _ _ h)
  | own h k => exact .own (s _ _ h) (s _ _ k)
section
variable {X : Cx}
/-- Name(e), an error that keeps e -/
def tOwn (wd : Str) (C : Addr) (ta : TA) : TE := fun σ H Q => ta σ H fun vs H1 => ∃ v, vs = [v] ∧ ∀ d e, H1 d = none → H1 e = none → d ≠ e → Q (.ref e) (upd (upd H1 d (.xd [(wd, v)])) e (EO C d e))
theorem pe_own {name wd : Str} {C : Addr} {a : Expr} {ta : TA} {p pos : Pos} {k : Nat} (T : PySem.ErrO.OwnC X.K X.mg name wd C) (hr : Room k X.A) (ha : PA X [a] ta) (hg : Gl X name) (hdb : (name == ("__debug__" : Str)) = false := by decide)
    (he : starEach (a :: []) X.env = (false, eval a X.env) :: starEach [] X.env := by rfl) (hpl : (backTo pos (starEach [] X.env)).any (·.1) = false := by rfl) : PE X (.Call (.Name name p) [a] [] pos) (tOwn wd C ta) := by
  refine ⟨fun pins s σ H Q I h => ?_⟩
  refine wpAny_Call_Name_kw (ld_glob I hg T.gC ?_ hdb)
  refine PySem.W.callWith_K (h₀ := X.base) I.ok.mod.kin T.kC (thn (ha.run pos pins s σ H _ I h) fun us s1 hh => ?_) he hpl
  obtain ⟨vs, H1, I1, r1, v, ev, q1⟩ := hh
  subst ev
  refine ⟨I1.kIn, ?_⟩
  obtain ⟨v', rfl, rv⟩ := vals1 r1
  have hlim := I1.nolimit
  obtain ⟨hp, g, dr, tk, os⟩ := s1
  refine (show wpAny _ _ (call (.ref C) [v']) _ _ _ from wpAny_call (T.made I1.kIn hlim (by have := hr.dp; omega) fun h' tk' e d M => ?_))
  obtain ⟨oe, fv, hoe, hc, hd, hdat⟩ := M.obj
  have hns := M.ns
  obtain ⟨G', g1, g2⟩ := restrict h' fun b => decide (b ≠ e)
  have gk : ∀ b, b ≠ e → G'.get? b = h'.get? b := fun b hb => g1 b (decide_eq_true hb)
  have ge : G'.get? e = none := g2 e (by simp)
  have old : ∀ b o, hp.get? b = some o → G'.get? b = some o := fun b o q => (gk b (Nat.ne_of_lt (Nat.lt_of_lt_of_le (Heap.lt_size q) M.new))).trans (M.keep b o q)
  have ob : ObjOk X.prog X.w (upd H1 d (.xd [(wd, v)])) G' d (.xd [(wd, v)]) := ⟨_, hns.at (fun o q => (gk d M.dne).trans q), fun f => relO_one rv f⟩
  have J : Inv X pins σ (upd H1 d (.xd [(wd, v)])) ⟨G', g, dr, tk', os⟩ := I1.laid (t' := tk') old M.dbig ob
  have fd : H1 d = none := I1.hok.fresh M.dbig
  have fe : H1 e = none := I1.hok.fresh M.new
  have fe2 : upd H1 d (.xd [(wd, v)]) e = none := by
    rw [upd_ne (Ne.symm M.dne)]
    exact fe
  exact ⟨.ref e, _, J.laidN (h' := h') (t' := tk') (fun b o q => by
    by_cases hb : b = e
    · rw [hb] at q
      exact nomatch (show none = some o from ge.symm.trans q)
    · exact (gk b hb).symm.trans q) ge fe2 (eO_ok hoe hc hd hdat), rfl, q1 d e fd fe M.dne⟩
/-- e.wd, e an error that keeps something -/
def tKept (wd : Str) (te : TE) : TE := fun σ H Q => te σ H fun x H1 => ∃ (a C d : Addr) (v : V), x = .ref a ∧ (PySem.W.findIn (Cx.K X) (.ref C) "__getattribute__" = some (some (.builtin "BaseException.__getattribute__")) ∧ PySem.W.findIn X.K (.ref C) "__getattr__" = some none ∧ PySem.W.subIn X.K (.ref C) (.type "BaseException") = some true ∧ PySem.W.hasDictIn X.K C = true ∧ PySem.W.findIn X.K (.ref C) wd = some none) ∧
  H1 a = some (EO C d a) ∧ H1 d = some (.xd [(wd, v)]) ∧ Q v H1
theorem pe_kept {wd : Str} {e : Expr} {te : TE} {pos : Pos} (he : PE X e te) (hb : attributeBase e wd X.env (eval e X.env) = eval e X.env := by rfl) : PE X (.Attribute e wd pos) (tKept (X := X) wd te) := by
  refine ⟨fun pins s σ H Q I h => ?_⟩
  refine attr_of hb (thn (he.run pins s σ H _ I h) fun u s1 hh => ?_)
  obtain ⟨x, H1, I1, rx, a, C, d, v, ex, ⟨ga, gg, exC, hdC, noN⟩, ea, ed, q⟩ := hh
  subst ex
  obtain rfl : u = Value.ref a := rx
  obtain ⟨⟨oe, vs, ho, hc, hd, hf⟩, _, _⟩ := (show ObjOk X.prog X.w H1 s1.heap a (EO C d a) from I1.hok a _ ea)
  obtain ⟨mA, hns, hr⟩ := (show ObjOk X.prog X.w H1 s1.heap d (.xd [(wd, v)]) from I1.hok d _ ed)
  obtain ⟨od, hod, hl⟩ := lookIn_ns hns
  have l : List.lookup wd [(wd, v)] = some v := by simp [List.lookup]
  obtain ⟨u, hu, ru⟩ := RelO.some_of (v := v) (o := mA wd) (by rw [← l]; exact hr wd)
  have J : PySem.W.InstAt s1.heap a oe C (some od) := ⟨ho, hc, by unfold PySem.W.notCls; rw [hf] <;> rfl, by rw [hd]; exact hod⟩
  exact HandSPX.exc_get I1.kIn J ga gg exC (PySem.W.findObj_own hdC noN rfl (by rw [hl, hu])) (handed_of ru) ⟨v, H1, I1.tok _, ru, q⟩
/-- isinstance(e, C) of such an error -/
def rIsO (K : PySem.W.Frag) : List V → Hp → VK → Prop := fun xs H Q => ∃ (e D : Addr) (c : V) (u : Value) (b : Bool), xs = [.ref e, c] ∧ ClsV c u ∧ IsE H e D ∧ ExcC K D ∧ PySem.W.kitOne K (.ref D) u = some b ∧ Q (.bl b) H
theorem call_isO : CallR X (.builtin "isinstance") (rIsO X.K) := by
  intro pins s σ H xs us Q I r h
  obtain ⟨e, D, c, u, b, rfl, kc, he, hC, hk, q⟩ := h
  obtain ⟨u1, u2, rfl, r1, r2⟩ := vals2 r
  have e2 := kc.eq r2
  subst e2
  cases (show u1 = Value.ref e from r1)
  have cl : (PySem.W.clsIn X.K D).isSome = true := by
    obtain ⟨cd, hc, _⟩ := PySem.W.any_some hC.hd
    rw [hc]
    rfl
  cases he with
  | msg h =>
    obtain ⟨⟨oe, vs, ho, hz, hf, _⟩, _, _⟩ := (show ObjOk X.prog X.w H s.heap e (ExO (.ref D) e) from I.hok e _ h)
    have J : PySem.W.InstAt s.heap e oe D none := ⟨ho, hz.1, by unfold PySem.W.notCls; rw [hf] <;> rfl, by rw [hz.2]; trivial⟩
    exact PySem.W.kia_one (PySem.W.kitx_exc cl hC.hg hC.hk hC.hs hC.ha hC.hn hC.ht hC.hm) I.kIn J hk (fun z => nomatch z) fun tk => ⟨.bl b, H, I.tok tk, rfl, q⟩
  | @own d wd v h k =>
    obtain ⟨⟨oe, vs, ho, hc, hd, hf⟩, _, _⟩ := (show ObjOk X.prog X.w H s.heap e (EO D d e) from I.hok e _ h)
    obtain ⟨mA, hns, _⟩ := (show ObjOk X.prog X.w H s.heap d (.xd [(wd, v)]) from I.hok d _ k)
    obtain ⟨od, hod, _⟩ := lookIn_ns hns
    have J : PySem.W.InstAt s.heap e oe D (some od) := ⟨ho, hc, by unfold PySem.W.notCls; rw [hf] <;> rfl, by rw [hd]; exact hod⟩
    exact PySem.W.kia_one (PySem.W.kitx_exc cl hC.hg hC.hk hC.hs hC.ha hC.hn hC.ht hC.hm) I.kIn J hk (fun z => nomatch z) fun tk => ⟨.bl b, H, I.tok tk, rfl, q⟩
end
end Gd
/-! ### the dice: the law's own drawn numbers -/
namespace Pr
open PySem PySem.Spec PyProof.Rows L2
/-- all that was tracked, but the object at d, is as it was -/
def Kp (d : Addr) (H H' : Hp) : Prop := ∀ b o, b ≠ d → H b = some o → H' b = some o
theorem Kp.refl (d : Addr) (H : Hp) : Kp d H H := fun _ _ _ h => h
theorem Kp.trans {d : Addr} {H H1 H2 : Hp} (a : Kp d H H1) (b : Kp d H1 H2) : Kp d H H2 := fun c o n h => b c o n (a c o n h)
theorem Kp.upd {d : Addr} {H : Hp} {o : HO} : Kp d H (upd H d o) := fun b u n h => by rw [upd_ne n]; exact h
theorem Kp.new {d p : Addr} {H : Hp} {o : HO} (n : H p = none) : Kp d H (L2.upd H p o) := fun b u _ h => by rw [upd_ne (ne_of_none h n)]; exact h
theorem Kp.same {d : Addr} {H H' : Hp} (s : Same H H') : Kp d H H' := fun b o _ h => s b o h
theorem Same.new {p : Addr} {H : Hp} {o : HO} (n : H p = none) : Same H (L2.upd H p o) := fun b u h => by rw [upd_ne (ne_of_none h n)]; exact h
/-- d is new and then written -/
theorem Kp.over {d : Addr} {H H1 H2 : Hp} (n : H d = none) (s : Same H H1) (k : Kp d H1 H2) : Same H H2 := fun b o h => k b o (ne_of_none h n) (s b o h)
theorem Kp.seq {K : PySem.W.Frag} {d a : Addr} {H H' : Hp} {xs : List V} (k : Kp d H H') (n : a ≠ d) (h : SqL K H a xs) : SqL K H' a xs := by
  rcases h with (h | ⟨o, h⟩) | h
  · exact .inl (.inl (k _ _ n h))
  · exact .inl (.inr ⟨o, k _ _ n h⟩)
  · exact .inr h
/-- the dice that stand at d: what is left of the cell's number, the seed, the number of draws (at most n) -/
structure Dice (H : Hp) (d : Addr) (n : Nat) : Prop where
  at_ : ∃ x y c : Int, H d = some (.lst [.int x, .int y, .int c]) ∧ 0 ≤ x ∧ x < 2 ^ 400 ∧ 0 ≤ y ∧ y < 2 ^ 40 ∧ 0 ≤ c ∧ c ≤ n
  few : n ≤ 1000000
theorem Dice.kept {H H' : Hp} {d : Addr} {n : Nat} (D : Dice H d n) (s : ∀ o, H d = some o → H' d = some o) : Dice H' d n := by
  obtain ⟨⟨x, y, c, e, r⟩, f⟩ := D
  exact ⟨⟨x, y, c, s _ e, r⟩, f⟩
theorem Dice.same {H H' : Hp} {d : Addr} {n : Nat} (D : Dice H d n) (s : Same H H') : Dice H' d n := D.kept fun o e => s _ o e
theorem Dice.more {H : Hp} {d : Addr} {n m : Nat} (D : Dice H d n) (h : n ≤ m) (hm : m ≤ 1000000) : Dice H d m := by
  obtain ⟨⟨x, y, c, e, r1, r2, r3, r4, r5, r6⟩, f⟩ := D
  exact ⟨⟨x, y, c, e, r1, r2, r3, r4, r5, by omega⟩, hm⟩
theorem Dice.there {H : Hp} {d : Addr} {n : Nat} (D : Dice H d n) : ∃ xs, H d = some (.lst xs) := by
  obtain ⟨⟨x, y, c, e, _⟩, _⟩ := D
  exact ⟨_, e⟩
def spDice (K : PySem.W.Frag) : Sp := fun vs H Q _ => ∃ (a : Addr) (ns : List Int) (i : Nat), vs = [.ref a, .int i] ∧ SqL K H a (ns.map V.int) ∧ i < 64 ∧
  ∀ (d : Addr) (H' : Hp), H d = none → Same H H' → Dice H' d 0 → Q (.ref d) H'
def spRoll : Sp := fun vs H Q _ => ∃ (d : Addr) (t : Int) (n : Nat), vs = [.ref d, .int t] ∧ Dice H d n ∧ n < 1000000 ∧ 0 < t ∧ t < 2 ^ 400 ∧
  ∀ (r : Int) (o : HO), 0 ≤ r → r < t → Dice (upd H d o) d (n + 1) → Q (.int r) (upd H d o)
def spPick (K : PySem.W.Frag) : Sp := fun vs H Q _ => ∃ (d p : Addr) (n : Nat) (xs : List V), vs = [.ref d, .ref p] ∧ p ≠ d ∧ (SqL K H p xs ∨ SqT K H p xs) ∧ xs ≠ [] ∧ xs.length ≤ 1000 ∧ Dice H d n ∧ n < 1000000 ∧
  ∀ (v : V) (o : HO), v ∈ xs → Dice (upd H d o) d (n + 1) → Q v (upd H d o)
def spMixed (K : PySem.W.Frag) : Sp := fun vs H Q _ => ∃ (d p : Addr) (n : Nat) (xs : List V), vs = [.ref d, .ref p] ∧ p ≠ d ∧ SqL K H p xs ∧ xs.length ≤ 1000 ∧ Dice H d n ∧ n + xs.length < 1000000 ∧
  ∀ (q : Addr) (ys : List V) (H' : Hp), q ≠ d → H q = none → Kp d H H' → H' q = some (.lst ys) → ys.Perm xs → Dice H' d (n + xs.length) → Q (.ref q) H'
theorem fmod_pos {i j : Int} (h : 0 < j) : 0 ≤ i.fmod j ∧ i.fmod j < j := ⟨Int.fmod_nonneg_of_pos _ h, Int.fmod_lt_of_pos _ h⟩
theorem emod_pos {i j : Int} (h : 0 < j) : 0 ≤ i % j ∧ i % j < j := ⟨Int.emod_nonneg _ (by omega), Int.emod_lt_of_pos _ h⟩
theorem c10 {k : Nat} (h : k ≤ 1000000) : CPow 10 (k : Int) := ⟨by omega, by omega, by decide⟩
end Pr
namespace Pr
open PySem PySem.Spec PyProof.Rows L2
/-! ### the text by places -/
def topS (i : Nat) : Stmt := PySem.Challenge.pw_munchbehind_k00_errors_told.main.body.getD i (.Pass ⟨0, 0, 0, 0⟩)
abbrev sDice : Stmt := topS 19
abbrev sRoll : Stmt := topS 20
abbrev sPick : Stmt := topS 21
abbrev sMixed : Stmt := topS 22
abbrev sOdd : Stmt := topS 23
abbrev sOwn : Stmt := topS 24
abbrev sPython : Stmt := topS 25
abbrev sMess : Stmt := topS 26
abbrev sKept : Stmt := topS 27
abbrev sLaw : Stmt := topS 28
/-- the built-in names that the module leaves alone -/
structure Free (mg : Str → Option Value) : Prop where
  len : mg "len" = none
  int : mg "int" = none
  abs : mg "abs" = none
  max : mg "max" = none
  min : mg "min" = none
  list : mg "list" = none
  range : mg "range" = none
  isi : mg "isinstance" = none
  str : mg "str" = none
  repr : mg "repr" = none
  ve : mg "ValueError" = none
  ke : mg "KeyError" = none
  le : mg "LookupError" = none
  ie : mg "IndexError" = none
  re : mg "RuntimeError" = none
  oe : mg "OverflowError" = none
  ae : mg "ArithmeticError" = none
end Pr
namespace Pr
open PySem PySem.Spec PyProof.Rows L2
theorem dice_end (l g : Int) (b : Int) {i : Nat} (hi : i < 64) (hb : 0 ≤ b ∧ b ≤ 1) :
    0 ≤ l.fmod (10 ^ (60 : Int).toNat * 10 ^ (60 : Int).toNat) ∧ l.fmod (10 ^ (60 : Int).toNat * 10 ^ (60 : Int).toNat) < 2 ^ 400 ∧
    0 ≤ g % 2147483563 * 41 + 613 * (i : Int) + 17 * b + 7 ∧ g % 2147483563 * 41 + 613 * (i : Int) + 17 * b + 7 < 2 ^ 40 ∧ (0 : Int) ≤ 0 ∧ (0 : Int) ≤ (0 : Nat) := by
  have h1 := fmod_pos (i := l) (j := 10 ^ (60 : Int).toNat * 10 ^ (60 : Int).toNat) (by decide +kernel)
  have h2 : (10 ^ (60 : Int).toNat * 10 ^ (60 : Int).toNat : Int) < 2 ^ 400 := by decide +kernel
  have h3 := emod_pos (i := g) (j := 2147483563) (by decide)
  refine ⟨h1.1, Int.lt_trans h1.2 h2, by omega, by omega, by omega, by omega⟩
section
variable {P : Program} {w : World} {K : PySem.W.Frag} {mg : Str → Option Value} {base : Heap}
theorem scDice : FnScope ["script", "spot", "cell", "great", "left"] ["script", "spot"] (defScope sDice) := ⟨rfl, rfl, rfl, by decide +kernel, rfl, by decide +kernel, by decide +kernel⟩
theorem ok_dice {f : Addr} {fd : FuncData} (F : Fun K "_law_dice" "_law_dice" sDice f fd) (T : Free mg) : FnOk P w K mg base CX0 1 f fd ["script", "spot"] (spDice K) := by
  refine F.ok scDice (fun vs H Q E h => ?_) (fun cdv A outer s H vs Q E hr h => ?_)
  · obtain ⟨a, ns, i, rfl, _⟩ := h
    rfl
  · obtain ⟨a, ns, i, rfl, hS, hi, k⟩ := h
    refine ⟨_, pss_cons (ps_set (i := 2) scDice.nd rfl (.inl rfl) (pe_ifExp (pt_cmpR op_lt (pv 1) (pe_callB call_len_seq (by rfl) T.len PySem.boot_len (pa_cons (pv 0) pa_nil)) (nomark _))
        (pe_callTy call_int1 (by rfl) T.int (by decide +kernel) (pa_cons (pe_ix ix_list (pv 0) (pv 1) (fun _ _ => rfl)) pa_nil)) (pe_op op_add (pe_op op_mul pe_int (pv 1)) pe_int)))
      (pss_cons (ps_set (i := 3) scDice.nd rfl (.inl rfl) (pe_op op_modN (pe_callB call_abs (by rfl) T.abs (by decide +kernel) (pa_cons (pv 2) pa_nil)) (pe_op op_pow pe_int pe_int)))
      (pss_cons (ps_set (i := 4) scDice.nd rfl (.inl rfl) (pe_callB (call_max2 rfl) (by rfl) T.max (by decide +kernel) (pa_cons pe_int (pa_cons (pe_op op_sub (pe_callB call_abs (by rfl) T.abs (by decide +kernel) (pa_cons (pv 2) pa_nil)) (pe_op op_pow pe_int pe_int)) pa_nil))))
      (pss_one (ps_ret (pe_lst (pa_cons (pe_op op_modN (pv 4) (pe_op op_mulW (pe_op op_pow pe_int pe_int) (pe_op op_pow pe_int pe_int)))
        (pa_cons (pe_op op_add (pe_op op_add (pe_op op_add (pe_op op_mul (pe_op op_mod (pv 3) pe_int) pe_int) (pe_op op_mul pe_int (pv 1)))
          (pe_op op_mul pe_int (pe_callTy call_int1 (by rfl) T.int (by decide +kernel) (pa_cons (pe_cmpR op_lt (pv 2) pe_int (nomark _)) pa_nil)))) pe_int) (pa_cons pe_int pa_nil)))))))), ?_⟩
    refine ⟨_, rfl, _, rfl, a, _, rfl, .inl hS, _, _, rfl, rfl, _, rfl, ?_⟩
    refine ite2 (fun c => ?_) (fun c => ?_)
    · have hlt : i < ns.length := by
        have c' := of_decide_eq_true c
        rw [List.length_map] at c'
        omega
      have g : (ns.map V.int)[i]? = some (.int ns[i]) := by
        rw [List.getElem?_map, List.getElem?_eq_getElem hlt]
        rfl
      refine ⟨_, rfl, _, rfl, a, _, _, _, rfl, rfl, hS, atI_nat g, .inl ⟨_, rfl, ?_⟩⟩
      refine ⟨_, rfl, _, rfl, 10, 59, rfl, rfl, c10 (k := 59) (by decide), _, _, rfl, rfl, (by dsimp only; decide +kernel), ?_⟩
      refine ⟨_, rfl, _, rfl, 10, 17, rfl, rfl, c10 (k := 17) (by decide), _, _, rfl, rfl, _, _, rfl, ?_⟩
      refine ⟨_, rfl, 10, 60, rfl, rfl, c10 (k := 60) (by decide), 10, 60, rfl, rfl, c10 (k := 60) (by decide), _, _, rfl, rfl, wide_mul (a := 400) (b := 400) (by decide +kernel) (by decide +kernel) (by decide) (by decide) (by decide), _, _, rfl, rfl, (by dsimp only; decide +kernel), ?_⟩
      refine ⟨_, rfl, _, _, rfl, rfl, (by dsimp only; decide), _, _, rfl, rfl, .inr ⟨by decide, by decide⟩, _, rfl, _, _, rfl, rfl, .inl ⟨by decide, by decide⟩, _, _, rfl, rfl, _, rfl, _, _, rfl, rfl, .inr ⟨_, rfl, ?_⟩⟩
      refine ⟨_, _, rfl, rfl, .inl ⟨by decide, by decide⟩, _, _, rfl, rfl, _, _, rfl, rfl, (by show 3 ≤ sizeLine; decide), fun d hd => ?_⟩
      refine k d _ hd (Same.new hd) ⟨⟨_, _, 0, upd_same, ?_⟩, by decide⟩
      refine dice_end _ _ _ hi ?_
      split <;> omega
    · refine ⟨_, rfl, _, _, rfl, rfl, .inl ⟨by decide, by decide⟩, _, _, rfl, rfl, ?_⟩
      refine ⟨_, rfl, _, rfl, 10, 59, rfl, rfl, c10 (k := 59) (by decide), _, _, rfl, rfl, (by dsimp only; decide +kernel), ?_⟩
      refine ⟨_, rfl, _, rfl, 10, 17, rfl, rfl, c10 (k := 17) (by decide), _, _, rfl, rfl, _, _, rfl, ?_⟩
      refine ⟨_, rfl, 10, 60, rfl, rfl, c10 (k := 60) (by decide), 10, 60, rfl, rfl, c10 (k := 60) (by decide), _, _, rfl, rfl, wide_mul (a := 400) (b := 400) (by decide +kernel) (by decide +kernel) (by decide) (by decide) (by decide), _, _, rfl, rfl, (by dsimp only; decide +kernel), ?_⟩
      refine ⟨_, rfl, _, _, rfl, rfl, (by dsimp only; decide), _, _, rfl, rfl, .inr ⟨by decide, by decide⟩, _, rfl, _, _, rfl, rfl, .inl ⟨by decide, by decide⟩, _, _, rfl, rfl, _, rfl, _, _, rfl, rfl, .inr ⟨_, rfl, ?_⟩⟩
      refine ⟨_, _, rfl, rfl, .inl ⟨by decide, by decide⟩, _, _, rfl, rfl, _, _, rfl, rfl, (by show 3 ≤ sizeLine; decide), fun d hd => ?_⟩
      refine k d _ hd (Same.new hd) ⟨⟨_, _, 0, upd_same, ?_⟩, by decide⟩
      refine dice_end _ _ _ hi ?_
      split <;> omega
end
end Pr
namespace Pr
open PySem PySem.Spec PyProof.Rows L2
theorem div_le {x t : Int} (h0 : 0 ≤ x) (ht : 0 < t) : 0 ≤ x / t ∧ x / t ≤ x := ⟨Int.ediv_nonneg h0 (by omega), Int.ediv_le_self _ h0⟩
theorem mod2 {x y : Int} (h : 0 ≤ x) (a : 0 < y) : 0 ≤ x.fmod y ∧ x.fmod y < y := fmod_pos a
section
variable {P : Program} {w : World} {K : PySem.W.Frag} {mg : Str → Option Value} {base : Heap}
theorem scRoll : FnScope ["dice", "total", "found", "one", "two"] ["dice", "total"] (defScope sRoll) := ⟨rfl, rfl, rfl, by decide +kernel, rfl, by decide +kernel, by decide +kernel⟩
theorem ok_roll {f : Addr} {fd : FuncData} (F : Fun K "_law_roll" "_law_roll" sRoll f fd) (T : Free mg) : FnOk P w K mg base CX0 1 f fd ["dice", "total"] spRoll := by
  refine F.ok scRoll (fun vs H Q E h => ?_) (fun cdv A outer s H vs Q E hr h => ?_)
  · obtain ⟨d, t, n, rfl, _⟩ := h
    rfl
  · obtain ⟨d, t, n, rfl, ⟨⟨x, y, c, e, x0, x1, y0, y1, c0, c1⟩, fw⟩, hn, t0, t1, k⟩ := h
    have sq : SqL K H d [.int x, .int y, .int c] := SqL.of e
    refine ⟨_, pss_cons (ps_if (pt_cmpR op_gt (pe_ix ix_list (pv 0) pe_int (fun _ _ => rfl)) pe_int (nomark _))
        (pss_cons (ps_set (i := 2) scRoll.nd rfl (.inl rfl) (pe_op op_modN (pe_callTy call_int1 (by rfl) T.int (by decide +kernel) (pa_cons (pe_ix ix_list (pv 0) pe_int (fun _ _ => rfl)) pa_nil)) (pv 1)))
        (pss_cons (ps_asg (pe_op op_fdivW (pe_ix ix_list (pv 0) pe_int (fun _ _ => rfl)) (pv 1)) (pg_sub (pv 0) pe_int set_list))
        (pss_one (ps_ret (pv 2))))) pss_nil)
      (pss_cons (ps_asg (pe_op op_add (pe_ix ix_list (pv 0) pe_int (fun _ _ => rfl)) pe_int) (pg_sub (pv 0) pe_int set_list))
      (pss_cons (ps_set (i := 3) scRoll.nd rfl (.inl rfl) (pe_op op_mod (pe_callTy call_int1 (by rfl) T.int (by decide +kernel)
        (pa_cons (pe_op op_add (pe_ix ix_list (pv 0) pe_int (fun _ _ => rfl)) (pe_op op_mul pe_int (pe_ix ix_list (pv 0) pe_int (fun _ _ => rfl)))) pa_nil)) pe_int))
      (pss_cons (ps_set (i := 4) scRoll.nd rfl (.inl rfl) (pe_op op_add (pe_op op_mul (pe_op op_mod (pe_callTy call_int1 (by rfl) T.int (by decide +kernel)
        (pa_cons (pe_op op_add (pe_op op_mul (pv 3) (pv 3)) (pe_op op_mul pe_int (pe_ix ix_list (pv 0) pe_int (fun _ _ => rfl)))) pa_nil)) pe_int) pe_int) (pv 3)))
      (pss_one (ps_ret (pe_op op_modN (pe_callTy call_int1 (by rfl) T.int (by decide +kernel) (pa_cons (pe_op op_fdiv (pv 4) pe_int) pa_nil)) (pv 1))))))), ?_⟩
    refine ⟨_, rfl, d, _, 0, _, rfl, rfl, sq, rfl, _, _, rfl, rfl, _, rfl, ite2 (fun cx => ?_) (fun cx => ?_)⟩
    · -- what is left of the cell's number
      have r := fmod_pos (i := x) t0
      have q := div_le x0 t0
      refine ⟨_, rfl, d, _, 0, _, rfl, rfl, sq, rfl, .inl ⟨_, rfl, _, rfl, _, _, rfl, rfl, (by dsimp only; omega), ?_⟩⟩
      refine ⟨_, rfl, d, _, 0, _, rfl, rfl, sq, rfl, _, rfl, _, _, rfl, rfl, wide_div (b := 400) t0 (by omega) (by decide) (by decide), _, rfl, d, _, 0, 0, rfl, rfl, e, rfl, _, rfl, ?_⟩
      exact k _ _ r.1 r.2 ⟨⟨_, _, _, upd_same, q.1, by omega, y0, y1, c0, by omega⟩, by omega⟩
    · refine ⟨_, rfl, d, _, 2, _, rfl, rfl, sq, rfl, _, _, rfl, rfl, _, rfl, d, _, 2, 2, rfl, rfl, e, rfl, ?_⟩
      have sq2 : SqL K (upd H d (.lst [.int x, .int y, .int (c + 1)])) d [.int x, .int y, .int (c + 1)] := SqL.of upd_same
      have m1 := emod_pos (i := y + 7901 * (c + 1)) (j := 2305843009213693907) (by decide)
      refine ⟨_, rfl, d, _, 1, _, rfl, rfl, sq2, rfl, _, rfl, d, _, 2, _, rfl, rfl, sq2, rfl, _, _, rfl, rfl, .inl ⟨by decide, by decide⟩, _, _, rfl, rfl, .inl ⟨_, rfl, _, _, rfl, rfl, (by dsimp only; decide), ?_⟩⟩
      have m2 := emod_pos (i := (y + 7901 * (c + 1)) % 2305843009213693907 * ((y + 7901 * (c + 1)) % 2305843009213693907) + 71 * (c + 1)) (j := 2305843009213693921) (by decide)
      refine ⟨_, rfl, _, rfl, _, _, rfl, rfl, .inl ⟨by omega, by omega⟩, _, rfl, d, _, 2, _, rfl, rfl, sq2, rfl, _, _, rfl, rfl, .inl ⟨by decide, by decide⟩, _, _, rfl, rfl, .inl ⟨_, rfl, _, _, rfl, rfl, (by dsimp only; decide), ?_⟩⟩
      refine ⟨_, _, rfl, rfl, .inl ⟨by omega, by omega⟩, _, rfl, _, _, rfl, rfl, ?_⟩
      refine ⟨_, rfl, _, _, rfl, rfl, ⟨by decide, by decide⟩, .inl ⟨_, rfl, _, rfl, _, _, rfl, rfl, (by dsimp only; omega), ?_⟩⟩
      exact k _ _ (fmod_pos t0).1 (fmod_pos t0).2 ⟨⟨_, _, _, upd_same, x0, x1, y0, y1, by omega, by omega⟩, by omega⟩
end
end Pr
namespace Pr
open PySem PySem.Spec PyProof.Rows L2
/-- the law's drawing defs, as they stand behind the top -/
structure Draws (K : PySem.W.Frag) (mg : Str → Option Value) (fR fP fM : Addr) (dR dP dM : FuncData) : Prop where
  FR : Fun K "_law_roll" "_law_roll" sRoll fR dR
  bR : Binds K dR ["dice", "total"] []
  gR : mg "_law_roll" = some (.ref fR)
  FP : Fun K "_law_pick" "_law_pick" sPick fP dP
  bP : Binds K dP ["dice", "items"] []
  gP : mg "_law_pick" = some (.ref fP)
  FM : Fun K "_law_mixed" "_law_mixed" sMixed fM dM
  bM : Binds K dM ["dice", "items"] []
  gM : mg "_law_mixed" = some (.ref fM)
theorem erase_perm {α : Type} : ∀ (l : List α) (i : Nat) (h : i < l.length), (l[i] :: l.eraseIdx i).Perm l
  | [], _, h => absurd h (Nat.not_lt_zero _)
  | a :: l, 0, _ => List.Perm.refl _
  | a :: l, i + 1, h => (List.Perm.swap a (l[i]'(Nat.lt_of_succ_lt_succ h)) (l.eraseIdx i)).trans (List.Perm.cons a (erase_perm l i (Nat.lt_of_succ_lt_succ h)))
section
variable {P : Program} {w : World} {K : PySem.W.Frag} {mg : Str → Option Value} {base : Heap} {fR fP fM : Addr} {dR dP dM : FuncData}
theorem scPick : FnScope ["dice", "items"] ["dice", "items"] (defScope sPick) := ⟨rfl, rfl, rfl, by decide +kernel, rfl, by decide +kernel, by decide +kernel⟩
theorem ok_pick (D : Draws K mg fR fP fM dR dP dM) (T : Free mg) : FnOk P w K mg base CX0 2 fP dP ["dice", "items"] (spPick K) := by
  have GR : FnOk P w K mg base CX0 1 fR dR ["dice", "total"] spRoll := ok_roll D.FR T
  refine D.FP.ok scPick (fun vs H Q E h => ?_) (fun cdv A outer s H vs Q E hr h => ?_)
  · obtain ⟨d, p, n, xs, rfl, _⟩ := h
    rfl
  · obtain ⟨d, p, n, xs, rfl, npd, hS, ne, few, di, hn, k⟩ := h
    refine ⟨_, pss_one (ps_ret (pe_ix ix_seq (pv 1) (pe_call GR hr (by rfl) D.gR D.FR.kp D.bR .nil pass0 (pa_cons (pv 0) (pa_cons (pe_callB call_len_seq (by rfl) T.len PySem.boot_len (pa_cons (pv 1) pa_nil)) pa_nil))) (fun _ _ => rfl))), ?_⟩
    have pos : 0 < xs.length := List.length_pos_iff.mpr ne
    refine ⟨_, rfl, _, rfl, _, rfl, p, xs, rfl, hS, d, _, n, rfl, di, hn, by omega, by omega, fun r o r0 r1 di' => ?_⟩
    have hlt : r.toNat < xs.length := by omega
    have g : atI xs r = some xs[r.toNat] := at_of (j := r.toNat) (by omega) (List.getElem?_eq_getElem hlt)
    have kp : Kp d H (upd H d o) := Kp.upd
    rcases hS with hS | hS
    · exact .inl ⟨p, xs, r, _, rfl, rfl, kp.seq npd hS, g, k _ o (List.getElem_mem hlt) di'⟩
    · have hT : SqT K (upd H d o) p xs := by
        rcases hS with (h | ⟨u, h⟩) | h
        · exact .inl (.inl (kp _ _ npd h))
        · exact .inl (.inr ⟨u, kp _ _ npd h⟩)
        · exact .inr h
      exact .inr (.inl ⟨p, xs, r, _, rfl, rfl, hT, g, k _ o (List.getElem_mem hlt) di'⟩)
theorem scMixed : FnScope ["dice", "items", "left", "found", "turn"] ["dice", "items"] (defScope sMixed) := ⟨rfl, rfl, rfl, by decide +kernel, rfl, by decide +kernel, by decide +kernel⟩
theorem ok_mixed (D : Draws K mg fR fP fM dR dP dM) (T : Free mg) : FnOk P w K mg base CX0 2 fM dM ["dice", "items"] (spMixed K) := by
  have GR : FnOk P w K mg base CX0 1 fR dR ["dice", "total"] spRoll := ok_roll D.FR T
  refine D.FM.ok scMixed (fun vs H Q E h => ?_) (fun cdv A outer s H vs Q E hr h => ?_)
  · obtain ⟨d, p, n, xs, rfl, _⟩ := h
    rfl
  · obtain ⟨d, p, n, xs, rfl, npd, hS, few, di, hn, k⟩ := h
    refine ⟨_, pss_cons (ps_par (i := 2) (j := 3) (by rfl) scMixed.nd rfl rfl (by decide) rfl rfl (pa_cons (pe_callTy call_list_of (by rfl) T.list (by decide +kernel) (pa_cons (pv 1) pa_nil)) (pa_cons (pe_lst pa_nil) pa_nil)) (by rfl))
      (pss_cons (ps_for PassesOwn.never rfl (pi_range1 rfl T.range (pa_cons (pe_callB call_len_seq (by rfl) T.len PySem.boot_len (pa_cons (pv 1) pa_nil)) pa_nil)) (pg_name (i := 4) scMixed.nd rfl (.inl rfl))
        (pss_one (ps_expr (pe_bm PySem.F.plainAttrs_list PySem.F.slot_list_append PySem.F.type_list_append mt_append (pv 3)
          (pa_cons (pe_bm PySem.F.plainAttrs_list PySem.F.slot_list_pop PySem.F.type_list_pop mt_popAt (pv 2)
            (pa_cons (pe_call GR hr (by rfl) D.gR D.FR.kp D.bR .nil pass0 (pa_cons (pv 0) (pa_cons (pe_callB call_len_seq (by rfl) T.len PySem.boot_len (pa_cons (pv 2) pa_nil)) pa_nil))) pa_nil)) pa_nil)))))
      (pss_one (ps_ret (pv 3)))), ?_⟩
    obtain ⟨ds, hd⟩ := di.there
    -- left = list(items); found = []
    refine ⟨_, rfl, p, xs, rfl, .inl hS, fun l nl => ⟨Nat.zero_le _, fun q nq => ?_⟩⟩
    refine ⟨_, _, rfl, ?_⟩
    have ndl : d ≠ l := ne_of_none hd nl
    have nql : q ≠ l := fun e => by
      rw [e, upd_same] at nq
      cases nq
    have nHq : H q = none := by
      rw [upd_ne nql] at nq
      exact nq
    have ndq : d ≠ q := ne_of_none hd nHq
    have s1 : Same H (upd (upd H l (.lst xs)) q (.lst [])) := (Same.new nl).trans (Same.new nq)
    have hS1 := s1.seq hS
    -- the loop
    refine ⟨_, rfl, p, xs, rfl, .inl hS1, xs.length, rfl, by omega, by omega, ?_⟩
    refine for_range (lo := 0) (n := ((xs.length : Int)).toNat) (fun i σ H' => ∃ (v : Option V) (rem done : List V), σ = [some (.ref d), some (.ref p), some (.ref l), some (.ref q), v] ∧ Kp d H H' ∧
      H' l = some (.lst rem) ∧ H' q = some (.lst done) ∧ rem.length + i = xs.length ∧ (done ++ rem).Perm xs ∧ Dice H' d (n + i))
      ⟨none, xs, [], rfl, Kp.same s1, by rw [upd_ne nql.symm, upd_same], upd_same, by omega, List.Perm.refl _, di.same s1⟩ ?_ ?_
    · rintro i σ H' hi ⟨v, rem, done, rfl, kp, hl, hq, len, pm, di'⟩
      have hi' : i < xs.length := by omega
      have dl : done.length = i := by
        have := pm.length_eq
        rw [List.length_append] at this
        omega
      refine ⟨_, rfl, .inl ⟨rfl, _, SqL.of hq⟩, _, rfl, .inl ⟨rfl, _, SqL.of hl⟩, _, rfl, _, rfl, l, rem, rfl, .inl (SqL.of hl), d, _, n + i, rfl, di', by omega, by omega, by omega, fun r o r0 r1 di2 => ?_⟩
      have hlt : r.toNat < rem.length := by omega
      have k2 : Kp d H' (upd H' d o) := Kp.upd
      have hl2 := k2 _ _ ndl.symm hl
      have hq2 := k2 _ _ ndq.symm hq
      refine ⟨l, rem, r, r.toNat, rem[r.toNat], rfl, rfl, hl2, by omega, by omega, seqIndex_of r0 (by omega), List.getElem?_eq_getElem hlt, ?_⟩
      have hq3 : (upd (upd H' d o) l (.lst (rem.eraseIdx r.toNat))) q = some (.lst done) := by
        rw [upd_ne nql]
        exact hq2
      refine ⟨q, done, _, rfl, rfl, hq3, small1000 (by omega), ?_⟩
      refine ⟨_, rem.eraseIdx r.toNat, _, rfl, fun b u nb e => ?_, ?_, upd_same, ?_, ?_, ?_⟩
      · rw [upd_ne (ne_of_none e nHq), upd_ne (ne_of_none e nl)]
        exact k2 _ _ nb (kp _ _ nb e)
      · rw [upd_ne nql.symm, upd_same]
      · rw [List.length_eraseIdx_of_lt hlt]
        omega
      · have e1 := erase_perm rem r.toNat hlt
        rw [List.append_assoc]
        exact (List.Perm.append_left done e1).trans pm
      · refine (di2.kept fun u e => ?_).more (by omega) (by omega)
        rw [upd_ne ndq, upd_ne ndl]
        exact e
    · rintro σ H' ⟨v, rem, done, rfl, kp, hl, hq, len, pm, di'⟩
      have e0 : rem = [] := List.length_eq_zero_iff.mp (by omega)
      subst e0
      rw [List.append_nil] at pm
      refine ⟨_, rfl, k q done H' ndq.symm nHq kp hq pm (di'.more (by omega) (by omega))⟩
end
end Pr
namespace Pr
open PySem PySem.Spec PyProof.Rows L2 Gd
/-! ### values that can be judged and shown -/
/-- the heap without the dice -/
def Hm (d : Addr) (H : Hp) : Hp := fun b => if b = d then none else H b
theorem Hm.some_of {d b : Addr} {H : Hp} {o : HO} (h : Hm d H b = some o) : H b = some o ∧ b ≠ d := by
  unfold Hm at h
  by_cases e : b = d
  · rw [if_pos e] at h
    cases h
  · rw [if_neg e] at h
    exact ⟨h, e⟩
theorem Hm.of {d b : Addr} {H : Hp} {o : HO} (h : H b = some o) (e : b ≠ d) : Hm d H b = some o := by
  unfold Hm
  rw [if_neg e]
  exact h
theorem Kp.hm {d : Addr} {H H' : Hp} (k : Kp d H H') : Same (Hm d H) (Hm d H') := fun b o h => Hm.of (k b o (Hm.some_of h).2 (Hm.some_of h).1) (Hm.some_of h).2
/-- the type of a value that is no instance -/
inductive Kd (H : Hp) : V → String → Prop where
  | non : Kd H .non "NoneType"
  | bl (b : Bool) : Kd H (.bl b) "bool"
  | int (i : Int) : Kd H (.int i) "int"
  | str (z : Str) : Kd H (.str z) "str"
  | lst {a : Addr} {xs : List V} (e : H a = some (.lst xs)) : Kd H (.ref a) "list"
  | tup {a : Addr} {xs : List V} (e : H a = some (.tup xs)) : Kd H (.ref a) "tuple"
  | dK {a : Addr} {kvs : List (Key × V)} (e : H a = some (.dK kvs)) : Kd H (.ref a) "dict"
theorem Kd.same {H H' : Hp} {v : V} {t : String} (k : Kd H v t) (s : Same H H') : Kd H' v t := by
  cases k with
  | non => exact .non
  | bl b => exact .bl b
  | int i => exact .int i
  | str z => exact .str z
  | lst e => exact .lst (s _ _ e)
  | tup e => exact .tup (s _ _ e)
  | dK e => exact .dK (s _ _ e)
theorem Sh.more {H : Hp} : ∀ (n : Nat) (v : V) (t : Str), Sh H n v t → Sh H (n + 1) v t
  | 0, _, _, h => .inl h
  | n + 1, _, _, h => by
    rcases h with h | ⟨a, xs, ts, rfl, e, p, rfl⟩ | ⟨a, xs, ts, rfl, e, p, rfl⟩ | ⟨a, xs, ts, rfl, e, p, rfl⟩
    · exact .inl h
    · exact Sh.lst e (L2.Paired.mapP p fun x t q => Sh.more n x t q)
    · exact Sh.tup e (L2.Paired.mapP p fun x t q => Sh.more n x t q)
    · exact Sh.dK e (L2.Paired.mapP p fun x t q => ⟨q.1, Sh.more n x.2 t q.2⟩)
theorem Sh.le {H : Hp} {n m : Nat} {v : V} {t : Str} (h : n ≤ m) (s : Sh H n v t) : Sh H m v t := by
  induction h with
  | refl => exact s
  | step _ ih => exact Sh.more _ _ _ ih
/-- a value: its type, its text, what it holds if it is a tuple -/
structure Vd (H : Hp) (n m : Nat) (v : V) : Prop where
  kd : ∃ t, Kd H v t
  sm : ∃ t, Sh H n v t ∧ t.length ≤ m
  str : ∀ z, v = .str z → z.length ≤ 1000000
  items : ∀ a xs, v = .ref a → H a = some (.tup xs) → xs.length ≤ 1000 ∧ ∀ x ∈ xs, (∃ t, Kd H x t) ∧ ∀ z, x = .str z → z.length ≤ 1000000
theorem Vd.le {H : Hp} {n m n' m' : Nat} {v : V} (h : Vd H n m v) (a : n ≤ n') (b : m ≤ m') : Vd H n' m' v :=
  ⟨h.kd, let ⟨t, s, l⟩ := h.sm; ⟨t, Sh.le a s, by omega⟩, h.str, h.items⟩
theorem Vd.same {H H' : Hp} {n m : Nat} {v : V} (h : Vd H n m v) (s : Same H H') : Vd H' n m v := by
  obtain ⟨t, hk⟩ := h.kd
  refine ⟨⟨t, hk.same s⟩, let ⟨t, q, l⟩ := h.sm; ⟨t, Sh.keep s n v t q, l⟩, h.str, fun a xs e q => ?_⟩
  subst e
  cases hk with
  | lst e =>
    rw [s _ _ e] at q
    cases q
  | tup e =>
    have q' := q
    rw [s _ _ e] at q'
    cases q'
    obtain ⟨l, k⟩ := h.items a xs rfl e
    exact ⟨l, fun x m => let ⟨⟨t, kt⟩, z⟩ := k x m; ⟨⟨t, kt.same s⟩, z⟩⟩
  | dK e =>
    rw [s _ _ e] at q
    cases q
theorem Vd.non {H : Hp} : Vd H 0 2000 .non := ⟨⟨_, .non⟩, ⟨_, Sc.non, by decide⟩, fun z e => (nomatch e), fun a xs e => (nomatch e)⟩
theorem Vd.bl {H : Hp} (b : Bool) : Vd H 0 2000 (.bl b) := ⟨⟨_, .bl b⟩, ⟨_, Sc.bl b, by cases b <;> decide⟩, fun z e => (nomatch e), fun a xs e => (nomatch e)⟩
theorem Vd.int {H : Hp} (i : Int) (h : i.natAbs < 2 ^ 1900) : Vd H 0 2000 (.int i) := by
  have hl : i.natAbs.log2 < 1920 := Nat.lt_of_lt_of_le (PySem.Flt.log2_lt_of (by decide) h) (by decide)
  refine ⟨⟨_, .int i⟩, ⟨_, Sc.int i hl, ?_⟩, fun z e => (nomatch e), fun a xs e => (nomatch e)⟩
  exact Nat.le_trans (PyProof.Rows.int_text_len_1921 hl) (by decide)
/-- a text of at most m signs -/
def SOk (m : Nat) (z : Str) : Prop := z.length ≤ m ∧ ∀ c ∈ z.cps.toList, c < 16 ^ 8
theorem SOk.le {m n : Nat} {z : Str} (h : SOk m z) (l : m ≤ n) : SOk n z := ⟨by have := h.1; omega, h.2⟩
theorem Vd.text {H : Hp} {k : Nat} {z : Str} (h : SOk k z) (hk : k ≤ 100000) : Vd H 0 (10 * k + 2) (.str z) := by
  have l := StrLaws.reprText_len z h.2
  have l2 := h.1
  refine ⟨⟨_, .str z⟩, ⟨_, Sc.str z (by rw [sizeLine_eq]; omega), by omega⟩, fun y e => ?_, fun a xs e => (nomatch e)⟩
  cases e
  omega
theorem paired_of {H : Hp} {n m : Nat} : ∀ {xs : List V}, (∀ x ∈ xs, Vd H n m x) → ∃ ts, Paired (Sh H n) xs ts ∧ (ts.map (·.length)).sum ≤ xs.length * m ∧ ts.length = xs.length
  | [], _ => ⟨[], .nil, by simp, rfl⟩
  | x :: xs, h => by
    obtain ⟨ts, p, s, l⟩ := paired_of (xs := xs) fun y m => h y (List.mem_cons_of_mem _ m)
    obtain ⟨t, q, lt⟩ := (h x List.mem_cons_self).sm
    refine ⟨t :: ts, .cons q p, ?_, by simp [l]⟩
    rw [List.map_cons, List.sum_cons, List.length_cons, Nat.succ_mul]
    omega
theorem Vd.lst {H : Hp} {n m k : Nat} {a : Addr} {xs : List V} (e : H a = some (.lst xs)) (h : ∀ x ∈ xs, Vd H n m x) (hl : xs.length ≤ k) : Vd H (n + 1) (k * (m + 2) + 3) (.ref a) := by
  obtain ⟨ts, p, s, l⟩ := paired_of h
  refine ⟨⟨_, .lst e⟩, ⟨_, Sh.lst e p, ?_⟩, fun z e => (nomatch e), fun b ys eb q => ?_⟩
  · have := listText_len_le ts
    have h2 : xs.length * (m + 2) ≤ k * (m + 2) := Nat.mul_le_mul_right _ hl
    rw [Nat.mul_add] at h2
    omega
  · cases eb
    rw [e] at q
    cases q
theorem Vd.tup {H : Hp} {n m k : Nat} {a : Addr} {xs : List V} (e : H a = some (.tup xs)) (h : ∀ x ∈ xs, Vd H n m x) (hl : xs.length ≤ k) (hk : k ≤ 1000) : Vd H (n + 1) (k * (m + 2) + 3) (.ref a) := by
  obtain ⟨ts, p, s, l⟩ := paired_of h
  refine ⟨⟨_, .tup e⟩, ⟨_, Sh.tup e p, ?_⟩, fun z e => (nomatch e), fun b ys eb q => ?_⟩
  · have := tupleText_len_le ts
    have h2 : xs.length * (m + 2) ≤ k * (m + 2) := Nat.mul_le_mul_right _ hl
    rw [Nat.mul_add] at h2
    omega
  · cases eb
    rw [e] at q
    cases q
    exact ⟨by omega, fun x m => ⟨(h x m).kd, (h x m).str⟩⟩
theorem Vd.dK0 {H : Hp} {a : Addr} (e : H a = some (.dK [])) : Vd H 1 2000 (.ref a) := by
  refine ⟨⟨_, .dK e⟩, ⟨_, Sh.dK e .nil, by decide +kernel⟩, fun z e => (nomatch e), fun b ys eb q => ?_⟩
  cases eb
  rw [e] at q
  cases q
theorem Vd.dK1 {H : Hp} {a : Addr} {x : Str} {i : Int} (e : H a = some (.dK [(.inr x, .int i)])) (hx : SOk 10 x) (hi : i.natAbs.log2 < 1920) : Vd H 1 3000 (.ref a) := by
  have l := StrLaws.reprText_len x hx.2
  have l2 := hx.1
  have l3 := PyProof.Rows.int_text_len_1921 hi
  refine ⟨⟨_, .dK e⟩, ⟨_, Sh.dK (n := 0) (ts := [((toString i : String) : Str)]) e (.cons ⟨by show (reprText x).length ≤ sizeLine; rw [sizeLine_eq]; omega, Sc.int i hi⟩ .nil), ?_⟩, fun z e => (nomatch e), fun b ys eb q => ?_⟩
  · have h := dictText_len_le (List.zipWith (fun (p : Key × V) t => keyText p.1 ++ ": " ++ t) [((.inr x : Key), V.int i)] [((toString i : String) : Str)])
    have e2 : ((keyText (.inr x) ++ ": " ++ ((toString i : String) : Str)) : Str).length = (reprText x).length + 2 + ((toString i : String) : Str).length := by
      rw [strLen_append, strLen_append]
      rfl
    have e3 : (List.zipWith (fun (p : Key × V) t => keyText p.1 ++ ": " ++ t) [((.inr x : Key), V.int i)] [((toString i : String) : Str)]) = [keyText (.inr x) ++ ": " ++ ((toString i : String) : Str)] := rfl
    rw [e3] at h ⊢
    rw [List.map_cons, List.map_nil, List.sum_cons, List.sum_nil, e2, List.length_singleton] at h
    omega
  · cases eb
    rw [e] at q
    cases q
end Pr
namespace Pr
open PySem PySem.Spec PyProof.Rows L2 Gd
theorem if_true_of {c : Bool} {A B : Prop} (hc : c = true) (h : A) : if c = true then A else B := by rw [if_pos hc]; exact h
theorem if_false_of {c : Bool} {A B : Prop} (hc : c = false) (h : B) : if c = true then A else B := by rw [hc, if_neg Bool.false_ne_true]; exact h
theorem iteT {A B : Prop} (h : A) : if true = true then A else B := if_true_of rfl h
theorem iteF {A B : Prop} (h : B) : if false = true then A else B := if_false_of rfl h
/-! ### to which classes an error belongs -/
/-- where the classes of the package are -/
structure Where (mg : Str → Option Value) (c0 c1 c2 c3 c4 c5 c6 c7 c8 c9 c10 c11 c12 c13 c14 c15 c16 : Addr) : Prop where
  g0 : mg "CoverError" = some (.ref c0)
  g1 : mg "InvalidOperators" = some (.ref c1)
  g2 : mg "InvalidTree" = some (.ref c2)
  g3 : mg "InvalidBook" = some (.ref c3)
  g4 : mg "InvalidCover" = some (.ref c4)
  g5 : mg "InvalidKind" = some (.ref c5)
  g6 : mg "InvalidState" = some (.ref c6)
  g7 : mg "InvalidPaper" = some (.ref c7)
  g8 : mg "InvalidOperation" = some (.ref c8)
  g9 : mg "ParseError" = some (.ref c9)
  g10 : mg "UnknownName" = some (.ref c10)
  g11 : mg "NotCovered" = some (.ref c11)
  g12 : mg "InvalidNumber" = some (.ref c12)
  g13 : mg "NothingToUndo" = some (.ref c13)
  g14 : mg "TooMany" = some (.ref c14)
  g15 : mg "Stuck" = some (.ref c15)
  g16 : mg "Refused" = some (.ref c16)
/-- the classes, in the law's order -/
abbrev clsL (c0 c1 c2 c3 c4 c5 c6 c7 c8 c9 c10 c11 c12 c13 c14 c15 c16 : Addr) : List Value := [.ref c0, .ref c1, .ref c2, .ref c3, .ref c4, .ref c5, .ref c6, .ref c7, .ref c8, .ref c9, .ref c10, .ref c11, .ref c12, .ref c13, .ref c14, .ref c15, .ref c16]
abbrev pysL : List Value := [.type "ValueError", .type "KeyError", .type "LookupError", .type "IndexError", .type "RuntimeError", .type "OverflowError", .type "ArithmeticError"]
/-- what the class D is told to be, one after the other -/
def Told (K : PySem.W.Frag) (D : Addr) : List Value → List Bool → Prop
  | [], [] => True
  | u :: us, b :: bs => PySem.W.kitOne K (.ref D) u = some b ∧ Told K D us bs
  | _, _ => False
structure Ct (K : PySem.W.Frag) (cs : List Value) (D : Addr) (bs ps : List Bool) : Prop where
  e : ExcC K D
  own : Told K D cs bs
  py : Told K D pysL ps
/-- the indices of those that are true, from k on -/
def idx : Nat → List Bool → List V
  | _, [] => []
  | k, b :: bs => (if b then [V.int (0 + (k : Int))] else []) ++ idx (k + 1) bs
theorem idx_app : ∀ (k : Nat) (xs ys : List Bool), idx k (xs ++ ys) = idx k xs ++ idx (k + xs.length) ys
  | k, [], ys => by simp [idx]
  | k, b :: xs, ys => by
    show _ ++ idx (k + 1) (xs ++ ys) = _ ++ idx (k + 1) xs ++ _
    rw [idx_app (k + 1) xs ys, List.append_assoc, List.length_cons, show k + 1 + xs.length = k + (xs.length + 1) by omega]
theorem idx_len : ∀ (k : Nat) (xs : List Bool), (idx k xs).length ≤ xs.length
  | _, [] => Nat.le_refl _
  | k, b :: xs => by
    have := idx_len (k + 1) xs
    show ((if b then [V.int (0 + (k : Int))] else []) ++ idx (k + 1) xs).length ≤ xs.length + 1
    rw [List.length_append]
    cases b <;> simp <;> omega
theorem idx_more {bs : List Bool} {i : Nat} {b : Bool} (h : bs[i]? = some b) : idx 0 (bs.take (i + 1)) = idx 0 (bs.take i) ++ (if b then [V.int (0 + (i : Int))] else []) := by
  have hi : i < bs.length := by
    obtain ⟨q, _⟩ := List.getElem?_eq_some_iff.mp h
    exact q
  rw [List.take_add_one, h, idx_app, List.length_take, Nat.min_eq_left (by omega), Nat.zero_add]
  show _ ++ ((if b then [V.int (0 + (i : Int))] else []) ++ idx (i + 1) []) = _
  simp [idx]
def figS (b : Bool) : Str := if b then "1" else "0"
/-- the figures of the row -/
def figs (bs : List Bool) : Str := Txt.join "" (bs.map figS)
section
variable {P : Program} {w : World} {K : PySem.W.Frag} {mg : Str → Option Value} {base : Heap} {c0 c1 c2 c3 c4 c5 c6 c7 c8 c9 c10 c11 c12 c13 c14 c15 c16 : Addr}
def spOwn (K : PySem.W.Frag) (cs : List Value) : Sp := fun vs H Q _ => ∃ (e D : Addr) (bs ps : List Bool), vs = [.ref e] ∧ IsE H e D ∧ Ct K cs D bs ps ∧ ∀ l H', Same H H' → H l = none → H' l = some (.lst (idx 0 bs)) → Q (.ref l) H'
def spPython (K : PySem.W.Frag) (cs : List Value) : Sp := fun vs H Q _ => ∃ (e D : Addr) (bs ps : List Bool), vs = [.ref e] ∧ IsE H e D ∧ Ct K cs D bs ps ∧ ∀ H', Same H H' → Q (.str (figs ps)) H'
theorem scOwn : FnScope ["error", "row", "at"] ["error"] (defScope sOwn) := ⟨rfl, rfl, rfl, by decide +kernel, rfl, by decide +kernel, by decide +kernel⟩
theorem told17 {D : Addr} {u0 u1 u2 u3 u4 u5 u6 u7 u8 u9 u10 u11 u12 u13 u14 u15 u16 : Value} {bs : List Bool} (h : Told K D [u0, u1, u2, u3, u4, u5, u6, u7, u8, u9, u10, u11, u12, u13, u14, u15, u16] bs) :
    ∃ b0 b1 b2 b3 b4 b5 b6 b7 b8 b9 b10 b11 b12 b13 b14 b15 b16, bs = [b0, b1, b2, b3, b4, b5, b6, b7, b8, b9, b10, b11, b12, b13, b14, b15, b16] ∧ Told K D [u0, u1, u2, u3, u4, u5, u6, u7, u8, u9, u10, u11, u12, u13, u14, u15, u16] [b0, b1, b2, b3, b4, b5, b6, b7, b8, b9, b10, b11, b12, b13, b14, b15, b16] := by
  match bs, h with
  | [b0, b1, b2, b3, b4, b5, b6, b7, b8, b9, b10, b11, b12, b13, b14, b15, b16], h => exact ⟨b0, b1, b2, b3, b4, b5, b6, b7, b8, b9, b10, b11, b12, b13, b14, b15, b16, rfl, h⟩
theorem told7 {D : Addr} {u0 u1 u2 u3 u4 u5 u6 : Value} {bs : List Bool} (h : Told K D [u0, u1, u2, u3, u4, u5, u6] bs) : ∃ b0 b1 b2 b3 b4 b5 b6, bs = [b0, b1, b2, b3, b4, b5, b6] ∧ Told K D [u0, u1, u2, u3, u4, u5, u6] [b0, b1, b2, b3, b4, b5, b6] := by
  match bs, h with
  | [b0, b1, b2, b3, b4, b5, b6], h => exact ⟨b0, b1, b2, b3, b4, b5, b6, rfl, h⟩
theorem ok_own {f : Addr} {fd : FuncData} (F : Fun K "_law_own" "_law_own" sOwn f fd) (T : Free mg) (N : Where mg c0 c1 c2 c3 c4 c5 c6 c7 c8 c9 c10 c11 c12 c13 c14 c15 c16) :
    FnOk P w K mg base CX0 1 f fd ["error"] (spOwn K (clsL c0 c1 c2 c3 c4 c5 c6 c7 c8 c9 c10 c11 c12 c13 c14 c15 c16)) := by
  refine F.ok scOwn (fun vs H Q E h => ?_) (fun cdv A outer s H vs Q E hr h => ?_)
  · obtain ⟨e, D, bs, ps, rfl, _⟩ := h
    rfl
  · obtain ⟨e, D, bs, ps, rfl, he, ct, q⟩ := h
    obtain ⟨b0, b1, b2, b3, b4, b5, b6, b7, b8, b9, b10, b11, b12, b13, b14, b15, b16, rfl, k0, k1, k2, k3, k4, k5, k6, k7, k8, k9, k10, k11, k12, k13, k14, k15, k16, _⟩ := told17 ct.own
    refine ⟨_, pss_cons (ps_set (i := 1) scOwn.nd rfl (.inr rfl) (pe_lst (pa_cons (pe_callB call_isO (by rfl) T.isi (by decide +kernel) (pa_cons (pv 0) (pa_cons (pe_glob (v := .ref c0) (by rfl) N.g0 rfl) pa_nil))) (pa_cons (pe_callB call_isO (by rfl) T.isi (by decide +kernel) (pa_cons (pv 0) (pa_cons (pe_glob (v := .ref c1) (by rfl) N.g1 rfl) pa_nil))) (pa_cons (pe_callB call_isO (by rfl) T.isi (by decide +kernel) (pa_cons (pv 0) (pa_cons (pe_glob (v := .ref c2) (by rfl) N.g2 rfl) pa_nil))) pa_nil))))) (pss_cons (ps_set (i := 1) scOwn.nd rfl (.inr rfl) (pe_op op_cat (pv 1) (pe_lst (pa_cons (pe_callB call_isO (by rfl) T.isi (by decide +kernel) (pa_cons (pv 0) (pa_cons (pe_glob (v := .ref c3) (by rfl) N.g3 rfl) pa_nil))) (pa_cons (pe_callB call_isO (by rfl) T.isi (by decide +kernel) (pa_cons (pv 0) (pa_cons (pe_glob (v := .ref c4) (by rfl) N.g4 rfl) pa_nil))) (pa_cons (pe_callB call_isO (by rfl) T.isi (by decide +kernel) (pa_cons (pv 0) (pa_cons (pe_glob (v := .ref c5) (by rfl) N.g5 rfl) pa_nil))) pa_nil)))))) (pss_cons (ps_set (i := 1) scOwn.nd rfl (.inr rfl) (pe_op op_cat (pv 1) (pe_lst (pa_cons (pe_callB call_isO (by rfl) T.isi (by decide +kernel) (pa_cons (pv 0) (pa_cons (pe_glob (v := .ref c6) (by rfl) N.g6 rfl) pa_nil))) (pa_cons (pe_callB call_isO (by rfl) T.isi (by decide +kernel) (pa_cons (pv 0) (pa_cons (pe_glob (v := .ref c7) (by rfl) N.g7 rfl) pa_nil))) (pa_cons (pe_callB call_isO (by rfl) T.isi (by decide +kernel) (pa_cons (pv 0) (pa_cons (pe_glob (v := .ref c8) (by rfl) N.g8 rfl) pa_nil))) pa_nil)))))) (pss_cons (ps_set (i := 1) scOwn.nd rfl (.inr rfl) (pe_op op_cat (pv 1) (pe_lst (pa_cons (pe_callB call_isO (by rfl) T.isi (by decide +kernel) (pa_cons (pv 0) (pa_cons (pe_glob (v := .ref c9) (by rfl) N.g9 rfl) pa_nil))) (pa_cons (pe_callB call_isO (by rfl) T.isi (by decide +kernel) (pa_cons (pv 0) (pa_cons (pe_glob (v := .ref c10) (by rfl) N.g10 rfl) pa_nil))) (pa_cons (pe_callB call_isO (by rfl) T.isi (by decide +kernel) (pa_cons (pv 0) (pa_cons (pe_glob (v := .ref c11) (by rfl) N.g11 rfl) pa_nil))) pa_nil)))))) (pss_cons (ps_set (i := 1) scOwn.nd rfl (.inr rfl) (pe_op op_cat (pv 1) (pe_lst (pa_cons (pe_callB call_isO (by rfl) T.isi (by decide +kernel) (pa_cons (pv 0) (pa_cons (pe_glob (v := .ref c12) (by rfl) N.g12 rfl) pa_nil))) (pa_cons (pe_callB call_isO (by rfl) T.isi (by decide +kernel) (pa_cons (pv 0) (pa_cons (pe_glob (v := .ref c13) (by rfl) N.g13 rfl) pa_nil))) (pa_cons (pe_callB call_isO (by rfl) T.isi (by decide +kernel) (pa_cons (pv 0) (pa_cons (pe_glob (v := .ref c14) (by rfl) N.g14 rfl) pa_nil))) pa_nil)))))) (pss_cons (ps_set (i := 1) scOwn.nd rfl (.inr rfl) (pe_op op_cat (pv 1) (pe_lst (pa_cons (pe_callB call_isO (by rfl) T.isi (by decide +kernel) (pa_cons (pv 0) (pa_cons (pe_glob (v := .ref c15) (by rfl) N.g15 rfl) pa_nil))) (pa_cons (pe_callB call_isO (by rfl) T.isi (by decide +kernel) (pa_cons (pv 0) (pa_cons (pe_glob (v := .ref c16) (by rfl) N.g16 rfl) pa_nil))) pa_nil))))) (pss_one (ps_ret (pe_lc (own := [("at", 2)]) (g := gName 2) (by rfl) scOwn.nd (pi_range1 rfl T.range (pa_cons (pe_callB call_len_seq (by rfl) T.len PySem.boot_len (pa_cons (pv 1) pa_nil)) pa_nil)) (blkOk_by (own := [("at", 2)]) (N := ["error", "row", "at"]) (sc := defScope sOwn) (by decide +kernel)) (fun _ _ _ _ _ => pg_name (i := 2) scOwn.nd rfl (Or.inl rfl)) (fun _ _ _ _ _ => pts_one (pt_val (pe_ix (show IxR _ (rIxL K) from ix_list) (pv 1) (pv 2) (fun _ _ => rfl)))) (fun _ _ _ _ _ => pv 2))))))))), ?_⟩
    have z : ∀ {m : Nat}, m ≤ 64 → m ≤ sizeLine := fun h => Nat.le_trans h (by decide)
    refine ⟨_, rfl, e, D, _, _, _, rfl, .own _, he, ct.e, k0, _, rfl, e, D, _, _, _, rfl, .own _, he, ct.e, k1, _, rfl, e, D, _, _, _, rfl, .own _, he, ct.e, k2, by show 3 ≤ sizeLine; decide, fun l1 n1 => ?_⟩
    have s1 : Same H (upd H l1 (.lst [.bl b0, .bl b1, .bl b2])) := Same.new n1
    have h1 : upd H l1 (.lst [.bl b0, .bl b1, .bl b2]) l1 = some (.lst [.bl b0, .bl b1, .bl b2]) := upd_same
    generalize upd H l1 (.lst [.bl b0, .bl b1, .bl b2]) = H1 at s1 h1 ⊢
    refine ⟨_, rfl, _, rfl, e, D, _, _, _, rfl, .own _, (he.same s1), ct.e, k3, _, rfl, e, D, _, _, _, rfl, .own _, (he.same s1), ct.e, k4, _, rfl, e, D, _, _, _, rfl, .own _, (he.same s1), ct.e, k5, by show 3 ≤ sizeLine; decide, fun m2 nm2 => ⟨l1, m2, _, _, rfl, rfl, (Same.new nm2) _ _ h1, upd_same, by show 6 ≤ sizeLine; decide, fun l2 nl2 => ?_⟩⟩
    have s2 : Same H (upd (upd H1 m2 (.lst [.bl b3, .bl b4, .bl b5])) l2 (.lst ([.bl b0, .bl b1, .bl b2] ++ [.bl b3, .bl b4, .bl b5]))) := (s1.trans (Same.new nm2)).trans (Same.new nl2)
    have h2 : (upd (upd H1 m2 (.lst [.bl b3, .bl b4, .bl b5])) l2 (.lst ([.bl b0, .bl b1, .bl b2] ++ [.bl b3, .bl b4, .bl b5]))) l2 = some (.lst [.bl b0, .bl b1, .bl b2, .bl b3, .bl b4, .bl b5]) := upd_same
    generalize upd (upd H1 m2 (.lst [.bl b3, .bl b4, .bl b5])) l2 (.lst ([.bl b0, .bl b1, .bl b2] ++ [.bl b3, .bl b4, .bl b5])) = H2 at s2 h2 ⊢
    refine ⟨_, rfl, _, rfl, e, D, _, _, _, rfl, .own _, (he.same s2), ct.e, k6, _, rfl, e, D, _, _, _, rfl, .own _, (he.same s2), ct.e, k7, _, rfl, e, D, _, _, _, rfl, .own _, (he.same s2), ct.e, k8, by show 3 ≤ sizeLine; decide, fun m3 nm3 => ⟨l2, m3, _, _, rfl, rfl, (Same.new nm3) _ _ h2, upd_same, by show 9 ≤ sizeLine; decide, fun l3 nl3 => ?_⟩⟩
    have s3 : Same H (upd (upd H2 m3 (.lst [.bl b6, .bl b7, .bl b8])) l3 (.lst ([.bl b0, .bl b1, .bl b2, .bl b3, .bl b4, .bl b5] ++ [.bl b6, .bl b7, .bl b8]))) := (s2.trans (Same.new nm3)).trans (Same.new nl3)
    have h3 : (upd (upd H2 m3 (.lst [.bl b6, .bl b7, .bl b8])) l3 (.lst ([.bl b0, .bl b1, .bl b2, .bl b3, .bl b4, .bl b5] ++ [.bl b6, .bl b7, .bl b8]))) l3 = some (.lst [.bl b0, .bl b1, .bl b2, .bl b3, .bl b4, .bl b5, .bl b6, .bl b7, .bl b8]) := upd_same
    generalize upd (upd H2 m3 (.lst [.bl b6, .bl b7, .bl b8])) l3 (.lst ([.bl b0, .bl b1, .bl b2, .bl b3, .bl b4, .bl b5] ++ [.bl b6, .bl b7, .bl b8])) = H3 at s3 h3 ⊢
    refine ⟨_, rfl, _, rfl, e, D, _, _, _, rfl, .own _, (he.same s3), ct.e, k9, _, rfl, e, D, _, _, _, rfl, .own _, (he.same s3), ct.e, k10, _, rfl, e, D, _, _, _, rfl, .own _, (he.same s3), ct.e, k11, by show 3 ≤ sizeLine; decide, fun m4 nm4 => ⟨l3, m4, _, _, rfl, rfl, (Same.new nm4) _ _ h3, upd_same, by show 12 ≤ sizeLine; decide, fun l4 nl4 => ?_⟩⟩
    have s4 : Same H (upd (upd H3 m4 (.lst [.bl b9, .bl b10, .bl b11])) l4 (.lst ([.bl b0, .bl b1, .bl b2, .bl b3, .bl b4, .bl b5, .bl b6, .bl b7, .bl b8] ++ [.bl b9, .bl b10, .bl b11]))) := (s3.trans (Same.new nm4)).trans (Same.new nl4)
    have h4 : (upd (upd H3 m4 (.lst [.bl b9, .bl b10, .bl b11])) l4 (.lst ([.bl b0, .bl b1, .bl b2, .bl b3, .bl b4, .bl b5, .bl b6, .bl b7, .bl b8] ++ [.bl b9, .bl b10, .bl b11]))) l4 = some (.lst [.bl b0, .bl b1, .bl b2, .bl b3, .bl b4, .bl b5, .bl b6, .bl b7, .bl b8, .bl b9, .bl b10, .bl b11]) := upd_same
    generalize upd (upd H3 m4 (.lst [.bl b9, .bl b10, .bl b11])) l4 (.lst ([.bl b0, .bl b1, .bl b2, .bl b3, .bl b4, .bl b5, .bl b6, .bl b7, .bl b8] ++ [.bl b9, .bl b10, .bl b11])) = H4 at s4 h4 ⊢
    refine ⟨_, rfl, _, rfl, e, D, _, _, _, rfl, .own _, (he.same s4), ct.e, k12, _, rfl, e, D, _, _, _, rfl, .own _, (he.same s4), ct.e, k13, _, rfl, e, D, _, _, _, rfl, .own _, (he.same s4), ct.e, k14, by show 3 ≤ sizeLine; decide, fun m5 nm5 => ⟨l4, m5, _, _, rfl, rfl, (Same.new nm5) _ _ h4, upd_same, by show 15 ≤ sizeLine; decide, fun l5 nl5 => ?_⟩⟩
    have s5 : Same H (upd (upd H4 m5 (.lst [.bl b12, .bl b13, .bl b14])) l5 (.lst ([.bl b0, .bl b1, .bl b2, .bl b3, .bl b4, .bl b5, .bl b6, .bl b7, .bl b8, .bl b9, .bl b10, .bl b11] ++ [.bl b12, .bl b13, .bl b14]))) := (s4.trans (Same.new nm5)).trans (Same.new nl5)
    have h5 : (upd (upd H4 m5 (.lst [.bl b12, .bl b13, .bl b14])) l5 (.lst ([.bl b0, .bl b1, .bl b2, .bl b3, .bl b4, .bl b5, .bl b6, .bl b7, .bl b8, .bl b9, .bl b10, .bl b11] ++ [.bl b12, .bl b13, .bl b14]))) l5 = some (.lst [.bl b0, .bl b1, .bl b2, .bl b3, .bl b4, .bl b5, .bl b6, .bl b7, .bl b8, .bl b9, .bl b10, .bl b11, .bl b12, .bl b13, .bl b14]) := upd_same
    generalize upd (upd H4 m5 (.lst [.bl b12, .bl b13, .bl b14])) l5 (.lst ([.bl b0, .bl b1, .bl b2, .bl b3, .bl b4, .bl b5, .bl b6, .bl b7, .bl b8, .bl b9, .bl b10, .bl b11] ++ [.bl b12, .bl b13, .bl b14])) = H5 at s5 h5 ⊢
    refine ⟨_, rfl, _, rfl, e, D, _, _, _, rfl, .own _, (he.same s5), ct.e, k15, _, rfl, e, D, _, _, _, rfl, .own _, (he.same s5), ct.e, k16, by show 2 ≤ sizeLine; decide, fun m6 nm6 => ⟨l5, m6, _, _, rfl, rfl, (Same.new nm6) _ _ h5, upd_same, by show 17 ≤ sizeLine; decide, fun l6 nl6 => ?_⟩⟩
    have s6 : Same H (upd (upd H5 m6 (.lst [.bl b15, .bl b16])) l6 (.lst ([.bl b0, .bl b1, .bl b2, .bl b3, .bl b4, .bl b5, .bl b6, .bl b7, .bl b8, .bl b9, .bl b10, .bl b11, .bl b12, .bl b13, .bl b14] ++ [.bl b15, .bl b16]))) := (s5.trans (Same.new nm6)).trans (Same.new nl6)
    have h6 : (upd (upd H5 m6 (.lst [.bl b15, .bl b16])) l6 (.lst ([.bl b0, .bl b1, .bl b2, .bl b3, .bl b4, .bl b5, .bl b6, .bl b7, .bl b8, .bl b9, .bl b10, .bl b11, .bl b12, .bl b13, .bl b14] ++ [.bl b15, .bl b16]))) l6 = some (.lst [.bl b0, .bl b1, .bl b2, .bl b3, .bl b4, .bl b5, .bl b6, .bl b7, .bl b8, .bl b9, .bl b10, .bl b11, .bl b12, .bl b13, .bl b14, .bl b15, .bl b16]) := upd_same
    generalize upd (upd H5 m6 (.lst [.bl b15, .bl b16])) l6 (.lst ([.bl b0, .bl b1, .bl b2, .bl b3, .bl b4, .bl b5, .bl b6, .bl b7, .bl b8, .bl b9, .bl b10, .bl b11, .bl b12, .bl b13, .bl b14] ++ [.bl b15, .bl b16])) = H6 at s6 h6 ⊢
    have hrow : H6 l6 = some (.lst ([b0, b1, b2, b3, b4, b5, b6, b7, b8, b9, b10, b11, b12, b13, b14, b15, b16].map V.bl)) := h6
    refine ⟨_, rfl, l6, _, rfl, .inl (SqL.of hrow), _, rfl, by show -(2 ^ 62) ≤ (17 : Int); decide, by show (17 : Int) < 2 ^ 62; decide, fun D1 nD => ?_⟩
    refine lc_range (lo := 0) (n := (17 : Int).toNat) (fun i H' => H' D1 = some (.lst (idx 0 ([b0, b1, b2, b3, b4, b5, b6, b7, b8, b9, b10, b11, b12, b13, b14, b15, b16].take i))) ∧ Same H6 H') ⟨upd_same, Same.new nD⟩ ?_ ?_
    · rintro i H' hi ⟨eD, sm⟩
      have hi' : i < 17 := hi
      obtain ⟨b, hb⟩ : ∃ b, [b0, b1, b2, b3, b4, b5, b6, b7, b8, b9, b10, b11, b12, b13, b14, b15, b16][i]? = some b := ⟨_, List.getElem?_eq_getElem hi'⟩
      have hx : atI ([b0, b1, b2, b3, b4, b5, b6, b7, b8, b9, b10, b11, b12, b13, b14, b15, b16].map V.bl) (0 + (i : Int)) = some (V.bl b) := by
        rw [Int.zero_add]
        refine atI_nat ?_
        rw [List.getElem?_map, hb]
        rfl
      refine ⟨rfl, _, rfl, _, rfl, l6, _, _, _, rfl, rfl, SqL.of (sm _ _ hrow), hx, b, rfl, ?_⟩
      have more := idx_more hb
      have ln := idx_len 0 ([b0, b1, b2, b3, b4, b5, b6, b7, b8, b9, b10, b11, b12, b13, b14, b15, b16].take i)
      rw [List.length_take] at ln
      cases b with
      | true =>
        refine if_true_of rfl ⟨_, rfl, _, eD, by rw [sizeLine_eq]; omega, ?_, ?_⟩
        · rw [upd_same, more]
          rfl
        · exact fun a o x => by rw [upd_ne (ne_of_none x nD)]; exact sm a o x
      | false =>
        refine if_false_of rfl ⟨?_, sm⟩
        rw [eD, more, if_neg Bool.false_ne_true, List.append_nil]
    · rintro H' ⟨eD, sm⟩
      exact q D1 H' (s6.trans sm) (s6.free nD) eD
end
end Pr

namespace Pr
open PySem PySem.Spec PyProof.Rows L2 Gd
section
variable {P : Program} {w : World} {K : PySem.W.Frag} {mg : Str → Option Value} {base : Heap} {c0 c1 c2 c3 c4 c5 c6 c7 c8 c9 c10 c11 c12 c13 c14 c15 c16 : Addr}
theorem scPython : FnScope ["error", "row", "one"] ["error"] (defScope sPython) := ⟨rfl, rfl, rfl, by decide +kernel, rfl, by decide +kernel, by decide +kernel⟩
theorem fig_eq (b : Bool) : (((toString (if b then (1 : Int) else 0) : String) : Str)) = figS b := by cases b <;> rfl
theorem ok_python {f : Addr} {fd : FuncData} {cs : List Value} (F : Fun K "_law_python" "_law_python" sPython f fd) (T : Free mg) : FnOk P w K mg base CX0 1 f fd ["error"] (spPython K cs) := by
  refine F.ok scPython (fun vs H Q E h => ?_) (fun cdv A outer s H vs Q E hr h => ?_)
  · obtain ⟨e, D, bs, ps, rfl, _⟩ := h
    rfl
  · obtain ⟨e, D, bs, ps, rfl, he, ct, q⟩ := h
    obtain ⟨b0, b1, b2, b3, b4, b5, b6, rfl, k0, k1, k2, k3, k4, k5, k6, _⟩ := told7 ct.py
    refine ⟨_, pss_cons (ps_set (i := 1) scPython.nd rfl (.inl rfl) (pe_lst (pa_cons (pe_callB call_isO (by rfl) T.isi (by decide +kernel) (pa_cons (pv 0) (pa_cons (pe_bltn (v := .ty "ValueError") (by rfl) T.ve (by decide +kernel) rfl) pa_nil))) (pa_cons (pe_callB call_isO (by rfl) T.isi (by decide +kernel) (pa_cons (pv 0) (pa_cons (pe_bltn (v := .ty "KeyError") (by rfl) T.ke (by decide +kernel) rfl) pa_nil))) (pa_cons (pe_callB call_isO (by rfl) T.isi (by decide +kernel) (pa_cons (pv 0) (pa_cons (pe_bltn (v := .ty "LookupError") (by rfl) T.le (by decide +kernel) rfl) pa_nil))) pa_nil))))) (pss_cons (ps_set (i := 1) scPython.nd rfl (.inl rfl) (pe_op op_cat (pv 1) (pe_lst (pa_cons (pe_callB call_isO (by rfl) T.isi (by decide +kernel) (pa_cons (pv 0) (pa_cons (pe_bltn (v := .ty "IndexError") (by rfl) T.ie (by decide +kernel) rfl) pa_nil))) (pa_cons (pe_callB call_isO (by rfl) T.isi (by decide +kernel) (pa_cons (pv 0) (pa_cons (pe_bltn (v := .ty "RuntimeError") (by rfl) T.re (by decide +kernel) rfl) pa_nil))) (pa_cons (pe_callB call_isO (by rfl) T.isi (by decide +kernel) (pa_cons (pv 0) (pa_cons (pe_bltn (v := .ty "OverflowError") (by rfl) T.oe (by decide +kernel) rfl) pa_nil))) pa_nil)))))) (pss_one (ps_ret (pe_join pe_str (pe_lc (own := [("one", 2)]) (g := gName 2) (by rfl) scPython.nd (pi_list (pe_op op_cat (pv 1) (pe_lst (pa_cons (pe_callB call_isO (by rfl) T.isi (by decide +kernel) (pa_cons (pv 0) (pa_cons (pe_bltn (v := .ty "ArithmeticError") (by rfl) T.ae (by decide +kernel) rfl) pa_nil))) pa_nil)))) (blkOk_by (own := [("one", 2)]) (N := ["error", "row", "one"]) (sc := defScope sPython) (by decide +kernel)) (fun _ _ _ _ _ => pg_name (i := 2) scPython.nd rfl (Or.inl rfl)) (fun _ _ _ _ _ => pts_nil) (fun _ _ _ _ _ => pe_callTy call_str_int (by rfl) T.str (by decide +kernel) (pa_cons (pe_callTy call_int1 (by rfl) T.int (by decide +kernel) (pa_cons (pv 2) pa_nil)) pa_nil))))))), ?_⟩
    refine ⟨_, rfl, e, D, _, _, _, rfl, .ty _, he, ct.e, k0, _, rfl, e, D, _, _, _, rfl, .ty _, he, ct.e, k1, _, rfl, e, D, _, _, _, rfl, .ty _, he, ct.e, k2, by show 3 ≤ sizeLine; decide, fun l1 n1 => ?_⟩
    have s1 : Same H (upd H l1 (.lst [.bl b0, .bl b1, .bl b2])) := Same.new n1
    have h1 : upd H l1 (.lst [.bl b0, .bl b1, .bl b2]) l1 = some (.lst [.bl b0, .bl b1, .bl b2]) := upd_same
    generalize upd H l1 (.lst [.bl b0, .bl b1, .bl b2]) = H1 at s1 h1 ⊢
    refine ⟨_, rfl, _, rfl, e, D, _, _, _, rfl, .ty _, (he.same s1), ct.e, k3, _, rfl, e, D, _, _, _, rfl, .ty _, (he.same s1), ct.e, k4, _, rfl, e, D, _, _, _, rfl, .ty _, (he.same s1), ct.e, k5, by show 3 ≤ sizeLine; decide, fun m2 nm2 => ⟨l1, m2, _, _, rfl, rfl, (Same.new nm2) _ _ h1, upd_same, by show 6 ≤ sizeLine; decide, fun l2 nl2 => ?_⟩⟩
    have s2 : Same H (upd (upd H1 m2 (.lst [.bl b3, .bl b4, .bl b5])) l2 (.lst ([.bl b0, .bl b1, .bl b2] ++ [.bl b3, .bl b4, .bl b5]))) := (s1.trans (Same.new nm2)).trans (Same.new nl2)
    have h2 : (upd (upd H1 m2 (.lst [.bl b3, .bl b4, .bl b5])) l2 (.lst ([.bl b0, .bl b1, .bl b2] ++ [.bl b3, .bl b4, .bl b5]))) l2 = some (.lst [.bl b0, .bl b1, .bl b2, .bl b3, .bl b4, .bl b5]) := upd_same
    generalize upd (upd H1 m2 (.lst [.bl b3, .bl b4, .bl b5])) l2 (.lst ([.bl b0, .bl b1, .bl b2] ++ [.bl b3, .bl b4, .bl b5])) = H2 at s2 h2 ⊢
    refine ⟨⟨_, rfl⟩, _, rfl, _, rfl, e, D, _, _, _, rfl, .ty _, he.same s2, ct.e, k6, by show 1 ≤ sizeLine; decide, fun m3 nm3 => ⟨l2, m3, _, _, rfl, rfl, (Same.new nm3) _ _ h2, upd_same, by show 7 ≤ sizeLine; decide, fun l3 nl3 => ⟨l3, rfl, ⟨_, SqL.of upd_same⟩, fun D1 nD => ?_⟩⟩⟩
    have s3 := fun o2 : HO => (s2.trans (Same.new nm3 (o := .lst [.bl b6]))).trans (Same.new nl3 (o := o2))
    refine lc_list (K := K) (a := l3) (xs := [b0, b1, b2, b3, b4, b5, b6].map V.bl) (fun i H' => H' D1 = some (.lst (([b0, b1, b2, b3, b4, b5, b6].take i).map fun b => V.str (figS b))) ∧ Same (upd (upd H2 m3 (.lst [.bl b6])) l3 (.lst ([.bl b0, .bl b1, .bl b2, .bl b3, .bl b4, .bl b5] ++ [.bl b6]))) H') ⟨upd_same, Same.new nD⟩ (fun i H' _ ⟨_, sm⟩ => SqL.of (sm _ _ upd_same)) ?_ ?_
    · rintro i x H' hx ⟨eD, sm⟩
      obtain ⟨b, hb, rfl⟩ : ∃ b, [b0, b1, b2, b3, b4, b5, b6][i]? = some b ∧ V.bl b = x := by
        rw [List.getElem?_map] at hx
        cases e : [b0, b1, b2, b3, b4, b5, b6][i]? with
        | none => rw [e] at hx; cases hx
        | some b => rw [e] at hx; exact ⟨b, rfl, Option.some.inj hx⟩
      refine ⟨rfl, _, rfl, .inr ⟨b, rfl, _, rfl, by cases b <;> decide, _, eD, ?_, ?_, ?_⟩⟩
      · have : i < 7 := (List.getElem?_eq_some_iff.mp hb).1
        rw [List.length_map, List.length_take, sizeLine_eq]
        omega
      · rw [upd_same, List.take_add_one, hb, List.map_append, fig_eq]
        rfl
      · exact fun a o x => by rw [upd_ne (ne_of_none x nD)]; exact sm a o x
    · rintro H' ⟨eD, sm⟩
      refine ⟨"", D1, [b0, b1, b2, b3, b4, b5, b6].map figS, rfl, rfl, .inl (SqL.of (by rw [eD, List.map_map]; rfl)), ?_, ?_⟩
      · have one : ∀ b, (figS b).length = 1 := fun b => by cases b <;> rfl
        simp [one, show ("" : Str).length = 0 from rfl]
      · exact q H' ((s3 _).trans sm)
end
end Pr

namespace Pr
open PySem PySem.Spec PyProof.Rows L2 Gd
/-! ### errors with a message -/
structure MsgC (K : PySem.W.Frag) (mg : Str → Option Value) (name : Str) (C : Addr) : Prop where
  g : mg name = some (.ref C)
  k : PySem.W.keepIn K (.ref C) = true
  q : PySem.W.excIn K C [.type "ValueError", .type "Exception", .type "BaseException", .type "object"] "ValueError.__new__" = true
/-- errors made so far, of these classes -/
structure Mk (H0 H : Hp) (es cs : List Addr) : Prop where
  same : Same H0 H
  pr : Paired (fun e c => IsE H e c) es cs
theorem paired_map {α β : Type} {F G : α → β → Prop} (k : ∀ a b, F a b → G a b) : ∀ {xs : List α} {ys : List β}, Paired F xs ys → Paired G xs ys
  | _, _, .nil => .nil
  | _, _, .cons h r => .cons (k _ _ h) (paired_map k r)
theorem paired_snoc {α β : Type} {F : α → β → Prop} {a : α} {b : β} (h : F a b) : ∀ {xs : List α} {ys : List β}, Paired F xs ys → Paired F (xs ++ [a]) (ys ++ [b])
  | _, _, .nil => .cons h .nil
  | _, _, .cons k r => .cons k (paired_snoc h r)
theorem Mk.nil (H : Hp) : Mk H H [] [] := ⟨Same.refl H, .nil⟩
theorem Mk.skip {H0 H : Hp} {es cs : List Addr} {p : Addr} {o : HO} (g : Mk H0 H es cs) (n : H p = none) : Mk H0 (upd H p o) es cs := ⟨g.same.trans (Same.new n), paired_map (fun _ _ h => h.same (Same.new n)) g.pr⟩
theorem Mk.on {H0 H G : Hp} {es cs : List Addr} (g : Mk H0 H es cs) (s : Same H G) : Mk H0 G es cs := ⟨g.same.trans s, paired_map (fun _ _ h => h.same s) g.pr⟩
theorem Mk.put {H0 H : Hp} {es cs : List Addr} {a c : Addr} (g : Mk H0 H es cs) (n : H a = none) : Mk H0 (upd H a (ExO (.ref c) a)) (es ++ [a]) (cs ++ [c]) :=
  ⟨g.same.trans (Same.new n), paired_snoc (.msg upd_same) (paired_map (fun _ _ h => h.same (Same.new n)) g.pr)⟩
section
variable {P : Program} {w : World} {K : PySem.W.Frag} {mg : Str → Option Value} {base : Heap} {c0 c1 c2 c3 c4 c5 c6 c7 c8 : Addr}
def spMess (cs : List Addr) : Sp := fun vs H Q _ => ∃ z, vs = [.str z] ∧ ∀ (l : Addr) (es : List Addr) (H' : Hp), Same H H' → H l = none → H' l = some (.lst (es.map V.ref)) → Paired (fun e c => IsE H' e c) es cs → Q (.ref l) H'
theorem scMess : FnScope ["text", "found"] ["text"] (defScope sMess) := ⟨rfl, rfl, rfl, by decide +kernel, rfl, by decide +kernel, by decide +kernel⟩
theorem ok_mess {f : Addr} {fd : FuncData} (F : Fun K "_law_messages" "_law_messages" sMess f fd) (M0 : MsgC K mg "CoverError" c0) (M1 : MsgC K mg "InvalidOperators" c1) (M2 : MsgC K mg "InvalidTree" c2) (M3 : MsgC K mg "InvalidBook" c3) (M4 : MsgC K mg "InvalidCover" c4)
    (M5 : MsgC K mg "InvalidKind" c5) (M6 : MsgC K mg "InvalidState" c6) (M7 : MsgC K mg "InvalidPaper" c7) (M8 : MsgC K mg "InvalidOperation" c8) : FnOk P w K mg base CX0 1 f fd ["text"] (spMess [c0, c1, c2, c3, c4, c5, c6, c7, c8]) := by
  refine F.ok scMess (fun vs H Q E h => ?_) (fun cdv A outer s H vs Q E hr h => ?_)
  · obtain ⟨z, rfl, _⟩ := h
    rfl
  · obtain ⟨z, rfl, q⟩ := h
    refine ⟨_, pss_cons (ps_set (i := 1) scMess.nd rfl (.inl rfl) (pe_lst (pa_cons (pe_exc1 PySem.F.excBase_ValueError M0.q M0.g M0.k (by rfl) (pv 0)) (pa_cons (pe_exc1 PySem.F.excBase_ValueError M1.q M1.g M1.k (by rfl) (pv 0)) (pa_cons (pe_exc1 PySem.F.excBase_ValueError M2.q M2.g M2.k (by rfl) (pv 0)) (pa_cons (pe_exc1 PySem.F.excBase_ValueError M3.q M3.g M3.k (by rfl) (pv 0)) (pa_cons (pe_exc1 PySem.F.excBase_ValueError M4.q M4.g M4.k (by rfl) (pv 0)) pa_nil))))))) (pss_cons (ps_set (i := 1) scMess.nd rfl (.inl rfl) (pe_op op_cat (pv 1) (pe_lst (pa_cons (pe_exc1 PySem.F.excBase_ValueError M5.q M5.g M5.k (by rfl) (pv 0)) (pa_cons (pe_exc1 PySem.F.excBase_ValueError M6.q M6.g M6.k (by rfl) (pv 0)) (pa_cons (pe_exc1 PySem.F.excBase_ValueError M7.q M7.g M7.k (by rfl) (pv 0)) (pa_cons (pe_exc1 PySem.F.excBase_ValueError M8.q M8.g M8.k (by rfl) (pv 0)) pa_nil))))))) (pss_one (ps_ret (pv 1)))), ?_⟩
    refine ⟨_, rfl, fun a0 n0 => ⟨_, rfl, fun a1 n1 => ⟨_, rfl, fun a2 n2 => ⟨_, rfl, fun a3 n3 => ⟨_, rfl, fun a4 n4 => ⟨by show 5 ≤ sizeLine; decide, fun l1 nl1 => ⟨_, rfl, ?_⟩⟩⟩⟩⟩⟩⟩
    have k0 : Mk H (upd H a0 (ExO (.ref c0) a0)) ([] ++ [a0]) ([] ++ [c0]) := (Mk.nil H).put n0
    have k1 := k0.put (c := c1) n1
    have k2 := k1.put (c := c2) n2
    have k3 := k2.put (c := c3) n3
    have k4 := k3.put (c := c4) n4
    have k5 := k4.skip (o := .lst [.ref a0, .ref a1, .ref a2, .ref a3, .ref a4]) nl1
    have h5 := fun (H : Hp) => upd_same (H := H) (a := l1) (o := .lst [.ref a0, .ref a1, .ref a2, .ref a3, .ref a4])
    refine ⟨_, rfl, fun a5 n5 => ⟨_, rfl, fun a6 n6 => ⟨_, rfl, fun a7 n7 => ⟨_, rfl, fun a8 n8 => ⟨by show 4 ≤ sizeLine; decide, fun m nm => ?_⟩⟩⟩⟩⟩
    have k6 := k5.put (c := c5) n5
    have k7 := k6.put (c := c6) n6
    have k8 := k7.put (c := c7) n7
    have k9 := k8.put (c := c8) n8
    have hl : Same (upd _ l1 (.lst [.ref a0, .ref a1, .ref a2, .ref a3, .ref a4])) _ := (((Same.new n5 (o := ExO (.ref c5) a5)).trans (Same.new n6 (o := ExO (.ref c6) a6))).trans (Same.new n7 (o := ExO (.ref c7) a7))).trans (Same.new n8 (o := ExO (.ref c8) a8))
    have hl1 := hl _ _ upd_same
    have k10 := k9.skip (o := .lst [.ref a5, .ref a6, .ref a7, .ref a8]) nm
    refine ⟨l1, m, _, _, rfl, rfl, (Same.new nm) _ _ hl1, upd_same, by show 9 ≤ sizeLine; decide, fun l2 nl2 => ⟨_, rfl, ?_⟩⟩
    have k11 := k10.skip (o := .lst ([.ref a0, .ref a1, .ref a2, .ref a3, .ref a4] ++ [.ref a5, .ref a6, .ref a7, .ref a8])) nl2
    exact q l2 [a0, a1, a2, a3, a4, a5, a6, a7, a8] _ k11.same (k10.same.free nl2) upd_same k11.pr
end
end Pr
namespace Pr
open PySem PySem.Spec PyProof.Rows L2 Gd
/-! ### errors that keep something -/
theorem fg0000001 : figs [false, false, false, false, false, false, true] = ("0000001" : Str) := by decide +kernel
theorem fg0000011 : figs [false, false, false, false, false, true, true] = ("0000011" : Str) := by decide +kernel
theorem fg0000100 : figs [false, false, false, false, true, false, false] = ("0000100" : Str) := by decide +kernel
theorem fg0010000 : figs [false, false, true, false, false, false, false] = ("0010000" : Str) := by decide +kernel
theorem fg0011000 : figs [false, false, true, true, false, false, false] = ("0011000" : Str) := by decide +kernel
theorem fg0110000 : figs [false, true, true, false, false, false, false] = ("0110000" : Str) := by decide +kernel
theorem fg1000000 : figs [true, false, false, false, false, false, false] = ("1000000" : Str) := by decide +kernel
def Kt (H : Hp) (e c : Addr) (wd : Str) (v : V) : Prop := ∃ d, H e = some (EO c d e) ∧ H d = some (.xd [(wd, v)])
theorem Kt.same {H H' : Hp} {e c : Addr} {wd : Str} {v : V} (k : Kt H e c wd v) (s : Same H H') : Kt H' e c wd v := let ⟨d, a, b⟩ := k; ⟨d, s _ _ a, s _ _ b⟩
theorem own_step {H : Hp} {d e C : Addr} {wd : Str} {v : V} (nd : H d = none) (ne : H e = none) (dn : d ≠ e) :
    Same H (upd (upd H d (.xd [(wd, v)])) e (EO C d e)) ∧ Kt (upd (upd H d (.xd [(wd, v)])) e (EO C d e)) e C wd v := by
  have n2 : upd H d (.xd [(wd, v)]) e = none := by
    rw [upd_ne (Ne.symm dn)]
    exact ne
  exact ⟨(Same.new nd).trans (Same.new n2), d, upd_same, by rw [upd_ne dn, upd_same]⟩
/-- an error that may be asked, and what it is told to be -/
def Er (K : PySem.W.Frag) (cs : List Value) (H : Hp) (e : Addr) (x : List Bool × List Bool) : Prop := ∃ D, IsE H e D ∧ Ct K cs D x.1 x.2
theorem er_get {K : PySem.W.Frag} {cs : List Value} {H : Hp} : ∀ {es : List Addr} {xs : List (List Bool × List Bool)} {i : Nat} {x : V}, Paired (Er K cs H) es xs → (es.map V.ref)[i]? = some x → ∃ e a, x = .ref e ∧ xs[i]? = some a ∧ Er K cs H e a
  | _, _, 0, _, .cons h r, e => ⟨_, _, (Option.some.inj e).symm, rfl, h⟩
  | _, _, i + 1, _, .cons h r, e => er_get (i := i) r e
theorem paired_cons {α β : Type} {F : α → β → Prop} {xs : List α} {b : β} {bs : List β} (h : Paired F xs (b :: bs)) : ∃ a as, xs = a :: as ∧ F a b ∧ Paired F as bs := by
  cases h with
  | cons h r => exact ⟨_, _, rfl, h, r⟩
theorem eight {H : Hp} {v : V} {t : Str} (h : Sh H 4 v t) : Paired (Sh H 4) [v, v, v, v, v, v, v, v] [t, t, t, t, t, t, t, t] := .cons h (.cons h (.cons h (.cons h (.cons h (.cons h (.cons h (.cons h .nil)))))))
theorem eight_len {t : Str} (h : t.length ≤ 400000) : (listText [t, t, t, t, t, t, t, t]).length ≤ sizeLine := by
  have k := listText_len_le [t, t, t, t, t, t, t, t]
  simp only [List.map_cons, List.map_nil, List.sum_cons, List.sum_nil, List.length_cons, List.length_nil] at k
  rw [sizeLine_eq]
  omega
structure Asks (K : PySem.W.Frag) (mg : Str → Option Value) (fO fP : Addr) (dO dP : FuncData) : Prop where
  FO : Fun K "_law_own" "_law_own" sOwn fO dO
  bO : Binds K dO ["error"] []
  gO : mg "_law_own" = some (.ref fO)
  FP : Fun K "_law_python" "_law_python" sPython fP dP
  bP : Binds K dP ["error"] []
  gP : mg "_law_python" = some (.ref fP)
section
variable {P : Program} {w : World} {K : PySem.W.Frag} {mg : Str → Option Value} {base : Heap} {c0 c1 c2 c3 c4 c5 c6 c7 c8 c9 c10 c11 c12 c13 c14 c15 c16 fO fP : Addr} {dO dP : FuncData}
def spKept : Sp := fun vs H Q _ => ∃ v : V, vs = [v] ∧ Vd H 4 400000 v ∧ ∀ H', Same H H' → Q (.bl true) H'
theorem scKept : FnScope ["value", "errors", "kept", "told", "due", "error"] ["value"] (defScope sKept) := ⟨rfl, rfl, rfl, by decide +kernel, rfl, by decide +kernel, by decide +kernel⟩
theorem ok_kept {f : Addr} {fd : FuncData} (F : Fun K "_law_kept" "_law_kept" sKept f fd) (T : Free mg) (N : Where mg c0 c1 c2 c3 c4 c5 c6 c7 c8 c9 c10 c11 c12 c13 c14 c15 c16) (A : Asks K mg fO fP dO dP) (O9 : PySem.ErrO.OwnC K mg "ParseError" "number" c9) (O10 : PySem.ErrO.OwnC K mg "UnknownName" "word" c10) (O11 : PySem.ErrO.OwnC K mg "NotCovered" "uncovered" c11) (O12 : PySem.ErrO.OwnC K mg "InvalidNumber" "value" c12) (O13 : PySem.ErrO.OwnC K mg "NothingToUndo" "many" c13) (O14 : PySem.ErrO.OwnC K mg "TooMany" "limit" c14) (O15 : PySem.ErrO.OwnC K mg "Stuck" "place" c15) (O16 : PySem.ErrO.OwnC K mg "Refused" "pledge" c16)
    (Z9 : Ct K (clsL c0 c1 c2 c3 c4 c5 c6 c7 c8 c9 c10 c11 c12 c13 c14 c15 c16) c9 [true, false, false, false, false, false, false, false, false, true, false, false, false, false, false, false, false] [true, false, false, false, false, false, false]) (Z10 : Ct K (clsL c0 c1 c2 c3 c4 c5 c6 c7 c8 c9 c10 c11 c12 c13 c14 c15 c16) c10 [false, false, false, false, false, false, false, false, false, false, true, false, false, false, false, false, false] [false, true, true, false, false, false, false]) (Z11 : Ct K (clsL c0 c1 c2 c3 c4 c5 c6 c7 c8 c9 c10 c11 c12 c13 c14 c15 c16) c11 [false, false, false, false, false, false, false, false, false, false, false, true, false, false, false, false, false] [false, false, true, false, false, false, false]) (Z12 : Ct K (clsL c0 c1 c2 c3 c4 c5 c6 c7 c8 c9 c10 c11 c12 c13 c14 c15 c16) c12 [false, false, false, false, false, false, false, false, false, false, false, false, true, false, false, false, false] [false, false, true, true, false, false, false]) (Z13 : Ct K (clsL c0 c1 c2 c3 c4 c5 c6 c7 c8 c9 c10 c11 c12 c13 c14 c15 c16) c13 [false, false, false, false, false, false, false, false, false, false, false, false, false, true, false, false, false] [false, false, false, false, true, false, false]) (Z14 : Ct K (clsL c0 c1 c2 c3 c4 c5 c6 c7 c8 c9 c10 c11 c12 c13 c14 c15 c16) c14 [false, false, false, false, false, false, false, false, false, false, false, false, false, false, true, false, false] [false, false, false, false, false, true, true]) (Z15 : Ct K (clsL c0 c1 c2 c3 c4 c5 c6 c7 c8 c9 c10 c11 c12 c13 c14 c15 c16) c15 [false, false, false, false, false, false, false, false, false, false, false, false, false, false, false, true, false] [false, false, false, false, false, false, true]) (Z16 : Ct K (clsL c0 c1 c2 c3 c4 c5 c6 c7 c8 c9 c10 c11 c12 c13 c14 c15 c16) c16 [false, false, false, false, false, false, false, false, false, false, false, false, false, false, false, false, true] [false, false, false, false, false, false, true]) : FnG P w K mg base CX0 2 f fd ["value"] spKept := by
  have GO : FnOk P w K mg base CX0 1 fO dO ["error"] (spOwn K (clsL c0 c1 c2 c3 c4 c5 c6 c7 c8 c9 c10 c11 c12 c13 c14 c15 c16)) := ok_own A.FO T N
  have GP : FnOk P w K mg base CX0 1 fP dP ["error"] (spPython K (clsL c0 c1 c2 c3 c4 c5 c6 c7 c8 c9 c10 c11 c12 c13 c14 c15 c16)) := ok_python A.FP T
  refine FnG.ok F scKept (fun vs H Q E h => ?_) (fun cdv A0 outer s H vs Q E hr gd h => ?_)
  · obtain ⟨v, rfl, _⟩ := h
    rfl
  · obtain ⟨v, rfl, hv, q⟩ := h
    have r1 : Room 1 _ := hr
    have hu := hr.units
    refine ⟨_, pss_cons (ps_set (i := 1) scKept.nd rfl (.inl rfl) (pe_lst (pa_cons (pe_own O9 r1 (pa_cons (pv 0) pa_nil) (by rfl)) (pa_cons (pe_own O10 r1 (pa_cons (pv 0) pa_nil) (by rfl)) (pa_cons (pe_own O11 r1 (pa_cons (pv 0) pa_nil) (by rfl)) (pa_cons (pe_own O12 r1 (pa_cons (pv 0) pa_nil) (by rfl)) (pa_cons (pe_own O13 r1 (pa_cons (pv 0) pa_nil) (by rfl)) pa_nil))))))) (pss_cons (ps_set (i := 1) scKept.nd rfl (.inl rfl) (pe_op op_cat (pv 1) (pe_lst (pa_cons (pe_own O14 r1 (pa_cons (pv 0) pa_nil) (by rfl)) (pa_cons (pe_own O15 r1 (pa_cons (pv 0) pa_nil) (by rfl)) (pa_cons (pe_own O16 r1 (pa_cons (pv 0) pa_nil) (by rfl)) pa_nil)))))) (pss_cons (ps_set (i := 2) scKept.nd rfl (.inl rfl) (pe_lst (pa_cons (pe_kept (pe_ix ix_list (pv 1) pe_int (fun _ _ => rfl))) (pa_cons (pe_kept (pe_ix ix_list (pv 1) pe_int (fun _ _ => rfl))) (pa_cons (pe_kept (pe_ix ix_list (pv 1) pe_int (fun _ _ => rfl))) (pa_cons (pe_kept (pe_ix ix_list (pv 1) pe_int (fun _ _ => rfl))) (pa_cons (pe_kept (pe_ix ix_list (pv 1) pe_int (fun _ _ => rfl))) (pa_cons (pe_kept (pe_ix ix_list (pv 1) pe_int (fun _ _ => rfl))) pa_nil)))))))) (pss_cons (ps_set (i := 2) scKept.nd rfl (.inl rfl) (pe_op op_cat (pv 2) (pe_lst (pa_cons (pe_kept (pe_ix ix_list (pv 1) pe_int (fun _ _ => rfl))) (pa_cons (pe_kept (pe_ix ix_list (pv 1) pe_int (fun _ _ => rfl))) pa_nil))))) (pss_cons (ps_if (pt_cmpR op_ne (pe_callB (call_repr gd hu) (by rfl) T.repr (by decide +kernel) (pa_cons (pv 2) pa_nil)) (pe_callB (call_repr gd hu) (by rfl) T.repr (by decide +kernel) (pa_cons (pe_op op_rep (pe_lst (pa_cons (pv 0) pa_nil)) pe_int) pa_nil)) (nomark _)) (pss_one (ps_ret pe_bl)) pss_nil) (pss_cons (ps_setLc (i := 3) (own := [("error", 5)]) (g := gName 5) (by rfl) scKept.nd rfl rfl (sw_true rfl rfl rfl (by decide +kernel)) (pi_list (pv 1)) (blkOk_by (own := [("error", 5)]) (N := ["value", "errors", "kept", "told", "due", "error"]) (sc := defScope sKept) (by decide +kernel)) (fun _ _ _ _ _ => pg_name (i := 5) scKept.nd rfl (Or.inl rfl)) (fun _ _ _ _ _ => pts_nil) (fun _ _ _ _ _ => pe_call GO r1 (by rfl) A.gO A.FO.kp A.bO .nil pass0 (pa_cons (pv 5) pa_nil))) (pss_cons (ps_if (pt_cmpR (op_neD hu) (pv 3) (pe_lst (pa_cons (pe_lst (pa_cons pe_int (pa_cons pe_int pa_nil))) (pa_cons (pe_lst (pa_cons pe_int pa_nil)) (pa_cons (pe_lst (pa_cons pe_int pa_nil)) (pa_cons (pe_lst (pa_cons pe_int pa_nil)) (pa_cons (pe_lst (pa_cons pe_int pa_nil)) (pa_cons (pe_lst (pa_cons pe_int pa_nil)) (pa_cons (pe_lst (pa_cons pe_int pa_nil)) (pa_cons (pe_lst (pa_cons pe_int pa_nil)) pa_nil))))))))) (nomark _)) (pss_one (ps_ret pe_bl)) pss_nil) (pss_cons (ps_set (i := 4) scKept.nd rfl (.inl rfl) (pe_lst (pa_cons pe_str (pa_cons pe_str (pa_cons pe_str (pa_cons pe_str (pa_cons pe_str (pa_cons pe_str (pa_cons pe_str (pa_cons pe_str pa_nil)))))))))) (pss_one (ps_ret (pe_cmpR (op_eqD hu) (pe_lc (own := [("error", 5)]) (g := gName 5) (by rfl) scKept.nd (pi_list (pv 1)) (blkOk_by (own := [("error", 5)]) (N := ["value", "errors", "kept", "told", "due", "error"]) (sc := defScope sKept) (by decide +kernel)) (fun _ _ _ _ _ => pg_name (i := 5) scKept.nd rfl (Or.inl rfl)) (fun _ _ _ _ _ => pts_nil) (fun _ _ _ _ _ => pe_call GP r1 (by rfl) A.gP A.FP.kp A.bP .nil pass0 (pa_cons (pv 5) pa_nil))) (pv 4) (nomark _))))))))))), ?_⟩
    obtain ⟨tx, sh, txl⟩ := hv.sm
    refine ⟨_, rfl, _, rfl, fun d9 e9 nd9 ne9 dn9 => ?_⟩
    obtain ⟨t9, x9⟩ := own_step (wd := ("number" : Str)) (v := v) (C := c9) nd9 ne9 dn9
    generalize upd (upd H d9 (.xd [(("number" : Str), v)])) e9 (EO c9 d9 e9) = H9 at t9 x9 ⊢
    refine ⟨_, rfl, _, rfl, fun d10 e10 nd10 ne10 dn10 => ?_⟩
    obtain ⟨t10, x10⟩ := own_step (wd := ("word" : Str)) (v := v) (C := c10) nd10 ne10 dn10
    generalize upd (upd H9 d10 (.xd [(("word" : Str), v)])) e10 (EO c10 d10 e10) = H10 at t10 x10 ⊢
    refine ⟨_, rfl, _, rfl, fun d11 e11 nd11 ne11 dn11 => ?_⟩
    obtain ⟨t11, x11⟩ := own_step (wd := ("uncovered" : Str)) (v := v) (C := c11) nd11 ne11 dn11
    generalize upd (upd H10 d11 (.xd [(("uncovered" : Str), v)])) e11 (EO c11 d11 e11) = H11 at t11 x11 ⊢
    refine ⟨_, rfl, _, rfl, fun d12 e12 nd12 ne12 dn12 => ?_⟩
    obtain ⟨t12, x12⟩ := own_step (wd := ("value" : Str)) (v := v) (C := c12) nd12 ne12 dn12
    generalize upd (upd H11 d12 (.xd [(("value" : Str), v)])) e12 (EO c12 d12 e12) = H12 at t12 x12 ⊢
    refine ⟨_, rfl, _, rfl, fun d13 e13 nd13 ne13 dn13 => ?_⟩
    obtain ⟨t13, x13⟩ := own_step (wd := ("many" : Str)) (v := v) (C := c13) nd13 ne13 dn13
    generalize upd (upd H12 d13 (.xd [(("many" : Str), v)])) e13 (EO c13 d13 e13) = H13 at t13 x13 ⊢
    refine ⟨by show 5 ≤ sizeLine; decide, fun l1 nl1 => ?_⟩
    have h1 : upd H13 l1 (.lst [.ref e9, .ref e10, .ref e11, .ref e12, .ref e13]) l1 = some (.lst [.ref e9, .ref e10, .ref e11, .ref e12, .ref e13]) := upd_same
    have tl : Same H13 (upd H13 l1 (.lst [.ref e9, .ref e10, .ref e11, .ref e12, .ref e13])) := Same.new nl1
    generalize upd H13 l1 (.lst [.ref e9, .ref e10, .ref e11, .ref e12, .ref e13]) = Ha at tl h1 ⊢
    refine ⟨_, rfl, ?_⟩
    refine ⟨_, rfl, _, rfl, fun d14 e14 nd14 ne14 dn14 => ?_⟩
    obtain ⟨t14, x14⟩ := own_step (wd := ("limit" : Str)) (v := v) (C := c14) nd14 ne14 dn14
    generalize upd (upd Ha d14 (.xd [(("limit" : Str), v)])) e14 (EO c14 d14 e14) = H14 at t14 x14 ⊢
    refine ⟨_, rfl, _, rfl, fun d15 e15 nd15 ne15 dn15 => ?_⟩
    obtain ⟨t15, x15⟩ := own_step (wd := ("place" : Str)) (v := v) (C := c15) nd15 ne15 dn15
    generalize upd (upd H14 d15 (.xd [(("place" : Str), v)])) e15 (EO c15 d15 e15) = H15 at t15 x15 ⊢
    refine ⟨_, rfl, _, rfl, fun d16 e16 nd16 ne16 dn16 => ?_⟩
    obtain ⟨t16, x16⟩ := own_step (wd := ("pledge" : Str)) (v := v) (C := c16) nd16 ne16 dn16
    generalize upd (upd H15 d16 (.xd [(("pledge" : Str), v)])) e16 (EO c16 d16 e16) = H16 at t16 x16 ⊢
    have tb : Same Ha H16 := (t14.trans t15).trans t16
    refine ⟨by show 3 ≤ sizeLine; decide, fun m1 nm1 => ⟨l1, m1, _, _, rfl, rfl, (Same.new nm1) _ _ (tb _ _ h1), upd_same, by show 8 ≤ sizeLine; decide, fun l2 nl2 => ?_⟩⟩
    have tc : Same H16 (upd (upd H16 m1 (.lst [.ref e14, .ref e15, .ref e16])) l2 (.lst ([.ref e9, .ref e10, .ref e11, .ref e12, .ref e13] ++ [.ref e14, .ref e15, .ref e16]))) := (Same.new nm1).trans (Same.new nl2)
    have h2 : (upd (upd H16 m1 (.lst [.ref e14, .ref e15, .ref e16])) l2 (.lst ([.ref e9, .ref e10, .ref e11, .ref e12, .ref e13] ++ [.ref e14, .ref e15, .ref e16]))) l2 = some (.lst [.ref e9, .ref e10, .ref e11, .ref e12, .ref e13, .ref e14, .ref e15, .ref e16]) := upd_same
    generalize upd (upd H16 m1 (.lst [.ref e14, .ref e15, .ref e16])) l2 (.lst ([.ref e9, .ref e10, .ref e11, .ref e12, .ref e13] ++ [.ref e14, .ref e15, .ref e16])) = Hx at tc h2 ⊢
    have sx : Same H Hx := (((((((((t9.trans t10).trans t11).trans t12).trans t13).trans tl).trans t14).trans t15).trans t16).trans tc)
    have y9 := x9.same ((((((((t10.trans t11).trans t12).trans t13).trans tl).trans t14).trans t15).trans t16).trans tc)
    have y10 := x10.same (((((((t11.trans t12).trans t13).trans tl).trans t14).trans t15).trans t16).trans tc)
    have y11 := x11.same ((((((t12.trans t13).trans tl).trans t14).trans t15).trans t16).trans tc)
    have y12 := x12.same (((((t13.trans tl).trans t14).trans t15).trans t16).trans tc)
    have y13 := x13.same ((((tl.trans t14).trans t15).trans t16).trans tc)
    have y14 := x14.same ((t15.trans t16).trans tc)
    have y15 := x15.same (t16.trans tc)
    have y16 := x16.same tc
    obtain ⟨f9, u9, v9⟩ := y9
    obtain ⟨f10, u10, v10⟩ := y10
    obtain ⟨f11, u11, v11⟩ := y11
    obtain ⟨f12, u12, v12⟩ := y12
    obtain ⟨f13, u13, v13⟩ := y13
    obtain ⟨f14, u14, v14⟩ := y14
    obtain ⟨f15, u15, v15⟩ := y15
    obtain ⟨f16, u16, v16⟩ := y16
    refine ⟨_, rfl, l2, _, _, _, rfl, rfl, SqL.of h2, rfl, e9, c9, f9, v, rfl, ⟨O9.ga, O9.gg, O9.exC, O9.hdC, O9.noN⟩, u9, v9, ⟨_, rfl, l2, _, _, _, rfl, rfl, SqL.of h2, rfl, e10, c10, f10, v, rfl, ⟨O10.ga, O10.gg, O10.exC, O10.hdC, O10.noN⟩, u10, v10, ⟨_, rfl, l2, _, _, _, rfl, rfl, SqL.of h2, rfl, e11, c11, f11, v, rfl, ⟨O11.ga, O11.gg, O11.exC, O11.hdC, O11.noN⟩, u11, v11, ⟨_, rfl, l2, _, _, _, rfl, rfl, SqL.of h2, rfl, e12, c12, f12, v, rfl, ⟨O12.ga, O12.gg, O12.exC, O12.hdC, O12.noN⟩, u12, v12, ⟨_, rfl, l2, _, _, _, rfl, rfl, SqL.of h2, rfl, e13, c13, f13, v, rfl, ⟨O13.ga, O13.gg, O13.exC, O13.hdC, O13.noN⟩, u13, v13, ⟨_, rfl, l2, _, _, _, rfl, rfl, SqL.of h2, rfl, e14, c14, f14, v, rfl, ⟨O14.ga, O14.gg, O14.exC, O14.hdC, O14.noN⟩, u14, v14, ⟨by show 6 ≤ sizeLine; decide, fun q1 nq1 => ⟨_, rfl, ?_⟩⟩⟩⟩⟩⟩⟩⟩
    have s1 : Same Hx (upd Hx q1 (.lst [v, v, v, v, v, v])) := Same.new nq1
    have g1 : upd Hx q1 (.lst [v, v, v, v, v, v]) q1 = some (.lst [v, v, v, v, v, v]) := upd_same
    generalize upd Hx q1 (.lst [v, v, v, v, v, v]) = Hk at s1 g1 ⊢
    refine ⟨_, rfl, l2, _, _, _, rfl, rfl, SqL.of (s1 _ _ h2), rfl, e15, c15, f15, v, rfl, ⟨O15.ga, O15.gg, O15.exC, O15.hdC, O15.noN⟩, (s1 _ _ u15), (s1 _ _ v15), ⟨_, rfl, l2, _, _, _, rfl, rfl, SqL.of (s1 _ _ h2), rfl, e16, c16, f16, v, rfl, ⟨O16.ga, O16.gg, O16.exC, O16.hdC, O16.noN⟩, (s1 _ _ u16), (s1 _ _ v16), ⟨by show 2 ≤ sizeLine; decide, fun q2 nq2 => ⟨q1, q2, _, _, rfl, rfl, (Same.new nq2) _ _ g1, upd_same, by show 8 ≤ sizeLine; decide, fun q3 nq3 => ?_⟩⟩⟩⟩
    have s2 : Same Hx (upd (upd Hk q2 (.lst [v, v])) q3 (.lst ([v, v, v, v, v, v] ++ [v, v]))) := (s1.trans (Same.new nq2)).trans (Same.new nq3)
    have g3 : (upd (upd Hk q2 (.lst [v, v])) q3 (.lst ([v, v, v, v, v, v] ++ [v, v]))) q3 = some (.lst [v, v, v, v, v, v, v, v]) := upd_same
    generalize upd (upd Hk q2 (.lst [v, v])) q3 (.lst ([v, v, v, v, v, v] ++ [v, v])) = Hm1 at s2 g3 ⊢
    have sh1 := (Sh.lst g3 (n := 4) (ts := [tx, tx, tx, tx, tx, tx, tx, tx]) (eight (Sh.keep (sx.trans s2) 4 v tx sh)))
    refine ⟨_, rfl, .ref q3, 5, _, rfl, sh1, by decide, eight_len txl, _, rfl, by show 1 ≤ sizeLine; decide, fun q4 nq4 => ⟨q4, 8, [v], rfl, rfl, upd_same, by decide, by decide, by show 1 * 8 ≤ sizeLine; decide, fun q5 nq5 => ?_⟩⟩
    have s3 : Same Hx (upd (upd Hm1 q4 (.lst [v])) q5 (.lst (List.replicate (8 : Int).toNat [v]).flatten)) := (s2.trans (Same.new nq4)).trans (Same.new nq5)
    have g5 : (upd (upd Hm1 q4 (.lst [v])) q5 (.lst (List.replicate (8 : Int).toNat [v]).flatten)) q5 = some (.lst [v, v, v, v, v, v, v, v]) := upd_same
    generalize upd (upd Hm1 q4 (.lst [v])) q5 (.lst (List.replicate (8 : Int).toNat [v]).flatten) = Hr at s3 g5 ⊢
    have sh2 := (Sh.lst g5 (n := 4) (ts := [tx, tx, tx, tx, tx, tx, tx, tx]) (eight (Sh.keep (sx.trans s3) 4 v tx sh)))
    refine ⟨.ref q5, 5, _, rfl, sh2, by decide, eight_len txl, rfl, _, rfl, iteNS rfl ?_⟩
    refine ⟨_, rfl, l2, rfl, ⟨_, SqL.of (s3 _ _ h2)⟩, fun D1 nD => ?_⟩
    have er : Paired (Er K (clsL c0 c1 c2 c3 c4 c5 c6 c7 c8 c9 c10 c11 c12 c13 c14 c15 c16) Hr) [e9, e10, e11, e12, e13, e14, e15, e16] [([true, false, false, false, false, false, false, false, false, true, false, false, false, false, false, false, false], [true, false, false, false, false, false, false]), ([false, false, false, false, false, false, false, false, false, false, true, false, false, false, false, false, false], [false, true, true, false, false, false, false]), ([false, false, false, false, false, false, false, false, false, false, false, true, false, false, false, false, false], [false, false, true, false, false, false, false]), ([false, false, false, false, false, false, false, false, false, false, false, false, true, false, false, false, false], [false, false, true, true, false, false, false]), ([false, false, false, false, false, false, false, false, false, false, false, false, false, true, false, false, false], [false, false, false, false, true, false, false]), ([false, false, false, false, false, false, false, false, false, false, false, false, false, false, true, false, false], [false, false, false, false, false, true, true]), ([false, false, false, false, false, false, false, false, false, false, false, false, false, false, false, true, false], [false, false, false, false, false, false, true]), ([false, false, false, false, false, false, false, false, false, false, false, false, false, false, false, false, true], [false, false, false, false, false, false, true])] := (.cons ⟨c9, .own (s3 _ _ u9) (s3 _ _ v9), Z9⟩ (.cons ⟨c10, .own (s3 _ _ u10) (s3 _ _ v10), Z10⟩ (.cons ⟨c11, .own (s3 _ _ u11) (s3 _ _ v11), Z11⟩ (.cons ⟨c12, .own (s3 _ _ u12) (s3 _ _ v12), Z12⟩ (.cons ⟨c13, .own (s3 _ _ u13) (s3 _ _ v13), Z13⟩ (.cons ⟨c14, .own (s3 _ _ u14) (s3 _ _ v14), Z14⟩ (.cons ⟨c15, .own (s3 _ _ u15) (s3 _ _ v15), Z15⟩ (.cons ⟨c16, .own (s3 _ _ u16) (s3 _ _ v16), Z16⟩ .nil))))))))
    obtain ⟨infos, einf⟩ : ∃ xs : List (List Bool × List Bool), xs = [([true, false, false, false, false, false, false, false, false, true, false, false, false, false, false, false, false], [true, false, false, false, false, false, false]), ([false, false, false, false, false, false, false, false, false, false, true, false, false, false, false, false, false], [false, true, true, false, false, false, false]), ([false, false, false, false, false, false, false, false, false, false, false, true, false, false, false, false, false], [false, false, true, false, false, false, false]), ([false, false, false, false, false, false, false, false, false, false, false, false, true, false, false, false, false], [false, false, true, true, false, false, false]), ([false, false, false, false, false, false, false, false, false, false, false, false, false, true, false, false, false], [false, false, false, false, true, false, false]), ([false, false, false, false, false, false, false, false, false, false, false, false, false, false, true, false, false], [false, false, false, false, false, true, true]), ([false, false, false, false, false, false, false, false, false, false, false, false, false, false, false, true, false], [false, false, false, false, false, false, true]), ([false, false, false, false, false, false, false, false, false, false, false, false, false, false, false, false, true], [false, false, false, false, false, false, true])] := ⟨_, rfl⟩
    rw [← einf] at er
    have nb : infos.length = 8 := by rw [einf]; rfl
    refine lc_list (K := K) (a := l2) (xs := [e9, e10, e11, e12, e13, e14, e15, e16].map V.ref) (fun i G => ∃ rs : List Addr, G D1 = some (.lst (rs.map V.ref)) ∧ Paired (fun r (x : List Bool × List Bool) => r ≠ D1 ∧ G r = some (.lst (idx 0 x.1))) rs (infos.take i) ∧ Same Hr G)
      ⟨[], upd_same, .nil, Same.new nD⟩ (fun i G _ ⟨_, _, _, s⟩ => SqL.of (s _ _ (s3 _ _ h2))) ?_ ?_
    · rintro i x G hx ⟨rs, eD, pr, s⟩
      obtain ⟨e, a, rfl, ha, D, he, hz⟩ := er_get er hx
      refine ⟨rfl, _, rfl, e, D, a.1, a.2, rfl, he.same s, hz, fun r G2 s2 nr hr2 => ⟨_, s2 _ _ eD, ?_, rs ++ [r], ?_, ?_, fun b o q => by rw [upd_ne (ne_of_none q nD)]; exact s2 _ _ (s _ _ q)⟩⟩
      · have := pr.length
        rw [List.length_take] at this
        rw [List.length_map, sizeLine_eq]
        omega
      · rw [upd_same, List.map_append]
        rfl
      · rw [List.take_add_one, ha]
        have rD : r ≠ D1 := fun q => by
          rw [q, eD] at nr
          cases nr
        refine paired_snoc ⟨rD, by rw [upd_ne rD]; exact hr2⟩ (paired_map (fun _ _ q => ⟨q.1, by rw [upd_ne q.1]; exact s2 _ _ q.2⟩) pr)
    rintro G0 ⟨rs, eD, pr, s4⟩
    have pr : Paired (fun r (x : List Bool × List Bool) => r ≠ D1 ∧ G0 r = some (.lst (idx 0 x.1))) rs infos := by
      have q := List.take_of_length_le (l := infos) (i := 8) (Nat.le_of_eq nb)
      have pr2 : Paired (fun r (x : List Bool × List Bool) => r ≠ D1 ∧ G0 r = some (.lst (idx 0 x.1))) rs (infos.take 8) := pr
      rw [q] at pr2
      exact pr2
    rw [einf] at pr
    obtain ⟨r0, ps0, rfl, w0, pr⟩ := paired_cons pr
    obtain ⟨r1, ps1, rfl, w1, pr⟩ := paired_cons pr
    obtain ⟨r2, ps2, rfl, w2, pr⟩ := paired_cons pr
    obtain ⟨r3, ps3, rfl, w3, pr⟩ := paired_cons pr
    obtain ⟨r4, ps4, rfl, w4, pr⟩ := paired_cons pr
    obtain ⟨r5, ps5, rfl, w5, pr⟩ := paired_cons pr
    obtain ⟨r6, ps6, rfl, w6, pr⟩ := paired_cons pr
    obtain ⟨r7, ps7, rfl, w7, pr⟩ := paired_cons pr
    cases pr
    refine ⟨_, rfl, ?_⟩
    refine ⟨by show 2 ≤ sizeLine; decide, fun p0 np0 => ⟨by show 1 ≤ sizeLine; decide, fun p1 np1 => ⟨by show 1 ≤ sizeLine; decide, fun p2 np2 => ⟨by show 1 ≤ sizeLine; decide, fun p3 np3 => ⟨by show 1 ≤ sizeLine; decide, fun p4 np4 => ⟨by show 1 ≤ sizeLine; decide, fun p5 np5 => ⟨by show 1 ≤ sizeLine; decide, fun p6 np6 => ⟨by show 1 ≤ sizeLine; decide, fun p7 np7 => ⟨by show 8 ≤ sizeLine; decide, fun pl npl => ?_⟩⟩⟩⟩⟩⟩⟩⟩⟩
    have z0 := ((Same.new np1 (o := .lst [.int 10])).trans ((Same.new np2 (o := .lst [.int 11])).trans ((Same.new np3 (o := .lst [.int 12])).trans ((Same.new np4 (o := .lst [.int 13])).trans ((Same.new np5 (o := .lst [.int 14])).trans ((Same.new np6 (o := .lst [.int 15])).trans ((Same.new np7 (o := .lst [.int 16])).trans (Same.new npl (o := .lst [.ref p0, .ref p1, .ref p2, .ref p3, .ref p4, .ref p5, .ref p6, .ref p7]))))))))) _ _ (upd_same (a := p0) (o := .lst [.int 0, .int 9]))
    have z1 := ((Same.new np2 (o := .lst [.int 11])).trans ((Same.new np3 (o := .lst [.int 12])).trans ((Same.new np4 (o := .lst [.int 13])).trans ((Same.new np5 (o := .lst [.int 14])).trans ((Same.new np6 (o := .lst [.int 15])).trans ((Same.new np7 (o := .lst [.int 16])).trans (Same.new npl (o := .lst [.ref p0, .ref p1, .ref p2, .ref p3, .ref p4, .ref p5, .ref p6, .ref p7])))))))) _ _ (upd_same (a := p1) (o := .lst [.int 10]))
    have z2 := ((Same.new np3 (o := .lst [.int 12])).trans ((Same.new np4 (o := .lst [.int 13])).trans ((Same.new np5 (o := .lst [.int 14])).trans ((Same.new np6 (o := .lst [.int 15])).trans ((Same.new np7 (o := .lst [.int 16])).trans (Same.new npl (o := .lst [.ref p0, .ref p1, .ref p2, .ref p3, .ref p4, .ref p5, .ref p6, .ref p7]))))))) _ _ (upd_same (a := p2) (o := .lst [.int 11]))
    have z3 := ((Same.new np4 (o := .lst [.int 13])).trans ((Same.new np5 (o := .lst [.int 14])).trans ((Same.new np6 (o := .lst [.int 15])).trans ((Same.new np7 (o := .lst [.int 16])).trans (Same.new npl (o := .lst [.ref p0, .ref p1, .ref p2, .ref p3, .ref p4, .ref p5, .ref p6, .ref p7])))))) _ _ (upd_same (a := p3) (o := .lst [.int 12]))
    have z4 := ((Same.new np5 (o := .lst [.int 14])).trans ((Same.new np6 (o := .lst [.int 15])).trans ((Same.new np7 (o := .lst [.int 16])).trans (Same.new npl (o := .lst [.ref p0, .ref p1, .ref p2, .ref p3, .ref p4, .ref p5, .ref p6, .ref p7]))))) _ _ (upd_same (a := p4) (o := .lst [.int 13]))
    have z5 := ((Same.new np6 (o := .lst [.int 15])).trans ((Same.new np7 (o := .lst [.int 16])).trans (Same.new npl (o := .lst [.ref p0, .ref p1, .ref p2, .ref p3, .ref p4, .ref p5, .ref p6, .ref p7])))) _ _ (upd_same (a := p5) (o := .lst [.int 14]))
    have z6 := ((Same.new np7 (o := .lst [.int 16])).trans (Same.new npl (o := .lst [.ref p0, .ref p1, .ref p2, .ref p3, .ref p4, .ref p5, .ref p6, .ref p7]))) _ _ (upd_same (a := p6) (o := .lst [.int 15]))
    have z7 := (Same.new npl (o := .lst [.ref p0, .ref p1, .ref p2, .ref p3, .ref p4, .ref p5, .ref p6, .ref p7])) _ _ (upd_same (a := p7) (o := .lst [.int 16]))
    have s5 := ((Same.new np0 (o := .lst [.int 0, .int 9])).trans ((Same.new np1 (o := .lst [.int 10])).trans ((Same.new np2 (o := .lst [.int 11])).trans ((Same.new np3 (o := .lst [.int 12])).trans ((Same.new np4 (o := .lst [.int 13])).trans ((Same.new np5 (o := .lst [.int 14])).trans ((Same.new np6 (o := .lst [.int 15])).trans ((Same.new np7 (o := .lst [.int 16])).trans (Same.new npl (o := .lst [.ref p0, .ref p1, .ref p2, .ref p3, .ref p4, .ref p5, .ref p6, .ref p7]))))))))))
    refine ⟨_, _, .lst (SqL.of (s5 _ _ eD)) (.cons (.lst (SqL.of (s5 _ _ w0.2)) (.cons (.int _) (.cons (.int _) .nil))) (.cons (.lst (SqL.of (s5 _ _ w1.2)) (.cons (.int _) .nil)) (.cons (.lst (SqL.of (s5 _ _ w2.2)) (.cons (.int _) .nil)) (.cons (.lst (SqL.of (s5 _ _ w3.2)) (.cons (.int _) .nil)) (.cons (.lst (SqL.of (s5 _ _ w4.2)) (.cons (.int _) .nil)) (.cons (.lst (SqL.of (s5 _ _ w5.2)) (.cons (.int _) .nil)) (.cons (.lst (SqL.of (s5 _ _ w6.2)) (.cons (.int _) .nil)) (.cons (.lst (SqL.of (s5 _ _ w7.2)) (.cons (.int _) .nil)) .nil)))))))), .lst (SqL.of upd_same) (.cons (.lst (SqL.of z0) (.cons (.int _) (.cons (.int _) .nil))) (.cons (.lst (SqL.of z1) (.cons (.int _) .nil)) (.cons (.lst (SqL.of z2) (.cons (.int _) .nil)) (.cons (.lst (SqL.of z3) (.cons (.int _) .nil)) (.cons (.lst (SqL.of z4) (.cons (.int _) .nil)) (.cons (.lst (SqL.of z5) (.cons (.int _) .nil)) (.cons (.lst (SqL.of z6) (.cons (.int _) .nil)) (.cons (.lst (SqL.of z7) (.cons (.int _) .nil)) .nil)))))))), rfl, rfl, _, rfl, if_false_of (by rfl) ?_⟩
    have s6 := s4.trans s5
    refine ⟨by show 8 ≤ sizeLine; decide, fun ld nld => ?_⟩
    have s7 := s6.trans (Same.new nld (o := .lst [.str "1000000", .str "0110000", .str "0010000", .str "0011000", .str "0000100", .str "0000011", .str "0000001", .str "0000001"]))
    refine ⟨_, rfl, l2, rfl, ⟨_, SqL.of (s7 _ _ (s3 _ _ h2))⟩, fun D2 nD2 => ?_⟩
    refine lc_list (K := K) (a := l2) (xs := [e9, e10, e11, e12, e13, e14, e15, e16].map V.ref) (fun i G => G D2 = some (.lst ((infos.take i).map fun x => V.str (figs x.2))) ∧ Same (upd _ ld (.lst [.str "1000000", .str "0110000", .str "0010000", .str "0011000", .str "0000100", .str "0000011", .str "0000001", .str "0000001"])) G)
      ⟨upd_same, Same.new nD2⟩ (fun i G _ ⟨_, s⟩ => SqL.of (s _ _ (s7 _ _ (s3 _ _ h2)))) ?_ ?_
    · rintro i x G hx ⟨eD2, s⟩
      obtain ⟨e, a, rfl, ha, D, he, hz⟩ := er_get er hx
      refine ⟨rfl, _, rfl, e, D, a.1, a.2, rfl, (he.same s7).same s, hz, fun G2 s2 => ⟨_, s2 _ _ eD2, ?_, ?_, fun b o q => by rw [upd_ne (ne_of_none q nD2)]; exact s2 _ _ (s _ _ q)⟩⟩
      · have := (List.getElem?_eq_some_iff.mp ha).1
        rw [List.length_map, List.length_take, sizeLine_eq]
        omega
      · rw [upd_same, List.take_add_one, ha, List.map_append]
        rfl
    · rintro G9 ⟨eD2, s9⟩
      have eD3 : G9 D2 = some (.lst [.str "1000000", .str "0110000", .str "0010000", .str "0011000", .str "0000100", .str "0000011", .str "0000001", .str "0000001"]) := by
        have q := List.take_of_length_le (l := infos) (i := 8) (Nat.le_of_eq nb)
        have e2 : G9 D2 = some (.lst ((infos.take 8).map fun x => V.str (figs x.2))) := eD2
        rw [e2, q, einf]
        simp only [List.map_cons, List.map_nil, fg0000001, fg0000011, fg0000100, fg0010000, fg0011000, fg0110000, fg1000000]
      refine ⟨_, rfl, _, _, .lst (SqL.of eD3) (.cons (.str _) (.cons (.str _) (.cons (.str _) (.cons (.str _) (.cons (.str _) (.cons (.str _) (.cons (.str _) (.cons (.str _) .nil)))))))), .lst (SqL.of (s9 _ _ upd_same)) (.cons (.str _) (.cons (.str _) (.cons (.str _) (.cons (.str _) (.cons (.str _) (.cons (.str _) (.cons (.str _) (.cons (.str _) .nil)))))))), by decide +kernel, by decide +kernel, ?_⟩
      exact q _ (((sx.trans s3).trans s7).trans s9)
end
end Pr

namespace Pr
open PySem PySem.Spec PyProof.Rows L2 Gd
/-! ### the odd values -/
/-- values made so far: each can be judged, none is the dice -/
structure Good (d : Addr) (H0 H : Hp) (xs : List V) : Prop where
  same : Same H0 H
  there : ∃ o, H0 d = some o
  all : ∀ v ∈ xs, Vd (Hm d H) 4 100000 v
theorem Good.nil {d : Addr} {H : Hp} (h : ∃ o, H d = some o) : Good d H H [] := ⟨Same.refl H, h, fun v m => nomatch m⟩
theorem hm_new {d p : Addr} {H : Hp} {o : HO} (n : H p = none) : Same (Hm d H) (Hm d (upd H p o)) := (Kp.same (d := d) (Same.new n)).hm
theorem hm_fresh {d p : Addr} {H : Hp} {o : HO} (_ : H p = none) (ne : p ≠ d) : Hm d (upd H p o) p = some o := Hm.of upd_same ne
theorem Good.new {d p : Addr} {H0 H : Hp} {xs : List V} {o : HO} (g : Good d H0 H xs) (n : H p = none) : Good d H0 (upd H p o) xs :=
  ⟨g.same.trans (Same.new n), g.there, fun v m => (g.all v m).same (hm_new n)⟩
theorem Good.ne {d p : Addr} {H0 H : Hp} {xs : List V} (g : Good d H0 H xs) (n : H p = none) : p ≠ d := by
  obtain ⟨u, hu⟩ := g.there
  exact (ne_of_none (g.same _ _ hu) n).symm
theorem Good.put {d : Addr} {H0 H : Hp} {xs : List V} {v : V} {n m : Nat} (g : Good d H0 H xs) (h : Vd (Hm d H) n m v) (hn : n ≤ 4) (hm : m ≤ 100000) : Good d H0 H (xs ++ [v]) := by
  refine ⟨g.same, g.there, fun u q => ?_⟩
  rcases List.mem_append.mp q with q | q
  · exact g.all u q
  · rw [List.mem_singleton.mp q]
    exact h.le hn hm
theorem all1 {P : V → Prop} {x : V} (h : P x) : ∀ y ∈ [x], P y := fun y m => by
  rw [List.mem_singleton.mp m]
  exact h
theorem all2 {P : V → Prop} {x y : V} (h : P x) (k : P y) : ∀ z ∈ [x, y], P z := fun z m => by
  rcases List.mem_cons.mp m with e | m
  · rw [e]
    exact h
  · rw [List.mem_singleton.mp m]
    exact k
def repS (z : Str) (k : Nat) : Str := ⟨(List.replicate k z.cps).foldl (· ++ ·) #[]⟩
/-- a text times a small number -/
def rRepS : R2 := fun x y H Q => ∃ z k, x = .str z ∧ y = .int k ∧ 2 ≤ k ∧ k ≤ 5000 ∧ z.length = 1 ∧ Q (.str (repS z k.toNat)) H
section
variable {X : Cx}
theorem foldl_size (c : Array Nat) : ∀ (k : Nat) (a : Array Nat), ((List.replicate k c).foldl (· ++ ·) a).size = a.size + k * c.size
  | 0, a => by simp
  | k + 1, a => by
    rw [List.replicate_succ, List.foldl_cons, foldl_size c k (a ++ c), Array.size_append, Nat.succ_mul]
    omega
theorem op_repS : OpR X (binaryOp .Mult) rRepS := by
  intro pins s σ H x y v u Q I rx ry h
  obtain ⟨z, k, rfl, rfl, h2, h5, hz, q⟩ := h
  obtain ⟨t, rfl⟩ := rx
  obtain ⟨t', rfl⟩ := ry
  have k1 : ¬ k < 1 := by omega
  have e1 : (k == 1 || z.length == 0) = false := by
    have a1 : (k == 1) = false := by rw [beq_eq_false_iff_ne]; omega
    have a2 : (z.length == 0) = false := by rw [beq_eq_false_iff_ne]; omega
    rw [a1, a2]
    rfl
  have hk : (k.toNat : Int) = k := Int.toNat_of_nonneg (by omega)
  have es : (repS z k.toNat).length ≤ sizeLine := by
    show ((List.replicate k.toNat z.cps).foldl (· ++ ·) #[]).size ≤ sizeLine
    have hc : z.cps.size = 1 := hz
    rw [foldl_size, hc, sizeLine_eq]
    simp
    omega
  refine PySem.P.mul_str ?_ (fun _ _ => ?_) (fun _ _ => ?_) ?_
  · rw [decide_eq_false (by omega), decide_eq_false (by omega)]
    rfl
  · rw [hz]
    have := Int.le_ediv_of_mul_le (a := 1) (b := 2 ^ 63 - 1) (c := k) (by omega) (by omega)
    omega
  · rw [hz]
    show decide (_ > sizeLine) = false
    exact decide_eq_false (by rw [sizeLine_eq]; omega)
  · rw [if_neg k1, e1, if_neg Bool.false_ne_true]
    exact ⟨es, .str (repS z k.toNat), H, I.tok _, ⟨_, rfl⟩, q⟩
end
theorem foldl_mem (c : Array Nat) : ∀ (k : Nat) (a : Array Nat) (x : Nat), x ∈ ((List.replicate k c).foldl (· ++ ·) a).toList → x ∈ a.toList ∨ x ∈ c.toList
  | 0, a, x, h => .inl h
  | k + 1, a, x, h => by
    rw [List.replicate_succ, List.foldl_cons] at h
    rcases foldl_mem c k (a ++ c) x h with h | h
    · rw [Array.toList_append] at h
      exact (List.mem_append.mp h).imp id id
    · exact .inr h
theorem sok_rep {k : Nat} {z : Str} (hz : SOk 1 z) : SOk k (repS z k) := by
  have h1 := hz.1
  have h2 : z.cps.size ≤ 1 := h1
  refine ⟨?_, fun c h => ?_⟩
  · show ((List.replicate k z.cps).foldl (· ++ ·) #[]).size ≤ k
    rw [foldl_size]
    have := Nat.mul_le_mul_left k h2
    simp
    omega
  · rcases foldl_mem z.cps k #[] c h with h | h
    · simp at h
    · exact hz.2 c h
/-- the law's odd values: each is odd, none is the dice -/
def spOdd : Sp := fun vs H Q _ => ∃ (d : Addr) (n : Nat), vs = [.ref d] ∧ Dice H d n ∧ n + 26 < 1000000 ∧
  ∀ (q : Addr) (ys : List V) (H' : Hp), q ≠ d → H q = none → Kp d H H' → H' q = some (.lst ys) → ys.length = 26 → (∀ y ∈ ys, Vd (Hm d H') 4 100000 y) → Dice H' d (n + 26) → Q (.ref q) H'
section
variable {P : Program} {w : World} {K : PySem.W.Frag} {mg : Str → Option Value} {base : Heap} {fR fP fM : Addr} {dR dP dM : FuncData}
theorem scOdd : FnScope ["dice", "some"] ["dice"] (defScope sOdd) := ⟨rfl, rfl, rfl, by decide +kernel, rfl, by decide +kernel, by decide +kernel⟩
theorem ok_odd {f : Addr} {fd : FuncData} (F : Fun K "_law_odd_values" "_law_odd_values" sOdd f fd) (D : Draws K mg fR fP fM dR dP dM) (T : Free mg) : FnOk P w K mg base CX0 3 f fd ["dice"] spOdd := by
  have GM : FnOk P w K mg base CX0 2 fM dM ["dice", "items"] (spMixed K) := ok_mixed D T
  refine F.ok scOdd (fun vs H Q E h => ?_) (fun cdv A outer s H vs Q E hr h => ?_)
  · obtain ⟨d, n, rfl, _⟩ := h
    rfl
  · obtain ⟨d, n, rfl, di, hn, k⟩ := h
    obtain ⟨ds, hd⟩ := di.there
    refine ⟨_, pss_cons (ps_set (i := 1) scOdd.nd rfl (.inl rfl) (pe_lst (pa_cons pe_non (pa_cons pe_int (pa_cons pe_int (pa_cons (pe_un un_neg pe_int) (pa_cons pe_bl (pa_cons pe_bl (pa_cons pe_str (pa_cons pe_str (pa_cons pe_str
        (pa_cons (pe_tup pa_nil) (pa_cons (pe_tup (pa_cons pe_str pa_nil)) (pa_cons (pe_lst pa_nil) (pa_cons (pe_lst (pa_cons pe_str pa_nil)) (pa_cons pe_dnewK (pa_cons (pe_disp (pps_cons pe_str pe_int pps_nil) (by rfl) (by rfl) (fun z => by cases z) (by decide))
        (pa_cons (pe_tup (pa_cons (pe_tup pa_nil) pa_nil)) (pa_cons (pe_op op_pow pe_int pe_int) (pa_cons pe_str pa_nil))))))))))))))))))))
      (pss_cons (ps_set (i := 1) scOdd.nd rfl (.inl rfl) (pe_op op_cat (pv 1) (pe_lst (pa_cons (pe_op op_repS pe_str pe_int) (pa_cons (pe_op op_repT (pe_tup (pa_cons pe_str pa_nil)) pe_int) (pa_cons (pe_tup (pa_cons pe_int (pa_cons pe_int pa_nil)))
        (pa_cons (pe_tup (pa_cons pe_non pa_nil)) (pa_cons (pe_tup (pa_cons (pe_tup (pa_cons (pe_tup (pa_cons pe_str pa_nil)) pa_nil)) pa_nil)) (pa_cons pe_str (pa_cons (pe_op op_mulW (pe_op op_pow pe_int pe_int) (pe_op op_pow pe_int pe_int)) pa_nil))))))))))
      (pss_one (ps_ret (pe_call GM hr (by rfl) D.gM D.FM.kp D.bM .nil pass0 (pa_cons (pv 0) (pa_cons (pe_op op_cat (pv 1) (pe_lst (pa_cons (pe_op op_sub pe_int (pe_op op_pow pe_int pe_int)) pa_nil))) pa_nil)))))), ?_⟩
    have z : ∀ {m : Nat}, m ≤ 64 → m ≤ sizeLine := fun h => Nat.le_trans h (by decide)
    have g0 : Good d H H [] := Good.nil ⟨_, hd⟩
    have L : ∀ {d : Addr} {H : Hp}, Vd (Hm d H) 0 2000 (.str "c") := (Vd.text (k := 100) ⟨by decide, by decide +kernel⟩ (by decide)).le (Nat.le_refl _) (by decide)
    have T : ∀ {d : Addr} {H : Hp} (z : Str), SOk 5 z → Vd (Hm d H) 0 2000 (.str z) := fun z h => (Vd.text (k := 100) (h.le (by decide)) (by decide)).le (Nat.le_refl _) (by decide)
    have I : ∀ {d : Addr} {H : Hp} (i : Int), i.natAbs < 2 ^ 1900 → Vd (Hm d H) 0 2000 (.int i) := fun i h => Vd.int i h
    have g1 := ((((((((g0.put Vd.non (by decide) (by decide)).put (I 0 (by decide +kernel)) (by decide) (by decide)).put (I 1 (by decide +kernel)) (by decide) (by decide)).put (I (-1) (by decide +kernel)) (by decide) (by decide)).put (Vd.bl true) (by decide) (by decide)).put (Vd.bl false) (by decide) (by decide)).put (T "" ⟨by decide, by decide +kernel⟩) (by decide) (by decide)).put (T "a" ⟨by decide, by decide +kernel⟩) (by decide) (by decide)).put (T "A b" ⟨by decide, by decide +kernel⟩) (by decide) (by decide)
    refine ⟨_, rfl, z (Nat.le_of_ble_eq_true rfl), fun t1 n1 => ?_⟩
    have g2 := (g1.new n1 (o := .tup [])).put (Vd.tup (n := 0) (m := 2000) (k := 0) (hm_fresh n1 (g1.ne n1)) (fun y m => nomatch m) (by decide) (by decide)) (by decide) (by decide)
    refine ⟨z (Nat.le_of_ble_eq_true rfl), fun t2 n2 => ?_⟩
    have g3 := (g2.new n2 (o := .tup [.str "c"])).put (Vd.tup (n := 0) (m := 2000) (k := 1) (hm_fresh n2 (g2.ne n2)) (all1 L) (by decide) (by decide)) (by decide) (by decide)
    refine ⟨z (Nat.le_of_ble_eq_true rfl), fun t3 n3 => ?_⟩
    have g4 := (g3.new n3 (o := .lst [])).put (Vd.lst (n := 0) (m := 2000) (k := 0) (hm_fresh n3 (g3.ne n3)) (fun y m => nomatch m) (by decide)) (by decide) (by decide)
    refine ⟨z (Nat.le_of_ble_eq_true rfl), fun t4 n4 => ?_⟩
    have g5 := (g4.new n4 (o := .lst [.str "c"])).put (Vd.lst (n := 0) (m := 2000) (k := 1) (hm_fresh n4 (g4.ne n4)) (all1 L) (by decide)) (by decide) (by decide)
    intro t5 n5
    have g6 := (g5.new n5 (o := .dK [])).put (Vd.dK0 (hm_fresh n5 (g5.ne n5))) (by decide) (by decide)
    refine fun t6 n6 => ⟨upd_same, [(Sum.inr "c", .int 0)], rfl, by decide, ?_⟩
    have g7 := (g6.new (o := .dK (mergeK [] [((Sum.inr "c" : Key), V.int 0)])) n6).put (Vd.dK1 (x := "c") (i := 0) (hm_fresh n6 (g6.ne n6)) ⟨by decide, by decide +kernel⟩ (by decide)) (by decide) (by decide)
    have g7b := g7
    rw [← upd_upd (H := upd _ t5 _) (a := t6) (o := .dK [])] at g7b
    refine ⟨z (Nat.le_of_ble_eq_true rfl), fun t7 n7 => ⟨z (Nat.le_of_ble_eq_true rfl), fun t8 n8 => ?_⟩⟩
    have g7c := g7b.new n7 (o := .tup [])
    have v7 : Vd (Hm d _) 1 2000 (.ref t7) := (Vd.tup (n := 0) (m := 2000) (k := 0) (xs := []) (hm_fresh n7 (g7b.ne n7)) (fun y m => nomatch m) (by decide) (by decide)).le (by decide) (by decide)
    have g8 := (g7c.new n8 (o := .tup [.ref t7])).put (Vd.tup (n := 1) (m := 2000) (k := 1) (hm_fresh n8 (g7c.ne n8)) (all1 (v7.same (hm_new n8))) (Nat.le_refl 1) (by decide)) (by decide) (by decide)
    refine ⟨10, 60, rfl, rfl, c10 (k := 60) (by decide), ?_⟩
    have g9 := (g8.put (I (10 ^ (60 : Int).toNat) (by decide +kernel)) (by decide) (by decide)).put (T "_" ⟨by decide, by decide +kernel⟩) (by decide) (by decide)
    -- the list itself
    refine ⟨z (Nat.le_of_ble_eq_true rfl), fun l1 m1 => ?_⟩
    have g10 := g9.new m1 (o := .lst [V.non, .int 0, .int 1, .int (-1), .bl true, .bl false, .str "", .str "a", .str "A b", .ref t1, .ref t2, .ref t3, .ref t4, .ref t5, .ref t6, .ref t8, .int (10 ^ (60 : Int).toNat), .str "_"])
    -- some + [..]
    refine ⟨_, rfl, _, _, rfl, rfl, by decide, by decide, by decide +kernel, ?_⟩
    have V4 : ∀ {d : Addr} {H : Hp}, Vd (Hm d H) 0 40002 (.str (repS "x" (4000 : Int).toNat)) := Vd.text (k := 4000) (sok_rep ⟨by decide, by decide +kernel⟩) (by decide)
    have h0 := g10.put V4 (by decide) (by decide)
    refine ⟨z (Nat.le_of_ble_eq_true rfl), fun t9 n9 => ⟨_, _, _, rfl, rfl, SqT.of upd_same, by simp, by decide, by decide, by simp, fun t10 n10 => ?_⟩⟩
    have h0b := h0.new n9 (o := .tup [.str "c"])
    have h1 := (h0b.new n10 (o := .tup (List.replicate (30 : Int).toNat [V.str "c"]).flatten)).put (Vd.tup (n := 0) (m := 2000) (k := 30) (hm_fresh n10 (h0b.ne n10)) (fun y m => by
      obtain ⟨l, hl, hy⟩ := List.mem_flatten.mp m
      rw [List.eq_of_mem_replicate hl] at hy
      rw [List.mem_singleton.mp hy]
      exact L) (by decide) (by decide)) (by decide) (by decide)
    refine ⟨z (Nat.le_of_ble_eq_true rfl), fun t11 n11 => ?_⟩
    have h2 := (h1.new n11 (o := .tup [.int 1, .int 2])).put (Vd.tup (n := 0) (m := 2000) (k := 2) (hm_fresh n11 (h1.ne n11)) (all2 (I 1 (by decide +kernel)) (I 2 (by decide +kernel))) (by decide) (by decide)) (by decide) (by decide)
    refine ⟨z (Nat.le_of_ble_eq_true rfl), fun t12 n12 => ?_⟩
    have h3 := (h2.new n12 (o := .tup [.non])).put (Vd.tup (n := 0) (m := 2000) (k := 1) (hm_fresh n12 (h2.ne n12)) (all1 Vd.non) (by decide) (by decide)) (by decide) (by decide)
    refine ⟨z (Nat.le_of_ble_eq_true rfl), fun t13 n13 => ⟨z (Nat.le_of_ble_eq_true rfl), fun t14 n14 => ⟨z (Nat.le_of_ble_eq_true rfl), fun t15 n15 => ?_⟩⟩⟩
    have h3b := h3.new n13 (o := .tup [.str "c"])
    have v13 : Vd (Hm d _) 1 3000 (.ref t13) := (Vd.tup (n := 0) (m := 2000) (k := 1) (xs := [.str "c"]) (hm_fresh n13 (h3.ne n13)) (all1 L) (by decide) (by decide)).le (by decide) (by decide)
    have h3c := h3b.new n14 (o := .tup [.ref t13])
    have v14 : Vd (Hm d _) 2 4000 (.ref t14) := (Vd.tup (n := 1) (m := 3000) (k := 1) (xs := [.ref t13]) (hm_fresh n14 (h3b.ne n14)) (all1 (v13.same (hm_new n14))) (Nat.le_refl 1) (by decide)).le (by decide) (by decide)
    have h4 := (h3c.new n15 (o := .tup [.ref t14])).put (Vd.tup (n := 2) (m := 4000) (k := 1) (hm_fresh n15 (h3c.ne n15)) (all1 (v14.same (hm_new n15))) (Nat.le_refl 1) (by decide)) (by decide) (by decide)
    refine ⟨10, 60, rfl, rfl, c10 (k := 60) (by decide), 10, 39, rfl, rfl, c10 (k := 39) (by decide), _, _, rfl, rfl, wide_mul (a := 400) (b := 400) (by decide +kernel) (by decide +kernel) (by decide) (by decide) (by decide), ?_⟩
    have h5 := (h4.put (T "\n" ⟨by decide, by decide +kernel⟩) (by decide) (by decide)).put (I (10 ^ (60 : Int).toNat * 10 ^ (39 : Int).toNat) (by decide +kernel)) (by decide) (by decide)
    refine ⟨z (Nat.le_of_ble_eq_true rfl), fun l2 m2 => ?_⟩
    refine ⟨l1, l2, _, _, rfl, rfl, ((((((((Same.new n9).trans (Same.new n10)).trans (Same.new n11)).trans (Same.new n12)).trans (Same.new n13)).trans (Same.new n14)).trans (Same.new n15)).trans (Same.new m2)) _ _ upd_same, upd_same, z (Nat.le_of_ble_eq_true rfl), fun p m3 => ?_⟩
    refine ⟨_, rfl, _, rfl, 10, 60, rfl, rfl, c10 (k := 60) (by decide), 0, _, rfl, rfl, z (Nat.le_of_ble_eq_true rfl), fun l3 m4 => ?_⟩
    refine ⟨p, l3, _, _, rfl, rfl, (Same.new m4) _ _ upd_same, upd_same, z (Nat.le_of_ble_eq_true rfl), fun p2 m5 => ?_⟩
    have h6 := fun o : HO => Good.new (o := o) (Good.put (Good.new (Good.new h5 m2) m3) (I (0 - 10 ^ (60 : Int).toNat) (by decide +kernel)) (by decide) (by decide)) m4
    have h7 := fun o : HO => Good.new (o := o) (h6 _) m5
    simp only [List.nil_append, List.cons_append] at h7
    have hd2 := fun o : HO => (h6 o).same _ _ hd
    refine ⟨d, p2, n, _, rfl, (ne_of_none (hd2 _) m5).symm, SqL.of upd_same, Nat.le_of_ble_eq_true rfl, di.same (h7 _).same, hn, fun q ys H' nqd nq kp hq pm di2 => ?_⟩
    · refine k q ys H' nqd ((h7 _).same.free nq) (fun b o nb e => kp b o nb ((h7 _).same b o e)) hq pm.length_eq (fun y m => ((h7 _).all y (pm.subset m)).same kp.hm) di2
end
end Pr
namespace Pr
open PySem PySem.Spec PyProof.Rows L2 Gd
def spLaw (K : PySem.W.Frag) : Sp := fun vs H Q _ => ∃ (a : Addr) (ns : List Int), vs = [.ref a] ∧ SqL K H a (ns.map V.int) ∧ ns.length ≤ 63 ∧ ∀ H', Q (.bl true) H'
theorem scLaw : FnScope ["script", "spot", "dice", "value", "found", "error", "at"] ["script"] (defScope sLaw) := ⟨rfl, rfl, rfl, by decide +kernel, rfl, by decide +kernel, by decide +kernel⟩
/-- the law's own defs -/
structure LawD (K : PySem.W.Frag) (mg : Str → Option Value) (gD gO gM gK : Addr) (eD eO eM eK : FuncData) : Prop where
  FD : Fun K "_law_dice" "_law_dice" sDice gD eD
  bD : Binds K eD ["script", "spot"] []
  gD : mg "_law_dice" = some (.ref gD)
  FO : Fun K "_law_odd_values" "_law_odd_values" sOdd gO eO
  bO : Binds K eO ["dice"] []
  gO : mg "_law_odd_values" = some (.ref gO)
  FM : Fun K "_law_messages" "_law_messages" sMess gM eM
  bM : Binds K eM ["text"] []
  gM : mg "_law_messages" = some (.ref gM)
  FK : Fun K "_law_kept" "_law_kept" sKept gK eK
  bK : Binds K eK ["value"] []
  gK : mg "_law_kept" = some (.ref gK)
/-- how many cells are asked -/
def spots (n : Int) : Int := if (if n < 4 then n else 4) > 1 then (if n < 4 then n else 4) else 1
theorem spots_le (n : Int) : 1 ≤ spots n ∧ spots n ≤ 4 := by
  unfold spots
  split <;> split <;> omega
theorem hm_all {d : Addr} {H : Hp} : Same (Hm d H) H := fun b o h => (Hm.some_of h).1
section
variable {P : Program} {w : World} {K : PySem.W.Frag} {mg : Str → Option Value} {base : Heap} {c0 c1 c2 c3 c4 c5 c6 c7 c8 c9 c10 c11 c12 c13 c14 c15 c16 fO fP fR fC fM gD gO gM gK : Addr} {dO dP dR dC dM eD eO eM eK : FuncData}
theorem ok_law {f : Addr} {fd : FuncData} (F : Fun K "law" "law" sLaw f fd) (T : Free mg) (D : Draws K mg fR fC fM dR dC dM) (N : Where mg c0 c1 c2 c3 c4 c5 c6 c7 c8 c9 c10 c11 c12 c13 c14 c15 c16) (A : Asks K mg fO fP dO dP) (L : LawD K mg gD gO gM gK eD eO eM eK) (M0 : MsgC K mg "CoverError" c0) (M1 : MsgC K mg "InvalidOperators" c1) (M2 : MsgC K mg "InvalidTree" c2) (M3 : MsgC K mg "InvalidBook" c3) (M4 : MsgC K mg "InvalidCover" c4) (M5 : MsgC K mg "InvalidKind" c5) (M6 : MsgC K mg "InvalidState" c6) (M7 : MsgC K mg "InvalidPaper" c7) (M8 : MsgC K mg "InvalidOperation" c8)
    (O9 : PySem.ErrO.OwnC K mg "ParseError" "number" c9) (O10 : PySem.ErrO.OwnC K mg "UnknownName" "word" c10) (O11 : PySem.ErrO.OwnC K mg "NotCovered" "uncovered" c11) (O12 : PySem.ErrO.OwnC K mg "InvalidNumber" "value" c12) (O13 : PySem.ErrO.OwnC K mg "NothingToUndo" "many" c13) (O14 : PySem.ErrO.OwnC K mg "TooMany" "limit" c14) (O15 : PySem.ErrO.OwnC K mg "Stuck" "place" c15) (O16 : PySem.ErrO.OwnC K mg "Refused" "pledge" c16)
    (Z0 : Ct K (clsL c0 c1 c2 c3 c4 c5 c6 c7 c8 c9 c10 c11 c12 c13 c14 c15 c16) c0 [true, false, false, false, false, false, false, false, false, false, false, false, false, false, false, false, false] [true, false, false, false, false, false, false]) (Z1 : Ct K (clsL c0 c1 c2 c3 c4 c5 c6 c7 c8 c9 c10 c11 c12 c13 c14 c15 c16) c1 [true, true, false, false, false, false, false, false, false, false, false, false, false, false, false, false, false] [true, false, false, false, false, false, false]) (Z2 : Ct K (clsL c0 c1 c2 c3 c4 c5 c6 c7 c8 c9 c10 c11 c12 c13 c14 c15 c16) c2 [true, false, true, false, false, false, false, false, false, false, false, false, false, false, false, false, false] [true, false, false, false, false, false, false]) (Z3 : Ct K (clsL c0 c1 c2 c3 c4 c5 c6 c7 c8 c9 c10 c11 c12 c13 c14 c15 c16) c3 [true, false, false, true, false, false, false, false, false, false, false, false, false, false, false, false, false] [true, false, false, false, false, false, false]) (Z4 : Ct K (clsL c0 c1 c2 c3 c4 c5 c6 c7 c8 c9 c10 c11 c12 c13 c14 c15 c16) c4 [true, false, false, false, true, false, false, false, false, false, false, false, false, false, false, false, false] [true, false, false, false, false, false, false]) (Z5 : Ct K (clsL c0 c1 c2 c3 c4 c5 c6 c7 c8 c9 c10 c11 c12 c13 c14 c15 c16) c5 [true, false, false, false, false, true, false, false, false, false, false, false, false, false, false, false, false] [true, false, false, false, false, false, false]) (Z6 : Ct K (clsL c0 c1 c2 c3 c4 c5 c6 c7 c8 c9 c10 c11 c12 c13 c14 c15 c16) c6 [true, false, false, false, false, false, true, false, false, false, false, false, false, false, false, false, false] [true, false, false, false, false, false, false]) (Z7 : Ct K (clsL c0 c1 c2 c3 c4 c5 c6 c7 c8 c9 c10 c11 c12 c13 c14 c15 c16) c7 [true, false, false, false, false, false, false, true, false, false, false, false, false, false, false, false, false] [true, false, false, false, false, false, false]) (Z8 : Ct K (clsL c0 c1 c2 c3 c4 c5 c6 c7 c8 c9 c10 c11 c12 c13 c14 c15 c16) c8 [true, false, false, false, false, false, false, false, true, false, false, false, false, false, false, false, false] [true, false, false, false, false, false, false])
    (Z9 : Ct K (clsL c0 c1 c2 c3 c4 c5 c6 c7 c8 c9 c10 c11 c12 c13 c14 c15 c16) c9 [true, false, false, false, false, false, false, false, false, true, false, false, false, false, false, false, false] [true, false, false, false, false, false, false]) (Z10 : Ct K (clsL c0 c1 c2 c3 c4 c5 c6 c7 c8 c9 c10 c11 c12 c13 c14 c15 c16) c10 [false, false, false, false, false, false, false, false, false, false, true, false, false, false, false, false, false] [false, true, true, false, false, false, false]) (Z11 : Ct K (clsL c0 c1 c2 c3 c4 c5 c6 c7 c8 c9 c10 c11 c12 c13 c14 c15 c16) c11 [false, false, false, false, false, false, false, false, false, false, false, true, false, false, false, false, false] [false, false, true, false, false, false, false]) (Z12 : Ct K (clsL c0 c1 c2 c3 c4 c5 c6 c7 c8 c9 c10 c11 c12 c13 c14 c15 c16) c12 [false, false, false, false, false, false, false, false, false, false, false, false, true, false, false, false, false] [false, false, true, true, false, false, false]) (Z13 : Ct K (clsL c0 c1 c2 c3 c4 c5 c6 c7 c8 c9 c10 c11 c12 c13 c14 c15 c16) c13 [false, false, false, false, false, false, false, false, false, false, false, false, false, true, false, false, false] [false, false, false, false, true, false, false]) (Z14 : Ct K (clsL c0 c1 c2 c3 c4 c5 c6 c7 c8 c9 c10 c11 c12 c13 c14 c15 c16) c14 [false, false, false, false, false, false, false, false, false, false, false, false, false, false, true, false, false] [false, false, false, false, false, true, true]) (Z15 : Ct K (clsL c0 c1 c2 c3 c4 c5 c6 c7 c8 c9 c10 c11 c12 c13 c14 c15 c16) c15 [false, false, false, false, false, false, false, false, false, false, false, false, false, false, false, true, false] [false, false, false, false, false, false, true]) (Z16 : Ct K (clsL c0 c1 c2 c3 c4 c5 c6 c7 c8 c9 c10 c11 c12 c13 c14 c15 c16) c16 [false, false, false, false, false, false, false, false, false, false, false, false, false, false, false, false, true] [false, false, false, false, false, false, true]) : FnG P w K mg base CX0 4 f fd ["script"] (spLaw K) := by
  have GD : FnOk P w K mg base CX0 1 gD eD ["script", "spot"] (spDice K) := ok_dice L.FD T
  have GC : FnOk P w K mg base CX0 2 fC dC ["dice", "items"] (spPick K) := ok_pick D T
  have GX : FnOk P w K mg base CX0 3 gO eO ["dice"] spOdd := ok_odd L.FO D T
  have GM : FnOk P w K mg base CX0 1 gM eM ["text"] (spMess [c0, c1, c2, c3, c4, c5, c6, c7, c8]) := ok_mess L.FM M0 M1 M2 M3 M4 M5 M6 M7 M8
  have GK : FnG P w K mg base CX0 2 gK eK ["value"] spKept := ok_kept L.FK T N A O9 O10 O11 O12 O13 O14 O15 O16 Z9 Z10 Z11 Z12 Z13 Z14 Z15 Z16
  have GO : FnOk P w K mg base CX0 1 fO dO ["error"] (spOwn K (clsL c0 c1 c2 c3 c4 c5 c6 c7 c8 c9 c10 c11 c12 c13 c14 c15 c16)) := ok_own A.FO T N
  have GP : FnOk P w K mg base CX0 1 fP dP ["error"] (spPython K (clsL c0 c1 c2 c3 c4 c5 c6 c7 c8 c9 c10 c11 c12 c13 c14 c15 c16)) := ok_python A.FP T
  refine FnG.ok F scLaw (fun vs H Q E h => ?_) (fun cdv A0 outer s H vs Q E hr gd h => ?_)
  · obtain ⟨a, ns, rfl, _⟩ := h
    rfl
  · obtain ⟨a, ns, rfl, hS, hlen, q⟩ := h
    have r1 : Room 1 _ := hr.mono (by decide)
    have r2 : Room 2 _ := hr.mono (by decide)
    have r3 : Room 3 _ := hr.mono (by decide)
    have hu := hr.units
    refine ⟨_, pss_cons (ps_for PassesOwn.never rfl (pi_range1 rfl T.range (pa_cons (pe_callB (call_max2 rfl) (by rfl) T.max (by decide +kernel) (pa_cons pe_int (pa_cons (pe_callB (call_min2 rfl) (by rfl) T.min (by decide +kernel) (pa_cons pe_int (pa_cons (pe_callB call_len_seq (by rfl) T.len PySem.boot_len (pa_cons (pv 0) pa_nil)) pa_nil))) pa_nil))) pa_nil)) (pg_name (i := 1) scLaw.nd rfl (.inl rfl)) (pss_cons (ps_set (i := 2) scLaw.nd rfl (.inl rfl) (pe_call GD r1 (by rfl) L.gD L.FD.kp L.bD .nil pass0 (pa_cons (pv 0) (pa_cons (pv 1) pa_nil)))) (pss_cons (ps_for PassesOwn.never rfl (pi_list (pe_call GX r3 (by rfl) L.gO L.FO.kp L.bO .nil pass0 (pa_cons (pv 2) pa_nil))) (pg_name (i := 3) scLaw.nd rfl (.inl rfl)) (pss_one (ps_if (pt_not (pt_val (pe_callG GK r2 gd (by rfl) L.gK L.FK.kp L.bK pass0 (pa_cons (pv 3) pa_nil)))) (pss_one (ps_ret pe_bl)) pss_nil))) (pss_cons (ps_set (i := 4) scLaw.nd rfl (.inl rfl) (pe_call GM r1 (by rfl) L.gM L.FM.kp L.bM .nil pass0 (pa_cons (pe_call GC r2 (by rfl) D.gP D.FP.kp D.bP .nil pass0 (pa_cons (pv 2) (pa_cons (pe_lst (pa_cons pe_str (pa_cons pe_str (pa_cons pe_str pa_nil)))) pa_nil))) pa_nil))) (pss_cons (ps_if (pt_cmpR (op_neD hu) (pe_lc (own := [("error", 5)]) (g := gName 5) (by rfl) scLaw.nd (pi_list (pv 4)) (blkOk_by (own := [("error", 5)]) (N := ["script", "spot", "dice", "value", "found", "error", "at"]) (sc := defScope sLaw) (by decide +kernel)) (fun _ _ _ _ _ => pg_name (i := 5) scLaw.nd rfl (Or.inl rfl)) (fun _ _ _ _ _ => pts_nil) (fun _ _ _ _ _ => pe_call GO r1 (by rfl) A.gO A.FO.kp A.bO .nil pass0 (pa_cons (pv 5) pa_nil))) (pe_op op_cat (pe_lst (pa_cons (pe_lst (pa_cons pe_int pa_nil)) pa_nil)) (pe_lc (own := [("at", 6)]) (g := gName 6) (by rfl) scLaw.nd (pi_range2 (by rfl) T.range (pa_cons pe_int (pa_cons pe_int pa_nil))) (blkOk_by (own := [("at", 6)]) (N := ["script", "spot", "dice", "value", "found", "error", "at"]) (sc := defScope sLaw) (by decide +kernel)) (fun _ _ _ _ _ => pg_name (i := 6) scLaw.nd rfl (Or.inl rfl)) (fun _ _ _ _ _ => pts_nil) (fun _ _ _ _ _ => pe_lst (pa_cons pe_int (pa_cons (pv 6) pa_nil))))) (nomark _)) (pss_one (ps_ret pe_bl)) pss_nil) (pss_one (ps_if (pt_cmpR (op_neD hu) (pe_lc (own := [("error", 5)]) (g := gName 5) (by rfl) scLaw.nd (pi_list (pv 4)) (blkOk_by (own := [("error", 5)]) (N := ["script", "spot", "dice", "value", "found", "error", "at"]) (sc := defScope sLaw) (by decide +kernel)) (fun _ _ _ _ _ => pg_name (i := 5) scLaw.nd rfl (Or.inl rfl)) (fun _ _ _ _ _ => pts_nil) (fun _ _ _ _ _ => pe_call GP r1 (by rfl) A.gP A.FP.kp A.bP .nil pass0 (pa_cons (pv 5) pa_nil))) (pe_op op_rep (pe_lst (pa_cons pe_str pa_nil)) pe_int) (nomark _)) (pss_one (ps_ret pe_bl)) pss_nil))))))) (pss_one (ps_ret pe_bl)), ?_⟩
    have sl := spots_le (ns.map V.int).length
    refine ⟨_, rfl, a, _, rfl, .inl hS, _, _, rfl, _, _, rfl, _, rfl, by show -(2 ^ 62) ≤ spots _; omega, by show spots _ < 2 ^ 62; omega, ?_⟩
    refine for_range (lo := 0) (n := (spots (ns.map V.int).length).toNat) (fun i σ H' => ∃ v1 v2 v3 v4 : Option V, σ = [some (.ref a), v1, v2, v3, v4, none, none] ∧ Same H H')
      ⟨none, none, none, none, rfl, Same.refl H⟩ ?_ ?_
    · rintro i σ H0 hi ⟨v1, v2, v3, v4, rfl, s0⟩
      refine ⟨_, rfl, _, rfl, a, ns, i, by simp, s0.seq hS, by omega, fun d H1 nd s1 di => ?_⟩
      have nHd : H d = none := s0.free nd
      refine ⟨_, rfl, d, _, rfl, di, by decide, fun l ys H3 nld nl kp0 hl _ all di3 => ⟨l, rfl, ⟨_, SqL.of hl⟩, ?_⟩⟩
      refine for_list (K := K) (a := l) (xs := ys) (fun m σ H' => ∃ u3 : Option V, σ = [some (.ref a), some (.int (0 + (i : Int))), some (.ref d), u3, v4, none, none] ∧ Same H3 H')
        ⟨_, rfl, Same.refl _⟩ (fun m σ H' _ ⟨_, _, s⟩ => s.seq (SqL.of hl)) ?_ ?_
      · rintro m x σ H4 hx ⟨u3, rfl, s4⟩
        refine ⟨_, rfl, x, rfl, (((all x (List.mem_of_getElem? hx)).same ((Kp.same (d := d) s4).hm)).same hm_all).le (by decide) (by decide), fun H5 s5 => ⟨_, rfl, iteF ⟨_, rfl, s4.trans s5⟩⟩⟩
      · rintro σ H4 ⟨u3, rfl, s4⟩
        refine ⟨_, rfl, by show 3 ≤ sizeLine; decide, fun lp nlp => ?_⟩
        have di4 := (di3.same s4).same (Same.new nlp (o := .lst [.str "a message", .str "", .str "x"]))
        obtain ⟨ds4, hd4⟩ := (di3.same s4).there
        refine ⟨d, lp, _, _, rfl, (ne_of_none hd4 nlp).symm, .inl (SqL.of upd_same), by simp, by show 3 ≤ 1000; decide, di4, by decide, fun v o5 mv di6 => ?_⟩
        obtain ⟨z, rfl⟩ : ∃ z, v = .str z := by
          rcases List.mem_cons.mp mv with rfl | mv
          · exact ⟨_, rfl⟩
          rcases List.mem_cons.mp mv with rfl | mv
          · exact ⟨_, rfl⟩
          rw [List.mem_singleton.mp mv]
          exact ⟨_, rfl⟩
        refine ⟨z, rfl, fun lm es G sm nlm hlm pr => ?_⟩
        replace kp0 := (kp0.trans (Kp.same s4)).trans (Kp.new (d := d) nlp (o := .lst [.str "a message", .str "", .str "x"]))
        · skip
          obtain ⟨e0, es0, rfl, i0, pr⟩ := paired_cons pr
          obtain ⟨e1, es1, rfl, i1, pr⟩ := paired_cons pr
          obtain ⟨e2, es2, rfl, i2, pr⟩ := paired_cons pr
          obtain ⟨e3, es3, rfl, i3, pr⟩ := paired_cons pr
          obtain ⟨e4, es4, rfl, i4, pr⟩ := paired_cons pr
          obtain ⟨e5, es5, rfl, i5, pr⟩ := paired_cons pr
          obtain ⟨e6, es6, rfl, i6, pr⟩ := paired_cons pr
          obtain ⟨e7, es7, rfl, i7, pr⟩ := paired_cons pr
          obtain ⟨e8, es8, rfl, i8, pr⟩ := paired_cons pr
          cases pr
          have er : Paired (Er K (clsL c0 c1 c2 c3 c4 c5 c6 c7 c8 c9 c10 c11 c12 c13 c14 c15 c16) G) [e0, e1, e2, e3, e4, e5, e6, e7, e8] [([true, false, false, false, false, false, false, false, false, false, false, false, false, false, false, false, false], [true, false, false, false, false, false, false]), ([true, true, false, false, false, false, false, false, false, false, false, false, false, false, false, false, false], [true, false, false, false, false, false, false]), ([true, false, true, false, false, false, false, false, false, false, false, false, false, false, false, false, false], [true, false, false, false, false, false, false]), ([true, false, false, true, false, false, false, false, false, false, false, false, false, false, false, false, false], [true, false, false, false, false, false, false]), ([true, false, false, false, true, false, false, false, false, false, false, false, false, false, false, false, false], [true, false, false, false, false, false, false]), ([true, false, false, false, false, true, false, false, false, false, false, false, false, false, false, false, false], [true, false, false, false, false, false, false]), ([true, false, false, false, false, false, true, false, false, false, false, false, false, false, false, false, false], [true, false, false, false, false, false, false]), ([true, false, false, false, false, false, false, true, false, false, false, false, false, false, false, false, false], [true, false, false, false, false, false, false]), ([true, false, false, false, false, false, false, false, true, false, false, false, false, false, false, false, false], [true, false, false, false, false, false, false])] := (.cons ⟨c0, i0, Z0⟩ (.cons ⟨c1, i1, Z1⟩ (.cons ⟨c2, i2, Z2⟩ (.cons ⟨c3, i3, Z3⟩ (.cons ⟨c4, i4, Z4⟩ (.cons ⟨c5, i5, Z5⟩ (.cons ⟨c6, i6, Z6⟩ (.cons ⟨c7, i7, Z7⟩ (.cons ⟨c8, i8, Z8⟩ .nil)))))))))
          obtain ⟨infos, einf⟩ : ∃ xs : List (List Bool × List Bool), xs = [([true, false, false, false, false, false, false, false, false, false, false, false, false, false, false, false, false], [true, false, false, false, false, false, false]), ([true, true, false, false, false, false, false, false, false, false, false, false, false, false, false, false, false], [true, false, false, false, false, false, false]), ([true, false, true, false, false, false, false, false, false, false, false, false, false, false, false, false, false], [true, false, false, false, false, false, false]), ([true, false, false, true, false, false, false, false, false, false, false, false, false, false, false, false, false], [true, false, false, false, false, false, false]), ([true, false, false, false, true, false, false, false, false, false, false, false, false, false, false, false, false], [true, false, false, false, false, false, false]), ([true, false, false, false, false, true, false, false, false, false, false, false, false, false, false, false, false], [true, false, false, false, false, false, false]), ([true, false, false, false, false, false, true, false, false, false, false, false, false, false, false, false, false], [true, false, false, false, false, false, false]), ([true, false, false, false, false, false, false, true, false, false, false, false, false, false, false, false, false], [true, false, false, false, false, false, false]), ([true, false, false, false, false, false, false, false, true, false, false, false, false, false, false, false, false], [true, false, false, false, false, false, false])] := ⟨_, rfl⟩
          rw [← einf] at er
          have nb : infos.length = 9 := by rw [einf]; rfl
          refine ⟨_, rfl, lm, rfl, ⟨_, SqL.of hlm⟩, fun D1 nD => ?_⟩
          refine lc_list (K := K) (a := lm) (xs := [e0, e1, e2, e3, e4, e5, e6, e7, e8].map V.ref) (fun i G1 => ∃ rs : List Addr, G1 D1 = some (.lst (rs.map V.ref)) ∧ Paired (fun r (x : List Bool × List Bool) => r ≠ D1 ∧ G1 r = some (.lst (idx 0 x.1))) rs (infos.take i) ∧ Same G G1)
            ⟨[], upd_same, .nil, Same.new nD⟩ (fun i G1 _ ⟨_, _, _, s⟩ => SqL.of (s _ _ hlm)) ?_ ?_
          · rintro i x G1 hx ⟨rs, eD, pr, s⟩
            obtain ⟨e, a1, rfl, ha, D9, he, hz⟩ := er_get er hx
            refine ⟨rfl, _, rfl, e, D9, a1.1, a1.2, rfl, he.same s, hz, fun r G2 s2 nr hr2 => ⟨_, s2 _ _ eD, ?_, rs ++ [r], ?_, ?_, fun b o q => by rw [upd_ne (ne_of_none q nD)]; exact s2 _ _ (s _ _ q)⟩⟩
            · have := pr.length
              rw [List.length_take] at this
              rw [List.length_map, sizeLine_eq]
              omega
            · rw [upd_same, List.map_append]
              rfl
            · rw [List.take_add_one, ha]
              have rD : r ≠ D1 := fun q => by
                rw [q, eD] at nr
                cases nr
              refine paired_snoc ⟨rD, by rw [upd_ne rD]; exact hr2⟩ (paired_map (fun _ _ q => ⟨q.1, by rw [upd_ne q.1]; exact s2 _ _ q.2⟩) pr)
          rintro G0 ⟨rs, eD, pr, s6⟩
          have pr : Paired (fun r (x : List Bool × List Bool) => r ≠ D1 ∧ G0 r = some (.lst (idx 0 x.1))) rs infos := by
            have q := List.take_of_length_le (l := infos) (i := 9) (Nat.le_of_eq nb)
            have pr2 : Paired (fun r (x : List Bool × List Bool) => r ≠ D1 ∧ G0 r = some (.lst (idx 0 x.1))) rs (infos.take 9) := pr
            rw [q] at pr2
            exact pr2
          rw [einf] at pr
          obtain ⟨r0, ps0, rfl, w0, pr⟩ := paired_cons pr
          obtain ⟨r1, ps1, rfl, w1, pr⟩ := paired_cons pr
          obtain ⟨r2, ps2, rfl, w2, pr⟩ := paired_cons pr
          obtain ⟨r3, ps3, rfl, w3, pr⟩ := paired_cons pr
          obtain ⟨r4, ps4, rfl, w4, pr⟩ := paired_cons pr
          obtain ⟨r5, ps5, rfl, w5, pr⟩ := paired_cons pr
          obtain ⟨r6, ps6, rfl, w6, pr⟩ := paired_cons pr
          obtain ⟨r7, ps7, rfl, w7, pr⟩ := paired_cons pr
          obtain ⟨r8, ps8, rfl, w8, pr⟩ := paired_cons pr
          cases pr
          refine ⟨by show 1 ≤ sizeLine; decide, fun p0 np0 => ⟨by show 1 ≤ sizeLine; decide, fun p1 np1 => ⟨1, 9, rfl, by decide, fun D2 nD2 => ?_⟩⟩⟩
          have s7 : Same G0 (upd (upd G0 p0 (.lst [.int 0])) p1 (.lst [.ref p0])) := (Same.new np0).trans (Same.new np1)
          have hp0 : (upd (upd G0 p0 (.lst [.int 0])) p1 (.lst [.ref p0])) p0 = some (.lst [.int 0]) := (Same.new np1) _ _ upd_same
          have hp1 : (upd (upd G0 p0 (.lst [.int 0])) p1 (.lst [.ref p0])) p1 = some (.lst [.ref p0]) := upd_same
          generalize upd (upd G0 p0 (.lst [.int 0])) p1 (.lst [.ref p0]) = Gp at s7 hp0 hp1 nD2 ⊢
          refine lc_range (lo := 1) (n := ((9 : Int) - 1).toNat) (fun i G1 => ∃ rs : List Addr, G1 D2 = some (.lst (rs.map V.ref)) ∧ Paired (fun r (k : Nat) => r ≠ D2 ∧ G1 r = some (.lst [.int 0, .int (1 + (k : Int))])) rs (List.range i) ∧ Same Gp G1)
            ⟨[], upd_same, .nil, Same.new nD2⟩ ?_ ?_
          · rintro i G1 hi ⟨rs, eD2, pr2, s⟩
            refine ⟨rfl, _, rfl, by show 2 ≤ sizeLine; decide, fun r nr => ⟨_, (Same.new nr) _ _ eD2, ?_, rs ++ [r], ?_, ?_, fun b o q => by rw [upd_ne (ne_of_none q nD2)]; exact (Same.new nr) _ _ (s _ _ q)⟩⟩
            · have := pr2.length
              have hi8 : i < 8 := hi
              rw [List.length_range] at this
              rw [List.length_map, sizeLine_eq]
              omega
            · rw [upd_same, List.map_append]
              rfl
            · have rD : r ≠ D2 := fun q => by
                rw [q, eD2] at nr
                cases nr
              rw [List.range_succ]
              exact paired_snoc ⟨rD, by rw [upd_ne rD, upd_same]⟩ (paired_map (fun _ _ q => ⟨q.1, by rw [upd_ne q.1]; exact (Same.new nr) _ _ q.2⟩) pr2)
          rintro G3 ⟨ts, eD2, pr2, s8⟩
          have pr2 : Paired (fun r (k : Nat) => r ≠ D2 ∧ G3 r = some (.lst [.int 0, .int (1 + (k : Int))])) ts [0, 1, 2, 3, 4, 5, 6, 7] := pr2
          obtain ⟨t0, us0, rfl, y0, pr2⟩ := paired_cons pr2
          obtain ⟨t1, us1, rfl, y1, pr2⟩ := paired_cons pr2
          obtain ⟨t2, us2, rfl, y2, pr2⟩ := paired_cons pr2
          obtain ⟨t3, us3, rfl, y3, pr2⟩ := paired_cons pr2
          obtain ⟨t4, us4, rfl, y4, pr2⟩ := paired_cons pr2
          obtain ⟨t5, us5, rfl, y5, pr2⟩ := paired_cons pr2
          obtain ⟨t6, us6, rfl, y6, pr2⟩ := paired_cons pr2
          obtain ⟨t7, us7, rfl, y7, pr2⟩ := paired_cons pr2
          cases pr2
          refine ⟨p1, D2, _, _, rfl, rfl, s8 _ _ hp1, eD2, by show 9 ≤ sizeLine; decide, fun pc npc => ?_⟩
          have s9 := s8.trans (Same.new npc (o := .lst ([.ref p0] ++ [t0, t1, t2, t3, t4, t5, t6, t7].map V.ref)))
          have s10 := Same.new npc (o := .lst ([.ref p0] ++ [t0, t1, t2, t3, t4, t5, t6, t7].map V.ref))
          refine ⟨_, _, .lst (SqL.of (s9 _ _ (s7 _ _ eD))) (.cons (.lst (SqL.of (s9 _ _ (s7 _ _ w0.2))) (.cons (.int _) .nil)) (.cons (.lst (SqL.of (s9 _ _ (s7 _ _ w1.2))) (.cons (.int _) (.cons (.int _) .nil))) (.cons (.lst (SqL.of (s9 _ _ (s7 _ _ w2.2))) (.cons (.int _) (.cons (.int _) .nil))) (.cons (.lst (SqL.of (s9 _ _ (s7 _ _ w3.2))) (.cons (.int _) (.cons (.int _) .nil))) (.cons (.lst (SqL.of (s9 _ _ (s7 _ _ w4.2))) (.cons (.int _) (.cons (.int _) .nil))) (.cons (.lst (SqL.of (s9 _ _ (s7 _ _ w5.2))) (.cons (.int _) (.cons (.int _) .nil))) (.cons (.lst (SqL.of (s9 _ _ (s7 _ _ w6.2))) (.cons (.int _) (.cons (.int _) .nil))) (.cons (.lst (SqL.of (s9 _ _ (s7 _ _ w7.2))) (.cons (.int _) (.cons (.int _) .nil))) (.cons (.lst (SqL.of (s9 _ _ (s7 _ _ w8.2))) (.cons (.int _) (.cons (.int _) .nil))) .nil))))))))), .lst (SqL.of upd_same) (.cons (.lst (SqL.of (s9 _ _ hp0)) (.cons (.int _) .nil)) (.cons (.lst (SqL.of (s10 _ _ y0.2)) (.cons (.int _) (.cons (.int _) .nil))) (.cons (.lst (SqL.of (s10 _ _ y1.2)) (.cons (.int _) (.cons (.int _) .nil))) (.cons (.lst (SqL.of (s10 _ _ y2.2)) (.cons (.int _) (.cons (.int _) .nil))) (.cons (.lst (SqL.of (s10 _ _ y3.2)) (.cons (.int _) (.cons (.int _) .nil))) (.cons (.lst (SqL.of (s10 _ _ y4.2)) (.cons (.int _) (.cons (.int _) .nil))) (.cons (.lst (SqL.of (s10 _ _ y5.2)) (.cons (.int _) (.cons (.int _) .nil))) (.cons (.lst (SqL.of (s10 _ _ y6.2)) (.cons (.int _) (.cons (.int _) .nil))) (.cons (.lst (SqL.of (s10 _ _ y7.2)) (.cons (.int _) (.cons (.int _) .nil))) .nil))))))))), rfl, rfl, _, rfl, if_false_of (by rfl) ?_⟩
          have s11 := (s6.trans s7).trans s9
          refine ⟨_, rfl, lm, rfl, ⟨_, SqL.of (s11 _ _ hlm)⟩, fun D3 nD3 => ?_⟩
          refine lc_list (K := K) (a := lm) (xs := [e0, e1, e2, e3, e4, e5, e6, e7, e8].map V.ref) (fun i G1 => G1 D3 = some (.lst ((infos.take i).map fun x => V.str (figs x.2))) ∧ Same (upd G3 pc _) G1)
            ⟨upd_same, Same.new nD3⟩ (fun i G1 _ ⟨_, s⟩ => SqL.of (s _ _ (s11 _ _ hlm))) ?_ ?_
          · rintro i x G1 hx ⟨eD3, s⟩
            obtain ⟨e, a1, rfl, ha, D9, he, hz⟩ := er_get er hx
            refine ⟨rfl, _, rfl, e, D9, a1.1, a1.2, rfl, (he.same s11).same s, hz, fun G2 s2 => ⟨_, s2 _ _ eD3, ?_, ?_, fun b o q => by rw [upd_ne (ne_of_none q nD3)]; exact s2 _ _ (s _ _ q)⟩⟩
            · have := (List.getElem?_eq_some_iff.mp ha).1
              rw [List.length_map, List.length_take, sizeLine_eq]
              omega
            · rw [upd_same, List.take_add_one, ha, List.map_append]
              rfl
          · rintro G9 ⟨eD3, s12⟩
            have eD4 : G9 D3 = some (.lst [.str "1000000", .str "1000000", .str "1000000", .str "1000000", .str "1000000", .str "1000000", .str "1000000", .str "1000000", .str "1000000"]) := by
              have q := List.take_of_length_le (l := infos) (i := 9) (Nat.le_of_eq nb)
              have e2 : G9 D3 = some (.lst ((infos.take 9).map fun x => V.str (figs x.2))) := eD3
              rw [e2, q, einf]
              simp only [List.map_cons, List.map_nil, fg1000000]
            refine ⟨by show 1 ≤ sizeLine; decide, fun z1 nz1 => ⟨z1, 9, _, rfl, rfl, upd_same, by decide, by decide, by show 1 * 9 ≤ sizeLine; decide, fun z2 nz2 => ?_⟩⟩
            have s13 := fun o2 : HO => (Same.new nz1 (o := .lst [.str "1000000"])).trans (Same.new nz2 (o := o2))
            have hz2 : ∀ U : Hp, upd U z2 (.lst (List.replicate (9 : Int).toNat [V.str "1000000"]).flatten) z2 = some (.lst [.str "1000000", .str "1000000", .str "1000000", .str "1000000", .str "1000000", .str "1000000", .str "1000000", .str "1000000", .str "1000000"]) := fun U => upd_same
            refine ⟨_, _, .lst (SqL.of (s13 _ _ _ eD4)) (.cons (.str _) (.cons (.str _) (.cons (.str _) (.cons (.str _) (.cons (.str _) (.cons (.str _) (.cons (.str _) (.cons (.str _) (.cons (.str _) .nil))))))))), .lst (SqL.of (hz2 _)) (.cons (.str _) (.cons (.str _) (.cons (.str _) (.cons (.str _) (.cons (.str _) (.cons (.str _) (.cons (.str _) (.cons (.str _) (.cons (.str _) .nil))))))))), by decide +kernel, by decide +kernel, _, rfl, if_false_of (by decide +kernel) ?_⟩
            exact ⟨_, _, _, _, rfl, (Kp.over nHd (s0.trans s1) (kp0.trans (Kp.upd (d := d) (o := o5)))).trans (((sm.trans s11).trans s12).trans (s13 _))⟩
    · rintro σ H4 ⟨v1, v2, v3, v4, rfl, _⟩
      exact q _
end
end Pr

namespace PySem.F
theorem store_KeyError : StoreFacts "KeyError" [.type "KeyError", .type "LookupError", .type "Exception", .type "BaseException", .type "object"] "object.__setattr__" "object" where
  mro := by kernel_rfl
  slot := .of (owner := "object") (n := "__setattr__") (by rw [typeLookup_type, builtinLookup_eq_fast]; kernel_rfl) (by decide +kernel) (by decide +kernel) (by decide +kernel)
    (by first | exact .inl (by decide +kernel) | exact .inr (by decide +kernel)) (by rw [isSubtype_type]; kernel_rfl)
  entry := entry_object_sa
  kind := by decide +kernel
  split := by decide +kernel
  hasOwner := by decide +kernel
  args := fun a b c => by unfold argsOk; kernel_rfl
  passes := fun self => by kernel_rfl
end PySem.F
namespace Pr
open PySem PySem.W PySem.OwnErr PySem.Calls PyProof.Rows PySem.HandSPX Builtin Builtin.ObjectAttr
theorem own_chain2 {B sa ow : String} {bm : List Value} (SF : StoreFacts B bm sa ow) (ho : bm.contains (.type "object") = true) (C D : Addr) : Chain (.ref C :: (.ref D :: bm)) where
  pass := fun self => by rw [refuseLoop_ref, refuseLoop_ref]; exact SF.passes self
  obj := by rw [List.contains_cons, List.contains_cons, ho, Bool.or_true, Bool.or_true]
  some := rfl
end Pr
namespace Pr
open PySem PySem.Spec PyProof.Rows L2 Gd
theorem all_mk {P : Program} {w : World} {K : PySem.W.Frag} {h : Heap} {mg : Str → Option Value} {fa : Addr} (X : K.In h) (G : h.Ns mainGlobals mg) (hfa : mg "law" = some (.ref fa))
    {f1 : Addr} {od1 an1 : Option Addr} {sl1 : Array (Option Value)} {oc1 kV1 dc1 pm1 cd1 ct1 : Value}
    {f2 : Addr} {od2 an2 : Option Addr} {sl2 : Array (Option Value)} {oc2 kV2 dc2 pm2 cd2 ct2 : Value}
    {f3 : Addr} {od3 an3 : Option Addr} {sl3 : Array (Option Value)} {oc3 kV3 dc3 pm3 cd3 ct3 : Value}
    {f4 : Addr} {od4 an4 : Option Addr} {sl4 : Array (Option Value)} {oc4 kV4 dc4 pm4 cd4 ct4 : Value}
    {f5 : Addr} {od5 an5 : Option Addr} {sl5 : Array (Option Value)} {oc5 kV5 dc5 pm5 cd5 ct5 : Value}
    {f6 : Addr} {od6 an6 : Option Addr} {sl6 : Array (Option Value)} {oc6 kV6 dc6 pm6 cd6 ct6 : Value}
    {f7 : Addr} {od7 an7 : Option Addr} {sl7 : Array (Option Value)} {oc7 kV7 dc7 pm7 cd7 ct7 : Value}
    {f8 : Addr} {od8 an8 : Option Addr} {sl8 : Array (Option Value)} {oc8 kV8 dc8 pm8 cd8 ct8 : Value}
    {f9 : Addr} {od9 an9 : Option Addr} {sl9 : Array (Option Value)} {oc9 kV9 dc9 pm9 cd9 ct9 : Value}
    {f10 : Addr} {od10 an10 : Option Addr} {sl10 : Array (Option Value)} {oc10 kV10 dc10 pm10 cd10 ct10 : Value}
    {c_0 : Addr}
    {c_1 : Addr}
    {c_2 : Addr}
    {c_3 : Addr}
    {c_4 : Addr}
    {c_5 : Addr}
    {c_6 : Addr}
    {c_7 : Addr}
    {c_8 : Addr}
    {c_9 : Addr}
    {c_10 : Addr}
    {c_11 : Addr}
    {c_12 : Addr}
    {c_13 : Addr}
    {c_14 : Addr}
    {c_15 : Addr}
    {c_16 : Addr}
    {y9 : Addr} {xn9 xq9 : Str} {xN9 : Addr} {xb9 : List Value} {xs9 : List Str} {xu9 : List Value} {xa9 : Bool} {xc9 : Option Bool} {xd9 : Option Addr} {m09 m19 m29 m39 m59 : Option Value} {xod9 xan9 : Option Addr} {xsl9 : Array (Option Value)} {xoc9 xdc9 xpm9 xcd9 xct9 : Value}
    {y10 : Addr} {xn10 xq10 : Str} {xN10 : Addr} {xb10 : List Value} {xs10 : List Str} {xu10 : List Value} {xa10 : Bool} {xc10 : Option Bool} {xd10 : Option Addr} {m010 m110 m210 m310 m510 : Option Value} {xod10 xan10 : Option Addr} {xsl10 : Array (Option Value)} {xoc10 xdc10 xpm10 xcd10 xct10 : Value}
    {y11 : Addr} {xn11 xq11 : Str} {xN11 : Addr} {xb11 : List Value} {xs11 : List Str} {xu11 : List Value} {xa11 : Bool} {xc11 : Option Bool} {xd11 : Option Addr} {m011 m111 m211 m311 m511 : Option Value} {xod11 xan11 : Option Addr} {xsl11 : Array (Option Value)} {xoc11 xdc11 xpm11 xcd11 xct11 : Value}
    {y12 : Addr} {xn12 xq12 : Str} {xN12 : Addr} {xb12 : List Value} {xs12 : List Str} {xu12 : List Value} {xa12 : Bool} {xc12 : Option Bool} {xd12 : Option Addr} {m012 m112 m212 m312 m512 : Option Value} {xod12 xan12 : Option Addr} {xsl12 : Array (Option Value)} {xoc12 xdc12 xpm12 xcd12 xct12 : Value}
    {y13 : Addr} {xn13 xq13 : Str} {xN13 : Addr} {xb13 : List Value} {xs13 : List Str} {xu13 : List Value} {xa13 : Bool} {xc13 : Option Bool} {xd13 : Option Addr} {m013 m113 m213 m313 m513 : Option Value} {xod13 xan13 : Option Addr} {xsl13 : Array (Option Value)} {xoc13 xdc13 xpm13 xcd13 xct13 : Value}
    {y14 : Addr} {xn14 xq14 : Str} {xN14 : Addr} {xb14 : List Value} {xs14 : List Str} {xu14 : List Value} {xa14 : Bool} {xc14 : Option Bool} {xd14 : Option Addr} {m014 m114 m214 m314 m514 : Option Value} {xod14 xan14 : Option Addr} {xsl14 : Array (Option Value)} {xoc14 xdc14 xpm14 xcd14 xct14 : Value}
    {y15 : Addr} {xn15 xq15 : Str} {xN15 : Addr} {xb15 : List Value} {xs15 : List Str} {xu15 : List Value} {xa15 : Bool} {xc15 : Option Bool} {xd15 : Option Addr} {m015 m115 m215 m315 m515 : Option Value} {xod15 xan15 : Option Addr} {xsl15 : Array (Option Value)} {xoc15 xdc15 xpm15 xcd15 xct15 : Value}
    {y16 : Addr} {xn16 xq16 : Str} {xN16 : Addr} {xb16 : List Value} {xs16 : List Str} {xu16 : List Value} {xa16 : Bool} {xc16 : Option Bool} {xd16 : Option Addr} {m016 m116 m216 m316 m516 : Option Value} {xod16 xan16 : Option Addr} {xsl16 : Array (Option Value)} {xoc16 xdc16 xpm16 xcd16 xct16 : Value}
    (a1 : PySem.W.nsIn K mainGlobals "_law_dice" = some (some (.ref f1)))
    (l1 : K.lookup f1 = some ⟨oc1, od1, .func (PySem.W.fnOf "_law_dice" "_law_dice" (defArgs sDice) (defBody sDice) (defScope sDice) .none kV1 dc1 pm1 an1 cd1 ct1), sl1⟩)
    (c1 : PySem.W.codeIn K cd1 "_law_dice" = true)
    (k1 : PySem.W.keepIn K (.ref f1) = true)
    (a2 : PySem.W.nsIn K mainGlobals "_law_roll" = some (some (.ref f2)))
    (l2 : K.lookup f2 = some ⟨oc2, od2, .func (PySem.W.fnOf "_law_roll" "_law_roll" (defArgs sRoll) (defBody sRoll) (defScope sRoll) .none kV2 dc2 pm2 an2 cd2 ct2), sl2⟩)
    (c2 : PySem.W.codeIn K cd2 "_law_roll" = true)
    (k2 : PySem.W.keepIn K (.ref f2) = true)
    (a3 : PySem.W.nsIn K mainGlobals "_law_pick" = some (some (.ref f3)))
    (l3 : K.lookup f3 = some ⟨oc3, od3, .func (PySem.W.fnOf "_law_pick" "_law_pick" (defArgs sPick) (defBody sPick) (defScope sPick) .none kV3 dc3 pm3 an3 cd3 ct3), sl3⟩)
    (c3 : PySem.W.codeIn K cd3 "_law_pick" = true)
    (k3 : PySem.W.keepIn K (.ref f3) = true)
    (a4 : PySem.W.nsIn K mainGlobals "_law_mixed" = some (some (.ref f4)))
    (l4 : K.lookup f4 = some ⟨oc4, od4, .func (PySem.W.fnOf "_law_mixed" "_law_mixed" (defArgs sMixed) (defBody sMixed) (defScope sMixed) .none kV4 dc4 pm4 an4 cd4 ct4), sl4⟩)
    (c4 : PySem.W.codeIn K cd4 "_law_mixed" = true)
    (k4 : PySem.W.keepIn K (.ref f4) = true)
    (a5 : PySem.W.nsIn K mainGlobals "_law_odd_values" = some (some (.ref f5)))
    (l5 : K.lookup f5 = some ⟨oc5, od5, .func (PySem.W.fnOf "_law_odd_values" "_law_odd_values" (defArgs sOdd) (defBody sOdd) (defScope sOdd) .none kV5 dc5 pm5 an5 cd5 ct5), sl5⟩)
    (c5 : PySem.W.codeIn K cd5 "_law_odd_values" = true)
    (k5 : PySem.W.keepIn K (.ref f5) = true)
    (a6 : PySem.W.nsIn K mainGlobals "_law_own" = some (some (.ref f6)))
    (l6 : K.lookup f6 = some ⟨oc6, od6, .func (PySem.W.fnOf "_law_own" "_law_own" (defArgs sOwn) (defBody sOwn) (defScope sOwn) .none kV6 dc6 pm6 an6 cd6 ct6), sl6⟩)
    (c6 : PySem.W.codeIn K cd6 "_law_own" = true)
    (k6 : PySem.W.keepIn K (.ref f6) = true)
    (a7 : PySem.W.nsIn K mainGlobals "_law_python" = some (some (.ref f7)))
    (l7 : K.lookup f7 = some ⟨oc7, od7, .func (PySem.W.fnOf "_law_python" "_law_python" (defArgs sPython) (defBody sPython) (defScope sPython) .none kV7 dc7 pm7 an7 cd7 ct7), sl7⟩)
    (c7 : PySem.W.codeIn K cd7 "_law_python" = true)
    (k7 : PySem.W.keepIn K (.ref f7) = true)
    (a8 : PySem.W.nsIn K mainGlobals "_law_messages" = some (some (.ref f8)))
    (l8 : K.lookup f8 = some ⟨oc8, od8, .func (PySem.W.fnOf "_law_messages" "_law_messages" (defArgs sMess) (defBody sMess) (defScope sMess) .none kV8 dc8 pm8 an8 cd8 ct8), sl8⟩)
    (c8 : PySem.W.codeIn K cd8 "_law_messages" = true)
    (k8 : PySem.W.keepIn K (.ref f8) = true)
    (a9 : PySem.W.nsIn K mainGlobals "_law_kept" = some (some (.ref f9)))
    (l9 : K.lookup f9 = some ⟨oc9, od9, .func (PySem.W.fnOf "_law_kept" "_law_kept" (defArgs sKept) (defBody sKept) (defScope sKept) .none kV9 dc9 pm9 an9 cd9 ct9), sl9⟩)
    (c9 : PySem.W.codeIn K cd9 "_law_kept" = true)
    (k9 : PySem.W.keepIn K (.ref f9) = true)
    (a10 : PySem.W.nsIn K mainGlobals "law" = some (some (.ref f10)))
    (l10 : K.lookup f10 = some ⟨oc10, od10, .func (PySem.W.fnOf "law" "law" (defArgs sLaw) (defBody sLaw) (defScope sLaw) .none kV10 dc10 pm10 an10 cd10 ct10), sl10⟩)
    (c10 : PySem.W.codeIn K cd10 "law" = true)
    (k10 : PySem.W.keepIn K (.ref f10) = true)
    (n0 : PySem.W.nsIn K mainGlobals "CoverError" = some (some (.ref c_0)))
    (kp0 : PySem.W.keepIn K (.ref c_0) = true)
    (n1 : PySem.W.nsIn K mainGlobals "InvalidOperators" = some (some (.ref c_1)))
    (kp1 : PySem.W.keepIn K (.ref c_1) = true)
    (n2 : PySem.W.nsIn K mainGlobals "InvalidTree" = some (some (.ref c_2)))
    (kp2 : PySem.W.keepIn K (.ref c_2) = true)
    (n3 : PySem.W.nsIn K mainGlobals "InvalidBook" = some (some (.ref c_3)))
    (kp3 : PySem.W.keepIn K (.ref c_3) = true)
    (n4 : PySem.W.nsIn K mainGlobals "InvalidCover" = some (some (.ref c_4)))
    (kp4 : PySem.W.keepIn K (.ref c_4) = true)
    (n5 : PySem.W.nsIn K mainGlobals "InvalidKind" = some (some (.ref c_5)))
    (kp5 : PySem.W.keepIn K (.ref c_5) = true)
    (n6 : PySem.W.nsIn K mainGlobals "InvalidState" = some (some (.ref c_6)))
    (kp6 : PySem.W.keepIn K (.ref c_6) = true)
    (n7 : PySem.W.nsIn K mainGlobals "InvalidPaper" = some (some (.ref c_7)))
    (kp7 : PySem.W.keepIn K (.ref c_7) = true)
    (n8 : PySem.W.nsIn K mainGlobals "InvalidOperation" = some (some (.ref c_8)))
    (kp8 : PySem.W.keepIn K (.ref c_8) = true)
    (n9 : PySem.W.nsIn K mainGlobals "ParseError" = some (some (.ref c_9)))
    (kp9 : PySem.W.keepIn K (.ref c_9) = true)
    (n10 : PySem.W.nsIn K mainGlobals "UnknownName" = some (some (.ref c_10)))
    (kp10 : PySem.W.keepIn K (.ref c_10) = true)
    (n11 : PySem.W.nsIn K mainGlobals "NotCovered" = some (some (.ref c_11)))
    (kp11 : PySem.W.keepIn K (.ref c_11) = true)
    (n12 : PySem.W.nsIn K mainGlobals "InvalidNumber" = some (some (.ref c_12)))
    (kp12 : PySem.W.keepIn K (.ref c_12) = true)
    (n13 : PySem.W.nsIn K mainGlobals "NothingToUndo" = some (some (.ref c_13)))
    (kp13 : PySem.W.keepIn K (.ref c_13) = true)
    (n14 : PySem.W.nsIn K mainGlobals "TooMany" = some (some (.ref c_14)))
    (kp14 : PySem.W.keepIn K (.ref c_14) = true)
    (n15 : PySem.W.nsIn K mainGlobals "Stuck" = some (some (.ref c_15)))
    (kp15 : PySem.W.keepIn K (.ref c_15) = true)
    (n16 : PySem.W.nsIn K mainGlobals "Refused" = some (some (.ref c_16)))
    (kp16 : PySem.W.keepIn K (.ref c_16) = true)
    (q0 : PySem.W.excIn K c_0 [.type "ValueError", .type "Exception", .type "BaseException", .type "object"] "ValueError.__new__" = true)
    (q1 : PySem.W.excIn K c_1 [.type "ValueError", .type "Exception", .type "BaseException", .type "object"] "ValueError.__new__" = true)
    (q2 : PySem.W.excIn K c_2 [.type "ValueError", .type "Exception", .type "BaseException", .type "object"] "ValueError.__new__" = true)
    (q3 : PySem.W.excIn K c_3 [.type "ValueError", .type "Exception", .type "BaseException", .type "object"] "ValueError.__new__" = true)
    (q4 : PySem.W.excIn K c_4 [.type "ValueError", .type "Exception", .type "BaseException", .type "object"] "ValueError.__new__" = true)
    (q5 : PySem.W.excIn K c_5 [.type "ValueError", .type "Exception", .type "BaseException", .type "object"] "ValueError.__new__" = true)
    (q6 : PySem.W.excIn K c_6 [.type "ValueError", .type "Exception", .type "BaseException", .type "object"] "ValueError.__new__" = true)
    (q7 : PySem.W.excIn K c_7 [.type "ValueError", .type "Exception", .type "BaseException", .type "object"] "ValueError.__new__" = true)
    (q8 : PySem.W.excIn K c_8 [.type "ValueError", .type "Exception", .type "BaseException", .type "object"] "ValueError.__new__" = true)
    (spe : PySem.W.specialIn K (.builtin "object.__class__") "__get__" = some (some (.builtin "getset_descriptor.__get__")))
    (tak : PySem.W.takesIn K (.builtin "object.__class__") = some true)
    (eg0 : PySem.W.findIn K (.ref c_0) "__getattribute__" = some (some (.builtin "BaseException.__getattribute__")))
    (ek0 : PySem.W.findIn K (.ref c_0) "__getattr__" = some none)
    (es0 : PySem.W.subIn K (.ref c_0) (.type "BaseException") = some true)
    (ed0 : PySem.W.hasDictIn K c_0 = true)
    (ea0 : PySem.W.findIn K (.ref c_0) "__class__" = some (some (.builtin "object.__class__")))
    (em0 : PySem.W.mroIn K c_0 (.type "object") = some true)
    (eg1 : PySem.W.findIn K (.ref c_1) "__getattribute__" = some (some (.builtin "BaseException.__getattribute__")))
    (ek1 : PySem.W.findIn K (.ref c_1) "__getattr__" = some none)
    (es1 : PySem.W.subIn K (.ref c_1) (.type "BaseException") = some true)
    (ed1 : PySem.W.hasDictIn K c_1 = true)
    (ea1 : PySem.W.findIn K (.ref c_1) "__class__" = some (some (.builtin "object.__class__")))
    (em1 : PySem.W.mroIn K c_1 (.type "object") = some true)
    (eg2 : PySem.W.findIn K (.ref c_2) "__getattribute__" = some (some (.builtin "BaseException.__getattribute__")))
    (ek2 : PySem.W.findIn K (.ref c_2) "__getattr__" = some none)
    (es2 : PySem.W.subIn K (.ref c_2) (.type "BaseException") = some true)
    (ed2 : PySem.W.hasDictIn K c_2 = true)
    (ea2 : PySem.W.findIn K (.ref c_2) "__class__" = some (some (.builtin "object.__class__")))
    (em2 : PySem.W.mroIn K c_2 (.type "object") = some true)
    (eg3 : PySem.W.findIn K (.ref c_3) "__getattribute__" = some (some (.builtin "BaseException.__getattribute__")))
    (ek3 : PySem.W.findIn K (.ref c_3) "__getattr__" = some none)
    (es3 : PySem.W.subIn K (.ref c_3) (.type "BaseException") = some true)
    (ed3 : PySem.W.hasDictIn K c_3 = true)
    (ea3 : PySem.W.findIn K (.ref c_3) "__class__" = some (some (.builtin "object.__class__")))
    (em3 : PySem.W.mroIn K c_3 (.type "object") = some true)
    (eg4 : PySem.W.findIn K (.ref c_4) "__getattribute__" = some (some (.builtin "BaseException.__getattribute__")))
    (ek4 : PySem.W.findIn K (.ref c_4) "__getattr__" = some none)
    (es4 : PySem.W.subIn K (.ref c_4) (.type "BaseException") = some true)
    (ed4 : PySem.W.hasDictIn K c_4 = true)
    (ea4 : PySem.W.findIn K (.ref c_4) "__class__" = some (some (.builtin "object.__class__")))
    (em4 : PySem.W.mroIn K c_4 (.type "object") = some true)
    (eg5 : PySem.W.findIn K (.ref c_5) "__getattribute__" = some (some (.builtin "BaseException.__getattribute__")))
    (ek5 : PySem.W.findIn K (.ref c_5) "__getattr__" = some none)
    (es5 : PySem.W.subIn K (.ref c_5) (.type "BaseException") = some true)
    (ed5 : PySem.W.hasDictIn K c_5 = true)
    (ea5 : PySem.W.findIn K (.ref c_5) "__class__" = some (some (.builtin "object.__class__")))
    (em5 : PySem.W.mroIn K c_5 (.type "object") = some true)
    (eg6 : PySem.W.findIn K (.ref c_6) "__getattribute__" = some (some (.builtin "BaseException.__getattribute__")))
    (ek6 : PySem.W.findIn K (.ref c_6) "__getattr__" = some none)
    (es6 : PySem.W.subIn K (.ref c_6) (.type "BaseException") = some true)
    (ed6 : PySem.W.hasDictIn K c_6 = true)
    (ea6 : PySem.W.findIn K (.ref c_6) "__class__" = some (some (.builtin "object.__class__")))
    (em6 : PySem.W.mroIn K c_6 (.type "object") = some true)
    (eg7 : PySem.W.findIn K (.ref c_7) "__getattribute__" = some (some (.builtin "BaseException.__getattribute__")))
    (ek7 : PySem.W.findIn K (.ref c_7) "__getattr__" = some none)
    (es7 : PySem.W.subIn K (.ref c_7) (.type "BaseException") = some true)
    (ed7 : PySem.W.hasDictIn K c_7 = true)
    (ea7 : PySem.W.findIn K (.ref c_7) "__class__" = some (some (.builtin "object.__class__")))
    (em7 : PySem.W.mroIn K c_7 (.type "object") = some true)
    (eg8 : PySem.W.findIn K (.ref c_8) "__getattribute__" = some (some (.builtin "BaseException.__getattribute__")))
    (ek8 : PySem.W.findIn K (.ref c_8) "__getattr__" = some none)
    (es8 : PySem.W.subIn K (.ref c_8) (.type "BaseException") = some true)
    (ed8 : PySem.W.hasDictIn K c_8 = true)
    (ea8 : PySem.W.findIn K (.ref c_8) "__class__" = some (some (.builtin "object.__class__")))
    (em8 : PySem.W.mroIn K c_8 (.type "object") = some true)
    (eg9 : PySem.W.findIn K (.ref c_9) "__getattribute__" = some (some (.builtin "BaseException.__getattribute__")))
    (ek9 : PySem.W.findIn K (.ref c_9) "__getattr__" = some none)
    (es9 : PySem.W.subIn K (.ref c_9) (.type "BaseException") = some true)
    (ed9 : PySem.W.hasDictIn K c_9 = true)
    (ea9 : PySem.W.findIn K (.ref c_9) "__class__" = some (some (.builtin "object.__class__")))
    (em9 : PySem.W.mroIn K c_9 (.type "object") = some true)
    (eg10 : PySem.W.findIn K (.ref c_10) "__getattribute__" = some (some (.builtin "BaseException.__getattribute__")))
    (ek10 : PySem.W.findIn K (.ref c_10) "__getattr__" = some none)
    (es10 : PySem.W.subIn K (.ref c_10) (.type "BaseException") = some true)
    (ed10 : PySem.W.hasDictIn K c_10 = true)
    (ea10 : PySem.W.findIn K (.ref c_10) "__class__" = some (some (.builtin "object.__class__")))
    (em10 : PySem.W.mroIn K c_10 (.type "object") = some true)
    (eg11 : PySem.W.findIn K (.ref c_11) "__getattribute__" = some (some (.builtin "BaseException.__getattribute__")))
    (ek11 : PySem.W.findIn K (.ref c_11) "__getattr__" = some none)
    (es11 : PySem.W.subIn K (.ref c_11) (.type "BaseException") = some true)
    (ed11 : PySem.W.hasDictIn K c_11 = true)
    (ea11 : PySem.W.findIn K (.ref c_11) "__class__" = some (some (.builtin "object.__class__")))
    (em11 : PySem.W.mroIn K c_11 (.type "object") = some true)
    (eg12 : PySem.W.findIn K (.ref c_12) "__getattribute__" = some (some (.builtin "BaseException.__getattribute__")))
    (ek12 : PySem.W.findIn K (.ref c_12) "__getattr__" = some none)
    (es12 : PySem.W.subIn K (.ref c_12) (.type "BaseException") = some true)
    (ed12 : PySem.W.hasDictIn K c_12 = true)
    (ea12 : PySem.W.findIn K (.ref c_12) "__class__" = some (some (.builtin "object.__class__")))
    (em12 : PySem.W.mroIn K c_12 (.type "object") = some true)
    (eg13 : PySem.W.findIn K (.ref c_13) "__getattribute__" = some (some (.builtin "BaseException.__getattribute__")))
    (ek13 : PySem.W.findIn K (.ref c_13) "__getattr__" = some none)
    (es13 : PySem.W.subIn K (.ref c_13) (.type "BaseException") = some true)
    (ed13 : PySem.W.hasDictIn K c_13 = true)
    (ea13 : PySem.W.findIn K (.ref c_13) "__class__" = some (some (.builtin "object.__class__")))
    (em13 : PySem.W.mroIn K c_13 (.type "object") = some true)
    (eg14 : PySem.W.findIn K (.ref c_14) "__getattribute__" = some (some (.builtin "BaseException.__getattribute__")))
    (ek14 : PySem.W.findIn K (.ref c_14) "__getattr__" = some none)
    (es14 : PySem.W.subIn K (.ref c_14) (.type "BaseException") = some true)
    (ed14 : PySem.W.hasDictIn K c_14 = true)
    (ea14 : PySem.W.findIn K (.ref c_14) "__class__" = some (some (.builtin "object.__class__")))
    (em14 : PySem.W.mroIn K c_14 (.type "object") = some true)
    (eg15 : PySem.W.findIn K (.ref c_15) "__getattribute__" = some (some (.builtin "BaseException.__getattribute__")))
    (ek15 : PySem.W.findIn K (.ref c_15) "__getattr__" = some none)
    (es15 : PySem.W.subIn K (.ref c_15) (.type "BaseException") = some true)
    (ed15 : PySem.W.hasDictIn K c_15 = true)
    (ea15 : PySem.W.findIn K (.ref c_15) "__class__" = some (some (.builtin "object.__class__")))
    (em15 : PySem.W.mroIn K c_15 (.type "object") = some true)
    (eg16 : PySem.W.findIn K (.ref c_16) "__getattribute__" = some (some (.builtin "BaseException.__getattribute__")))
    (ek16 : PySem.W.findIn K (.ref c_16) "__getattr__" = some none)
    (es16 : PySem.W.subIn K (.ref c_16) (.type "BaseException") = some true)
    (ed16 : PySem.W.hasDictIn K c_16 = true)
    (ea16 : PySem.W.findIn K (.ref c_16) "__class__" = some (some (.builtin "object.__class__")))
    (em16 : PySem.W.mroIn K c_16 (.type "object") = some true)
    (to0 : Told K c_0 (clsL c_0 c_1 c_2 c_3 c_4 c_5 c_6 c_7 c_8 c_9 c_10 c_11 c_12 c_13 c_14 c_15 c_16) [true, false, false, false, false, false, false, false, false, false, false, false, false, false, false, false, false])
    (tp0 : Told K c_0 pysL [true, false, false, false, false, false, false])
    (to1 : Told K c_1 (clsL c_0 c_1 c_2 c_3 c_4 c_5 c_6 c_7 c_8 c_9 c_10 c_11 c_12 c_13 c_14 c_15 c_16) [true, true, false, false, false, false, false, false, false, false, false, false, false, false, false, false, false])
    (tp1 : Told K c_1 pysL [true, false, false, false, false, false, false])
    (to2 : Told K c_2 (clsL c_0 c_1 c_2 c_3 c_4 c_5 c_6 c_7 c_8 c_9 c_10 c_11 c_12 c_13 c_14 c_15 c_16) [true, false, true, false, false, false, false, false, false, false, false, false, false, false, false, false, false])
    (tp2 : Told K c_2 pysL [true, false, false, false, false, false, false])
    (to3 : Told K c_3 (clsL c_0 c_1 c_2 c_3 c_4 c_5 c_6 c_7 c_8 c_9 c_10 c_11 c_12 c_13 c_14 c_15 c_16) [true, false, false, true, false, false, false, false, false, false, false, false, false, false, false, false, false])
    (tp3 : Told K c_3 pysL [true, false, false, false, false, false, false])
    (to4 : Told K c_4 (clsL c_0 c_1 c_2 c_3 c_4 c_5 c_6 c_7 c_8 c_9 c_10 c_11 c_12 c_13 c_14 c_15 c_16) [true, false, false, false, true, false, false, false, false, false, false, false, false, false, false, false, false])
    (tp4 : Told K c_4 pysL [true, false, false, false, false, false, false])
    (to5 : Told K c_5 (clsL c_0 c_1 c_2 c_3 c_4 c_5 c_6 c_7 c_8 c_9 c_10 c_11 c_12 c_13 c_14 c_15 c_16) [true, false, false, false, false, true, false, false, false, false, false, false, false, false, false, false, false])
    (tp5 : Told K c_5 pysL [true, false, false, false, false, false, false])
    (to6 : Told K c_6 (clsL c_0 c_1 c_2 c_3 c_4 c_5 c_6 c_7 c_8 c_9 c_10 c_11 c_12 c_13 c_14 c_15 c_16) [true, false, false, false, false, false, true, false, false, false, false, false, false, false, false, false, false])
    (tp6 : Told K c_6 pysL [true, false, false, false, false, false, false])
    (to7 : Told K c_7 (clsL c_0 c_1 c_2 c_3 c_4 c_5 c_6 c_7 c_8 c_9 c_10 c_11 c_12 c_13 c_14 c_15 c_16) [true, false, false, false, false, false, false, true, false, false, false, false, false, false, false, false, false])
    (tp7 : Told K c_7 pysL [true, false, false, false, false, false, false])
    (to8 : Told K c_8 (clsL c_0 c_1 c_2 c_3 c_4 c_5 c_6 c_7 c_8 c_9 c_10 c_11 c_12 c_13 c_14 c_15 c_16) [true, false, false, false, false, false, false, false, true, false, false, false, false, false, false, false, false])
    (tp8 : Told K c_8 pysL [true, false, false, false, false, false, false])
    (to9 : Told K c_9 (clsL c_0 c_1 c_2 c_3 c_4 c_5 c_6 c_7 c_8 c_9 c_10 c_11 c_12 c_13 c_14 c_15 c_16) [true, false, false, false, false, false, false, false, false, true, false, false, false, false, false, false, false])
    (tp9 : Told K c_9 pysL [true, false, false, false, false, false, false])
    (to10 : Told K c_10 (clsL c_0 c_1 c_2 c_3 c_4 c_5 c_6 c_7 c_8 c_9 c_10 c_11 c_12 c_13 c_14 c_15 c_16) [false, false, false, false, false, false, false, false, false, false, true, false, false, false, false, false, false])
    (tp10 : Told K c_10 pysL [false, true, true, false, false, false, false])
    (to11 : Told K c_11 (clsL c_0 c_1 c_2 c_3 c_4 c_5 c_6 c_7 c_8 c_9 c_10 c_11 c_12 c_13 c_14 c_15 c_16) [false, false, false, false, false, false, false, false, false, false, false, true, false, false, false, false, false])
    (tp11 : Told K c_11 pysL [false, false, true, false, false, false, false])
    (to12 : Told K c_12 (clsL c_0 c_1 c_2 c_3 c_4 c_5 c_6 c_7 c_8 c_9 c_10 c_11 c_12 c_13 c_14 c_15 c_16) [false, false, false, false, false, false, false, false, false, false, false, false, true, false, false, false, false])
    (tp12 : Told K c_12 pysL [false, false, true, true, false, false, false])
    (to13 : Told K c_13 (clsL c_0 c_1 c_2 c_3 c_4 c_5 c_6 c_7 c_8 c_9 c_10 c_11 c_12 c_13 c_14 c_15 c_16) [false, false, false, false, false, false, false, false, false, false, false, false, false, true, false, false, false])
    (tp13 : Told K c_13 pysL [false, false, false, false, true, false, false])
    (to14 : Told K c_14 (clsL c_0 c_1 c_2 c_3 c_4 c_5 c_6 c_7 c_8 c_9 c_10 c_11 c_12 c_13 c_14 c_15 c_16) [false, false, false, false, false, false, false, false, false, false, false, false, false, false, true, false, false])
    (tp14 : Told K c_14 pysL [false, false, false, false, false, true, true])
    (to15 : Told K c_15 (clsL c_0 c_1 c_2 c_3 c_4 c_5 c_6 c_7 c_8 c_9 c_10 c_11 c_12 c_13 c_14 c_15 c_16) [false, false, false, false, false, false, false, false, false, false, false, false, false, false, false, true, false])
    (tp15 : Told K c_15 pysL [false, false, false, false, false, false, true])
    (to16 : Told K c_16 (clsL c_0 c_1 c_2 c_3 c_4 c_5 c_6 c_7 c_8 c_9 c_10 c_11 c_12 c_13 c_14 c_15 c_16) [false, false, false, false, false, false, false, false, false, false, false, false, false, false, false, false, true])
    (tp16 : Told K c_16 pysL [false, false, false, false, false, false, true])
    (xL9 : K.lookup c_9 = some (excClassObj xn9 xq9 c_9 xN9 xb9 (.ref c_0 :: [.type "ValueError", .type "Exception", .type "BaseException", .type "object"]) true xs9 xu9 xa9 xc9 xd9 m09 m19 m29 m39 m59 "ValueError.__new__"))
    (xsa9 : PySem.W.findIn K (.ref c_9) "__setattr__" = some (some (.builtin "object.__setattr__")))
    (xnb9 : PySem.W.findIn K (.ref c_9) "number" = some none)
    (xa19 : PySem.W.findIn K (.ref c_9) "__init__" = some (some (.ref y9)))
    (xt19 : PySem.W.typeIn K (.ref y9) = some (.type "function"))
    (xl19 : K.lookup y9 = some ⟨xoc9, xod9, .func (PySem.W.fnOf "__init__" "ParseError.__init__" (PySem.ErrO.iAPE ⟨22, 17, 22, 21⟩ ⟨22, 23, 22, 29⟩) (PySem.ErrO.iBPE ⟨23, 8, 23, 12⟩ ⟨23, 8, 23, 19⟩ ⟨23, 22, 23, 28⟩ ⟨23, 8, 23, 28⟩) PySem.ErrO.iSPE .none .none xdc9 xpm9 xan9 xcd9 xct9), xsl9⟩)
    (xc19 : PySem.W.codeIn K xcd9 "ParseError.__init__" = true)
    (xL10 : K.lookup c_10 = some (excClassObj xn10 xq10 c_10 xN10 xb10 [.type "KeyError", .type "LookupError", .type "Exception", .type "BaseException", .type "object"] true xs10 xu10 xa10 xc10 xd10 m010 m110 m210 m310 m510 "LookupError.__new__"))
    (xsa10 : PySem.W.findIn K (.ref c_10) "__setattr__" = some (some (.builtin "object.__setattr__")))
    (xnb10 : PySem.W.findIn K (.ref c_10) "word" = some none)
    (xa110 : PySem.W.findIn K (.ref c_10) "__init__" = some (some (.ref y10)))
    (xt110 : PySem.W.typeIn K (.ref y10) = some (.type "function"))
    (xl110 : K.lookup y10 = some ⟨xoc10, xod10, .func (PySem.W.fnOf "__init__" "UnknownName.__init__" (PySem.ErrO.iAUN ⟨26, 17, 26, 21⟩ ⟨26, 23, 26, 27⟩) (PySem.ErrO.iBUN ⟨27, 8, 27, 12⟩ ⟨27, 8, 27, 17⟩ ⟨27, 20, 27, 24⟩ ⟨27, 8, 27, 24⟩) PySem.ErrO.iSUN .none .none xdc10 xpm10 xan10 xcd10 xct10), xsl10⟩)
    (xc110 : PySem.W.codeIn K xcd10 "UnknownName.__init__" = true)
    (xL11 : K.lookup c_11 = some (excClassObj xn11 xq11 c_11 xN11 xb11 [.type "LookupError", .type "Exception", .type "BaseException", .type "object"] true xs11 xu11 xa11 xc11 xd11 m011 m111 m211 m311 m511 "LookupError.__new__"))
    (xsa11 : PySem.W.findIn K (.ref c_11) "__setattr__" = some (some (.builtin "object.__setattr__")))
    (xnb11 : PySem.W.findIn K (.ref c_11) "uncovered" = some none)
    (xa111 : PySem.W.findIn K (.ref c_11) "__init__" = some (some (.ref y11)))
    (xt111 : PySem.W.typeIn K (.ref y11) = some (.type "function"))
    (xl111 : K.lookup y11 = some ⟨xoc11, xod11, .func (PySem.W.fnOf "__init__" "NotCovered.__init__" (PySem.ErrO.iANC ⟨30, 17, 30, 21⟩ ⟨30, 23, 30, 32⟩) (PySem.ErrO.iBNC ⟨31, 8, 31, 12⟩ ⟨31, 8, 31, 22⟩ ⟨31, 25, 31, 34⟩ ⟨31, 8, 31, 34⟩) PySem.ErrO.iSNC .none .none xdc11 xpm11 xan11 xcd11 xct11), xsl11⟩)
    (xc111 : PySem.W.codeIn K xcd11 "NotCovered.__init__" = true)
    (xL12 : K.lookup c_12 = some (excClassObj xn12 xq12 c_12 xN12 xb12 [.type "IndexError", .type "LookupError", .type "Exception", .type "BaseException", .type "object"] true xs12 xu12 xa12 xc12 xd12 m012 m112 m212 m312 m512 "IndexError.__new__"))
    (xsa12 : PySem.W.findIn K (.ref c_12) "__setattr__" = some (some (.builtin "object.__setattr__")))
    (xnb12 : PySem.W.findIn K (.ref c_12) "value" = some none)
    (xa112 : PySem.W.findIn K (.ref c_12) "__init__" = some (some (.ref y12)))
    (xt112 : PySem.W.typeIn K (.ref y12) = some (.type "function"))
    (xl112 : K.lookup y12 = some ⟨xoc12, xod12, .func (PySem.W.fnOf "__init__" "InvalidNumber.__init__" (PySem.ErrO.iAIN ⟨34, 17, 34, 21⟩ ⟨34, 23, 34, 28⟩) (PySem.ErrO.iBIN ⟨35, 8, 35, 12⟩ ⟨35, 8, 35, 18⟩ ⟨35, 21, 35, 26⟩ ⟨35, 8, 35, 26⟩) PySem.ErrO.iSIN .none .none xdc12 xpm12 xan12 xcd12 xct12), xsl12⟩)
    (xc112 : PySem.W.codeIn K xcd12 "InvalidNumber.__init__" = true)
    (xL13 : K.lookup c_13 = some (excClassObj xn13 xq13 c_13 xN13 xb13 [.type "RuntimeError", .type "Exception", .type "BaseException", .type "object"] true xs13 xu13 xa13 xc13 xd13 m013 m113 m213 m313 m513 "RuntimeError.__new__"))
    (xsa13 : PySem.W.findIn K (.ref c_13) "__setattr__" = some (some (.builtin "object.__setattr__")))
    (xnb13 : PySem.W.findIn K (.ref c_13) "many" = some none)
    (xa113 : PySem.W.findIn K (.ref c_13) "__init__" = some (some (.ref y13)))
    (xt113 : PySem.W.typeIn K (.ref y13) = some (.type "function"))
    (xl113 : K.lookup y13 = some ⟨xoc13, xod13, .func (PySem.W.fnOf "__init__" "NothingToUndo.__init__" (PySem.ErrO.iANU ⟨38, 17, 38, 21⟩ ⟨38, 23, 38, 27⟩) (PySem.ErrO.iBNU ⟨39, 8, 39, 12⟩ ⟨39, 8, 39, 17⟩ ⟨39, 20, 39, 24⟩ ⟨39, 8, 39, 24⟩) PySem.ErrO.iSNU .none .none xdc13 xpm13 xan13 xcd13 xct13), xsl13⟩)
    (xc113 : PySem.W.codeIn K xcd13 "NothingToUndo.__init__" = true)
    (xL14 : K.lookup c_14 = some (excClassObj xn14 xq14 c_14 xN14 xb14 [.type "OverflowError", .type "ArithmeticError", .type "Exception", .type "BaseException", .type "object"] true xs14 xu14 xa14 xc14 xd14 m014 m114 m214 m314 m514 "OverflowError.__new__"))
    (xsa14 : PySem.W.findIn K (.ref c_14) "__setattr__" = some (some (.builtin "object.__setattr__")))
    (xnb14 : PySem.W.findIn K (.ref c_14) "limit" = some none)
    (xa114 : PySem.W.findIn K (.ref c_14) "__init__" = some (some (.ref y14)))
    (xt114 : PySem.W.typeIn K (.ref y14) = some (.type "function"))
    (xl114 : K.lookup y14 = some ⟨xoc14, xod14, .func (PySem.W.fnOf "__init__" "TooMany.__init__" (PySem.ErrO.iATM ⟨42, 17, 42, 21⟩ ⟨42, 23, 42, 28⟩) (PySem.ErrO.iBTM ⟨43, 8, 43, 12⟩ ⟨43, 8, 43, 18⟩ ⟨43, 21, 43, 26⟩ ⟨43, 8, 43, 26⟩) PySem.ErrO.iSTM .none .none xdc14 xpm14 xan14 xcd14 xct14), xsl14⟩)
    (xc114 : PySem.W.codeIn K xcd14 "TooMany.__init__" = true)
    (xL15 : K.lookup c_15 = some (excClassObj xn15 xq15 c_15 xN15 xb15 [.type "ArithmeticError", .type "Exception", .type "BaseException", .type "object"] true xs15 xu15 xa15 xc15 xd15 m015 m115 m215 m315 m515 "ArithmeticError.__new__"))
    (xsa15 : PySem.W.findIn K (.ref c_15) "__setattr__" = some (some (.builtin "object.__setattr__")))
    (xnb15 : PySem.W.findIn K (.ref c_15) "place" = some none)
    (xa115 : PySem.W.findIn K (.ref c_15) "__init__" = some (some (.ref y15)))
    (xt115 : PySem.W.typeIn K (.ref y15) = some (.type "function"))
    (xl115 : K.lookup y15 = some ⟨xoc15, xod15, .func (PySem.W.fnOf "__init__" "Stuck.__init__" (PySem.ErrO.iASK ⟨46, 17, 46, 21⟩ ⟨46, 23, 46, 28⟩) (PySem.ErrO.iBSK ⟨47, 8, 47, 12⟩ ⟨47, 8, 47, 18⟩ ⟨47, 21, 47, 26⟩ ⟨47, 8, 47, 26⟩) PySem.ErrO.iSSK .none .none xdc15 xpm15 xan15 xcd15 xct15), xsl15⟩)
    (xc115 : PySem.W.codeIn K xcd15 "Stuck.__init__" = true)
    (xL16 : K.lookup c_16 = some (excClassObj xn16 xq16 c_16 xN16 xb16 [.type "ArithmeticError", .type "Exception", .type "BaseException", .type "object"] true xs16 xu16 xa16 xc16 xd16 m016 m116 m216 m316 m516 "ArithmeticError.__new__"))
    (xsa16 : PySem.W.findIn K (.ref c_16) "__setattr__" = some (some (.builtin "object.__setattr__")))
    (xnb16 : PySem.W.findIn K (.ref c_16) "pledge" = some none)
    (xa116 : PySem.W.findIn K (.ref c_16) "__init__" = some (some (.ref y16)))
    (xt116 : PySem.W.typeIn K (.ref y16) = some (.type "function"))
    (xl116 : K.lookup y16 = some ⟨xoc16, xod16, .func (PySem.W.fnOf "__init__" "Refused.__init__" (PySem.ErrO.iARF ⟨50, 17, 50, 21⟩ ⟨50, 23, 50, 29⟩) (PySem.ErrO.iBRF ⟨51, 8, 51, 12⟩ ⟨51, 8, 51, 19⟩ ⟨51, 22, 51, 28⟩ ⟨51, 8, 51, 28⟩) PySem.ErrO.iSRF .none .none xdc16 xpm16 xan16 xcd16 xct16), xsl16⟩)
    (xc116 : PySem.W.codeIn K xcd16 "Refused.__init__" = true)
    (z_len : PySem.W.nsIn K mainGlobals "len" = some none)
    (z_int : PySem.W.nsIn K mainGlobals "int" = some none)
    (z_abs : PySem.W.nsIn K mainGlobals "abs" = some none)
    (z_max : PySem.W.nsIn K mainGlobals "max" = some none)
    (z_min : PySem.W.nsIn K mainGlobals "min" = some none)
    (z_list : PySem.W.nsIn K mainGlobals "list" = some none)
    (z_range : PySem.W.nsIn K mainGlobals "range" = some none)
    (z_isinstance : PySem.W.nsIn K mainGlobals "isinstance" = some none)
    (z_str : PySem.W.nsIn K mainGlobals "str" = some none)
    (z_repr : PySem.W.nsIn K mainGlobals "repr" = some none)
    (z_ValueError : PySem.W.nsIn K mainGlobals "ValueError" = some none)
    (z_KeyError : PySem.W.nsIn K mainGlobals "KeyError" = some none)
    (z_LookupError : PySem.W.nsIn K mainGlobals "LookupError" = some none)
    (z_IndexError : PySem.W.nsIn K mainGlobals "IndexError" = some none)
    (z_RuntimeError : PySem.W.nsIn K mainGlobals "RuntimeError" = some none)
    (z_OverflowError : PySem.W.nsIn K mainGlobals "OverflowError" = some none)
    (z_ArithmeticError : PySem.W.nsIn K mainGlobals "ArithmeticError" = some none) :
    ∃ fd : FuncData, (∀ (s : Shared) (v : Value), BindsTo s fd ⟨[v], []⟩ [("script", v)]) ∧ ∀ base : Heap, K.In base → base.Ns mainGlobals mg → FnG P w K mg base CX0 4 fa fd ["script"] (spLaw K) := by
  have e := hfa.symm.trans (PySem.W.mg_of X G a10)
  cases e
  have F1 := fun_mk (st := sDice) l1 c1 k1
  have b1 := F1.binds (ps := ["script", "spot"]) fun _ _ _ _ _ _ us hl => match us, hl with | [_, _], _ => rfl
  have g1 := PySem.W.mg_of X G a1
  have F2 := fun_mk (st := sRoll) l2 c2 k2
  have b2 := F2.binds (ps := ["dice", "total"]) fun _ _ _ _ _ _ us hl => match us, hl with | [_, _], _ => rfl
  have g2 := PySem.W.mg_of X G a2
  have F3 := fun_mk (st := sPick) l3 c3 k3
  have b3 := F3.binds (ps := ["dice", "items"]) fun _ _ _ _ _ _ us hl => match us, hl with | [_, _], _ => rfl
  have g3 := PySem.W.mg_of X G a3
  have F4 := fun_mk (st := sMixed) l4 c4 k4
  have b4 := F4.binds (ps := ["dice", "items"]) fun _ _ _ _ _ _ us hl => match us, hl with | [_, _], _ => rfl
  have g4 := PySem.W.mg_of X G a4
  have F5 := fun_mk (st := sOdd) l5 c5 k5
  have b5 := F5.binds (ps := ["dice"]) fun _ _ _ _ _ _ us hl => match us, hl with | [_], _ => rfl
  have g5 := PySem.W.mg_of X G a5
  have F6 := fun_mk (st := sOwn) l6 c6 k6
  have b6 := F6.binds (ps := ["error"]) fun _ _ _ _ _ _ us hl => match us, hl with | [_], _ => rfl
  have g6 := PySem.W.mg_of X G a6
  have F7 := fun_mk (st := sPython) l7 c7 k7
  have b7 := F7.binds (ps := ["error"]) fun _ _ _ _ _ _ us hl => match us, hl with | [_], _ => rfl
  have g7 := PySem.W.mg_of X G a7
  have F8 := fun_mk (st := sMess) l8 c8 k8
  have b8 := F8.binds (ps := ["text"]) fun _ _ _ _ _ _ us hl => match us, hl with | [_], _ => rfl
  have g8 := PySem.W.mg_of X G a8
  have F9 := fun_mk (st := sKept) l9 c9 k9
  have b9 := F9.binds (ps := ["value"]) fun _ _ _ _ _ _ us hl => match us, hl with | [_], _ => rfl
  have g9 := PySem.W.mg_of X G a9
  have F10 := fun_mk (st := sLaw) l10 c10 k10
  have T : Free mg := ⟨PySem.W.mg_none_of X G z_len, PySem.W.mg_none_of X G z_int, PySem.W.mg_none_of X G z_abs, PySem.W.mg_none_of X G z_max, PySem.W.mg_none_of X G z_min, PySem.W.mg_none_of X G z_list, PySem.W.mg_none_of X G z_range, PySem.W.mg_none_of X G z_isinstance, PySem.W.mg_none_of X G z_str, PySem.W.mg_none_of X G z_repr, PySem.W.mg_none_of X G z_ValueError, PySem.W.mg_none_of X G z_KeyError, PySem.W.mg_none_of X G z_LookupError, PySem.W.mg_none_of X G z_IndexError, PySem.W.mg_none_of X G z_RuntimeError, PySem.W.mg_none_of X G z_OverflowError, PySem.W.mg_none_of X G z_ArithmeticError⟩
  have N : Where mg c_0 c_1 c_2 c_3 c_4 c_5 c_6 c_7 c_8 c_9 c_10 c_11 c_12 c_13 c_14 c_15 c_16 := ⟨PySem.W.mg_of X G n0, PySem.W.mg_of X G n1, PySem.W.mg_of X G n2, PySem.W.mg_of X G n3, PySem.W.mg_of X G n4, PySem.W.mg_of X G n5, PySem.W.mg_of X G n6, PySem.W.mg_of X G n7, PySem.W.mg_of X G n8, PySem.W.mg_of X G n9, PySem.W.mg_of X G n10, PySem.W.mg_of X G n11, PySem.W.mg_of X G n12, PySem.W.mg_of X G n13, PySem.W.mg_of X G n14, PySem.W.mg_of X G n15, PySem.W.mg_of X G n16⟩
  have Z0 : Ct K (clsL c_0 c_1 c_2 c_3 c_4 c_5 c_6 c_7 c_8 c_9 c_10 c_11 c_12 c_13 c_14 c_15 c_16) c_0 [true, false, false, false, false, false, false, false, false, false, false, false, false, false, false, false, false] [true, false, false, false, false, false, false] := ⟨⟨eg0, ek0, es0, ed0, ea0, spe, tak, em0⟩, to0, tp0⟩
  have Z1 : Ct K (clsL c_0 c_1 c_2 c_3 c_4 c_5 c_6 c_7 c_8 c_9 c_10 c_11 c_12 c_13 c_14 c_15 c_16) c_1 [true, true, false, false, false, false, false, false, false, false, false, false, false, false, false, false, false] [true, false, false, false, false, false, false] := ⟨⟨eg1, ek1, es1, ed1, ea1, spe, tak, em1⟩, to1, tp1⟩
  have Z2 : Ct K (clsL c_0 c_1 c_2 c_3 c_4 c_5 c_6 c_7 c_8 c_9 c_10 c_11 c_12 c_13 c_14 c_15 c_16) c_2 [true, false, true, false, false, false, false, false, false, false, false, false, false, false, false, false, false] [true, false, false, false, false, false, false] := ⟨⟨eg2, ek2, es2, ed2, ea2, spe, tak, em2⟩, to2, tp2⟩
  have Z3 : Ct K (clsL c_0 c_1 c_2 c_3 c_4 c_5 c_6 c_7 c_8 c_9 c_10 c_11 c_12 c_13 c_14 c_15 c_16) c_3 [true, false, false, true, false, false, false, false, false, false, false, false, false, false, false, false, false] [true, false, false, false, false, false, false] := ⟨⟨eg3, ek3, es3, ed3, ea3, spe, tak, em3⟩, to3, tp3⟩
  have Z4 : Ct K (clsL c_0 c_1 c_2 c_3 c_4 c_5 c_6 c_7 c_8 c_9 c_10 c_11 c_12 c_13 c_14 c_15 c_16) c_4 [true, false, false, false, true, false, false, false, false, false, false, false, false, false, false, false, false] [true, false, false, false, false, false, false] := ⟨⟨eg4, ek4, es4, ed4, ea4, spe, tak, em4⟩, to4, tp4⟩
  have Z5 : Ct K (clsL c_0 c_1 c_2 c_3 c_4 c_5 c_6 c_7 c_8 c_9 c_10 c_11 c_12 c_13 c_14 c_15 c_16) c_5 [true, false, false, false, false, true, false, false, false, false, false, false, false, false, false, false, false] [true, false, false, false, false, false, false] := ⟨⟨eg5, ek5, es5, ed5, ea5, spe, tak, em5⟩, to5, tp5⟩
  have Z6 : Ct K (clsL c_0 c_1 c_2 c_3 c_4 c_5 c_6 c_7 c_8 c_9 c_10 c_11 c_12 c_13 c_14 c_15 c_16) c_6 [true, false, false, false, false, false, true, false, false, false, false, false, false, false, false, false, false] [true, false, false, false, false, false, false] := ⟨⟨eg6, ek6, es6, ed6, ea6, spe, tak, em6⟩, to6, tp6⟩
  have Z7 : Ct K (clsL c_0 c_1 c_2 c_3 c_4 c_5 c_6 c_7 c_8 c_9 c_10 c_11 c_12 c_13 c_14 c_15 c_16) c_7 [true, false, false, false, false, false, false, true, false, false, false, false, false, false, false, false, false] [true, false, false, false, false, false, false] := ⟨⟨eg7, ek7, es7, ed7, ea7, spe, tak, em7⟩, to7, tp7⟩
  have Z8 : Ct K (clsL c_0 c_1 c_2 c_3 c_4 c_5 c_6 c_7 c_8 c_9 c_10 c_11 c_12 c_13 c_14 c_15 c_16) c_8 [true, false, false, false, false, false, false, false, true, false, false, false, false, false, false, false, false] [true, false, false, false, false, false, false] := ⟨⟨eg8, ek8, es8, ed8, ea8, spe, tak, em8⟩, to8, tp8⟩
  have Z9 : Ct K (clsL c_0 c_1 c_2 c_3 c_4 c_5 c_6 c_7 c_8 c_9 c_10 c_11 c_12 c_13 c_14 c_15 c_16) c_9 [true, false, false, false, false, false, false, false, false, true, false, false, false, false, false, false, false] [true, false, false, false, false, false, false] := ⟨⟨eg9, ek9, es9, ed9, ea9, spe, tak, em9⟩, to9, tp9⟩
  have Z10 : Ct K (clsL c_0 c_1 c_2 c_3 c_4 c_5 c_6 c_7 c_8 c_9 c_10 c_11 c_12 c_13 c_14 c_15 c_16) c_10 [false, false, false, false, false, false, false, false, false, false, true, false, false, false, false, false, false] [false, true, true, false, false, false, false] := ⟨⟨eg10, ek10, es10, ed10, ea10, spe, tak, em10⟩, to10, tp10⟩
  have Z11 : Ct K (clsL c_0 c_1 c_2 c_3 c_4 c_5 c_6 c_7 c_8 c_9 c_10 c_11 c_12 c_13 c_14 c_15 c_16) c_11 [false, false, false, false, false, false, false, false, false, false, false, true, false, false, false, false, false] [false, false, true, false, false, false, false] := ⟨⟨eg11, ek11, es11, ed11, ea11, spe, tak, em11⟩, to11, tp11⟩
  have Z12 : Ct K (clsL c_0 c_1 c_2 c_3 c_4 c_5 c_6 c_7 c_8 c_9 c_10 c_11 c_12 c_13 c_14 c_15 c_16) c_12 [false, false, false, false, false, false, false, false, false, false, false, false, true, false, false, false, false] [false, false, true, true, false, false, false] := ⟨⟨eg12, ek12, es12, ed12, ea12, spe, tak, em12⟩, to12, tp12⟩
  have Z13 : Ct K (clsL c_0 c_1 c_2 c_3 c_4 c_5 c_6 c_7 c_8 c_9 c_10 c_11 c_12 c_13 c_14 c_15 c_16) c_13 [false, false, false, false, false, false, false, false, false, false, false, false, false, true, false, false, false] [false, false, false, false, true, false, false] := ⟨⟨eg13, ek13, es13, ed13, ea13, spe, tak, em13⟩, to13, tp13⟩
  have Z14 : Ct K (clsL c_0 c_1 c_2 c_3 c_4 c_5 c_6 c_7 c_8 c_9 c_10 c_11 c_12 c_13 c_14 c_15 c_16) c_14 [false, false, false, false, false, false, false, false, false, false, false, false, false, false, true, false, false] [false, false, false, false, false, true, true] := ⟨⟨eg14, ek14, es14, ed14, ea14, spe, tak, em14⟩, to14, tp14⟩
  have Z15 : Ct K (clsL c_0 c_1 c_2 c_3 c_4 c_5 c_6 c_7 c_8 c_9 c_10 c_11 c_12 c_13 c_14 c_15 c_16) c_15 [false, false, false, false, false, false, false, false, false, false, false, false, false, false, false, true, false] [false, false, false, false, false, false, true] := ⟨⟨eg15, ek15, es15, ed15, ea15, spe, tak, em15⟩, to15, tp15⟩
  have Z16 : Ct K (clsL c_0 c_1 c_2 c_3 c_4 c_5 c_6 c_7 c_8 c_9 c_10 c_11 c_12 c_13 c_14 c_15 c_16) c_16 [false, false, false, false, false, false, false, false, false, false, false, false, false, false, false, false, true] [false, false, false, false, false, false, true] := ⟨⟨eg16, ek16, es16, ed16, ea16, spe, tak, em16⟩, to16, tp16⟩
  have M0 : MsgC K mg "CoverError" c_0 := ⟨PySem.W.mg_of X G n0, kp0, q0⟩
  have M1 : MsgC K mg "InvalidOperators" c_1 := ⟨PySem.W.mg_of X G n1, kp1, q1⟩
  have M2 : MsgC K mg "InvalidTree" c_2 := ⟨PySem.W.mg_of X G n2, kp2, q2⟩
  have M3 : MsgC K mg "InvalidBook" c_3 := ⟨PySem.W.mg_of X G n3, kp3, q3⟩
  have M4 : MsgC K mg "InvalidCover" c_4 := ⟨PySem.W.mg_of X G n4, kp4, q4⟩
  have M5 : MsgC K mg "InvalidKind" c_5 := ⟨PySem.W.mg_of X G n5, kp5, q5⟩
  have M6 : MsgC K mg "InvalidState" c_6 := ⟨PySem.W.mg_of X G n6, kp6, q6⟩
  have M7 : MsgC K mg "InvalidPaper" c_7 := ⟨PySem.W.mg_of X G n7, kp7, q7⟩
  have M8 : MsgC K mg "InvalidOperation" c_8 := ⟨PySem.W.mg_of X G n8, kp8, q8⟩
  have O9 : PySem.ErrO.OwnC K mg "ParseError" "number" c_9 := PySem.ErrO.ownPE PySem.F.excBase_ValueError ⟨by rw [List.contains_cons]; rfl, by rw [List.contains_cons]; rfl, by rw [List.contains_cons]; rfl⟩ (own_chain2 PySem.F.store_ValueError (by decide +kernel) c_9 c_0) xL9 (PySem.W.mg_of X G n9) kp9 xsa9 xnb9 xa19 xt19 ⟨_, _, _, _, _, _, _, _, _, _, _, _, _, _, xl19, xc19⟩ eg9 ek9 es9 ed9
  have O10 : PySem.ErrO.OwnC K mg "UnknownName" "word" c_10 := PySem.ErrO.ownUN PySem.F.excBase_LookupError ⟨by decide +kernel, by decide +kernel, by decide +kernel⟩ (PySem.OwnErr.chain_of PySem.F.store_KeyError (by decide +kernel) c_10) xL10 (PySem.W.mg_of X G n10) kp10 xsa10 xnb10 xa110 xt110 ⟨_, _, _, _, _, _, _, _, _, _, _, _, _, _, xl110, xc110⟩ eg10 ek10 es10 ed10
  have O11 : PySem.ErrO.OwnC K mg "NotCovered" "uncovered" c_11 := PySem.ErrO.ownNC PySem.F.excBase_LookupError ⟨by decide +kernel, by decide +kernel, by decide +kernel⟩ (PySem.OwnErr.chain_of PySem.F.store_LookupError (by decide +kernel) c_11) xL11 (PySem.W.mg_of X G n11) kp11 xsa11 xnb11 xa111 xt111 ⟨_, _, _, _, _, _, _, _, _, _, _, _, _, _, xl111, xc111⟩ eg11 ek11 es11 ed11
  have O12 : PySem.ErrO.OwnC K mg "InvalidNumber" "value" c_12 := PySem.ErrO.ownIN PySem.F.excBase_IndexError ⟨by decide +kernel, by decide +kernel, by decide +kernel⟩ (PySem.OwnErr.chain_of PySem.F.store_IndexError (by decide +kernel) c_12) xL12 (PySem.W.mg_of X G n12) kp12 xsa12 xnb12 xa112 xt112 ⟨_, _, _, _, _, _, _, _, _, _, _, _, _, _, xl112, xc112⟩ eg12 ek12 es12 ed12
  have O13 : PySem.ErrO.OwnC K mg "NothingToUndo" "many" c_13 := PySem.ErrO.ownNU PySem.F.excBase_RuntimeError ⟨by decide +kernel, by decide +kernel, by decide +kernel⟩ (PySem.OwnErr.chain_of PySem.F.store_RuntimeError (by decide +kernel) c_13) xL13 (PySem.W.mg_of X G n13) kp13 xsa13 xnb13 xa113 xt113 ⟨_, _, _, _, _, _, _, _, _, _, _, _, _, _, xl113, xc113⟩ eg13 ek13 es13 ed13
  have O14 : PySem.ErrO.OwnC K mg "TooMany" "limit" c_14 := PySem.ErrO.ownTM PySem.F.excBase_OverflowError ⟨by decide +kernel, by decide +kernel, by decide +kernel⟩ (PySem.OwnErr.chain_of PySem.F.store_OverflowError (by decide +kernel) c_14) xL14 (PySem.W.mg_of X G n14) kp14 xsa14 xnb14 xa114 xt114 ⟨_, _, _, _, _, _, _, _, _, _, _, _, _, _, xl114, xc114⟩ eg14 ek14 es14 ed14
  have O15 : PySem.ErrO.OwnC K mg "Stuck" "place" c_15 := PySem.ErrO.ownSK PySem.F.excBase_ArithmeticError ⟨by decide +kernel, by decide +kernel, by decide +kernel⟩ (PySem.OwnErr.chain_of PySem.F.store_ArithmeticError (by decide +kernel) c_15) xL15 (PySem.W.mg_of X G n15) kp15 xsa15 xnb15 xa115 xt115 ⟨_, _, _, _, _, _, _, _, _, _, _, _, _, _, xl115, xc115⟩ eg15 ek15 es15 ed15
  have O16 : PySem.ErrO.OwnC K mg "Refused" "pledge" c_16 := PySem.ErrO.ownRF PySem.F.excBase_ArithmeticError ⟨by decide +kernel, by decide +kernel, by decide +kernel⟩ (PySem.OwnErr.chain_of PySem.F.store_ArithmeticError (by decide +kernel) c_16) xL16 (PySem.W.mg_of X G n16) kp16 xsa16 xnb16 xa116 xt116 ⟨_, _, _, _, _, _, _, _, _, _, _, _, _, _, xl116, xc116⟩ eg16 ek16 es16 ed16
  exact ⟨PySem.W.fnOf "law" "law" (defArgs sLaw) (defBody sLaw) (defScope sLaw) .none kV10 dc10 pm10 an10 cd10 ct10, fun s v => .of_eq rfl, fun base _ _ => ok_law F10 T ⟨F2, b2, g2, F3, b3, g3, F4, b4, g4⟩ N ⟨F6, b6, g6, F7, b7, g7⟩ ⟨F1, b1, g1, F5, b5, g5, F8, b8, g8, F9, b9, g9⟩ M0 M1 M2 M3 M4 M5 M6 M7 M8 O9 O10 O11 O12 O13 O14 O15 O16 Z0 Z1 Z2 Z3 Z4 Z5 Z6 Z7 Z8 Z9 Z10 Z11 Z12 Z13 Z14 Z15 Z16⟩
end Pr
open PySem PySem.W PyProof.Rows
set_option maxHeartbeats 0 in
theorem PySem.Challenge.cw_munchbehind_k00_errors_told_holds : PySem.Challenge.rw_munchbehind_k00_errors_told.Holds := by
  w_on; o_law; k_head; (case hw => w_witness2)
  k_fill
  refine Gd.walk_ofG (l := PySem.Challenge.rw_munchbehind_k00_errors_told) (n := 63) (k := 4) (x := "script") (CX := fun _ => L2.CX0) (sp := fun w => Pr.spLaw _) rfl (by decide) rfl ⟨rfl, by decide, by decide⟩ (fun w h Y => PySem.W.kIn_of Y) ?F (fun _ _ a ns hl _ hS => ⟨a, ns, rfl, hS, hl, fun _ => rfl⟩) (fun _ _ _ _ _ h => h)
  case F =>
    intro w mg fa h KX G hmg
    refine' Pr.all_mk KX G hmg ?a1 ?l1 ?c1 ?k1 ?a2 ?l2 ?c2 ?k2 ?a3 ?l3 ?c3 ?k3 ?a4 ?l4 ?c4 ?k4 ?a5 ?l5 ?c5 ?k5 ?a6 ?l6 ?c6 ?k6 ?a7 ?l7 ?c7 ?k7 ?a8 ?l8 ?c8 ?k8 ?a9 ?l9 ?c9 ?k9 ?a10 ?l10 ?c10 ?k10 ?n0 ?kp0 ?n1 ?kp1 ?n2 ?kp2 ?n3 ?kp3 ?n4 ?kp4 ?n5 ?kp5 ?n6 ?kp6 ?n7 ?kp7 ?n8 ?kp8 ?n9 ?kp9 ?n10 ?kp10 ?n11 ?kp11 ?n12 ?kp12 ?n13 ?kp13 ?n14 ?kp14 ?n15 ?kp15 ?n16 ?kp16 ?q0 ?q1 ?q2 ?q3 ?q4 ?q5 ?q6 ?q7 ?q8 ?spe ?tak ?eg0 ?ek0 ?es0 ?ed0 ?ea0 ?em0 ?eg1 ?ek1 ?es1 ?ed1 ?ea1 ?em1 ?eg2 ?ek2 ?es2 ?ed2 ?ea2 ?em2 ?eg3 ?ek3 ?es3 ?ed3 ?ea3 ?em3 ?eg4 ?ek4 ?es4 ?ed4 ?ea4 ?em4 ?eg5 ?ek5 ?es5 ?ed5 ?ea5 ?em5 ?eg6 ?ek6 ?es6 ?ed6 ?ea6 ?em6 ?eg7 ?ek7 ?es7 ?ed7 ?ea7 ?em7 ?eg8 ?ek8 ?es8 ?ed8 ?ea8 ?em8 ?eg9 ?ek9 ?es9 ?ed9 ?ea9 ?em9 ?eg10 ?ek10 ?es10 ?ed10 ?ea10 ?em10 ?eg11 ?ek11 ?es11 ?ed11 ?ea11 ?em11 ?eg12 ?ek12 ?es12 ?ed12 ?ea12 ?em12 ?eg13 ?ek13 ?es13 ?ed13 ?ea13 ?em13 ?eg14 ?ek14 ?es14 ?ed14 ?ea14 ?em14 ?eg15 ?ek15 ?es15 ?ed15 ?ea15 ?em15 ?eg16 ?ek16 ?es16 ?ed16 ?ea16 ?em16 ?to0 ?tp0 ?to1 ?tp1 ?to2 ?tp2 ?to3 ?tp3 ?to4 ?tp4 ?to5 ?tp5 ?to6 ?tp6 ?to7 ?tp7 ?to8 ?tp8 ?to9 ?tp9 ?to10 ?tp10 ?to11 ?tp11 ?to12 ?tp12 ?to13 ?tp13 ?to14 ?tp14 ?to15 ?tp15 ?to16 ?tp16 ?xL9 ?xsa9 ?xnb9 ?xa19 ?xt19 ?xl19 ?xc19 ?xL10 ?xsa10 ?xnb10 ?xa110 ?xt110 ?xl110 ?xc110 ?xL11 ?xsa11 ?xnb11 ?xa111 ?xt111 ?xl111 ?xc111 ?xL12 ?xsa12 ?xnb12 ?xa112 ?xt112 ?xl112 ?xc112 ?xL13 ?xsa13 ?xnb13 ?xa113 ?xt113 ?xl113 ?xc113 ?xL14 ?xsa14 ?xnb14 ?xa114 ?xt114 ?xl114 ?xc114 ?xL15 ?xsa15 ?xnb15 ?xa115 ?xt115 ?xl115 ?xc115 ?xL16 ?xsa16 ?xnb16 ?xa116 ?xt116 ?xl116 ?xc116 ?z_len ?z_int ?z_abs ?z_max ?z_min ?z_list ?z_range ?z_isinstance ?z_str ?z_repr ?z_ValueError ?z_KeyError ?z_LookupError ?z_IndexError ?z_RuntimeError ?z_OverflowError ?z_ArithmeticError
    (case a1 => k_is)
    (case l1 => k_is)
    (case c1 => k_is)
    (case k1 => k_is)
    (case a2 => k_is)
    (case l2 => k_is)
    (case c2 => k_is)
    (case k2 => k_is)
    (case a3 => k_is)
    (case l3 => k_is)
    (case c3 => k_is)
    (case k3 => k_is)
    (case a4 => k_is)
    (case l4 => k_is)
    (case c4 => k_is)
    (case k4 => k_is)
    (case a5 => k_is)
    (case l5 => k_is)
    (case c5 => k_is)
    (case k5 => k_is)
    (case a6 => k_is)
    (case l6 => k_is)
    (case c6 => k_is)
    (case k6 => k_is)
    (case a7 => k_is)
    (case l7 => k_is)
    (case c7 => k_is)
    (case k7 => k_is)
    (case a8 => k_is)
    (case l8 => k_is)
    (case c8 => k_is)
    (case k8 => k_is)
    (case a9 => k_is)
    (case l9 => k_is)
    (case c9 => k_is)
    (case k9 => k_is)
    (case a10 => k_is)
    (case l10 => k_is)
    (case c10 => k_is)
    (case k10 => k_is)
    (case n0 => k_is)
    (case kp0 => k_is)
    (case n1 => k_is)
    (case kp1 => k_is)
    (case n2 => k_is)
    (case kp2 => k_is)
    (case n3 => k_is)
    (case kp3 => k_is)
    (case n4 => k_is)
    (case kp4 => k_is)
    (case n5 => k_is)
    (case kp5 => k_is)
    (case n6 => k_is)
    (case kp6 => k_is)
    (case n7 => k_is)
    (case kp7 => k_is)
    (case n8 => k_is)
    (case kp8 => k_is)
    (case n9 => k_is)
    (case kp9 => k_is)
    (case n10 => k_is)
    (case kp10 => k_is)
    (case n11 => k_is)
    (case kp11 => k_is)
    (case n12 => k_is)
    (case kp12 => k_is)
    (case n13 => k_is)
    (case kp13 => k_is)
    (case n14 => k_is)
    (case kp14 => k_is)
    (case n15 => k_is)
    (case kp15 => k_is)
    (case n16 => k_is)
    (case kp16 => k_is)
    (case q0 => k_exc)
    (case q1 => k_exc)
    (case q2 => k_exc)
    (case q3 => k_exc)
    (case q4 => k_exc)
    (case q5 => k_exc)
    (case q6 => k_exc)
    (case q7 => k_exc)
    (case q8 => k_exc)
    (case spe => k_is)
    (case tak => k_is)
    (case eg0 => k_is)
    (case ek0 => k_is)
    (case es0 => k_is)
    (case ed0 => k_is)
    (case ea0 => k_is)
    (case em0 => k_is)
    (case eg1 => k_is)
    (case ek1 => k_is)
    (case es1 => k_is)
    (case ed1 => k_is)
    (case ea1 => k_is)
    (case em1 => k_is)
    (case eg2 => k_is)
    (case ek2 => k_is)
    (case es2 => k_is)
    (case ed2 => k_is)
    (case ea2 => k_is)
    (case em2 => k_is)
    (case eg3 => k_is)
    (case ek3 => k_is)
    (case es3 => k_is)
    (case ed3 => k_is)
    (case ea3 => k_is)
    (case em3 => k_is)
    (case eg4 => k_is)
    (case ek4 => k_is)
    (case es4 => k_is)
    (case ed4 => k_is)
    (case ea4 => k_is)
    (case em4 => k_is)
    (case eg5 => k_is)
    (case ek5 => k_is)
    (case es5 => k_is)
    (case ed5 => k_is)
    (case ea5 => k_is)
    (case em5 => k_is)
    (case eg6 => k_is)
    (case ek6 => k_is)
    (case es6 => k_is)
    (case ed6 => k_is)
    (case ea6 => k_is)
    (case em6 => k_is)
    (case eg7 => k_is)
    (case ek7 => k_is)
    (case es7 => k_is)
    (case ed7 => k_is)
    (case ea7 => k_is)
    (case em7 => k_is)
    (case eg8 => k_is)
    (case ek8 => k_is)
    (case es8 => k_is)
    (case ed8 => k_is)
    (case ea8 => k_is)
    (case em8 => k_is)
    (case eg9 => k_is)
    (case ek9 => k_is)
    (case es9 => k_is)
    (case ed9 => k_is)
    (case ea9 => k_is)
    (case em9 => k_is)
    (case eg10 => k_is)
    (case ek10 => k_is)
    (case es10 => k_is)
    (case ed10 => k_is)
    (case ea10 => k_is)
    (case em10 => k_is)
    (case eg11 => k_is)
    (case ek11 => k_is)
    (case es11 => k_is)
    (case ed11 => k_is)
    (case ea11 => k_is)
    (case em11 => k_is)
    (case eg12 => k_is)
    (case ek12 => k_is)
    (case es12 => k_is)
    (case ed12 => k_is)
    (case ea12 => k_is)
    (case em12 => k_is)
    (case eg13 => k_is)
    (case ek13 => k_is)
    (case es13 => k_is)
    (case ed13 => k_is)
    (case ea13 => k_is)
    (case em13 => k_is)
    (case eg14 => k_is)
    (case ek14 => k_is)
    (case es14 => k_is)
    (case ed14 => k_is)
    (case ea14 => k_is)
    (case em14 => k_is)
    (case eg15 => k_is)
    (case ek15 => k_is)
    (case es15 => k_is)
    (case ed15 => k_is)
    (case ea15 => k_is)
    (case em15 => k_is)
    (case eg16 => k_is)
    (case ek16 => k_is)
    (case es16 => k_is)
    (case ed16 => k_is)
    (case ea16 => k_is)
    (case em16 => k_is)
    (case to0 => exact ⟨by kit_is, by kit_is, by kit_is, by kit_is, by kit_is, by kit_is, by kit_is, by kit_is, by kit_is, by kit_is, by kit_is, by kit_is, by kit_is, by kit_is, by kit_is, by kit_is, by kit_is, trivial⟩)
    (case tp0 => exact ⟨by kit_is, by kit_is, by kit_is, by kit_is, by kit_is, by kit_is, by kit_is, trivial⟩)
    (case to1 => exact ⟨by kit_is, by kit_is, by kit_is, by kit_is, by kit_is, by kit_is, by kit_is, by kit_is, by kit_is, by kit_is, by kit_is, by kit_is, by kit_is, by kit_is, by kit_is, by kit_is, by kit_is, trivial⟩)
    (case tp1 => exact ⟨by kit_is, by kit_is, by kit_is, by kit_is, by kit_is, by kit_is, by kit_is, trivial⟩)
    (case to2 => exact ⟨by kit_is, by kit_is, by kit_is, by kit_is, by kit_is, by kit_is, by kit_is, by kit_is, by kit_is, by kit_is, by kit_is, by kit_is, by kit_is, by kit_is, by kit_is, by kit_is, by kit_is, trivial⟩)
    (case tp2 => exact ⟨by kit_is, by kit_is, by kit_is, by kit_is, by kit_is, by kit_is, by kit_is, trivial⟩)
    (case to3 => exact ⟨by kit_is, by kit_is, by kit_is, by kit_is, by kit_is, by kit_is, by kit_is, by kit_is, by kit_is, by kit_is, by kit_is, by kit_is, by kit_is, by kit_is, by kit_is, by kit_is, by kit_is, trivial⟩)
    (case tp3 => exact ⟨by kit_is, by kit_is, by kit_is, by kit_is, by kit_is, by kit_is, by kit_is, trivial⟩)
    (case to4 => exact ⟨by kit_is, by kit_is, by kit_is, by kit_is, by kit_is, by kit_is, by kit_is, by kit_is, by kit_is, by kit_is, by kit_is, by kit_is, by kit_is, by kit_is, by kit_is, by kit_is, by kit_is, trivial⟩)
    (case tp4 => exact ⟨by kit_is, by kit_is, by kit_is, by kit_is, by kit_is, by kit_is, by kit_is, trivial⟩)
    (case to5 => exact ⟨by kit_is, by kit_is, by kit_is, by kit_is, by kit_is, by kit_is, by kit_is, by kit_is, by kit_is, by kit_is, by kit_is, by kit_is, by kit_is, by kit_is, by kit_is, by kit_is, by kit_is, trivial⟩)
    (case tp5 => exact ⟨by kit_is, by kit_is, by kit_is, by kit_is, by kit_is, by kit_is, by kit_is, trivial⟩)
    (case to6 => exact ⟨by kit_is, by kit_is, by kit_is, by kit_is, by kit_is, by kit_is, by kit_is, by kit_is, by kit_is, by kit_is, by kit_is, by kit_is, by kit_is, by kit_is, by kit_is, by kit_is, by kit_is, trivial⟩)
    (case tp6 => exact ⟨by kit_is, by kit_is, by kit_is, by kit_is, by kit_is, by kit_is, by kit_is, trivial⟩)
    (case to7 => exact ⟨by kit_is, by kit_is, by kit_is, by kit_is, by kit_is, by kit_is, by kit_is, by kit_is, by kit_is, by kit_is, by kit_is, by kit_is, by kit_is, by kit_is, by kit_is, by kit_is, by kit_is, trivial⟩)
    (case tp7 => exact ⟨by kit_is, by kit_is, by kit_is, by kit_is, by kit_is, by kit_is, by kit_is, trivial⟩)
    (case to8 => exact ⟨by kit_is, by kit_is, by kit_is, by kit_is, by kit_is, by kit_is, by kit_is, by kit_is, by kit_is, by kit_is, by kit_is, by kit_is, by kit_is, by kit_is, by kit_is, by kit_is, by kit_is, trivial⟩)
    (case tp8 => exact ⟨by kit_is, by kit_is, by kit_is, by kit_is, by kit_is, by kit_is, by kit_is, trivial⟩)
    (case to9 => exact ⟨by kit_is, by kit_is, by kit_is, by kit_is, by kit_is, by kit_is, by kit_is, by kit_is, by kit_is, by kit_is, by kit_is, by kit_is, by kit_is, by kit_is, by kit_is, by kit_is, by kit_is, trivial⟩)
    (case tp9 => exact ⟨by kit_is, by kit_is, by kit_is, by kit_is, by kit_is, by kit_is, by kit_is, trivial⟩)
    (case to10 => exact ⟨by kit_is, by kit_is, by kit_is, by kit_is, by kit_is, by kit_is, by kit_is, by kit_is, by kit_is, by kit_is, by kit_is, by kit_is, by kit_is, by kit_is, by kit_is, by kit_is, by kit_is, trivial⟩)
    (case tp10 => exact ⟨by kit_is, by kit_is, by kit_is, by kit_is, by kit_is, by kit_is, by kit_is, trivial⟩)
    (case to11 => exact ⟨by kit_is, by kit_is, by kit_is, by kit_is, by kit_is, by kit_is, by kit_is, by kit_is, by kit_is, by kit_is, by kit_is, by kit_is, by kit_is, by kit_is, by kit_is, by kit_is, by kit_is, trivial⟩)
    (case tp11 => exact ⟨by kit_is, by kit_is, by kit_is, by kit_is, by kit_is, by kit_is, by kit_is, trivial⟩)
    (case to12 => exact ⟨by kit_is, by kit_is, by kit_is, by kit_is, by kit_is, by kit_is, by kit_is, by kit_is, by kit_is, by kit_is, by kit_is, by kit_is, by kit_is, by kit_is, by kit_is, by kit_is, by kit_is, trivial⟩)
    (case tp12 => exact ⟨by kit_is, by kit_is, by kit_is, by kit_is, by kit_is, by kit_is, by kit_is, trivial⟩)
    (case to13 => exact ⟨by kit_is, by kit_is, by kit_is, by kit_is, by kit_is, by kit_is, by kit_is, by kit_is, by kit_is, by kit_is, by kit_is, by kit_is, by kit_is, by kit_is, by kit_is, by kit_is, by kit_is, trivial⟩)
    (case tp13 => exact ⟨by kit_is, by kit_is, by kit_is, by kit_is, by kit_is, by kit_is, by kit_is, trivial⟩)
    (case to14 => exact ⟨by kit_is, by kit_is, by kit_is, by kit_is, by kit_is, by kit_is, by kit_is, by kit_is, by kit_is, by kit_is, by kit_is, by kit_is, by kit_is, by kit_is, by kit_is, by kit_is, by kit_is, trivial⟩)
    (case tp14 => exact ⟨by kit_is, by kit_is, by kit_is, by kit_is, by kit_is, by kit_is, by kit_is, trivial⟩)
    (case to15 => exact ⟨by kit_is, by kit_is, by kit_is, by kit_is, by kit_is, by kit_is, by kit_is, by kit_is, by kit_is, by kit_is, by kit_is, by kit_is, by kit_is, by kit_is, by kit_is, by kit_is, by kit_is, trivial⟩)
    (case tp15 => exact ⟨by kit_is, by kit_is, by kit_is, by kit_is, by kit_is, by kit_is, by kit_is, trivial⟩)
    (case to16 => exact ⟨by kit_is, by kit_is, by kit_is, by kit_is, by kit_is, by kit_is, by kit_is, by kit_is, by kit_is, by kit_is, by kit_is, by kit_is, by kit_is, by kit_is, by kit_is, by kit_is, by kit_is, trivial⟩)
    (case tp16 => exact ⟨by kit_is, by kit_is, by kit_is, by kit_is, by kit_is, by kit_is, by kit_is, trivial⟩)
    (case xL9 => k_is)
    (case xsa9 => k_is)
    (case xnb9 => k_is)
    (case xa19 => k_is)
    (case xt19 => k_is)
    (case xl19 => k_is)
    (case xc19 => k_is)
    (case xL10 => k_is)
    (case xsa10 => k_is)
    (case xnb10 => k_is)
    (case xa110 => k_is)
    (case xt110 => k_is)
    (case xl110 => k_is)
    (case xc110 => k_is)
    (case xL11 => k_is)
    (case xsa11 => k_is)
    (case xnb11 => k_is)
    (case xa111 => k_is)
    (case xt111 => k_is)
    (case xl111 => k_is)
    (case xc111 => k_is)
    (case xL12 => k_is)
    (case xsa12 => k_is)
    (case xnb12 => k_is)
    (case xa112 => k_is)
    (case xt112 => k_is)
    (case xl112 => k_is)
    (case xc112 => k_is)
    (case xL13 => k_is)
    (case xsa13 => k_is)
    (case xnb13 => k_is)
    (case xa113 => k_is)
    (case xt113 => k_is)
    (case xl113 => k_is)
    (case xc113 => k_is)
    (case xL14 => k_is)
    (case xsa14 => k_is)
    (case xnb14 => k_is)
    (case xa114 => k_is)
    (case xt114 => k_is)
    (case xl114 => k_is)
    (case xc114 => k_is)
    (case xL15 => k_is)
    (case xsa15 => k_is)
    (case xnb15 => k_is)
    (case xa115 => k_is)
    (case xt115 => k_is)
    (case xl115 => k_is)
    (case xc115 => k_is)
    (case xL16 => k_is)
    (case xsa16 => k_is)
    (case xnb16 => k_is)
    (case xa116 => k_is)
    (case xt116 => k_is)
    (case xl116 => k_is)
    (case xc116 => k_is)
    (case z_len => k_is)
    (case z_int => k_is)
    (case z_abs => k_is)
    (case z_max => k_is)
    (case z_min => k_is)
    (case z_list => k_is)
    (case z_range => k_is)
    (case z_isinstance => k_is)
    (case z_str => k_is)
    (case z_repr => k_is)
    (case z_ValueError => k_is)
    (case z_KeyError => k_is)
    (case z_LookupError => k_is)
    (case z_IndexError => k_is)
    (case z_RuntimeError => k_is)
    (case z_OverflowError => k_is)
    (case z_ArithmeticError => k_is)
